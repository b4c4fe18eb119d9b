import PyProof.Rows.All
import Wide.All
import OpenK.AllK
import Wide.FinOn
import HandS.ForMost
import HandS.ForExc
import HandS.Wide
import HandS.Flow
import HandS.IsInst
import HandS.ExcInit
import HandS.ExcField
import HandS.ExcIs
import HandS.TryMany
import HandS.CallLocal
import HandS.RaiseMore
import HandS.CallSlots
import KE.KExcIs
import PyProof.ReprRoads
import PyProof.ReprText
import HandS.Evl
import HandS.Walk
import HandS.Style
import PyProof.StrBlock2
import PyProof.StrLawsRepr
import PyProof.ReprLen
import KE.GoesEnum
import HandS.Iter
import HandS.TupMul
import HandS.ListItems
import HandS.OwnIter
import HandS.More
import PyProof.InstSpecial
import HandS.Defaults
import HandS.DictComp
import HandS.Zip
import KE.KIntText
import PyProof.StrLawsTight
import PyProof.StrLawsChain
import HandS.StrMore
import HandS.Replace
import HandS.FStr
import PyProof.StrLawsAffix
import PyProof.StrLawsIn
import KE.IntTextLaws
import HandS.WrittenGet
import HandS.Head0
import HandS.Head1
import HandS.Head2
import HandS.HeadHook1
import HandS.HeadHook2
import KE.KStateDown
import HandS.HeadHook3
import PySem.Challenge.RW_liveclaims_k77_forms_that_are_not_read
set_option maxRecDepth 100000
set_option maxHeartbeats 4000000
set_option linter.all false
namespace Lc
/-! ## Greatest common divisors and lowest terms -/
def gd (a b : Int) : Int := (Int.gcd a b : Int)
theorem gd_nonneg (a b : Int) : 0 ≤ gd a b := Int.natCast_nonneg _
theorem gd_pos {a b : Int} (h : b ≠ 0) : 0 < gd a b := by
  have : 0 < Int.gcd a b := Int.gcd_pos_of_ne_zero_right a h
  unfold gd
  omega
theorem gd_zero {a : Int} (h : 0 ≤ a) : gd a 0 = a := by
  unfold gd
  rw [Int.gcd_zero_right]
  omega
theorem gd_step {a b : Int} (ha : 0 ≤ a) (hb : 0 < b) : gd b (a % b) = gd a b := by
  unfold gd Int.gcd
  have e1 : (a % b).natAbs = a.natAbs % b.natAbs := by
    have h0 : 0 ≤ a % b := Int.emod_nonneg a (by omega)
    have : ((a % b).natAbs : Int) = ((a.natAbs % b.natAbs : Nat) : Int) := by
      rw [Int.natCast_emod, Int.natAbs_of_nonneg h0, Int.natAbs_of_nonneg ha, Int.natAbs_of_nonneg (by omega : 0 ≤ b)]
    exact Int.ofNat.inj this
  rw [e1, Nat.gcd_comm b.natAbs, ← Nat.gcd_rec, Nat.gcd_comm]
theorem gd_abs (a b : Int) : gd (if a < 0 then -a else a) b = gd a b := by
  unfold gd
  split
  · rw [Int.neg_gcd]
  · rfl
theorem gd_abs2 (a b : Int) : gd a (if b < 0 then -b else b) = gd a b := by
  unfold gd
  split
  · rw [Int.gcd_neg]
  · rfl
theorem gd_dvd1 (a b : Int) : gd a b ∣ a := Int.gcd_dvd_left a b
theorem gd_dvd2 (a b : Int) : gd a b ∣ b := Int.gcd_dvd_right a b
theorem gd_natAbs_le {a b : Int} (h : b ≠ 0) : (gd a b).natAbs ≤ b.natAbs := by
  have h1 : Int.gcd a b ≤ b.natAbs := Nat.le_of_dvd (by omega) (Int.gcd_dvd_natAbs_right a b)
  unfold gd
  rw [Int.natAbs_natCast]
  exact h1
def lowN (n d : Int) : Int := n / gd n d
def lowD (n d : Int) : Int := d / gd n d
structure Rt (n d : Int) : Prop where
  pos : 0 < d
  cop : gd n d = 1
theorem low_mul {n d : Int} (h : d ≠ 0) : lowN n d * gd n d = n ∧ lowD n d * gd n d = d := ⟨Int.ediv_mul_cancel (gd_dvd1 n d), Int.ediv_mul_cancel (gd_dvd2 n d)⟩
theorem lowD_pos {n d : Int} (h : 0 < d) : 0 < lowD n d := Int.ediv_pos_of_pos_of_dvd h (gd_nonneg n d) (gd_dvd2 n d)
theorem low_rt {n d : Int} (h : 0 < d) : Rt (lowN n d) (lowD n d) := by
  refine ⟨lowD_pos h, ?_⟩
  have hg : 0 < Int.gcd n d := Int.gcd_pos_of_ne_zero_right n (by omega)
  unfold lowN lowD gd
  rw [Int.gcd_ediv_gcd_ediv_gcd hg]
  rfl
theorem dvd_cop {k m n : Int} (h : k ∣ n * m) (g : Int.gcd m k = 1) : k ∣ n := by
  have h1 : k.natAbs ∣ m.natAbs * n.natAbs := by
    rw [← Int.natAbs_mul, Int.mul_comm]
    exact Int.natAbs_dvd_natAbs.mpr h
  have c : Nat.Coprime k.natAbs m.natAbs := by
    show Nat.gcd k.natAbs m.natAbs = 1
    rw [Nat.gcd_comm]
    exact g
  exact Int.natAbs_dvd_natAbs.mp (c.dvd_of_dvd_mul_left h1)
/-- lowest terms are one pair alone -/
theorem rt_unique {a b c d : Int} (h1 : Rt a b) (h2 : Rt c d) (e : a * d = c * b) : a = c ∧ b = d := by
  have g1 : Int.gcd a b = 1 := by have := h1.cop; unfold gd at this; omega
  have g2 : Int.gcd c d = 1 := by have := h2.cop; unfold gd at this; omega
  have db : b ∣ d := by
    have : b ∣ d * a := ⟨c, by rw [Int.mul_comm d a, e, Int.mul_comm]⟩
    exact dvd_cop this g1
  have dd : d ∣ b := by
    have : d ∣ b * c := ⟨a, by rw [Int.mul_comm b c, ← e, Int.mul_comm]⟩
    exact dvd_cop this g2
  have hb := h1.pos
  have hd := h2.pos
  have ebd : b = d := Int.le_antisymm (Int.le_of_dvd hd db) (Int.le_of_dvd hb dd)
  subst ebd
  exact ⟨Int.eq_of_mul_eq_mul_right (by omega) e, rfl⟩
theorem low_is {n d a b : Int} (hd : 0 < d) (h : Rt a b) (e : n * b = a * d) : lowN n d = a ∧ lowD n d = b := by
  have m := low_mul (n := n) (d := d) (by omega)
  have g := gd_pos (a := n) (b := d) (by omega)
  refine rt_unique (low_rt hd) h ?_
  have e2 : (lowN n d * b) * gd n d = (a * lowD n d) * gd n d := by
    rw [Int.mul_right_comm, m.1, Int.mul_assoc, m.2, e]
  exact Int.eq_of_mul_eq_mul_right (by omega) e2
theorem fdiv_neg_dvd {a g : Int} (hg : 0 < g) (h : g ∣ a) : a.fdiv (-g) = (-a) / g := by
  obtain ⟨m, rfl⟩ := h
  have e1 : g * m = (-g) * (-m) := by rw [Int.neg_mul_neg]
  have e2 : -(g * m) = g * (-m) := by rw [Int.mul_neg]
  rw [e2, Int.mul_ediv_cancel_left _ (by omega), e1, Int.mul_fdiv_cancel_left _ (by omega)]
/-- the sums and products of the law -/
theorem sub_add {an ad bn bd p q : Int} (had : 0 < ad) (hbd : 0 < bd) (hq : 0 < q) (h : p * (ad * bd) = (an * bd + bn * ad) * q) : (p * bd - bn * q) * ad = an * (q * bd) := by
  have e1 : (p * bd - bn * q) * ad = p * (ad * bd) - bn * q * ad := by
    rw [Int.sub_mul, Int.mul_assoc p bd ad, Int.mul_comm bd ad]
  have e2 : (an * bd + bn * ad) * q = an * (q * bd) + bn * q * ad := by
    rw [Int.add_mul, Int.mul_assoc an bd q, Int.mul_comm bd q, Int.mul_assoc bn ad q, Int.mul_comm ad q, Int.mul_assoc bn q ad]
  rw [e1, h, e2]
  omega
theorem mul_div {an ad bn bd p q : Int} (h : p * (ad * bn) = (an * bd) * q) (hbn : bn ≠ 0) : (p * bn) * ad = an * (q * bd) := by
  rw [Int.mul_assoc p bn ad, Int.mul_comm bn ad, h, Int.mul_assoc an bd q, Int.mul_comm bd q]
end Lc
namespace Lc
theorem low_le {n d : Int} (h : d ≠ 0) : (lowN n d).natAbs ≤ n.natAbs ∧ (lowD n d).natAbs ≤ d.natAbs := by
  have m := low_mul (n := n) (d := d) h
  have g := gd_pos (a := n) (b := d) h
  have e1 : n.natAbs = (lowN n d).natAbs * (gd n d).natAbs := by rw [← Int.natAbs_mul, m.1]
  have e2 : d.natAbs = (lowD n d).natAbs * (gd n d).natAbs := by rw [← Int.natAbs_mul, m.2]
  have gp : 0 < (gd n d).natAbs := by omega
  exact ⟨by rw [e1]; exact Nat.le_mul_of_pos_right _ gp, by rw [e2]; exact Nat.le_mul_of_pos_right _ gp⟩
theorem rt_one (n : Int) : Rt n 1 := ⟨by decide, by unfold gd; rw [Int.gcd_one]; rfl⟩
theorem rt_inv {d : Int} (h : 0 < d) : Rt 1 d := ⟨h, by unfold gd; rw [Int.one_gcd]; rfl⟩
theorem rt_ninv {d : Int} (h : 0 < d) : Rt (-1) d := ⟨h, by unfold gd; rw [Int.neg_gcd, Int.one_gcd]; rfl⟩
end Lc
set_option Elab.async false
set_option linter.all false
set_option maxRecDepth 100000
set_option maxHeartbeats 4000000
namespace Lc
open PySem PySem.Spec PyProof.Rows L2
/-! ## A try with clauses of both forms, «except X:» and «except X as n:» -/
structure Cl where
  c : Value
  slot : Option Nat
  ts : Addr → Value → Option Addr → TS
def putS : Option Nat → Option V → L2.St → L2.St
  | none, _, σ => σ
  | some i, v, σ => σ.set i v
def endS (q : Option Nat) (D : Ends) : Ends := ⟨fun σ H => D.nx (putS q none σ) H, D.rt, fun σ H => D.bk (putS q none σ) H, fun σ H => D.ct (putS q none σ) H⟩
def wCl (K : PySem.W.Frag) (Wout : WX) (D : Ends) : List Cl → WX
  | [] => Wout
  | q :: r => fun cls d σ H => ∃ b, PySem.W.exmOne K cls q.c = some b ∧ (b = true → ∀ a, H a = none → q.ts a cls d (endS q.slot D) (putS q.slot (some (.ref a)) σ) H) ∧
      (b = false → wCl K Wout D r cls d σ H)
abbrev SuiteOk (X : Cx) (st : List Stmt) (ts : Addr → Value → Option Addr → TS) : Prop :=
  ∀ (a : Addr) (ob : Obj) (cls : Value) (d : Option Addr) (pn : List (Addr × Obj)), Zc cls d ob → (∃ vs, ob.data = .fields vs) → PSs (X.suite a ((a, ob) :: pn)) st (ts a cls d)
inductive ClsOk (X : Cx) : List ExceptHandler → List Cl → Prop
  | nil : ClsOk X [] []
  | bare {x : Str} {q : Cl} {st : Stmt} {sts : List Stmt} {p1 p2 : Pos} {hds : List ExceptHandler} {l : List Cl} (hc : Names X x q.c) (hq : q.slot = none) (su : SuiteOk X (st :: sts) q.ts) (r : ClsOk X hds l) :
      ClsOk X (.ExceptHandler (some (.Name x p1)) none (st :: sts) p2 :: hds) (q :: l)
  | named {x n : Str} {q : Cl} {i : Nat} {st : Stmt} {sts : List Stmt} {p1 p2 : Pos} {hds : List ExceptHandler} {l : List Cl} (hc : Names X x q.c) (hq : q.slot = some i) (hN : X.N.Nodup) (hi : X.N[i]? = some n) (hn : X.env.kindOf n = some .local)
      (su : SuiteOk X (st :: sts) q.ts) (r : ClsOk X hds l) : ClsOk X (.ExceptHandler (some (.Name x p1)) (some n) (st :: sts) p2 :: hds) (q :: l)
section
variable {X : Cx}
theorem clauses_go {Wout : WX} {D : Ends} {pins : List (Addr × Obj)} {σ : L2.St} {H : Hp} {cls : Value} {d : Option Addr} {a : Addr} {B : Heap} {sI s' : Shared} {h3 : Heap}
    (hs : X.stack = X.env :: X.outer) (hf : X.env.frame = some X.env.locals) (tk : Takes X Wout) (J : Inv X pins σ H sI)
    (nb : ∀ b o, sI.heap.get? b = some o → b ∉ frs X.stack → B.get? b = some o) (na : H a = none) (os : s'.os = sI.os) (ag : AllBare s'.gens)
    (up : sI.heap.UpToSlots h3) (fl : HandSPX.FlyingZ B (X.env :: X.outer) a (Zc cls d) h3) :
    ∀ {hds : List ExceptHandler} {l : List Cl}, ClsOk X hds l → wCl X.K Wout D l cls d σ H → wpAny (model X.prog X.w) X.A (handleBy (.ref a) X.env hds) (SP X pins D) X.xe { s' with heap := h3 } := by
  have ok := J.ok
  have land : ∀ {h4 : Heap}, HandSPX.FlyingZ B (X.env :: X.outer) a (Zc cls d) h4 → sI.heap.UpToSlots h4 → Inv X pins σ H { s' with heap := h4 } ∧ ∃ ob vs, Zc cls d ob ∧ ob.data = .fields vs ∧ h4.get? a = some ob ∧
      Inv (X.suite a ((a, ob) :: (X.pn ++ pins))) [] σ H { s' with heap := h4 } := by
    intro h4 f4 u4
    have J4 : Inv X pins σ H { s' with heap := h4 } := J.landed nb f4.1 u4 os ag
    obtain ⟨ob, vs, hob, hz, hd⟩ := f4.there
    have nfr : a ∉ frs (X.env :: X.outer) := fun hm => by
      obtain ⟨_, ox, ex, nf⟩ := f4.2.2.1.mem hm
      rw [hob] at ex
      cases ex
      exact nf _ hd
    have nL : a ≠ X.env.locals := fun z => nfr (List.mem_filterMap.mpr ⟨X.env, List.mem_cons_self, by rw [hf, z]⟩)
    have nF : a ∉ X.fs := fun hm => by
      obtain ⟨en, hen, qq⟩ := List.mem_filterMap.mp hm
      exact nfr (List.mem_filterMap.mpr ⟨en, List.mem_cons_of_mem _ hen, qq⟩)
    exact ⟨J4, ob, vs, hz, hd, hob, J4.suite hob hd na nL nF⟩
  obtain ⟨J3, o3, vs3, hz3, hd3, ho3, S3⟩ := land fl up
  have ty : PySem.W.Looks (model X.prog X.w) h3 (typeOf (.ref a)) cls := fun _ _ _ _ kk qq => wpAny_typeOf_ref (kk _ _ ho3) (by rw [hz3.1]; exact qq)
  have tst : ∀ {x : Str} {c : Value} {p1 : Pos} {Q : Value → Shared → Prop} {E : Value → Shared → Prop}, Names X x c → Q c { s' with heap := h3 } →
      wpAny (model X.prog X.w) (X.A.mark (some (.ref a))) (eval (.Name x p1) X.env) Q E { s' with heap := h3 } := by
    intro x c p1 Q E hc hq
    rcases hc with ⟨hg, hdb, hm | ⟨hm, hv, hne⟩⟩
    · exact ld_glob (X := X.suite a ((a, o3) :: (X.pn ++ pins))) S3 hg hm hq hdb
    · exact ld_blt (X := X.suite a ((a, o3) :: (X.pn ++ pins))) S3 hg hm hv hq hne hdb
  intro hds l hk
  induction hk with
  | nil =>
    intro wi
    refine wpAny_handleBy_nil ?_
    obtain ⟨_, _, _, ox, vx, T, _, _, hox, _, hdx, h1, _⟩ := id fl
    have out : wpAny (model X.prog X.w) X.A (setFlight (.ref a) X.env.frame) (fun _ s4 => wpAny (model X.prog X.w) X.A (throw (.ref a) : Sem Flow) (SP X pins D) X.xe s4) X.xe { s' with heap := h3 } := by
      rw [hf]
      exact HandSPX.setFlight_upZ fl fun h4 f4 u4 => wpAny_throw (tk _ _ ⟨a, B, sI, pins, σ, H, cls, d, rfl, J, nb, up.trans u4, .inr (.inr (by rw [hs]; exact f4)), na, os, ag, wi⟩)
    unfold PySem.passOn
    refine wpAny_bind (wpAny_field hox hdx h1 ?_)
    rw [if_neg (by simp : ¬ ((Value.ref T == Value.none) = true))]
    first
      | exact wpAny_bind out
      | exact wpAny_bind (wpAny_pure (wpAny_bind out))
  | @bare x q st sts p1 p2 hds2 l2 hc hq su r ih =>
    intro wi
    obtain ⟨b, hb, yes, no⟩ := wi
    refine wpAny_handleBy_cons (codeAny_handlers_test (tst hc ((PySem.W.exm_one (M := model X.prog X.w) J3.kIn ty hb).here ?_))) (by intro z; cases z)
    cases b with
    | false => exact ih (no rfl)
    | true =>
      refine codeAny_handlers_suite (HandSPX.lands_againZ fl fun h4 f4 u4 => ?_)
      obtain ⟨J4, o4, vs4, hz4, hd4, ho4, S4⟩ := land f4 (up.trans u4)
      have yy := yes rfl a na
      rw [hq] at yy
      refine wpAny_mono ((su a o4 cls d (X.pn ++ pins) hz4 ⟨_, hd4⟩).run [] _ _ H _ S4 yy) (fun f s6 hsp => ?_) (fun _ _ z => z.elim)
      cases f with
      | ret u =>
        obtain ⟨v6, σ6, H6, S6, r6, q6⟩ := hsp
        exact ⟨v6, σ6, H6, S6.unsuite ok, r6, q6⟩
      | next => obtain ⟨σ6, H6, S6, q6⟩ := hsp; exact ⟨σ6, H6, S6.unsuite ok, q6⟩
      | brk => obtain ⟨σ6, H6, S6, q6⟩ := hsp; exact ⟨σ6, H6, S6.unsuite ok, q6⟩
      | cont => obtain ⟨σ6, H6, S6, q6⟩ := hsp; exact ⟨σ6, H6, S6.unsuite ok, q6⟩
  | @named x n q i st sts p1 p2 hds2 l2 hc hq hN hi hn su r ih =>
    intro wi
    obtain ⟨b, hb, yes, no⟩ := wi
    refine wpAny_handleBy_cons (codeAny_handlers_test (tst hc ((PySem.W.exm_one (M := model X.prog X.w) J3.kIn ty hb).here ?_))) (by intro z; cases z)
    cases b with
    | false => exact ih (no rfl)
    | true =>
      refine codeAny_handlers_suite_as (HandSPX.lands_againZ fl fun h4 f4 u4 => ?_)
      obtain ⟨J4, o4, vs4, hz4, hd4, ho4, S4⟩ := land f4 (up.trans u4)
      have yy := yes rfl a na
      rw [hq] at yy
      refine store_ok (X := X.suite a ((a, o4) :: (X.pn ++ pins))) (v := .ref a) S4 hN hi (.inl hn) rfl (fun s5 S5 => ?_) (.inr hn)
      refine wpAny_mono ((su a o4 cls d (X.pn ++ pins) hz4 ⟨_, hd4⟩).run [] s5 _ H _ S5 yy) (fun f s6 hsp => ?_) (fun _ _ z => z.elim)
      have fin : ∀ {σ6 : L2.St} {H6 : Hp} {Q : Shared → Prop}, Inv (X.suite a ((a, o4) :: (X.pn ++ pins))) [] σ6 H6 s6 → (∀ s7, Inv X pins (σ6.set i none) H6 s7 → Q s7) →
          wpAny (model X.prog X.w) X.A (do bindName X.env n .none; unbindBehindTheSuite X.env n p2) (fun _ s7 => Q s7) X.xe s6 := fun S6 k => gone_ok (S6.unsuite ok) hN hi hn k
      cases f with
      | ret u =>
        obtain ⟨v6, σ6, H6, S6, r6, q6⟩ := hsp
        exact fin S6 fun s7 J7 => ⟨_, _, _, J7, r6, q6⟩
      | next => obtain ⟨σ6, H6, S6, q6⟩ := hsp; exact fin S6 fun s7 J7 => ⟨_, _, J7, q6⟩
      | brk => obtain ⟨σ6, H6, S6, q6⟩ := hsp; exact fin S6 fun s7 J7 => ⟨_, _, J7, q6⟩
      | cont => obtain ⟨σ6, H6, S6, q6⟩ := hsp; exact fin S6 fun s7 J7 => ⟨_, _, J7, q6⟩
theorem ps_tryL {body : List Stmt} {h₀ : ExceptHandler} {hds : List ExceptHandler} {l : List Cl} {pos : Pos} {tb : WX → TS} {Wout : WX} (hs : X.stack = X.env :: X.outer) (hf : X.env.frame = some X.env.locals) (tk : Takes X Wout)
    (hb : ∀ (W : WX) (pn : List (Addr × Obj)) (xe : Value → Shared → Prop), Takes (X.tr pn xe) W → PassesOwn (model X.prog X.w) X.A X.env xe → PSs (X.tr pn xe) body (tb W)) (hh : ClsOk X (h₀ :: hds) l) :
    PS X (.Try body (h₀ :: hds) [] [] pos) (fun D σ H => tb (wCl X.K Wout D l) D σ H) := by
  refine ⟨fun pins s σ H D I h => ?_⟩
  have ok := I.ok
  have fr : X.A.frames = some (X.env :: X.outer) := ok.frames.trans (congrArg some hs)
  refine wpAny_Try_except (wpAny_mono ((hb (wCl X.K Wout D l) (X.pn ++ pins) (fun e s₁ => wpAny (model X.prog X.w) X.A (noteFrame e X.env) (fun _ s₂ => wpAny (model X.prog X.w) X.A (setFlight e none)
    (fun _ s₃ => wpAny (model X.prog X.w) X.A (handleBy e X.env (h₀ :: hds)) (SP X pins D) X.xe s₃) X.xe s₂) X.xe s₁) (fun u s' xx => ?_) PassesOwn.looking).run [] s σ H D (I.toTry _) h) (fun f s1 hsp => ?_) (fun _ _ he => he))
  · obtain ⟨a, B, sI, _, σ1, H1, cls, d, rfl, J', nb, up, sky, na, os, ag, wi⟩ := xx
    rw [hs] at sky
    exact Sky.land Zc.steady fr hf sky fun h3 f3 u3 => clauses_go hs hf tk (J'.ofTry ok) nb na os ag (up.trans u3) f3 hh wi
  · cases f with
    | ret u =>
      obtain ⟨v1, σ1, H1, J1, r1, q1⟩ := hsp
      exact ⟨v1, σ1, H1, J1.ofTry ok, r1, q1⟩
    | next => obtain ⟨σ1, H1, J1, q1⟩ := hsp; exact wpAny_execs_nil ⟨σ1, H1, J1.ofTry ok, q1⟩
    | brk => obtain ⟨σ1, H1, J1, q1⟩ := hsp; exact ⟨σ1, H1, J1.ofTry ok, q1⟩
    | cont => obtain ⟨σ1, H1, J1, q1⟩ := hsp; exact ⟨σ1, H1, J1.ofTry ok, q1⟩
end
/-! ## isinstance of the caught error, whether it has a dict or not -/
structure XisC (K : PySem.W.Frag) (C : Addr) : Prop where
  hc : (PySem.W.clsIn K C).isSome = true
  ga : PySem.W.findIn K (.ref C) "__getattribute__" = some (some (.builtin "BaseException.__getattribute__"))
  gt : PySem.W.findIn K (.ref C) "__getattr__" = some none
  sb : PySem.W.subIn K (.ref C) (.type "BaseException") = some true
  cl : PySem.W.findIn K (.ref C) "__class__" = some (some (.builtin "object.__class__"))
  sp : PySem.W.specialIn K (.builtin "object.__class__") "__get__" = some (some (.builtin "getset_descriptor.__get__"))
  tk : PySem.W.takesIn K (.builtin "object.__class__") = some true
  mo : PySem.W.mroIn K C (.type "object") = some true
def rIsX (K : PySem.W.Frag) (cls : Value) (d : Option Addr) (C a : Addr) : List V → Hp → VK → Prop := fun xs H Q => cls = .ref C ∧ ∃ (c : V) (cv : Value) (b : Bool), xs = [.ref a, c] ∧ ClsV c cv ∧ (∀ dd, d = some dd → ∃ fs, H dd = some (.xd fs)) ∧
  PySem.W.kitOne K (.ref C) cv = some b ∧ Q (.bl b) H
section
variable {X : Cx}
theorem call_isX {a C : Addr} {ob : Obj} {cls : Value} {d : Option Addr} {pn : List (Addr × Obj)} (T : XisC X.K C) (hz : Zc cls d ob) (hf : ∃ vs, ob.data = .fields vs) : CallR (X.suite a ((a, ob) :: pn)) (.builtin "isinstance") (rIsX X.K cls d C a) := by
  intro pins s σ H xs us Q I r h
  obtain ⟨ec, c, cv, b, rfl, hcv, hd, e, q⟩ := h
  obtain ⟨u1, u2, rfl, r1, r2⟩ := vals2 r
  have e2 := hcv.eq r2
  subst e2 ec
  obtain rfl : u1 = Value.ref a := r1
  obtain ⟨vs, hv⟩ := hf
  obtain ⟨hget, _⟩ := I.pin (a, ob) (List.mem_append_left _ List.mem_cons_self)
  have nc : PySem.W.notCls ob = true := by unfold PySem.W.notCls; rw [hv]
  have key : ∃ od, PySem.W.InstAt s.heap a ob C od := by
    cases d with
    | none => exact ⟨none, hget, hz.1, nc, by rw [hz.2]; trivial⟩
    | some dd =>
      obtain ⟨fs, hfs⟩ := hd dd rfl
      obtain ⟨mA, ⟨o, _, _, ho, _⟩, _⟩ := (show ObjOk X.prog X.w H s.heap dd (.xd fs) from I.hok dd _ hfs)
      exact ⟨some o, hget, hz.1, nc, by rw [hz.2]; exact ho⟩
  obtain ⟨od, J⟩ := key
  exact PySem.W.kia_one (PySem.W.kitx_exc T.hc T.ga T.gt T.sb T.cl T.sp T.tk T.mo) I.kIn J e (fun z => nomatch z) fun tk => ⟨.bl b, H, I.kept (t' := tk) fun _ _ z => z, rfl, q⟩
/-! ## f(e, ..), f a local name that holds a def which may raise -/
def tCallLS (i : Nat) (f : Addr) (sp : Sp) (E : L2.St → XK) (t : TA) : TE := fun σ H Q => σ[i]? = some (some (.ref f)) ∧ t σ H fun vs H1 => sp vs H1 Q (E σ)
theorem pe_callLS {CX : CXT} {k i : Nat} {f : Addr} {fd : FuncData} {ps : List Str} {sp : Sp} {E : L2.St → XK} {x : Str} {p pos : Pos} {e : Expr} {es : List Expr} {t : TA}
    (F : FnOk X.prog X.w X.K X.mg X.base CX k f fd ps sp) (hr : Room k X.A) (hN : X.N[i]? = some x) (hv : Vis X.env.scope x) (hk : PySem.W.keepIn X.K (.ref f) = true) (hb : Binds X.K fd ps []) (hx : ∀ σ, PassesAt CX X σ (E σ)) (ha : PA X (e :: es) t)
    (hdb : (x == ("__debug__" : Str)) = false := by decide) (hcd : (x == ("__classdict__" : Str)) = false := by decide)
    (he : starEach (e :: es) X.env = (false, eval e X.env) :: starEach es X.env := by rfl) (hpl : (backTo pos (starEach es X.env)).any (·.1) = false := by rfl) : PE X (.Call (.Name x p) (e :: es) [] pos) (tCallLS i f sp E t) := by
  refine ⟨fun pins s σ H Q I ⟨hs, ht⟩ => wpAny_Call_Name_kw (thn ((pe_var (pos := p) hN hv hdb hcd).run pins s σ H (fun v H1 => v = .ref f ∧ H1 = H) I ⟨.ref f, hs, rfl, rfl⟩) fun u s1 ⟨v, H1, I1, r1, e1, e2⟩ => ?_)⟩
  subst e1 e2
  obtain rfl : u = Value.ref f := r1
  exact PySem.W.callWith_K (h₀ := X.base) I.ok.mod.kin hk (thn (ha.run pos pins s1 σ _ _ I1 ht) fun us s2 ⟨vs, H2, I2, r, q⟩ => ⟨I2.kIn, run_fnS F hr hb (hx σ) I2 r q⟩) he hpl
/-! ## C(), an own error class without an __init__ -/
theorem pmk_own0 {C : Addr} {bmB : List Value} {B newId initId : String} {x : Str} {p pos : Pos} (F : ExcBaseFacts B newId initId bmB) (q : PySem.W.excIn X.K C bmB newId = true) (gC : X.mg x = some (.ref C)) (kC : PySem.W.keepIn X.K (.ref C) = true)
    (r : Raises X (.ref C)) (hg : Gl X x) (hdb : (x == ("__debug__" : Str)) = false := by decide) : PMk X (.Call (.Name x p) [] [] pos) (fun _ H Q => Q (.ref C) none H) := by
  intro pins s σ H Q I h
  refine wpAny_Call_Name_kw (ld_glob I hg gC (PySem.W.callWith_K0 I.kIn kC ?_) hdb)
  obtain ⟨_, _, _, _, _, _, _, _, _, _, _, _, _, _, _, _, _, hC, hN, hni, T⟩ := exc_obj I.kIn q
  exact wpAny_call_exc_subT F T hC hN hni (fun h' e hm => mk_of I hm r h (I.hok.gone hm.new)) (by show 0 ≤ sizeLine; omega)
/-! ## // by any great number but 0 -/
theorem op_fdivZ : OpR X (binaryOp .FloorDiv) (rI (fun _ j => j ≠ 0 ∧ j.natAbs.log2 < 9000) fun i j => .int (i.fdiv j)) := opI fun _ _ _ _ _ _ _ hc q => floordiv_int hc.1 q (.inl (PyProof.noPylong_of_log2 hc.2))
/-! ## repr of data -/
def rReprD (K : PySem.W.Frag) : List V → Hp → VK → Prop := fun xs H Q => ∃ (a : Addr) (d : PyData), xs = [.ref a] ∧ Dp K H (.ref a) d ∧ d.showable = true ∧ d.hasDict = false ∧ d.depth ≤ 60 ∧ d.shown.length ≤ sizeLine ∧ Q (.str d.shown) H
theorem call_reprD (hu : X.A.units + 64 < cLine) (hg : X.A.guards = some []) : CallR X (.builtin "repr") (rReprD X.K) := by
  intro pins s σ H xs us Q I r h
  obtain ⟨a, d, rfl, hd, hs, hn, hde, hl, q⟩ := h
  obtain ⟨u, rfl, ru⟩ := vals1 r
  obtain rfl : u = Value.ref a := ru
  obtain ⟨as, rd⟩ := Dp.reads I d _ _ hd rfl
  exact repr_of_reads' rd hs (fun z => by rw [hn] at z; cases z) hg (by omega) (fun _ _ e => e) (fun h' u tk hk => ⟨.str d.shown, H, I.kept (t' := tk) hk, ⟨u, rfl⟩, q⟩) hl
end
end Lc
set_option Elab.async false
set_option linter.all false
set_option maxRecDepth 100000
set_option maxHeartbeats 4000000
namespace Lc
open PySem PySem.Spec PyProof.Rows L2
/-! ## Promises of defs that are called where no repr is under way -/
structure FnG (P : Program) (w : World) (K : PySem.W.Frag) (mg : Str → Option Value) (base : Heap) (k : Nat) (f : Addr) (fd : FuncData) (ps : List Str) (sp : Sp) : Prop where
  len : ∀ vs H Q E, sp vs H Q E → vs.length = ps.length
  run : ∀ (A : Around) (outer : List Env) (s : Shared) (H : Hp) (args : Args) (us : List Value) (vs : List V) (Q : VK) (E : XK), A.guards = some [] → Room k A → Env0 P w K mg base A outer s H → BindsTo s fd args (ps.zip us) → Vals vs us → sp vs H Q E →
    codeAny (model P w) A (.call (.ref f) args) (CR CX0 outer P w H s Q E) s
section
variable {P : Program} {w : World} {K : PySem.W.Frag} {mg : Str → Option Value} {base : Heap}
theorem Fun.okG {x qual : Str} {st : Stmt} {f : Addr} {fd : FuncData} {N ps : List Str} {k : Nat} {sp : Sp} (F : Fun K x qual st f fd) (S : FnScope N ps (defScope st)) (len : ∀ vs H Q E, sp vs H Q E → vs.length = ps.length)
    (go : ∀ (cdv : Value) (A : Around) (outer : List Env) (s : Shared) (H : Hp) (vs : List V) (Q : VK) (E : XK), A.guards = some [] → Room k (A.deeper (envOfC qual (defScope st) s.heap.objs.size f cdv)) → sp vs H Q E →
      ∃ t, PSs (cxOf CX0 P w K mg base N qual (defScope st) f cdv A outer s H E).nox (defBody st) t ∧ t { nx := fun _ H' => Q .non H', rt := Q } (start N vs) H) : FnG P w K mg base (k + 1) f fd ps sp := by
  obtain ⟨oc, od, kV, doc, pm, an, cdv, ct, osl, rfl, lk, hcd⟩ := F.ex
  refine ⟨len, fun A outer s H args us vs Q E hg hr e0 hb r hsp => ?_⟩
  have up : ∀ b o, base.get? b = some o → s.heap.get? b = some o := fun b o z => (e0.bs b o z).1
  have KX := e0.mod.kin.keeps up
  refine codeAny_call_function hr.depth (KX _ _ lk) rfl S.co S.gen rfl (PySem.W.codeRec_of KX hcd) (hb _ _ _ _ ?_)
  refine wpAny_newFunctionEnv_cells S.kind (fun y hy => ?_) fun env he s1 x => ?_
  · rcases S.par y.1 (List.of_mem_zip (a := y.1) (b := y.2) hy).1 with z | z
    · exact .inl z
    · exact .inr ⟨z, PySem.W.cellsFrom_some _ _ _ (.inl z)⟩
  subst he
  obtain ⟨t, ht, hq⟩ := go cdv A outer s H vs Q E hg (hr.deeper _) hsp
  have I : Inv (cxOf CX0 P w K mg base N qual (defScope st) f cdv A outer s H E) [] (start N vs) H s1 := inv_start S hr.hd e0 (len _ _ _ _ hsp) r x
  refine ⟨(e0.mod.nolimit.keeps up).keeps x.toInCall.keep, codeAny_func (wpAny_mono (ht.nox.run [] s1 (start N vs) H _ I hq) (fun fl s' hs => ?_) fun _ _ z => z)⟩
  cases fl with
  | ret u => obtain ⟨v, _, H', J, rv, q⟩ := hs; exact ⟨v, H', J.os, J.bare, J.base, J.hok, rv, q⟩
  | next => obtain ⟨_, H', J, q⟩ := hs; exact ⟨V.non, H', J.os, J.bare, J.base, J.hok, rfl, q⟩
  | brk => obtain ⟨_, _, _, q⟩ := hs; exact q.elim
  | cont => obtain ⟨_, _, _, q⟩ := hs; exact q.elim
end
section
variable {X : Cx} {k : Nat} {f : Addr} {fd : FuncData} {ps : List Str} {sp : Sp} {x : Str} {p pos : Pos} {e : Expr} {es : List Expr} {t : TA}
/-- f(e, ..), f kept under FnG -/
theorem pe_callG (F : FnG X.prog X.w X.K X.mg X.base k f fd ps sp) (gg : X.A.guards = some []) (hr : Room k X.A) (hg : Gl X x) (hm : X.mg x = some (.ref f)) (hk : PySem.W.keepIn X.K (.ref f) = true) (hb : Binds X.K fd ps [])
    (ha : PA X (e :: es) t) (hdb : (x == ("__debug__" : Str)) = false := by decide) (he : starEach (e :: es) X.env = (false, eval e X.env) :: starEach es X.env := by rfl) (hpl : (backTo pos (starEach es X.env)).any (·.1) = false := by rfl) :
    PE X (.Call (.Name x p) (e :: es) [] pos) (tCall sp [] E0 t) := by
  refine ⟨fun pins s σ H Q I h => wpAny_Call_Name_kw (ld_glob I hg hm ?_ hdb)⟩
  refine PySem.W.callWith_K (h₀ := X.base) I.ok.mod.kin hk (thn (ha.run pos pins s σ H _ I h) fun us s1 ⟨vs, H1, I1, r, q⟩ => ⟨I1.kIn, ?_⟩) he hpl
  replace q : sp vs H1 Q E0 := by
    have z : sp (vs ++ []) H1 Q E0 := q
    rw [List.append_nil] at z
    exact z
  have hl : us.length = ps.length := by rw [← r.length]; exact F.len _ _ _ _ q
  have b := hb s1 us I1.kIn (by rw [List.append_nil]; exact hl)
  rw [List.append_nil] at b
  refine wpAny_call (codeAny_mono (F.run X.A X.stack s1 H1 ⟨us, []⟩ us vs Q E0 gg hr I1.env0 b r q) fun rr s' hq => ?_)
  cases rr with
  | error er => exact False.elim hq
  | ok fl =>
    cases fl with
    | ret u => exact I1.after hq
    | next => exact False.elim hq
    | brk => exact False.elim hq
    | cont => exact False.elim hq
end
/-! ## The law itself -/
section
variable {P : Program} {w : World} {K : PySem.W.Frag} {mg mb : Str → Option Value} {k : Nat} {fa a : Addr} {fd : FuncData} {x : Str} {sp : Sp} {s : Shared} {vs : List Value} {ns : List Int}
theorem env_of {H : Hp} (KX : K.In s.heap) (hns : s.heap.Ns mainGlobals mg) (hb : s.heap.Ns builtinsNs mb) (hbb : ∀ x : Str, x ≠ "__name__" → mb x = bootBuiltins x) (hlim : s.heap.NoLimit) (hg : s.gens = #[])
    (ha : s.heap.get? a = some { cls := .type "list", data := .seq vs.toArray }) (hok : HOk P w H s.heap) (one : ∀ b, b ≠ a → H b = none) (nk : H a = none ∨ K.lookup a = none) :
    K.In (hidT s.heap H) ∧ (hidT s.heap H).Ns mainGlobals mg ∧ Env0 P w K mg (hidT s.heap H) callerA [] s H := by
  have keepN : ∀ {b : Addr} {m : Str → Option Value}, s.heap.Ns b m → (hidT s.heap H).Ns b m := by
    rintro b m ⟨o, es, ep, e, d, r⟩
    have nb : b ≠ a := fun z => by
      rw [z, ha] at e
      cases e
      exact nomatch (show Data.seq vs.toArray _ = Data.dict es ep from d)
    exact ⟨o, es, ep, hidT_get e (one b nb), d, r⟩
  have kin : K.In (hidT s.heap H) := fun b o e => hidT_get (KX b o e) (by
    by_cases z : b = a
    · rcases nk with q | q
      · rw [z]; exact q
      · rw [z, q] at e; cases e
    · exact one b z)
  obtain ⟨mc, l1, l2⟩ := hlim
  exact ⟨kin, keepN hns, rfl, ⟨kin, keepN hns, ⟨mb, keepN hb, hbb⟩, ⟨mc, keepN l1, l2⟩⟩, fun b o e => of_hidT e, Nat.le_of_eq (hidT_size _ _), trivial, fun b z => absurd (show b ∈ ([] : List Addr) from z) (by simp), hok, .of_eq hg⟩
theorem law_callG (KX : K.In s.heap) (hns : s.heap.Ns mainGlobals mg) (hb : s.heap.Ns builtinsNs mb) (hbb : ∀ x : Str, x ≠ "__name__" → mb x = bootBuiltins x) (hlim : s.heap.NoLimit) (hg : s.gens = #[])
    (ha : s.heap.get? a = some { cls := .type "list", data := .seq vs.toArray }) (hi : IntsAre vs ns) (hl : ns.length ≤ sizeLine) (hr : Room k callerA)
    (F : ∀ base : Heap, K.In base → base.Ns mainGlobals mg → FnG P w K mg base k fa fd [x] sp) (hbind : ∀ (s : Shared) (u : Value), BindsTo s fd ⟨[u], []⟩ [(x, u)])
    (hsp : ∀ H : Hp, SqL K H a (ns.map V.int) → sp [.ref a] H (fun v _ => v = .bl true) fun _ _ _ => False) :
    codeAny (model P w) callerA (.call (.ref fa) ⟨[.ref a], []⟩) (fun r s' => r = .ok (.ret (.bool true)) ∧ OldK s.heap s'.heap ∧ s'.os = s.os ∧ AllBare s'.gens) s := by
  have rv := vals_ints hi
  have go : ∀ H : Hp, SqL K H a (ns.map V.int) → HOk P w H s.heap → (∀ b, b ≠ a → H b = none) → (H a = none ∨ K.lookup a = none) → (∀ o, H a = some o → ∃ ob u, o = .frz ob u) →
      codeAny (model P w) callerA (.call (.ref fa) ⟨[.ref a], []⟩) (fun r s' => r = .ok (.ret (.bool true)) ∧ OldK s.heap s'.heap ∧ s'.os = s.os ∧ AllBare s'.gens) s := by
    intro H hS hok one nk fz
    obtain ⟨k1, k2, e0⟩ := env_of KX hns hb hbb hlim hg ha hok one nk
    refine codeAny_mono ((F _ k1 k2).run callerA [] s H ⟨[.ref a], []⟩ [.ref a] [.ref a] _ _ rfl hr e0 (hbind s (.ref a)) (.cons rfl .nil) (hsp H hS)) fun r s' h => ?_
    cases r with
    | error _ => exact False.elim h
    | ok fl =>
      cases fl with
      | next => exact False.elim h
      | brk => exact False.elim h
      | cont => exact False.elim h
      | ret u =>
        obtain ⟨v, H', os, bare, un, hok', ru, ev⟩ := h
        subst ev
        obtain rfl : u = Value.bool true := ru
        refine ⟨rfl, OldK.of_keep fun b o e => ?_, os, bare⟩
        cases q : H b with
        | none => exact un.keep b o e q (fun z => absurd (show b ∈ ([] : List Addr) from z) (by simp)) (by simp)
        | some oo =>
          have zb : b = a := Classical.byContradiction fun z => by rw [one b z] at q; cases q
          subst zb
          obtain ⟨ob, u, rfl⟩ := fz oo q
          obtain ⟨e1, _⟩ := hok b _ q
          obtain ⟨e2, _⟩ := hok' b _ (un.frzs b ob u q)
          rw [e] at e1
          cases e1
          exact e2
  cases hk : K.lookup a with
  | some o =>
    have e := KX a o hk
    rw [ha] at e
    cases e
    exact go (fun _ => none) (.inr ⟨_, vs.toArray, _, hk, rfl, rfl, rfl, by rw [List.size_toArray, hi.length]; exact hl, by simpa using rv⟩) (fun b u z => nomatch z) (fun _ _ => rfl) (.inl rfl) (fun o z => nomatch z)
  | none =>
    let ob : Obj := { cls := .type "list", data := .seq vs.toArray }
    refine go (upd (fun _ => none) a (.frz ob (.lst (ns.map V.int)))) (.inl (.inr ⟨ob, upd_same⟩)) (fun b u z => ?_) (fun b z => upd_ne z) (.inr hk) (fun o z => ?_)
    · by_cases q : b = a
      · subst q
        rw [upd_same] at z
        cases z
        exact ⟨ha, by rw [List.length_map]; exact hl, vs, _, rv, ha⟩
      · rw [upd_ne q] at z
        cases z
    · rw [upd_same] at z
      cases z
      exact ⟨_, _, rfl⟩
end
theorem walk_G {l : PySem.W.OpenLaw} {n k : Nat} {q : Program} {loose : List Str} {XP : (Str → Option Value) → Heap → Prop} {YP : World → Heap → Prop} {d : DefRec} {K : Params → PySem.W.Frag} {sp : PySem.W.Frag → Sp} {x : Str}
    (hn : l.most = some n) (hn2 : n ≤ sizeLine) (hdf : d.params.defaults = []) (hr : Room k callerA) (hY : ∀ (w : World) (h : Heap), YP w h → (K w.params).In h)
    (F : ∀ (w : World) (mg : Str → Option Value) (fa : Addr) (h : Heap), (K w.params).In h → h.Ns mainGlobals mg → mg d.name = some (.ref fa) →
      ∃ fd : FuncData, (∀ (s : Shared) (u : Value), BindsTo s fd ⟨[u], []⟩ [(x, u)]) ∧ ∀ base : Heap, (K w.params).In base → base.Ns mainGlobals mg → FnG l.prog w (K w.params) mg base k fa fd [x] (sp (K w.params)))
    (hsp : ∀ (K : PySem.W.Frag) (H : Hp) (a : Addr) (ns : List Int), ns.length ≤ n → SqL K H a (ns.map V.int) → sp K [.ref a] H (fun v _ => v = .bl true) fun _ _ _ => False) :
    PySem.W.WalkO q loose XP YP l.row.toRowW d [] (fun f vs => PySem.call f vs) := by
  refine Att.attach_call hn hdf fun w _ s mg mb fa _ _ _ _ a vs ns G Y _ _ _ hmg hobj hints hlen hg => ?_
  obtain ⟨fd, hb, hF⟩ := F w mg fa _ (hY w _ Y) G.T.g hmg
  exact law_callG (hY w _ Y) G.T.g G.T.b G.T.builtins G.T.nolimit hg hobj hints (Nat.le_trans hlen hn2) hr hF hb fun H hS => hsp _ H a ns hlen hS
end Lc
set_option Elab.async false
set_option linter.all false
set_option maxRecDepth 100000
set_option maxHeartbeats 4000000
namespace Lc
open PySem PySem.Spec PyProof.Rows L2
/-! ## Kinds of values -/
inductive TyN (H : Hp) : V → String → Prop
  | non : TyN H .non "NoneType"
  | bl (b : Bool) : TyN H (.bl b) "bool"
  | int (i : Int) : TyN H (.int i) "int"
  | str (x : Str) : TyN H (.str x) "str"
  | tup {a : Addr} {xs : List V} (e : H a = some (.tup xs)) : TyN H (.ref a) "tuple"
  | lst {a : Addr} {xs : List V} (e : H a = some (.lst xs)) : TyN H (.ref a) "list"
  | dct {a : Addr} {kvs : List (Key × V)} (e : H a = some (.dK kvs)) : TyN H (.ref a) "dict"
theorem TyN.x {K : PySem.W.Frag} {H : Hp} {v : V} {t : String} (h : TyN H v t) : TyX K H v (.type t) := by
  cases h with
  | non => exact .base .non
  | bl b => exact .base (.bl b)
  | int i => exact .base (.int i)
  | str x => exact .base (.str x)
  | tup e => exact .base (.tup e)
  | lst e => exact .base (.lst e)
  | dct e => exact .base (.dK e)
theorem TyN.same {H H' : Hp} {v : V} {t : String} (h : TyN H v t) (s : Same H H') : TyN H' v t := by
  cases h with
  | non => exact .non
  | bl b => exact .bl b
  | int i => exact .int i
  | str x => exact .str x
  | tup e => exact .tup (s _ _ e)
  | lst e => exact .lst (s _ _ e)
  | dct e => exact .dct (s _ _ e)
theorem TyN.isInt {H : Hp} {v : V} {t : String} (h : TyN H v t) (e : t = "int") : ∃ i, v = .int i := by
  cases h <;> first | exact ⟨_, rfl⟩ | exact absurd e (by decide)
theorem TyN.isStr {H : Hp} {v : V} {t : String} (h : TyN H v t) (e : t = "str") : ∃ x, v = .str x := by
  cases h <;> first | exact ⟨_, rfl⟩ | exact absurd e (by decide)
theorem TyN.isTup {H : Hp} {v : V} {t : String} (h : TyN H v t) (e : t = "tuple") : ∃ a xs, v = .ref a ∧ H a = some (.tup xs) := by
  cases h <;> first | exact ⟨_, _, rfl, by assumption⟩ | exact absurd e (by decide)
def tyNames : List String := ["NoneType", "bool", "int", "str", "tuple", "list", "dict"]
theorem TyN.mem {H : Hp} {v : V} {t : String} (h : TyN H v t) : t ∈ tyNames := by
  cases h <;> simp [tyNames]
theorem kit_int {K : PySem.W.Frag} {t : String} (h : t ∈ tyNames) : PySem.W.kitOne K (.type t) (.type "int") = some (t == "int" || t == "bool") := by
  have : ∀ t ∈ tyNames, kitB t "int" = some (t == "int" || t == "bool") := by decide +kernel
  exact kit_ty (this t h)
theorem kit_bool {K : PySem.W.Frag} {t : String} (h : t ∈ tyNames) : PySem.W.kitOne K (.type t) (.type "bool") = some (t == "bool") := by
  have : ∀ t ∈ tyNames, kitB t "bool" = some (t == "bool") := by decide +kernel
  exact kit_ty (this t h)
theorem kit_tuple {K : PySem.W.Frag} {t : String} (h : t ∈ tyNames) : PySem.W.kitOne K (.type t) (.type "tuple") = some (t == "tuple") := by
  have : ∀ t ∈ tyNames, kitB t "tuple" = some (t == "tuple") := by decide +kernel
  exact kit_ty (this t h)
theorem kit_str {K : PySem.W.Frag} {t : String} (h : t ∈ tyNames) : PySem.W.kitOne K (.type t) (.type "str") = some (t == "str") := by
  have : ∀ t ∈ tyNames, kitB t "str" = some (t == "str") := by decide +kernel
  exact kit_ty (this t h)
/-! ## What is a rational -/
def ratB : V → V → Bool
  | .int n, .int d => decide (0 < d) && decide (gd n d = 1)
  | _, _ => false
inductive Rk (H : Hp) : V → Bool → Prop
  | other {v : V} {t : String} (h : TyN H v t) (n : t ≠ "tuple") : Rk H v false
  | len {a : Addr} {xs : List V} (e : H a = some (.tup xs)) (n : xs.length ≠ 2) : Rk H (.ref a) false
  | pair {a : Addr} {x y : V} {tx ty : String} (e : H a = some (.tup [x, y])) (hx : TyN H x tx) (hy : TyN H y ty) : Rk H (.ref a) (ratB x y)
theorem Rk.same {H H' : Hp} {v : V} {b : Bool} (h : Rk H v b) (s : Same H H') : Rk H' v b := by
  cases h with
  | other h n => exact .other (h.same s) n
  | len e n => exact .len (s _ _ e) n
  | pair e hx hy => exact .pair (s _ _ e) (hx.same s) (hy.same s)
theorem Rk.of {H : Hp} {a : Addr} {n d : Int} (e : H a = some (.tup [.int n, .int d])) (r : Rt n d) : Rk H (.ref a) true := by
  have z : ratB (.int n) (.int d) = true := by
    show (decide (0 < d) && decide (gd n d = 1)) = true
    rw [decide_eq_true r.pos, decide_eq_true r.cop]
    rfl
  rw [← z]
  exact .pair e (.int n) (.int d)
/-! ## repr -/
inductive Shw (K : PySem.W.Frag) (H : Hp) : V → Str → Prop
  | data {v : V} {d : PyData} (h : Dp K H v d) (h1 : d.showable = true) (h2 : d.hasDict = false) (h3 : d.depth ≤ 60) (h4 : d.shown.length ≤ sizeLine) : Shw K H v d.shown
  | empty {a : Addr} (e : H a = some (.dK [])) : Shw K H (.ref a) (PyData.dict []).shown
def rReprV (K : PySem.W.Frag) : List V → Hp → VK → Prop := fun xs H Q => ∃ (v : V) (z : Str), xs = [v] ∧ Shw K H v z ∧ Q (.str z) H
theorem call_reprV {X : Cx} (hg : X.A.guards = some []) (hu : X.A.units + 64 < cLine) : CallR X (.builtin "repr") (rReprV X.K) := by
  intro pins s σ H xs us Q I r h
  obtain ⟨v, z, rfl, hd, q⟩ := h
  obtain ⟨u, rfl, ru⟩ := vals1 r
  cases hd with
  | @data _ d hd h1 h2 h3 h4 =>
    obtain ⟨as, rd⟩ := Dp.reads I d _ _ hd ru
    cases hd with
    | non =>
      obtain rfl : u = Value.none := ru
      exact P.repr_of_none ⟨.str _, H, I.tok _, ⟨_, rfl⟩, q⟩
    | bl b =>
      obtain rfl : u = Value.bool b := ru
      exact P.repr_of_bool ⟨.str _, H, I.tok _, ⟨_, rfl⟩, q⟩
    | int i =>
      obtain ⟨t, rfl⟩ := (show ∃ t, u = Value.int i t from ru)
      exact P.repr_of_int (of_decide_eq_true (by simpa [PyData.showable] using h1)) ⟨.str _, H, I.tok _, ⟨_, rfl⟩, q⟩
    | str x =>
      obtain ⟨t, rfl⟩ := (show ∃ t, u = Value.str x t from ru)
      exact P.repr_of_str ⟨.str _, H, I.tok _, ⟨_, rfl⟩, q⟩ h4
    | @lst a xs ds e1 e2 =>
      obtain rfl : u = Value.ref a := ru
      exact repr_of_reads' rd h1 (PyData.noDict_hsm h2) hg (by omega) (fun _ _ e => e) (fun h' u tk hk => ⟨.str _, H, I.kept (t' := tk) hk, ⟨u, rfl⟩, q⟩) h4
    | @tup a xs ds e1 e2 =>
      obtain rfl : u = Value.ref a := ru
      exact repr_of_reads' rd h1 (PyData.noDict_hsm h2) hg (by omega) (fun _ _ e => e) (fun h' u tk hk => ⟨.str _, H, I.kept (t' := tk) hk, ⟨u, rfl⟩, q⟩) h4
  | @empty a e =>
    obtain rfl : u = Value.ref a := ru
    obtain ⟨_, ns, vs, kv, o, es, ep, h1, h2, h3, h4⟩ := (show ObjOk X.prog X.w H s.heap a (.dK []) from I.hok a _ e)
    cases kv
    have es0 : es.toList = [] := by
      obtain ⟨_, hp, _⟩ := h4
      generalize es.toList = l at hp
      cases hp
      rfl
    have rd : Reads s.heap (.ref a) (.dict []) (a :: [] ++ []) := Reads.dict h1 h2.1 h3 (by rw [es0]; exact .nil) (by rw [es0]; exact .nil)
    exact repr_of_reads' rd (by decide) (fun _ hm => by
      have : sysModules = a := by simpa using hm
      rw [this] at ns
      simp at ns) hg (by show X.A.units + (PyData.depth (.dict []) + 1) < cLine; have : PyData.depth (.dict []) ≤ 60 := by decide +kernel
                         omega) (fun _ _ e => e) (fun h' u tk hk => ⟨.str _, H, I.kept (t' := tk) hk, ⟨u, rfl⟩, q⟩) (by decide +kernel)
theorem dp_same {K : PySem.W.Frag} {H H' : Hp} (s : Same H H') : ∀ {v : V} {d : PyData}, Dp K H v d → Dp K H' v d := by
  have sq : ∀ {a xs}, SqT K H a xs → SqT K H' a xs := by
    intro a xs h
    rcases h with (h | ⟨o, h⟩) | h
    · exact .inl (.inl (s _ _ h))
    · exact .inl (.inr ⟨o, s _ _ h⟩)
    · exact .inr h
  intro v d h
  induction h using Dp.rec (motive_2 := fun vs ds _ => DpAll K H' vs ds) with
  | non => exact .non
  | bl b => exact .bl b
  | int i => exact .int i
  | str x => exact .str x
  | lst h1 _ ih => exact .lst (s.seq h1) ih
  | tup h1 _ ih => exact .tup (sq h1) ih
  | nil => exact .nil
  | cons _ _ i1 i2 => exact .cons i1 i2
theorem Shw.same {K : PySem.W.Frag} {H H' : Hp} (s : Same H H') {v : V} {z : Str} (h : Shw K H v z) : Shw K H' v z := by
  cases h with
  | data h h1 h2 h3 h4 => exact .data (dp_same s h) h1 h2 h3 h4
  | empty e => exact .empty (s _ _ e)
theorem Same.upd {H : Hp} {p : Addr} {o : HO} (h : H p = none) : Same H (upd H p o) := fun b u e => by rw [upd_ne (ne_of_none e h)]; exact e
end Lc
set_option Elab.async false
set_option linter.all false
set_option maxRecDepth 100000
set_option maxHeartbeats 4000000
namespace Lc
open PySem PySem.Spec PyProof.Rows L2
/-! ## The law's tape -/
def Tape (H : Hp) (t : Addr) : Prop := ∃ (l : Addr) (ns : List Int) (pos rest mix : Int), H t = some (.lst [.ref l, .int pos, .int rest, .int mix]) ∧ H l = some (.lst (ns.map V.int)) ∧ 0 ≤ pos ∧ 0 ≤ rest ∧ 0 ≤ mix ∧ mix < 2147483647
/-- all but what stands at t is as it was -/
def SameB (t : Addr) (H H' : Hp) : Prop := ∀ b o, b ≠ t → H b = some o → H' b = some o
theorem SameB.refl (t : Addr) (H : Hp) : SameB t H H := fun _ _ _ e => e
theorem SameB.trans {t : Addr} {H H1 H2 : Hp} (a : SameB t H H1) (b : SameB t H1 H2) : SameB t H H2 := fun c o n e => b c o n (a c o n e)
theorem Same.b {H H' : Hp} (t : Addr) (s : Same H H') : SameB t H H' := fun b o _ e => s b o e
theorem SameB.upd {t : Addr} {H : Hp} {o : HO} : SameB t H (upd H t o) := fun b u n e => by rw [upd_ne n]; exact e
theorem tape_ne {l t : Addr} {H : Hp} {ns : List Int} {vs : List V} (h1 : H t = some (.lst (.ref l :: vs))) (h2 : H l = some (.lst (ns.map V.int))) : l ≠ t := by
  refine ne_of h2 h1 fun z => ?_
  cases ns with
  | nil => injection z with z; cases z
  | cons n ns => injection z with z; injection z with z; cases z
theorem Tape.same {H H' : Hp} {t : Addr} (h : Tape H t) (s : Same H H') : Tape H' t := by
  obtain ⟨l, ns, pos, rest, mix, h1, h2, h3⟩ := h
  exact ⟨l, ns, pos, rest, mix, s _ _ h1, s _ _ h2, h3⟩
theorem cut_ints (ns : List Int) (lo hi : Option Int) : ∃ ms : List Int, cutV (ns.map V.int) lo hi = ms.map V.int := by
  unfold cutV
  rw [← List.map_drop, ← List.map_take]
  exact ⟨_, rfl⟩
def spTape (K : PySem.W.Frag) : Sp := fun vs H Q _ => ∃ (a : Addr) (ns : List Int), vs = [.ref a] ∧ SqL K H a (ns.map V.int) ∧ ∀ (t : Addr) (H' : Hp), Same H H' → H t = none → Tape H' t → Q (.ref t) H'
def spDraw : Sp := fun vs H Q _ => ∃ (t : Addr) (many : Int), vs = [.ref t, .int many] ∧ Tape H t ∧ 0 < many ∧ many.natAbs < 2 ^ 4000 ∧ ∀ (k : Int) (H' : Hp), 0 ≤ k → k < many → Tape H' t → SameB t H H' → Q (.int k) H'
def New2' (H : Hp) (Q : VK) (n d : Int) : Prop := ∀ p, H p = none → Q (.ref p) (upd H p (.tup [.int n, .int d]))
def spLowest : Sp := fun vs H Q _ => ∃ n d : Int, vs = [.int n, .int d] ∧ 0 < d ∧ d.natAbs < 2 ^ 4000 ∧ New2' H Q (lowN n d) (lowD n d)
def spRational : Sp := fun vs H Q _ => ∃ (t : Addr) (b : Bool), vs = [.ref t, .bl b] ∧ Tape H t ∧ ∀ (p : Addr) (n d : Int) (H' : Hp), Rt n d → n.natAbs < 2 ^ 140 → d.natAbs < 2 ^ 140 → H' p = some (.tup [.int n, .int d]) → H p = none → Tape H' t → SameB t H H' → Q (.ref p) H'
theorem log_lt' {n : Int} (h : n.natAbs < 2 ^ 4000) : n.natAbs.log2 < 9000 := by
  by_cases z : n.natAbs = 0
  · rw [z]
    decide
  · exact Nat.lt_of_lt_of_le ((Nat.log2_lt z).mpr h) (by decide)
end Lc
namespace Lc
open PySem PySem.Spec PyProof.Rows L2
theorem SameB.free {t p : Addr} {H H' : Hp} (s : SameB t H H') (h : Tape H' t) (e : H' p = none) : H p = none := by
  cases q : H p with
  | none => rfl
  | some o =>
    by_cases z : p = t
    · subst z
      obtain ⟨_, _, _, _, _, h1, _⟩ := h
      rw [h1] at e
      cases e
    · rw [s p o z q] at e
      cases e
theorem Tape.ne {t p : Addr} {H : Hp} (h : Tape H t) (e : H p = none) : p ≠ t := by
  intro z
  subst z
  obtain ⟨_, _, _, _, _, h1, _⟩ := h
  rw [h1] at e
  cases e
theorem Tape.neT {t p : Addr} {H : Hp} {xs : List V} (h : Tape H t) (e : H p = some (.tup xs)) : p ≠ t := by
  intro z
  subst z
  obtain ⟨_, _, _, _, _, h1, _⟩ := h
  rw [h1] at e
  cases e
theorem p18 : (10 : Int) ^ (18 : Int).toNat = 1000000000000000000 := by decide
theorem p40 : (10 : Int) ^ (40 : Int).toNat = 10000000000000000000000000000000000000000 := by decide
end Lc
namespace Lc
open PySem PySem.Spec PyProof.Rows L2
/-- the tape, its list at l -/
def TapeL (l : Addr) (H : Hp) (t : Addr) : Prop := ∃ (ns : List Int) (pos rest mix : Int), H t = some (.lst [.ref l, .int pos, .int rest, .int mix]) ∧ H l = some (.lst (ns.map V.int)) ∧ 0 ≤ pos ∧ 0 ≤ rest ∧ 0 ≤ mix ∧ mix < 2147483647
theorem TapeL.tape {l : Addr} {H : Hp} {t : Addr} (h : TapeL l H t) : Tape H t := ⟨l, h⟩
theorem TapeL.same {l : Addr} {H H' : Hp} {t : Addr} (h : TapeL l H t) (s : Same H H') : TapeL l H' t := by
  obtain ⟨ns, pos, rest, mix, h1, h2, h3⟩ := h
  exact ⟨ns, pos, rest, mix, s _ _ h1, s _ _ h2, h3⟩
theorem TapeL.list {l : Addr} {H : Hp} {t : Addr} (h : TapeL l H t) : ∃ xs, H l = some (.lst xs) := by
  obtain ⟨ns, pos, rest, mix, h1, h2, h3⟩ := h
  exact ⟨_, h2⟩
/-- another object is written -/
theorem TapeL.upd {l : Addr} {H : Hp} {t a : Addr} {o : HO} (h : TapeL l H t) (n1 : a ≠ t) (n2 : a ≠ l) : TapeL l (upd H a o) t := by
  obtain ⟨ns, pos, rest, mix, h1, h2, h3⟩ := h
  exact ⟨ns, pos, rest, mix, by rw [upd_ne (Ne.symm n1)]; exact h1, by rw [upd_ne (Ne.symm n2)]; exact h2, h3⟩
def spDrawL : Sp := fun vs H Q _ => ∃ (t l : Addr) (many : Int), vs = [.ref t, .int many] ∧ TapeL l H t ∧ 0 < many ∧ many.natAbs < 2 ^ 4000 ∧ ∀ (k : Int) (H' : Hp), 0 ≤ k → k < many → TapeL l H' t → SameB t H H' → Q (.int k) H'
theorem fn_weak {P : Program} {w : World} {K : PySem.W.Frag} {mg : Str → Option Value} {base : Heap} {CX : CXT} {k : Nat} {f : Addr} {fd : FuncData} {ps : List Str} {sp sp' : Sp} (h : ∀ vs H Q E, sp vs H Q E → sp' vs H Q E) (F : FnOk P w K mg base CX k f fd ps sp') : FnOk P w K mg base CX k f fd ps sp :=
  ⟨fun vs H Q E z => F.len vs H Q E (h vs H Q E z), fun A outer s H args us vs Q E a b c d z => F.run A outer s H args us vs Q E a b c d (h vs H Q E z)⟩
theorem draw_weak {vs : List V} {H : Hp} {Q : VK} {E : XK} (h : spDraw vs H Q E) : spDrawL vs H Q E := by
  obtain ⟨t, m, e, ⟨l, hT⟩, h1, h2, k⟩ := h
  exact ⟨t, l, m, e, hT, h1, h2, fun k1 H' a b c d => k k1 H' a b c.tape d⟩
end Lc
set_option Elab.async false
set_option linter.all false
set_option maxRecDepth 100000
set_option maxHeartbeats 4000000
namespace Lc
open PySem PySem.Spec PyProof.Rows L2
/-- names of built-ins that no text binds -/
structure Bt (mg : Str → Option Value) : Prop where
  isi : mg "isinstance" = none
  int : mg "int" = none
  bool : mg "bool" = none
  str : mg "str" = none
  tuple : mg "tuple" = none
  list : mg "list" = none
  dict : mg "dict" = none
  len : mg "len" = none
  abs : mg "abs" = none
  min : mg "min" = none
  all : mg "all" = none
  repr : mg "repr" = none
  range : mg "range" = none
  enum : mg "enumerate" = none
  ve : mg "ValueError" = none
  zd : mg "ZeroDivisionError" = none
  ie : mg "IndexError" = none
  oe : mg "OverflowError" = none
def btNames : List Str := ["isinstance", "int", "bool", "str", "tuple", "list", "dict", "len", "abs", "min", "all", "repr", "range", "enumerate", "ValueError", "ZeroDivisionError", "IndexError", "OverflowError"]
/-! ## x is True, x any value -/
def rIsBA : R2 := fun x y H Q => ∃ b : Bool, y = .bl b ∧ Q (.bl (decide (x = .bl b))) H
theorem op_isBA {X : Cx} : OpR X (compareOp .Is) rIsBA := by
  intro pins s σ H x y v u Q I rx ry h
  obtain ⟨b, rfl, q⟩ := h
  cases (show u = Value.bool b from ry)
  have key : plainIs v (.bool b) = true ∧ (v == Value.bool b) = decide (x = .bl b) := by
    cases x with
    | non => cases (show v = Value.none from rx); exact ⟨rfl, by cases b <;> rfl⟩
    | bl c => cases (show v = Value.bool c from rx); exact ⟨rfl, by cases b <;> cases c <;> rfl⟩
    | int i => obtain ⟨t, rfl⟩ := (show ∃ t, v = Value.int i t from rx); exact ⟨rfl, by cases b <;> rfl⟩
    | str i => obtain ⟨t, rfl⟩ := (show ∃ t, v = Value.str i t from rx); exact ⟨rfl, by cases b <;> rfl⟩
    | byt i => obtain ⟨t, rfl⟩ := (show ∃ t, v = Value.bytes i t from rx); exact ⟨rfl, by cases b <;> rfl⟩
    | flt i => obtain ⟨t, rfl⟩ := (show ∃ t, v = Value.float i t from rx); exact ⟨rfl, by cases b <;> rfl⟩
    | ref a => cases (show v = Value.ref a from rx); exact ⟨rfl, by cases b <;> rfl⟩
    | ty n => cases (show v = Value.type n from rx); exact ⟨rfl, by cases b <;> rfl⟩
  refine wpAny_is_plain key.1 ?_
  rw [key.2]
  exact ⟨.bl _, H, I, rfl, q⟩
/-! ## Texts of few signs -/
structure Sh (n : Nat) (x : Str) : Prop where
  len : x.cps.toList.length ≤ n
  ok : ∀ c ∈ x.cps.toList, c < 1114112
theorem Sh.mono {n m : Nat} {x : Str} (h : Sh n x) (l : n ≤ m) : Sh m x := ⟨Nat.le_trans h.len l, h.ok⟩
theorem Sh.line {n : Nat} {x : Str} (h : Sh n x) (l : n ≤ 1000) : x.length ≤ sizeLine := by
  have : x.length = x.cps.toList.length := by show x.cps.size = _; simp
  rw [this]
  exact Nat.le_trans h.len (Nat.le_trans l (by decide))
theorem sh_app {n m : Nat} {x y : Str} (h : Sh n x) (g : Sh m y) : Sh (n + m) (x ++ y) := by
  have e : (x ++ y).cps.toList = x.cps.toList ++ y.cps.toList := by
    show (x.cps ++ y.cps).toList = _
    simp
  refine ⟨?_, fun c hc => ?_⟩
  · rw [e, List.length_append]
    exact Nat.add_le_add h.len g.len
  · rw [e] at hc
    rcases List.mem_append.mp hc with hc | hc
    · exact h.ok c hc
    · exact g.ok c hc
theorem sh_one {c : Nat} (h : c < 1114112) : Sh 1 ⟨#[c]⟩ := ⟨Nat.le_refl _, fun d hd => by
  have : d = c := by simpa using hd
  rw [this]
  exact h⟩
theorem sh_sub {n : Nat} {x : Str} {l : List Nat} (h : Sh n x) (s : l.Sublist x.cps.toList) : Sh n ⟨l.toArray⟩ := by
  refine ⟨?_, fun c hc => ?_⟩
  · show l.toArray.toList.length ≤ n
    exact Nat.le_trans s.length_le h.len
  · exact h.ok c (s.subset (by simpa using hc))
theorem sh_cut {n : Nat} {x : Str} (lo hi : Option Int) (h : Sh n x) : Sh n (cutS x lo hi) := sh_sub h ((List.take_sublist _ _).trans (List.drop_sublist _ _))
theorem foldl_app : ∀ (l : List (Array Nat)) (a : Array Nat), (l.foldl (· ++ ·) a).toList = a.toList ++ (l.map Array.toList).flatten
  | [], a => by simp
  | b :: l, a => by
    show ((l.foldl (· ++ ·) (a ++ b))).toList = _
    rw [foldl_app l (a ++ b)]
    simp [List.append_assoc]
theorem sh_mul {x : Str} {n k : Nat} {i : Int} (h : Sh n x) (hi : i.toNat ≤ k) (hn : n ≤ 1) : Sh k (Txt.mul x i) := by
  unfold Txt.mul
  by_cases h1 : i < 1
  · rw [if_pos h1]
    exact ⟨Nat.zero_le _, fun c hc => by cases (by simpa [Str.empty] using hc : c ∈ ([] : List Nat))⟩
  · rw [if_neg h1]
    by_cases h2 : (i == 1 || x.length == 0) = true
    · rw [if_pos h2]
      exact h.mono (by omega)
    · rw [if_neg h2]
      have e : ((List.replicate i.toNat x.cps).foldl (· ++ ·) #[]).toList = (List.replicate i.toNat x.cps.toList).flatten := by
        rw [foldl_app]
        simp
      refine ⟨?_, fun c hc => ?_⟩
      · show ((List.replicate i.toNat x.cps).foldl (· ++ ·) #[]).toList.length ≤ k
        rw [e, List.length_flatten]
        have : ((List.replicate i.toNat x.cps.toList).map List.length).sum ≤ i.toNat * 1 := by
          have key : ∀ m : Nat, ((List.replicate m x.cps.toList).map List.length).sum ≤ m * 1 := by
            intro m
            induction m with
            | zero => simp
            | succ m ih =>
              rw [List.replicate_succ, List.map_cons, List.sum_cons]
              have := Nat.le_trans h.len hn
              omega
          exact key _
        omega
      · have hc : c ∈ ((List.replicate i.toNat x.cps).foldl (· ++ ·) #[]).toList := hc
        rw [e] at hc
        obtain ⟨l, hl, hcl⟩ := List.mem_flatten.mp hc
        rw [List.eq_of_mem_replicate hl] at hcl
        exact h.ok c hcl
theorem mul_ok {x : Str} {i : Int} (h : x.cps.size ≤ 1) (h2 : i < 1000) (h3 : -1000 < i) : MulOk x i := by
  have hx : x.length ≤ 1 := h
  refine ⟨by simp; omega, fun h1 _ => ?_, fun h1 _ => ?_⟩
  · have : (2 ^ 63 - 1 : Int) / i ≥ 1 := by
      have : (1 : Int) * i ≤ 2 ^ 63 - 1 := by omega
      exact (Int.le_ediv_iff_mul_le (by omega)).mpr this
    omega
  · unfold Builtin.Str.tooLong
    have : x.length * i.toNat ≤ 1000 := by
      have : x.length * i.toNat ≤ 1 * i.toNat := Nat.mul_le_mul_right _ hx
      omega
    have : ¬ (x.length * i.toNat > sizeLine) := by
      have : (1000 : Nat) ≤ sizeLine := by decide
      omega
    simpa using this
def rMulS : R2 := fun x y H Q => ∃ (z : Str) (i : Int), x = .str z ∧ y = .int i ∧ MulOk z i ∧ Q (.str (Txt.mul z i)) H
theorem op_mulS {X : Cx} : OpR X (binaryOp .Mult) rMulS := by
  intro pins s σ H x y v u Q I rx ry h
  obtain ⟨z, i, rfl, rfl, ok, q⟩ := h
  obtain ⟨t, rfl⟩ := (show ∃ t, v = Value.str z t from rx)
  obtain ⟨t2, rfl⟩ := (show ∃ t, u = Value.int i t from ry)
  exact SB.mul ok fun t' k => ⟨.str _, H, I.tok _, ⟨_, rfl⟩, q⟩
theorem glued_sh : ∀ (ys : List Str), (∀ y ∈ ys, Sh 1 y) → Sh ys.length (Str.join Str.empty ys)
  | [], _ => ⟨Nat.le_refl _, fun c hc => by cases (by simpa [Str.join, Str.empty] using hc : c ∈ ([] : List Nat))⟩
  | [x], h => h x List.mem_cons_self
  | x :: y :: r, h => by
    have ih := glued_sh (y :: r) fun z hz => h z (List.mem_cons_of_mem _ hz)
    have e : Str.join Str.empty (x :: y :: r) = x ++ Str.empty ++ Str.join Str.empty (y :: r) := rfl
    rw [e]
    have s0 : Sh 0 Str.empty := ⟨Nat.le_refl _, fun c hc => by cases (by simpa [Str.empty] using hc : c ∈ ([] : List Nat))⟩
    exact (sh_app (sh_app (h x List.mem_cons_self) s0) ih).mono (by simp; omega)
/-! ## repr of a short text, of a bounded number -/
theorem shw_text {K : PySem.W.Frag} {H : Hp} {n : Nat} {x : Str} (h : Sh n x) (l : n ≤ 1000) : Shw K H (.str x) (PyData.str x).shown := by
  refine .data (.str x) rfl rfl (by simp [PyData.depth]) ?_
  show (reprText x).length ≤ sizeLine
  have := StrLaws.reprText_len x (fun c hc => Nat.lt_trans (h.ok c hc) (by decide))
  have e : x.length = x.cps.toList.length := by show x.cps.size = _; simp
  have := h.len
  have : (10002 : Nat) ≤ sizeLine := by decide
  omega
theorem num_len {i : Int} (h : i.natAbs < 2 ^ 1000) : (PyData.int i).showable = true ∧ (PyData.int i).shown.length ≤ 1921 := by
  have l : i.natAbs.log2 < 1920 := by
    by_cases z : i.natAbs = 0
    · rw [z]
      decide
    · exact Nat.lt_of_lt_of_le ((Nat.log2_lt z).mpr h) (by decide)
  exact ⟨decide_eq_true l, int_text_len_1921 l⟩
end Lc
namespace Lc
open PySem PySem.Spec PyProof.Rows L2
/-! ## Names -/
def letters : Str := "abcdefghijklmnopqrstuvwxyz"
def signs : Str := "abcdefghijklmnopqrstuvwxyz0123456789"
def inS (c : Nat) : Bool := decide (c ∈ signs.cps.toList)
def inL (c : Nat) : Bool := decide (c ∈ letters.cps.toList)
def nameL : List Nat → Bool
  | [] => false
  | c :: r => decide ((c :: r).length ≤ 12) && (inL c && (c :: r).all inS)
def nameB : V → Bool
  | .str x => nameL x.cps.toList
  | _ => false
abbrev rInS : R2 := fun x y H Q => ∃ (c : Nat) (z : Str), x = .str ⟨#[c]⟩ ∧ y = .str z ∧ Q (.bl (decide (c ∈ z.cps.toList))) H
def spName : Sp := fun vs H Q _ => ∃ (v : V) (t : String), vs = [v] ∧ TyN H v t ∧ (∀ x, v = .str x → x.length ≤ sizeLine) ∧ ∀ H', Same H H' → Q (.bl (nameB v)) H'
def spLName : Sp := fun vs H Q _ => ∃ t : Addr, vs = [.ref t] ∧ Tape H t ∧ ∀ (x : Str) (H' : Hp), Sh 12 x → Tape H' t → SameB t H H' → Q (.str x) H'
theorem lenL (x : Str) : x.length = x.cps.toList.length := by show x.cps.size = _; simp
theorem nil_of {x : Str} (h : x.cps.toList = []) : x = ⟨#[]⟩ := by
  obtain ⟨⟨l⟩⟩ := x
  have : l = [] := h
  rw [this]
theorem dec_empty (x : Str) : decide (V.str x = V.str "") = decide (x.cps.toList = []) := by
  rw [Bool.eq_iff_iff, decide_eq_true_iff, decide_eq_true_iff]
  constructor
  · intro h
    injection h with h
    rw [h]
    rfl
  · intro h
    rw [nil_of h]
    rfl
theorem name_nil {x : Str} (h : x.cps.toList = []) : nameB (.str x) = false := by
  show nameL x.cps.toList = false
  rw [h]
  rfl
theorem name_long {x : Str} (h : ¬ x.cps.toList.length ≤ 12) : nameB (.str x) = false := by
  show nameL x.cps.toList = false
  cases e : x.cps.toList with
  | nil => rfl
  | cons c r =>
    rw [e] at h
    show (decide ((c :: r).length ≤ 12) && _) = false
    rw [decide_eq_false h]
    rfl
theorem name_is {x : Str} {c : Nat} {r : List Nat} (e : x.cps.toList = c :: r) (h : x.cps.toList.length ≤ 12) : nameB (.str x) = (inL c && (c :: r).all inS) := by
  show nameL x.cps.toList = _
  rw [e] at h ⊢
  show (decide ((c :: r).length ≤ 12) && _) = _
  rw [decide_eq_true h]
  rfl
/-- the list of a comprehension over a text's signs, as it grows -/
theorem grow {x : Str} {i : Nat} {c : Nat} (h : x.cps[i]? = some c) (p : Nat → Bool) : (x.cps.toList.take i).map (fun c => V.bl (p c)) ++ [V.bl (p c)] = (x.cps.toList.take (i + 1)).map fun c => V.bl (p c) := by
  have h2 : x.cps.toList[i]? = some c := by rw [Array.getElem?_toList]; exact h
  rw [List.take_succ, h2, List.map_append]
  rfl
end Lc
namespace Lc
open PySem PySem.Spec PyProof.Rows L2
theorem cut26 : cutS signs none (some 26) = letters := by decide +kernel
theorem signs_ok : ∀ c ∈ signs.cps.toList, c < 1114112 := by decide +kernel
theorem signs_len : signs.cps.toList.length = 36 := by decide +kernel
theorem at_text {l : List Nat} {i : Int} (h0 : 0 ≤ i) (h1 : i < (l.length : Int)) : ∃ c, atI l i = some c ∧ c ∈ l := by
  obtain ⟨n, rfl⟩ : ∃ n : Nat, i = (n : Int) := ⟨i.toNat, by omega⟩
  have h : n < l.length := by omega
  exact ⟨l[n], atI_nat (List.getElem?_eq_getElem h), List.getElem_mem h⟩
theorem big1000 {z : Int} (h1 : 0 ≤ z) (h2 : z ≤ 1000) : z.natAbs < 2 ^ 4000 := by
  have e : (2 : Nat) ^ 10 = 1024 := by decide
  exact Nat.lt_of_lt_of_le (show z.natAbs < 2 ^ 10 by omega) (Nat.pow_le_pow_right (by decide) (by decide))
theorem sh_a : Sh 1 (PySem.Str.ofString "a") := ⟨by decide +kernel, by decide +kernel⟩
theorem a_size : (PySem.Str.ofString "a").cps.size ≤ 1 := by decide +kernel
theorem sh_len {n : Nat} {x : Str} (h : Sh n x) : x.length ≤ n := by rw [lenL]; exact h.len
end Lc
namespace Lc
open PySem PySem.Spec PyProof.Rows L2
theorem join_sh (ys : List Str) (h : ∀ y ∈ ys, Sh 1 y) : Sh ys.length (Txt.join (PySem.Str.ofString "") ys) := by
  have e : Txt.join (PySem.Str.ofString "") ys = Str.join Str.empty ys := by
    exact (StrLaws.glued_eq_join (PySem.Str.ofString "") ys).trans rfl
  rw [e]
  exact glued_sh ys h
end Lc
set_option Elab.async false
set_option linter.all false
set_option maxRecDepth 100000
set_option maxHeartbeats 4000000
namespace Lc
open PySem PySem.Spec PyProof.Rows L2
/-! ## Flat values and what they are shown as -/
structure Fl (v : V) (d : PyData) (s : String) : Prop where
  dp : ∀ (K : PySem.W.Frag) (H : Hp), Dp K H v d
  ty : ∀ H : Hp, TyN H v s
  sh : d.showable = true
  nd : d.hasDict = false
  dz : d.depth = 0
  ln : d.shown.length ≤ 20000
theorem fl_non : Fl .non .none "NoneType" := ⟨fun _ _ => .non, fun _ => .non, rfl, rfl, rfl, by decide +kernel⟩
theorem fl_bl (b : Bool) : Fl (.bl b) (.bool b) "bool" := ⟨fun _ _ => .bl b, fun _ => .bl b, rfl, rfl, rfl, by cases b <;> decide +kernel⟩
theorem fl_int {i : Int} (h : i.natAbs < 2 ^ 1000) : Fl (.int i) (.int i) "int" := ⟨fun _ _ => .int i, fun _ => .int i, (num_len h).1, rfl, rfl, Nat.le_trans (num_len h).2 (by decide)⟩
theorem fl_str {x : Str} {n : Nat} (h : Sh n x) (l : n ≤ 1930) : Fl (.str x) (.str x) "str" := by
  refine ⟨fun _ _ => .str x, fun _ => .str x, rfl, rfl, rfl, ?_⟩
  show (reprText x).length ≤ 20000
  have := StrLaws.reprText_len x (fun c hc => Nat.lt_trans (h.ok c hc) (by decide))
  have e := lenL x
  have := h.len
  omega
theorem sh_string (s : String) : ∀ c ∈ (PySem.Str.ofString s).cps.toList, c < 1114112 := by
  intro c hc
  rw [Str.ofString_eq_toList] at hc
  have hc : c ∈ s.toList.map Char.toNat := by simpa using hc
  obtain ⟨ch, _, rfl⟩ := List.mem_map.mp hc
  have := ch.valid
  rcases this with h | ⟨_, h⟩
  · exact Nat.lt_trans h (by decide)
  · exact h
theorem sh_num {i : Int} (h : i.natAbs < 2 ^ 1000) : Sh 1921 (PySem.Str.ofString (toString i)) := ⟨by rw [← lenL]; exact (num_len h).2, sh_string _⟩
/-! ## Things: is it a number within the limit, how is it shown -/
def lim : Int := 10000000000000000000000000000000000000000
def limB : V → V → Bool
  | .int n, .int d => decide ((if n < 0 then -n else n) ≤ lim) && decide (d ≤ lim)
  | _, _ => false
def numB (x y : V) : Bool := ratB x y && limB x y
inductive Thing (H : Hp) : V → Bool → Prop
  | other {v : V} {t : String} (h : TyN H v t) (n : t ≠ "tuple") (l : ∀ x, v = .str x → x.length ≤ sizeLine) : Thing H v false
  | len {a : Addr} {xs : List V} (e : H a = some (.tup xs)) (n : xs.length ≠ 2) : Thing H (.ref a) false
  | pair {a : Addr} {x y : V} {tx ty : String} (e : H a = some (.tup [x, y])) (hx : TyN H x tx) (hy : TyN H y ty) : Thing H (.ref a) (numB x y)
theorem Thing.same {H H' : Hp} {v : V} {b : Bool} (h : Thing H v b) (s : Same H H') : Thing H' v b := by
  cases h with
  | other h n l => exact .other (h.same s) n l
  | len e n => exact .len (s _ _ e) n
  | pair e hx hy => exact .pair (s _ _ e) (hx.same s) (hy.same s)
theorem Thing.ty {H : Hp} {v : V} {b : Bool} (h : Thing H v b) : ∃ t, TyN H v t ∧ ∀ x, v = .str x → x.length ≤ sizeLine := by
  cases h with
  | other h n l => exact ⟨_, h, l⟩
  | len e n => exact ⟨_, .tup e, fun x z => nomatch z⟩
  | pair e hx hy => exact ⟨_, .tup e, fun x z => nomatch z⟩
/-- whatever is done to the tape at t -/
def Thg (K : PySem.W.Frag) (t : Addr) (H : Hp) (v : V) : Prop := ∃ (b : Bool) (z : Str), ∀ H', SameB t H H' → Thing H' v b ∧ Shw K H' v z
theorem thg_flat {K : PySem.W.Frag} {t : Addr} {H : Hp} {v : V} {d : PyData} {s : String} (h : Fl v d s) (n : s ≠ "tuple") (l : ∀ x, v = .str x → x.length ≤ sizeLine) : Thg K t H v :=
  ⟨false, d.shown, fun H' _ => ⟨.other (h.ty H') n l, .data (h.dp K H') h.sh h.nd (by rw [h.dz]; decide) (Nat.le_trans h.ln (by decide))⟩⟩
/-- the items of a display -/
inductive Fls : List V → List PyData → Prop
  | nil : Fls [] []
  | cons {v : V} {d : PyData} {s : String} {vs : List V} {ds : List PyData} (h : Fl v d s) (r : Fls vs ds) : Fls (v :: vs) (d :: ds)
theorem Fls.dps {K : PySem.W.Frag} {H : Hp} : ∀ {vs : List V} {ds : List PyData}, Fls vs ds → DpAll K H vs ds
  | _, _, .nil => .nil
  | _, _, .cons h r => .cons (h.dp K H) r.dps
theorem Fls.facts : ∀ {vs : List V} {ds : List PyData}, Fls vs ds → PyData.showableAll ds = true ∧ PyData.hasDictAll ds = false ∧ PyData.depthAll ds = 0 ∧ ((PyData.shownAll ds).map (·.length)).sum ≤ 20000 * ds.length ∧ (PyData.shownAll ds).length = ds.length ∧ ds.length = vs.length
  | _, _, .nil => ⟨rfl, rfl, rfl, by simp [PyData.shownAll], rfl, rfl⟩
  | _, _, .cons (d := d) (ds := ds) h r => by
    obtain ⟨h1, h2, h3, h4, h5, h6⟩ := r.facts
    refine ⟨?_, ?_, ?_, ?_, ?_, ?_⟩
    · simp [PyData.showableAll, h.sh, h1]
    · simp [PyData.hasDictAll, h.nd, h2]
    · simp [PyData.depthAll, h.dz, h3]
    · simp only [PyData.shownAll, List.map_cons, List.sum_cons, List.length_cons]
      have := h.ln
      omega
    · simp [PyData.shownAll, h5]
    · simp [h6]
theorem shw_tup {K : PySem.W.Frag} {H : Hp} {a : Addr} {vs : List V} {ds : List PyData} (e : H a = some (.tup vs)) (h : Fls vs ds) (l : vs.length ≤ 100) : Shw K H (.ref a) (PyData.tuple ds).shown := by
  obtain ⟨h1, h2, h3, h4, h5, h6⟩ := h.facts
  refine .data (.tup (SqT.of e) h.dps) (by simpa [PyData.showable] using h1) (by simpa [PyData.hasDict] using h2) (by simp [PyData.depth, h3]) ?_
  have := tupleText_len_le (PyData.shownAll ds)
  have s : (3000000 : Nat) ≤ sizeLine := by decide
  simp only [PyData.shown]
  omega
theorem shw_lst {K : PySem.W.Frag} {H : Hp} {a : Addr} {vs : List V} {ds : List PyData} (e : H a = some (.lst vs)) (h : Fls vs ds) (l : vs.length ≤ 100) : Shw K H (.ref a) (PyData.list ds).shown := by
  obtain ⟨h1, h2, h3, h4, h5, h6⟩ := h.facts
  refine .data (.lst (SqL.of e) h.dps) (by simpa [PyData.showable] using h1) (by simpa [PyData.hasDict] using h2) (by simp [PyData.depth, h3]) ?_
  have := listText_len_le (PyData.shownAll ds)
  have s : (3000000 : Nat) ≤ sizeLine := by decide
  simp only [PyData.shown]
  omega
theorem thg_tup {K : PySem.W.Frag} {t a : Addr} {H : Hp} {vs : List V} {ds : List PyData} (n : a ≠ t) (e : H a = some (.tup vs)) (h : Fls vs ds) (l : vs.length ≤ 100) : Thg K t H (.ref a) := by
  by_cases z : vs.length = 2
  · match vs, h, z with
    | [x, y], .cons h1 (.cons h2 .nil), _ => exact ⟨numB x y, _, fun H' s => ⟨.pair (s _ _ n e) (h1.ty H') (h2.ty H'), shw_tup (s _ _ n e) (.cons h1 (.cons h2 .nil)) (by show 2 ≤ 100; decide)⟩⟩
  · exact ⟨false, _, fun H' s => ⟨.len (s _ _ n e) z, shw_tup (s _ _ n e) h l⟩⟩
theorem thg_lst {K : PySem.W.Frag} {t a : Addr} {H : Hp} {vs : List V} {ds : List PyData} (n : a ≠ t) (e : H a = some (.lst vs)) (h : Fls vs ds) (l : vs.length ≤ 100) : Thg K t H (.ref a) :=
  ⟨false, _, fun H' s => ⟨.other (.lst (s _ _ n e)) (by decide) (fun x z => nomatch z), shw_lst (s _ _ n e) h l⟩⟩
theorem thg_dct {K : PySem.W.Frag} {t a : Addr} {H : Hp} (n : a ≠ t) (e : H a = some (.dK [])) : Thg K t H (.ref a) :=
  ⟨false, _, fun H' s => ⟨.other (.dct (s _ _ n e)) (by decide) (fun x z => nomatch z), .empty (s _ _ n e)⟩⟩
theorem Thg.sameB {K : PySem.W.Frag} {t : Addr} {H H' : Hp} {v : V} (h : Thg K t H v) (s : SameB t H H') : Thg K t H' v := by
  obtain ⟨b, z, k⟩ := h
  exact ⟨b, z, fun H2 s2 => k H2 (s.trans s2)⟩
theorem thg_str {K : PySem.W.Frag} {t : Addr} {H : Hp} {n : Nat} {x : Str} (h : Sh n x) (l : n ≤ 1930) : Thg K t H (.str x) :=
  thg_flat (fl_str h l) (by decide) fun y e => by
    injection e with e
    subst e
    rw [lenL]
    exact Nat.le_trans h.len (Nat.le_trans l (by decide))
end Lc
namespace Lc
open PySem PySem.Spec PyProof.Rows L2
theorem ratB_ints {x y : V} (h : ratB x y = true) : ∃ n d : Int, x = .int n ∧ y = .int d ∧ 0 < d ∧ gd n d = 1 := by
  cases x with
  | int n =>
    cases y with
    | int d =>
      have h' : (decide (0 < d) && decide (gd n d = 1)) = true := h
      obtain ⟨h1, h2⟩ := Bool.and_eq_true_iff.mp h'
      exact ⟨n, d, rfl, rfl, of_decide_eq_true h1, of_decide_eq_true h2⟩
    | _ => cases h
  | _ => cases y <;> cases h
end Lc
namespace Lc
open PySem PySem.Spec PyProof.Rows L2
/-! ## A word behind an expression: what follows is shown once -/
def tMid (te : TE) : TE := fun σ H Q => ∃ M : V → Hp → Prop, te σ H M ∧ ∀ v H', M v H' → Q v H'
theorem pe_mid {X : Cx} {e : Expr} {te : TE} (h : PE X e te) : PE X e (tMid te) := by
  refine ⟨fun pins s σ H Q I hq => ?_⟩
  obtain ⟨M, h1, h2⟩ := hq
  exact thn (h.run pins s σ H M I h1) fun u s1 ⟨v, H1, I1, r, q⟩ => ⟨v, H1, I1, r, h2 v H1 q⟩
end Lc
set_option Elab.async false
set_option linter.all false
set_option maxRecDepth 100000
set_option maxHeartbeats 4000000
namespace Lc
open PySem PySem.Spec PyProof.Rows L2
/-! ## enumerate(v), v whatever begins; for .., .. in enumerate(tuple) -/
def itB (h : Heap) (o : Obj) : Heap := (h.push o).push { cls := .type "enumerate", data := .fields #[.none, .bool false, .ref h.objs.size, rawInt 0, .none, .none] }
theorem meets_enum1 {v : Value} {o : Obj} {H : Heap → Prop} (B : Begins v o H) :
    Meets (Builtin.«enumerate.__new__» ⟨[.type "enumerate", v], []⟩) (fun _ R s => H s.heap ∧ R (.ok (.ret (.ref (s.heap.push o).objs.size))) { s with heap := itB s.heap o }) :=
  .of_wp fun prog w A R s h => by
    obtain ⟨hp, g, d, tk, os⟩ := s
    obtain ⟨h1, h⟩ := h
    have hsub := sub_enumerate
    have it1 : ∀ {A' : Around} {E : Value → Shared → Prop} {Q : Value → Shared → Prop}, Q (.ref hp.objs.size) ⟨hp.push o, g, d, tk, os⟩ → wpAny (model prog w) A' (pyIter v) Q E ⟨hp, g, d, tk, os⟩ := fun q => B.iter prog w _ _ ⟨hp, g, d, tk, os⟩ _ h1 q
    wp_walk using it1
    refine wpAny_stack_any fun st => wpAny_pure ?_
    split
    · rename_i c _ _ _ _ _
      cases (c == Value.type "enumerate") <;> (wp_walk using it1; exact ⟨_, rfl, h⟩)
    · wp_walk using it1
      exact ⟨_, rfl, h⟩
theorem call_enum1 {prog : Program} {w : World} {A : Around} {E : Value → Shared → Prop} {s : Shared} {v : Value} {o : Obj} {H : Heap → Prop} {Q : Value → Shared → Prop} (B : Begins v o H) (h1 : H s.heap)
    (h : IsEnum (itB s.heap o) (s.heap.objs.size + 1) s.heap.objs.size 0 .none → (itB s.heap o).get? s.heap.objs.size = some o → (∀ b u, s.heap.get? b = some u → (itB s.heap o).get? b = some u) → Q (.ref (s.heap.objs.size + 1)) { s with heap := itB s.heap o }) :
    wpAny (model prog w) A (call (.type "enumerate") [v]) Q E s := by
  have sz : (s.heap.push o).objs.size = s.heap.objs.size + 1 := Heap.size_push ..
  have en : IsEnum (itB s.heap o) (s.heap.objs.size + 1) s.heap.objs.size 0 .none := by
    have z := Heap.get?_push_size (s.heap.push o) (o := { cls := .type "enumerate", data := .fields #[.none, .bool false, .ref s.heap.objs.size, rawInt 0, .none, .none] }) rfl
    rw [sz] at z
    exact z
  refine callType_new F.called_enumerate (by decide) (F.typeCall_enumerate_1 _) (F.newCall_enumerate_1 _) (fun obj => F.args_object_init_2 obj _) F.entry_enumerate_new (meets_enum1 B) ⟨h1, ?_⟩
  show _ ∧ _
  rw [sz]
  exact ⟨⟨_, en, rfl⟩, h en (Heap.get?_push_of_some _ (Heap.get?_push_size _ B.free)) fun b u e => Heap.get?_push_of_some _ (Heap.get?_push_of_some _ e)⟩
/-- the tuple at a, each item in a new pair with its number -/
def IteT (K : PySem.W.Frag) (a : Addr) : It where
  go := fun i H => ∃ (xs : List V) (x : V), SqT K H a xs ∧ xs[i]? = some x
  yld := fun i H v H' => ∃ (q : Addr) (x : V), v = .ref q ∧ H q = none ∧ H' = upd H q (.tup [.int (i : Nat), x]) ∧ ∀ xs, SqT K H a xs → xs[i]? = some x
  stop := fun i H => ∃ xs : List V, SqT K H a xs ∧ xs.length = i
structure EnT (e it a : Addr) (i : Nat) (h : Heap) : Prop where
  en : ∃ old, IsEnum h e it ((i : Nat) : Int) old
  ti : h.IsTupleIter it a i
  n1 : e ≠ it
  n2 : a ≠ it
  n3 : a ≠ e
theorem turn_enT {P : Program} {w : World} {K : PySem.W.Frag} {elts : List Expr} {kk : Nat} {tpos : Pos} (a e it : Addr) : Turn P w K (.Tuple elts kk tpos) (IteT K a) [e, it] e (EnT e it a) where
  mem := List.mem_cons_self
  obj := fun i h st b hb => by
    rcases List.mem_cons.mp hb with rfl | hb
    · obtain ⟨old, he⟩ := st.en
      exact ⟨_, he, fun v q => nomatch q⟩
    · obtain rfl := List.mem_singleton.mp hb
      obtain ⟨o, ho, _, hd⟩ := st.ti
      exact ⟨o, ho, fun v q => by rw [hd] at q; cases q⟩
  keep := fun i h h' st k => by
    obtain ⟨old, he⟩ := st.en
    obtain ⟨o, ho, r⟩ := st.ti
    exact ⟨⟨old, k e List.mem_cons_self _ he⟩, ⟨o, k it (by simp) o ho, r⟩, st.n1, st.n2, st.n3⟩
  item := by
    intro X hP hw hK hc i pins s σ H E I hf st hg
    subst hP hw hK
    obtain ⟨xs, x, hq, hx⟩ := hg
    obtain ⟨its, rv, tp, _⟩ := I.tuple hq
    obtain ⟨u, hu, ru⟩ := rv.get hx
    obtain ⟨old, he⟩ := st.en
    have hu' : its.toArray[i]? = some u := by simpa using hu
    have li : i < its.toArray.size := (Array.getElem?_eq_some_iff.mp hu').1
    refine wpAny_pyNext_enum_itemD (Draws.tuple (A := X.A.in1) (I.ok.hd hc) it a st.n2 its.toArray) he ⟨st.ti, tp⟩ li st.n1 (by simp [st.n1, Ne.symm st.n3]) fun y h' tk hy ho hs hT hz hk => ?_
    obtain rfl : u = y := Option.some.inj (hu'.symm.trans hy)
    have le : e < s.heap.objs.size := Heap.lt_size he
    have lt : it < s.heap.objs.size := by obtain ⟨_, q, _⟩ := st.ti; exact Heap.lt_size q
    refine ⟨_, rfl, wpAny_letOwnedTupleGo_enum (s := { s with heap := h', toks := tk + 1 }) ho fun h2 he2 sb => ?_⟩
    have pair : h2.get? s.heap.objs.size = some { cls := .type "tuple", data := .seq #[.int i tk, u] } := (sb.2 _ (Nat.ne_of_gt le)).trans hT
    have I2 : Inv X pins σ (upd H s.heap.objs.size (.tup [.int (i : Nat), x])) { s with heap := h2, toks := tk + 1 } := by
      refine I.turnedNew (ch := [e, it]) (fun b ob hb q => ?_) hf (Nat.le_refl _) ⟨by show 2 ≤ sizeLine; decide, [.int i tk, u], .cons ⟨_, rfl⟩ (.cons ru .nil), ⟨_, pair, rfl, _, rfl⟩⟩
      have nb : b ≠ e ∧ b ≠ it := by simpa using hb
      exact (sb.2 b nb.1).trans (hk b ob nb.1 nb.2 q)
    refine ⟨.ref s.heap.objs.size, _, I2, rfl, ⟨_, x, rfl, I.hok.fresh (Nat.le_refl _), rfl, fun ys hy => by rw [I.tuple_inj hy hq]; exact hx⟩, ⟨⟨u, ?_⟩, ?_, st.n1, st.n2, st.n3⟩, fun b hb => ?_⟩
    · rw [show ((i + 1 : Nat) : Int) = (i : Int) + 1 by omega]
      exact he2
    · obtain ⟨o, q, r⟩ := hs.1
      exact ⟨o, (sb.2 it (Ne.symm st.n1)).trans q, r⟩
    · have lb : b < s.heap.objs.size := by
        rcases List.mem_cons.mp hb with rfl | hb
        · exact le
        · rw [List.mem_singleton.mp hb]; exact lt
      rw [upd_ne (Nat.ne_of_lt lb)]
      exact (hf b hb).1
  done := by
    intro X hP hw hK hc i pins s σ H E I hf st hg
    subst hP hw hK
    obtain ⟨xs, hq, hx⟩ := hg
    obtain ⟨its, rv, tp, _⟩ := I.tuple hq
    obtain ⟨old, he⟩ := st.en
    have hl : i = its.toArray.size := by rw [List.size_toArray, ← rv.length]; exact hx.symm
    obtain ⟨f0, f1, _, f3, f4, f5⟩ := hf it (by simp)
    subst hl
    exact wpAny_pyNext_enum_endD (Draws.tuple (A := X.A.in1) (I.ok.hd hc) it a st.n2 its.toArray) he ⟨st.ti, tp⟩ fun h' eb => ⟨rfl, I.turned (t' := s.toks) (fun b o hb q => eb b o hb q) f0 f1 f3 f4 f5⟩
  self := fun A i s Q E st h => by
    obtain ⟨old, he⟩ := st.en
    exact wpAny_pyIter_enum he h
def iEnT (K : PySem.W.Frag) (ta : TA) : TI := fun σ H R => ta σ H fun vs H1 => ∃ a xs, vs = [.ref a] ∧ SqT K H1 a xs ∧ R (IteT K a) H1
theorem pi_enT {X : Cx} {e : Expr} {ta : TA} {p pos tpos : Pos} {elts : List Expr} {kk : Nat} (hg : Gl X "enumerate") (hm : X.mg "enumerate" = none) (ha : PA X [e] ta) (hs : starEach [e] X.env = [(false, eval e X.env)] := by rfl) :
    PI X (.Tuple elts kk tpos) (.Call (.Name "enumerate" p) [e] [] pos) (iEnT X.K ta) := by
  refine ⟨fun pins s σ H R I h => Call_ (ld_blt I hg hm boot_enumerate (PyProof.Rows.callWith_type1 (thn (ha.run pos pins s σ H _ I h) fun us s1 ⟨vs, H1, I1, r1, q1⟩ => ?_) hs rfl))⟩
  obtain ⟨a, xs, rfl, hq, q⟩ := q1
  obtain ⟨u, rfl, ru⟩ := vals1 r1
  cases ru
  obtain ⟨its, rv, tp, _⟩ := I1.tuple hq
  have la : a < s1.heap.objs.size := by obtain ⟨_, z, _⟩ := tp; exact Heap.lt_size z
  refine call_enum1 (begins_tuple a its.toArray) tp fun en ito kp => wpAny_pyIter_enum en ?_
  refine ⟨_, [s1.heap.objs.size + 1, s1.heap.objs.size], _, _, H1, rfl, I1.kept (t' := s1.toks) kp, turn_enT a (s1.heap.objs.size + 1) s1.heap.objs.size, ⟨⟨.none, en⟩, ⟨_, ito, rfl, rfl⟩, Nat.succ_ne_self _, Nat.ne_of_lt la, Nat.ne_of_lt (Nat.lt_succ_of_lt la)⟩, fun b hb => ?_, q⟩
  have le : s1.heap.objs.size ≤ b := by
    rcases List.mem_cons.mp hb with rfl | hb
    · exact Nat.le_add_right _ _
    · rw [List.mem_singleton.mp hb]; exact Nat.le_refl _
  exact I1.fpOk le (I1.hok.fresh le)
theorem walk_enT {K : PySem.W.Frag} {a : Addr} {xs : List V} : Walk (IteT K a) xs.length (fun H => SqT K H a xs) (YPair (fun i => some (.int (i : Nat))) (fun i => xs[i]?)) := by
  refine ⟨fun i _ hi q => ⟨xs, xs[i], q, by simp [hi]⟩, fun _ q => ⟨xs, q, rfl⟩, fun i H v H' _ q y => ?_⟩
  obtain ⟨c, x, h1, h2, h3, h4⟩ := y
  exact ⟨c, .int (i : Nat), x, h1, h2, h3, rfl, h4 xs q⟩
end Lc
set_option Elab.async false
set_option linter.all false
set_option maxRecDepth 100000
set_option maxHeartbeats 4000000
namespace Lc
open PySem PySem.Spec PyProof.Rows L2
/-! ## for .., .. in enumerate(text) -/
def IteS (x : Str) : It where
  go := fun i _ => i < x.cps.size
  yld := fun i H v H' => ∃ (q : Addr) (c : Nat), v = .ref q ∧ H q = none ∧ H' = upd H q (.tup [.int (i : Nat), .str ⟨#[c]⟩]) ∧ x.cps[i]? = some c
  stop := fun i _ => x.cps.size = i
structure EnS (e it : Addr) (x : Str) (t : Tok) (i : Nat) (h : Heap) : Prop where
  en : ∃ old, IsEnum h e it ((i : Nat) : Int) old
  ti : h.IsStrIter it (strIterType x) x t i
  n1 : e ≠ it
theorem turn_enS {P : Program} {w : World} {K : PySem.W.Frag} {elts : List Expr} {kk : Nat} {tpos : Pos} (x : Str) (t : Tok) (e it : Addr) : Turn P w K (.Tuple elts kk tpos) (IteS x) [e, it] e (EnS e it x t) where
  mem := List.mem_cons_self
  obj := fun i h st b hb => by
    rcases List.mem_cons.mp hb with rfl | hb
    · obtain ⟨old, he⟩ := st.en
      exact ⟨_, he, fun v q => nomatch q⟩
    · obtain rfl := List.mem_singleton.mp hb
      obtain ⟨o, ho, _, hd⟩ := st.ti
      exact ⟨o, ho, fun v q => by rw [hd] at q; cases q⟩
  keep := fun i h h' st k => by
    obtain ⟨old, he⟩ := st.en
    obtain ⟨o, ho, r⟩ := st.ti
    exact ⟨⟨old, k e List.mem_cons_self _ he⟩, ⟨o, k it (by simp) o ho, r⟩, st.n1⟩
  item := by
    intro X hP hw hK hc i pins s σ H E I hf st hg
    subst hP hw hK
    obtain ⟨old, he⟩ := st.en
    refine wpAny_pyNext_enum_itemD (Draws.text (A := X.A.in1) (I.ok.hd hc) it x t) he st.ti hg st.n1 (by simp [st.n1]) fun y h' tk hy ho hs hT hz hk => ?_
    obtain ⟨c, u, hcx, rfl⟩ := hy
    have le : e < s.heap.objs.size := Heap.lt_size he
    have lt : it < s.heap.objs.size := by obtain ⟨_, q, _⟩ := st.ti; exact Heap.lt_size q
    refine ⟨_, rfl, wpAny_letOwnedTupleGo_enum (s := { s with heap := h', toks := tk + 1 }) ho fun h2 he2 sb => ?_⟩
    have pair : h2.get? s.heap.objs.size = some { cls := .type "tuple", data := .seq #[.int i tk, .str ⟨#[c]⟩ u] } := (sb.2 _ (Nat.ne_of_gt le)).trans hT
    have I2 : Inv X pins σ (upd H s.heap.objs.size (.tup [.int (i : Nat), .str ⟨#[c]⟩])) { s with heap := h2, toks := tk + 1 } := by
      refine I.turnedNew (ch := [e, it]) (fun b ob hb q => ?_) hf (Nat.le_refl _) ⟨by show 2 ≤ sizeLine; decide, [.int i tk, .str ⟨#[c]⟩ u], .cons ⟨_, rfl⟩ (.cons ⟨_, rfl⟩ .nil), ⟨_, pair, rfl, _, rfl⟩⟩
      have nb : b ≠ e ∧ b ≠ it := by simpa using hb
      exact (sb.2 b nb.1).trans (hk b ob nb.1 (by simpa using nb.2) q)
    refine ⟨.ref s.heap.objs.size, _, I2, rfl, ⟨_, c, rfl, I.hok.fresh (Nat.le_refl _), rfl, hcx⟩, ⟨⟨.str ⟨#[c]⟩ u, ?_⟩, ?_, st.n1⟩, fun b hb => ?_⟩
    · rw [show ((i + 1 : Nat) : Int) = (i : Int) + 1 by omega]
      exact he2
    · obtain ⟨o, q, r⟩ := hs
      exact ⟨o, (sb.2 it (Ne.symm st.n1)).trans q, r⟩
    · have lb : b < s.heap.objs.size := by
        rcases List.mem_cons.mp hb with rfl | hb
        · exact le
        · rw [List.mem_singleton.mp hb]; exact lt
      rw [upd_ne (Nat.ne_of_lt lb)]
      exact (hf b hb).1
  done := by
    intro X hP hw hK hc i pins s σ H E I hf st hg
    subst hP hw hK
    obtain ⟨old, he⟩ := st.en
    obtain ⟨f0, f1, _, f3, f4, f5⟩ := hf it (by simp)
    have hg : x.cps.size = i := hg
    subst hg
    exact wpAny_pyNext_enum_endD (Draws.text (A := X.A.in1) (I.ok.hd hc) it x t) he st.ti fun h' eb => ⟨rfl, I.turned (t' := s.toks) (fun b o hb q => eb b o hb q) f0 f1 f3 f4 f5⟩
  self := fun A i s Q E st h => by
    obtain ⟨old, he⟩ := st.en
    exact wpAny_pyIter_enum he h
def iEnS (ta : TA) : TI := fun σ H R => ta σ H fun vs H1 => ∃ x, vs = [.str x] ∧ R (IteS x) H1
theorem pi_enS {X : Cx} {e : Expr} {ta : TA} {p pos tpos : Pos} {elts : List Expr} {kk : Nat} (hg : Gl X "enumerate") (hm : X.mg "enumerate" = none) (ha : PA X [e] ta) (hs : starEach [e] X.env = [(false, eval e X.env)] := by rfl) :
    PI X (.Tuple elts kk tpos) (.Call (.Name "enumerate" p) [e] [] pos) (iEnS ta) := by
  refine ⟨fun pins s σ H R I h => Call_ (ld_blt I hg hm boot_enumerate (PyProof.Rows.callWith_type1 (thn (ha.run pos pins s σ H _ I h) fun us s1 ⟨vs, H1, I1, r1, q1⟩ => ?_) hs rfl))⟩
  obtain ⟨x, rfl, q⟩ := q1
  obtain ⟨u, rfl, ru⟩ := vals1 r1
  obtain ⟨t, rfl⟩ := (show ∃ t, u = Value.str x t from ru)
  refine call_enum1 (begins_text x t) trivial fun en ito kp => wpAny_pyIter_enum en ?_
  refine ⟨_, [s1.heap.objs.size + 1, s1.heap.objs.size], _, _, H1, rfl, I1.kept (t' := s1.toks) kp, turn_enS x t (s1.heap.objs.size + 1) s1.heap.objs.size, ⟨⟨.none, en⟩, ⟨_, ito, rfl, rfl⟩, Nat.succ_ne_self _⟩, fun b hb => ?_, q⟩
  have le : s1.heap.objs.size ≤ b := by
    rcases List.mem_cons.mp hb with rfl | hb
    · exact Nat.le_add_right _ _
    · rw [List.mem_singleton.mp hb]; exact Nat.le_refl _
  exact I1.fpOk le (I1.hok.fresh le)
theorem walk_enS {x : Str} : Walk (IteS x) x.cps.size (fun _ => True) (YPair (fun i => some (.int (i : Nat))) (fun i => (x.cps[i]?).map fun c => V.str ⟨#[c]⟩)) := by
  refine ⟨fun i _ hi _ => hi, fun _ _ => rfl, fun i H v H' _ _ y => ?_⟩
  obtain ⟨q, c, h1, h2, h3, h4⟩ := y
  exact ⟨q, .int (i : Nat), .str ⟨#[c]⟩, h1, h2, h3, rfl, by show Option.map _ _ = _; rw [h4]; rfl⟩
end Lc
set_option Elab.async false
set_option linter.all false
set_option maxRecDepth 100000
set_option maxHeartbeats 4000000
namespace Lc
open PySem PySem.Spec PyProof.Rows L2
/-! ## Deep data that stands in the abstract heap -/
mutual
inductive Dh (H : Hp) : V → PyData → Prop
  | non : Dh H .non .none
  | bl (b : Bool) : Dh H (.bl b) (.bool b)
  | int (i : Int) : Dh H (.int i) (.int i)
  | str (x : Str) : Dh H (.str x) (.str x)
  | tup {a : Addr} {xs : List V} {ds : List PyData} (e : H a = some (.tup xs)) (h : DhAll H xs ds) : Dh H (.ref a) (.tuple ds)
  | lst {a : Addr} {xs : List V} {ds : List PyData} (e : H a = some (.lst xs)) (h : DhAll H xs ds) : Dh H (.ref a) (.list ds)
  | dct {a : Addr} (e : H a = some (.dK [])) : Dh H (.ref a) (.dict [])
inductive DhAll (H : Hp) : List V → List PyData → Prop
  | nil : DhAll H [] []
  | cons {v : V} {vs : List V} {d : PyData} {ds : List PyData} (h : Dh H v d) (r : DhAll H vs ds) : DhAll H (v :: vs) (d :: ds)
end
mutual
theorem Dh.same {H H' : Hp} (s : Same H H') : ∀ {v : V} {d : PyData}, Dh H v d → Dh H' v d
  | _, _, .non => .non
  | _, _, .bl b => .bl b
  | _, _, .int i => .int i
  | _, _, .str x => .str x
  | _, _, .tup e h => .tup (s _ _ e) (DhAll.same s h)
  | _, _, .lst e h => .lst (s _ _ e) (DhAll.same s h)
  | _, _, .dct e => .dct (s _ _ e)
theorem DhAll.same {H H' : Hp} (s : Same H H') : ∀ {vs : List V} {ds : List PyData}, DhAll H vs ds → DhAll H' vs ds
  | _, _, .nil => .nil
  | _, _, .cons h r => .cons (Dh.same s h) (DhAll.same s r)
end
def tyD : PyData → String
  | .none => "NoneType"
  | .bool _ => "bool"
  | .int _ => "int"
  | .str _ => "str"
  | .tuple _ => "tuple"
  | .list _ => "list"
  | .dict _ => "dict"
theorem Dh.ty {H : Hp} {v : V} {d : PyData} (h : Dh H v d) : TyN H v (tyD d) := by
  cases h with
  | non => exact .non
  | bl b => exact .bl b
  | int i => exact .int i
  | str x => exact .str x
  | tup e _ => exact .tup e
  | lst e _ => exact .lst e
  | dct e => exact .dct e
theorem DhAll.len {H : Hp} {vs : List V} {ds : List PyData} (h : DhAll H vs ds) : vs.length = ds.length := by
  match h with
  | .nil => rfl
  | .cons _ r => rw [List.length_cons, List.length_cons, DhAll.len r]
theorem DhAll.get {H : Hp} : ∀ {vs : List V} {ds : List PyData}, DhAll H vs ds → ∀ (i : Nat) (v : V), vs[i]? = some v → ∃ d, ds[i]? = some d ∧ Dh H v d
  | _, _, .nil, i, v, e => by simp at e
  | _, _, .cons h r, 0, v, e => by
    obtain rfl := Option.some.inj e
    exact ⟨_, rfl, h⟩
  | _, _, .cons h r, i + 1, v, e => by
    obtain ⟨d, e1, e2⟩ := DhAll.get r i v (by simpa using e)
    exact ⟨d, by simpa using e1, e2⟩
theorem DhAll.append {H : Hp} : ∀ {vs : List V} {ds : List PyData} {us : List V} {es : List PyData}, DhAll H vs ds → DhAll H us es → DhAll H (vs ++ us) (ds ++ es)
  | _, _, _, _, .nil, r => r
  | _, _, _, _, .cons h t, r => .cons h (DhAll.append t r)
mutual
theorem Dh.dp {K : PySem.W.Frag} {H : Hp} : ∀ {v : V} {d : PyData}, Dh H v d → d.hasDict = false → Dp K H v d
  | _, _, .non, _ => .non
  | _, _, .bl b, _ => .bl b
  | _, _, .int i, _ => .int i
  | _, _, .str x, _ => .str x
  | _, _, .tup e h, n => .tup (SqT.of e) (DhAll.dp h (by simpa [PyData.hasDict] using n))
  | _, _, .lst e h, n => .lst (SqL.of e) (DhAll.dp h (by simpa [PyData.hasDict] using n))
  | _, _, .dct e, n => by simp [PyData.hasDict] at n
theorem DhAll.dp {K : PySem.W.Frag} {H : Hp} : ∀ {vs : List V} {ds : List PyData}, DhAll H vs ds → PyData.hasDictAll ds = false → DpAll K H vs ds
  | _, _, .nil, _ => .nil
  | _, _, .cons h r, n => by
    rw [PyData.hasDictAll, Bool.or_eq_false_iff] at n
    exact .cons (Dh.dp h n.1) (DhAll.dp r n.2)
end
theorem Dh.shw {K : PySem.W.Frag} {H : Hp} {v : V} {d : PyData} (h : Dh H v d) (h1 : d.showable = true) (h2 : d.hasDict = false) (h3 : d.depth ≤ 60) (h4 : d.shown.length ≤ sizeLine) : Shw K H v d.shown := .data (h.dp h2) h1 h2 h3 h4
/-! ## How large it is when it is shown -/
structure Tm (k n : Nat) (d : PyData) : Prop where
  sh : d.showable = true
  nd : d.hasDict = false
  dz : d.depth ≤ k
  ln : d.shown.length ≤ n
theorem Tm.mono {k n k' n' : Nat} {d : PyData} (h : Tm k n d) (a : k ≤ k') (b : n ≤ n') : Tm k' n' d := ⟨h.sh, h.nd, Nat.le_trans h.dz a, Nat.le_trans h.ln b⟩
theorem tm_fl {v : V} {d : PyData} {s : String} (h : Fl v d s) : Tm 0 20000 d := ⟨h.sh, h.nd, Nat.le_of_eq h.dz, h.ln⟩
theorem tm_all {k n : Nat} : ∀ {ds : List PyData}, (∀ d ∈ ds, Tm k n d) → PyData.showableAll ds = true ∧ PyData.hasDictAll ds = false ∧ PyData.depthAll ds ≤ k ∧ ((PyData.shownAll ds).map (·.length)).sum ≤ n * ds.length ∧ (PyData.shownAll ds).length = ds.length
  | [], _ => ⟨rfl, rfl, Nat.zero_le _, by simp [PyData.shownAll], rfl⟩
  | d :: ds, h => by
    obtain ⟨h1, h2, h3, h4, h5⟩ := tm_all (ds := ds) fun x hx => h x (List.mem_cons_of_mem _ hx)
    have hd := h d List.mem_cons_self
    refine ⟨?_, ?_, ?_, ?_, ?_⟩
    · simp [PyData.showableAll, hd.sh, h1]
    · simp [PyData.hasDictAll, hd.nd, h2]
    · simp only [PyData.depthAll]
      have := hd.dz
      omega
    · simp only [PyData.shownAll, List.map_cons, List.sum_cons, List.length_cons]
      have := hd.ln
      rw [Nat.mul_succ]
      omega
    · simp [PyData.shownAll, h5]
theorem tm_tup {k n : Nat} {ds : List PyData} (h : ∀ d ∈ ds, Tm k n d) : Tm (k + 1) (n * ds.length + 2 * ds.length + 4) (.tuple ds) := by
  obtain ⟨h1, h2, h3, h4, h5⟩ := tm_all h
  refine ⟨by simpa [PyData.showable] using h1, by simpa [PyData.hasDict] using h2, ?_, ?_⟩
  · simp only [PyData.depth]
    omega
  · have := tupleText_len_le (PyData.shownAll ds)
    simp only [PyData.shown]
    omega
theorem tm_lst {k n : Nat} {ds : List PyData} (h : ∀ d ∈ ds, Tm k n d) : Tm (k + 1) (n * ds.length + 2 * ds.length + 4) (.list ds) := by
  obtain ⟨h1, h2, h3, h4, h5⟩ := tm_all h
  refine ⟨by simpa [PyData.showable] using h1, by simpa [PyData.hasDict] using h2, ?_, ?_⟩
  · simp only [PyData.depth]
    omega
  · have := listText_len_le (PyData.shownAll ds)
    simp only [PyData.shown]
    omega
theorem Dh.shwT {K : PySem.W.Frag} {H : Hp} {v : V} {d : PyData} {k n : Nat} (h : Dh H v d) (t : Tm k n d) (a : k ≤ 60) (b : n ≤ 3000000) : Shw K H v d.shown := h.shw t.sh t.nd (Nat.le_trans t.dz a) (Nat.le_trans t.ln (Nat.le_trans b (by decide)))
end Lc
set_option Elab.async false
set_option linter.all false
set_option maxRecDepth 100000
set_option maxHeartbeats 4000000
namespace Lc
open PySem PySem.Spec PyProof.Rows L2
/-! ## (x, y) * 0, (x, y) * 1 -/
theorem tuple_mul1 (l : Addr) (items : Array Value) (n : Nat) (dd : Option Addr) (sl : Array (Option Value)) (u : Tok) :
    Meets (Builtin.«tuple.__mul__» ⟨[.ref l, .int 1 u], []⟩) (fun _ R s => s.heap.get? l = some { cls := .type "tuple", dict := dd, data := .seq items n, slots := sl } ∧ R (.ok (.ret (Value.ref l))) s) :=
  .of_wp fun prog w A R s h => by
    obtain ⟨hp, g, d, tk, os⟩ := s
    obtain ⟨hl, h⟩ := h
    have f1 := AutoSeq1.idx_int
    have c0 : (decide ((1 : Int) < -(2 ^ 63)) || decide ((1 : Int) ≥ 2 ^ 63)) = false := by decide
    have c1 : (items.isEmpty || (1 : Int) == 1) = true := by simp
    wp_walk using wpAny_loadPart' hl
    repeat (first
      | (refine wpAny_ite_false (decide_eq_false (by rw [c0]; exact Bool.false_ne_true)) ?_; wp_walk using wpAny_loadPart' hl)
      | (refine wpAny_ite_true (decide_eq_true c1) ?_; wp_walk using wpAny_loadPart' hl))
    exact ⟨_, rfl, h⟩
theorem tuple_mul0 (l : Addr) (items : Array Value) (n : Nat) (dd : Option Addr) (sl : Array (Option Value)) (u : Tok) (hne : items.isEmpty = false) :
    Meets (Builtin.«tuple.__mul__» ⟨[.ref l, .int 0 u], []⟩) (fun _ R s => s.heap.get? l = some { cls := .type "tuple", dict := dd, data := .seq items n, slots := sl } ∧
      R (.ok (.ret (Value.ref s.heap.objs.size))) { s with heap := s.heap.push { cls := Value.type "tuple", data := Data.seq #[] } }) :=
  .of_wp fun prog w A R s h => by
    obtain ⟨hp, g, d, tk, os⟩ := s
    obtain ⟨hl, h⟩ := h
    have f1 := AutoSeq1.idx_int
    have c0 : (decide ((0 : Int) < -(2 ^ 63)) || decide ((0 : Int) ≥ 2 ^ 63)) = false := by decide
    have c1 : (items.isEmpty || (0 : Int) == 1) = false := by rw [hne]; rfl
    have c2 : (decide ((0 : Int) ≤ 0) || items.isEmpty) = true := by simp
    wp_walk using wpAny_loadPart' hl
    repeat (first
      | (refine wpAny_ite_false (decide_eq_false (by rw [c0]; exact Bool.false_ne_true)) ?_; wp_walk using wpAny_loadPart' hl)
      | (refine wpAny_ite_false (decide_eq_false (by rw [c1]; exact Bool.false_ne_true)) ?_; wp_walk using wpAny_loadPart' hl)
      | (refine wpAny_ite_true (decide_eq_true c2) ?_; wp_walk using wpAny_loadPart' hl))
    exact ⟨_, rfl, h⟩
def rRep01 (K : PySem.W.Frag) : R2 := fun x y H Q => ∃ l k xs, x = .ref l ∧ y = .int k ∧ SqT K H l xs ∧ xs ≠ [] ∧ ((k = 1 ∧ Q (.ref l) H) ∨ (k = 0 ∧ ∀ p, H p = none → Q (.ref p) (upd H p (.tup []))))
section
variable {X : Cx}
theorem op_rep01 : OpR X (binaryOp .Mult) (rRep01 X.K) := by
  intro pins s σ H x y v u Q I rx ry h
  obtain ⟨l, k, xs, rfl, rfl, hT, hne, h⟩ := h
  cases rx
  obtain ⟨t, rfl⟩ := ry
  obtain ⟨its, r, ⟨⟨cls, dd, data, sl⟩, ho, hc, n, hd⟩, hs⟩ := I.tuple hT
  simp only at hc hd
  subst hc hd
  have hle : its.length = xs.length := r.length.symm
  have hn : its ≠ [] := fun e => hne (by
    rw [e] at hle
    exact List.eq_nil_of_length_eq_zero hle.symm)
  have hi : its.toArray.isEmpty = false := by
    cases its with
    | nil => exact absurd rfl hn
    | cons a b => rfl
  rcases h with ⟨rfl, q⟩ | ⟨rfl, q⟩
  · exact wpAny_binaryOp_repeat_ref (T := "tuple") (U := "int") (by decide) ⟨_, ho, rfl⟩ (fun s' => typeIs_int s' 1 t) noFill_tuple_mul F.fills_int_mul F.slot_int_rmul repeat_tuple F.slot_int_index.lookup
      (call_meets F.slot_int_rmul (typeIs_int s 1 t) F.entry_int_rmul (F.args_int_rmul_2 _ _) (int_rmul_tuple 1 t l its.toArray n dd sl)
        ⟨ho, rfl, ⟨_, ho, rfl⟩, call_meets F.slot_tuple_mul ⟨_, ho, rfl⟩ F.entry_tuple_mul (F.args_tuple_mul_2 _ _) (tuple_mul1 l its.toArray n dd sl t) ⟨ho, .ref l, H, I, rfl, q⟩⟩)
  · refine wpAny_binaryOp_repeat_ref (T := "tuple") (U := "int") (by decide) ⟨_, ho, rfl⟩ (fun s' => typeIs_int s' 0 t) noFill_tuple_mul F.fills_int_mul F.slot_int_rmul repeat_tuple F.slot_int_index.lookup
      (call_meets F.slot_int_rmul (typeIs_int s 0 t) F.entry_int_rmul (F.args_int_rmul_2 _ _) (int_rmul_tuple 0 t l its.toArray n dd sl)
        ⟨ho, rfl, ⟨_, ho, rfl⟩, call_meets F.slot_tuple_mul ⟨_, ho, rfl⟩ F.entry_tuple_mul (F.args_tuple_mul_2 _ _) (tuple_mul0 l its.toArray n dd sl t hi) ⟨ho, ?_⟩⟩)
    refine ⟨.ref s.heap.objs.size, _, I.laid (t' := s.toks) (o := .tup []) (fun b ob q => Heap.get?_push_of_some _ q) (Nat.le_refl _) ?_, rfl, q _ (I.hok.fresh (Nat.le_refl _))⟩
    exact ⟨Nat.zero_le _, [], .nil, IsTup.new _ _⟩
/-! ## What is never reached -/
theorem pss_dead {b : List Stmt} : PSs X b (fun _ _ _ => False) := ⟨fun _ _ _ _ _ _ h => h.elim⟩
theorem pg_dead {e : Expr} : PG X e (fun _ _ _ _ => False) := ⟨fun _ _ _ _ _ _ _ _ _ h => h.elim⟩
/-! ## C(e, ..) in a try -/
def tMakeS (C : Addr) (sp : Sp) (E : L2.St → XK) (t : TA) : TE := fun σ H Q => t σ H fun vs H1 => ∀ x dx, H1 x = none → H1 dx = none → dx ≠ x →
  sp (.ref x :: vs) (upd (upd H1 dx (.own x)) x (.ins C dx [])) (fun v H2 => v = .non ∧ Q (.ref x) H2) (E σ)
theorem pe_makeS {CX : CXT} {k : Nat} {C f : Addr} {fd : FuncData} {ps : List Str} {sp : Sp} {E : L2.St → XK} {x : Str} {p pos : Pos} {e : Expr} {es : List Expr} {t : TA}
    (M : Mk X.K C f) (F : FnOk X.prog X.w X.K X.mg X.base CX k f fd ps sp) (hr : Room (k + 1) X.A) (hg : Gl X x) (hm : X.mg x = some (.ref C)) (hb : Binds X.K fd ps []) (hx : ∀ σ, PassesAt CX X σ (E σ))
    (ha : PA X (e :: es) t) (hdb : (x == ("__debug__" : Str)) = false := by decide) (he : starEach (e :: es) X.env = (false, eval e X.env) :: starEach es X.env := by rfl) (hpl : (backTo pos (starEach es X.env)).any (·.1) = false := by rfl) :
    PE X (.Call (.Name x p) (e :: es) [] pos) (tMakeS C sp E t) := by
  refine ⟨fun pins s0 σ H0 Q I0 h0 => ?_⟩
  refine wpAny_Call_Name_kw (ld_glob I0 hg hm ?_ hdb)
  refine PySem.W.callWith_K (h₀ := X.base) I0.ok.mod.kin M.kp (thn (ha.run pos pins s0 σ H0 _ I0 h0) fun us s ⟨vs, H, I, r, h⟩ => ⟨I.kIn, ?_⟩) he hpl
  have hq := h (s.heap.objs.size + 1) s.heap.objs.size (I.hok.fresh (Nat.le_succ _)) (I.hok.fresh (Nat.le_refl _)) (Nat.ne_of_lt (Nat.lt_succ_self _))
  have I2 := Inv.made (C := C) I
  have r2 : Vals (V.ref (s.heap.objs.size + 1) :: vs) (Value.ref (s.heap.objs.size + 1) :: us) := .cons rfl r
  have hl : (Value.ref (s.heap.objs.size + 1) :: us).length = ps.length := by
    have e := r2.length
    rw [F.len _ _ _ _ hq] at e
    exact e.symm
  refine wpAny_call (make_map (f := f) I.kIn M.makes M.init (beq_iff_eq.mp M.fn) (codeAny_mono (F.run _ X.stack _ _ ⟨Value.ref (s.heap.objs.size + 1) :: us, []⟩ (Value.ref (s.heap.objs.size + 1) :: us) _ _ (E σ) (hr.make C us [])
    (I2.env0.make C us []) (by
      have z := hb _ (Value.ref (s.heap.objs.size + 1) :: us) I2.kIn (by rw [List.append_nil]; exact hl)
      rw [List.append_nil] at z
      exact z) r2 hq) fun r s' hq' => ?_))
  cases r with
  | error e => exact hx σ pins _ _ e s' I2 hq'
  | ok fl =>
    cases fl with
    | ret u =>
      obtain ⟨v, H', I3, rv, ev, q3⟩ := I2.after hq'
      subst ev
      exact ⟨rv, ⟨V.ref (s.heap.objs.size + 1), H', I3, rfl, q3⟩⟩
    | next => exact False.elim hq'
    | brk => exact False.elim hq'
    | cont => exact False.elim hq'
/-! ## len(o), o of an own class -/
structure LenC (K : PySem.W.Frag) (C f : Addr) : Prop where
  at_ : PySem.W.findIn K (.ref C) "__len__" = some (some (.ref f))
  fn : PySem.W.isFn K (.ref f) = true
def rLenI (C : Addr) (sp : Sp) : List V → Hp → VK → Prop := fun xs H Q => ∃ a dx fs, xs = [.ref a] ∧ H a = some (.ins C dx fs) ∧ sp [.ref a] H (fun v H' => ∃ n : Int, v = .int n ∧ 0 ≤ n ∧ n < 2 ^ 63 ∧ Q (.int n) H') E0
theorem call_lenI {k : Nat} {C f : Addr} {fd : FuncData} {ps : List Str} {sp : Sp} (c : LenC X.K C f) (F : FnOk X.prog X.w X.K X.mg X.base CX0 k f fd ps sp) (hr : Room (k + 1) X.A) (hb : Binds X.K fd ps []) : CallR X (.builtin "len") (rLenI C sp) := by
  intro pins s σ H xs us Q I rv h
  obtain ⟨a, dx, fs, rfl, ha, hsp⟩ := h
  obtain ⟨u, rfl, ru⟩ := vals1 rv
  cases ru
  obtain ⟨mA, J, _⟩ := ins_get I.hok ha
  obtain ⟨od, J, _⟩ := J.look
  refine Calls.call_function_entry kind_len plain_len entry_len (args_len1 _) ?_
  unfold Builtin.«len»
  refine wpAny_bind (m := oneArg "len" _) (wpAny_pure ?_)
  refine wpAny_bind (m := callSpecial? (.ref a) (Str.ofString "__len__")) (PySem.W.special_fn I.kIn J c.at_ (beq_iff_eq.mp c.fn) ?_)
  have e0 : Env0 X.prog X.w X.K X.mg X.base X.A.in1 X.stack s H := by
    have e := I.env0
    exact ⟨e.frames, e.mod, e.bs, e.bsz, e.funs, e.frf, e.hok, e.bare⟩
  have hl := F.len _ _ _ _ hsp
  have r2 : Vals [V.ref a] [Value.ref a] := .cons rfl .nil
  refine wpAny_call (codeAny_mono (F.run X.A.in1 X.stack s H ⟨[.ref a], []⟩ [.ref a] [.ref a] _ _ hr.in1 e0 (by
    have := hb s [.ref a] I.kIn (by simpa using hl)
    simpa using this) r2 hsp) fun r s' hq => ?_)
  cases r with
  | error e => exact hq.elim
  | ok fl =>
    cases fl with
    | ret u =>
      obtain ⟨v, H', I3, rv, n, rfl, h0, h1, q3⟩ := I.after hq
      obtain ⟨t, rfl⟩ := rv
      refine wpAny_bind (wpAny_holding (wpAny_pure ?_))
      refine wpAny_bind (wpAny_letGo ?_)
      show wpAny _ _ (if n < 0 then _ else _) _ _ _
      rw [if_neg (by omega)]
      show wpAny _ _ (if n ≥ 2 ^ 63 then _ else _) _ _ _
      rw [if_neg (by omega)]
      exact wpAny_bind (wpAny_mkInt (wpAny_pure ⟨_, rfl, .int n, H', I3.tok _, ⟨_, rfl⟩, q3⟩))
    | next => exact False.elim hq
    | brk => exact False.elim hq
    | cont => exact False.elim hq
end
end Lc
set_option Elab.async false
set_option linter.all false
set_option maxRecDepth 100000
set_option maxHeartbeats 4000000
namespace Lc
open PySem PySem.Spec PyProof.Rows L2
/-! ## Names that are drawn are names -/
theorem name_of {l : List Nat} {x : Str} (e : x.cps.toList = l) (ne : l ≠ []) (ln : l.length ≤ 12) (h1 : ∀ c r, l = c :: r → inL c = true) (h2 : ∀ c ∈ l, inS c = true) : nameB (.str x) = true := by
  show nameL x.cps.toList = true
  rw [e]
  cases l with
  | nil => exact absurd rfl ne
  | cons c r =>
    show (decide ((c :: r).length ≤ 12) && (inL c && (c :: r).all inS)) = true
    rw [decide_eq_true ln, h1 c r rfl, List.all_eq_true.mpr h2]
    rfl
theorem name_has {x : Str} (h : nameB (.str x) = true) : x.cps.toList ≠ [] ∧ x.cps.toList.length ≤ 12 ∧ (∀ c r, x.cps.toList = c :: r → inL c = true) ∧ ∀ c ∈ x.cps.toList, inS c = true := by
  have h : nameL x.cps.toList = true := h
  generalize x.cps.toList = l at h
  cases l with
  | nil => cases h
  | cons c r =>
    have h : (decide ((c :: r).length ≤ 12) && (inL c && (c :: r).all inS)) = true := h
    obtain ⟨a, h⟩ := Bool.and_eq_true_iff.mp h
    obtain ⟨b, h⟩ := Bool.and_eq_true_iff.mp h
    exact ⟨List.cons_ne_nil _ _, of_decide_eq_true a, fun c' r' e => by cases e; exact b, List.all_eq_true.mp h⟩
theorem app_list (x y : Str) : (x ++ y).cps.toList = x.cps.toList ++ y.cps.toList := by
  show (x.cps ++ y.cps).toList = _
  simp
theorem mul_list (i : Int) : (Txt.mul (PySem.Str.ofString "a") i).cps.toList = List.replicate i.toNat 97 := by
  have ea : (PySem.Str.ofString "a").cps.toList = [97] := by decide +kernel
  have el : ((PySem.Str.ofString "a").length == 0) = false := by decide +kernel
  unfold Txt.mul
  by_cases h1 : i < 1
  · rw [if_pos h1, show i.toNat = 0 by omega]
    rfl
  · rw [if_neg h1, el, Bool.or_false]
    by_cases h2 : (i == 1) = true
    · rw [if_pos h2, ea, show i.toNat = 1 by have := beq_iff_eq.mp h2; omega]
      rfl
    · rw [if_neg h2]
      show ((List.replicate i.toNat (PySem.Str.ofString "a").cps).foldl (· ++ ·) #[]).toList = _
      rw [foldl_app]
      simp only [List.map_replicate, ea]
      generalize i.toNat = n
      induction n with
      | zero => rfl
      | succ n ih =>
        rw [List.replicate_succ, List.replicate_succ]
        simpa using ih
theorem sgn_at {i : Int} (h0 : 0 ≤ i) (h1 : i < 36) : ∃ c, atI signs.cps.toList i = some c ∧ c ∈ signs.cps.toList ∧ inS c = true ∧ (i < 26 → inL c = true) := by
  obtain ⟨n, rfl⟩ : ∃ n : Nat, i = (n : Int) := ⟨i.toNat, by omega⟩
  have h : n < signs.cps.toList.length := by rw [signs_len]; omega
  have m := List.getElem_mem h
  refine ⟨signs.cps.toList[n], atI_nat (List.getElem?_eq_getElem h), m, decide_eq_true m, fun l => ?_⟩
  have all : ∀ k : Fin 26, (signs.cps.toList[k.1]?).all inL = true := by decide +kernel
  have z := all ⟨n, by omega⟩
  rw [List.getElem?_eq_getElem h] at z
  exact z
theorem in97 : inL 97 = true ∧ inS 97 = true := by decide +kernel
theorem name_one {k m : Int} {c : Nat} (h0 : 0 ≤ k) (hm : 0 ≤ m) (l : k + m ≤ 11) (hs : inS c = true) (hl : k = 0 → inL c = true) : nameB (.str (Txt.mul (PySem.Str.ofString "a") k ++ ⟨#[c]⟩ ++ Txt.mul (PySem.Str.ofString "a") m)) = true := by
  have e : (Txt.mul (PySem.Str.ofString "a") k ++ (⟨#[c]⟩ : Str) ++ Txt.mul (PySem.Str.ofString "a") m).cps.toList = List.replicate k.toNat 97 ++ [c] ++ List.replicate m.toNat 97 := by
    rw [app_list, app_list, mul_list, mul_list]
  refine name_of e (by simp) (by simp; omega) (fun c' r' q => ?_) (fun c' q => ?_)
  · by_cases z : k = 0
    · subst z
      have q : c :: List.replicate m.toNat 97 = c' :: r' := q
      cases q
      exact hl rfl
    · obtain ⟨n, hn⟩ : ∃ n, k.toNat = n + 1 := ⟨k.toNat - 1, by omega⟩
      rw [hn, List.replicate_succ] at q
      cases q
      exact in97.1
  · rcases List.mem_append.mp q with q | q
    · rcases List.mem_append.mp q with q | q
      · rw [List.eq_of_mem_replicate q]; exact in97.2
      · rw [List.mem_singleton.mp q]; exact hs
    · rw [List.eq_of_mem_replicate q]; exact in97.2
theorem glued_list : ∀ (cs : List Nat), (Str.join Str.empty (cs.map fun c => (⟨#[c]⟩ : Str))).cps.toList = cs
  | [] => rfl
  | [c] => rfl
  | c :: d :: r => by
    have ih := glued_list (d :: r)
    have e : Str.join Str.empty ((c :: d :: r).map fun c => (⟨#[c]⟩ : Str)) = (⟨#[c]⟩ : Str) ++ Str.empty ++ Str.join Str.empty ((d :: r).map fun c => (⟨#[c]⟩ : Str)) := rfl
    rw [e, app_list, app_list, ih]
    rfl
theorem name_join {cs : List Nat} (ne : cs ≠ []) (ln : cs.length ≤ 12) (h1 : ∀ c r, cs = c :: r → inL c = true) (h2 : ∀ c ∈ cs, inS c = true) : nameB (.str (Txt.join (PySem.Str.ofString "") (cs.map fun c => (⟨#[c]⟩ : Str)))) = true := by
  have e : Txt.join (PySem.Str.ofString "") (cs.map fun c => (⟨#[c]⟩ : Str)) = Str.join Str.empty (cs.map fun c => (⟨#[c]⟩ : Str)) := (StrLaws.glued_eq_join (PySem.Str.ofString "") _).trans rfl
  rw [e]
  exact name_of (glued_list cs) ne ln h1 h2
theorem cut_list (x : Str) : (cutS x none (some 11)).cps.toList = x.cps.toList.take 11 := by
  unfold cutS
  rw [lenL]
  simp [HT.sIx]
theorem name_cut {x : Str} {c : Nat} (h : nameB (.str x) = true) (hc : inS c = true) : nameB (.str (cutS x none (some 11) ++ ⟨#[c]⟩)) = true := by
  obtain ⟨a1, a2, a3, a4⟩ := name_has h
  have e : (cutS x none (some 11) ++ (⟨#[c]⟩ : Str)).cps.toList = x.cps.toList.take 11 ++ [c] := by rw [app_list, cut_list]
  refine name_of e (by simp) (by simp; omega) (fun c' r' q => ?_) (fun c' q => ?_)
  · cases z : x.cps.toList with
    | nil => exact absurd z a1
    | cons d r =>
      rw [z] at q
      have q : d :: (r.take 10 ++ [c]) = c' :: r' := q
      injection q with q1 _
      rw [← q1]
      exact a3 d r z
  · rcases List.mem_append.mp q with q | q
    · exact a4 c' (List.mem_of_mem_take q)
    · rw [List.mem_singleton.mp q]; exact hc
/-! ## Some letter is free -/
theorem pigeon {α : Type} [DecidableEq α] : ∀ {l m : List α}, l.Nodup → (∀ x ∈ l, x ∈ m) → l.length ≤ m.length
  | [], _, _, _ => Nat.zero_le _
  | x :: l, m, n, h => by
    obtain ⟨n1, n2⟩ := List.nodup_cons.mp n
    have hx := h x List.mem_cons_self
    have := pigeon (l := l) (m := m.erase x) n2 fun y hy => (List.mem_erase_of_ne (fun e => n1 (by rw [← e]; exact hy))).mpr (h y (List.mem_cons_of_mem _ hy))
    rw [List.length_erase_of_mem hx] at this
    have := List.length_pos_of_mem hx
    rw [List.length_cons]
    omega
theorem in_strs {z : Str} {ss : List Str} : inV (.str z) (ss.map V.str) = decide (z ∈ ss) := by
  rw [Bool.eq_iff_iff, decide_eq_true_iff]
  unfold inV
  rw [List.any_eq_true]
  constructor
  · rintro ⟨y, hy, e⟩
    obtain ⟨s, hs, rfl⟩ := List.mem_map.mp hy
    have : s = z := by simpa [eqV] using e
    rw [← this]; exact hs
  · intro h
    exact ⟨.str z, List.mem_map.mpr ⟨z, h, rfl⟩, by simp [eqV]⟩
theorem free_letter {x : Str} {ss : List Str} (l : ss.length < 36) (h : ∀ c ∈ signs.cps.toList, cutS x none (some 11) ++ (⟨#[c]⟩ : Str) ∈ ss) : False := by
  have inj : ∀ c d : Nat, cutS x none (some 11) ++ (⟨#[c]⟩ : Str) = cutS x none (some 11) ++ (⟨#[d]⟩ : Str) → c = d := fun c d e => by
    have e := congrArg (fun s : Str => s.cps.toList) e
    simp only [app_list] at e
    have := List.append_cancel_left e
    simpa using this
  have nd : signs.cps.toList.Nodup := by decide +kernel
  have := pigeon (l := signs.cps.toList.map fun c => cutS x none (some 11) ++ (⟨#[c]⟩ : Str)) (m := ss) (List.Pairwise.map _ (fun a b n e => n (inj a b e)) nd) fun y hy => by
    obtain ⟨c, hc, rfl⟩ := List.mem_map.mp hy
    exact h c hc
  rw [List.length_map, signs_len] at this
  omega
end Lc
set_option Elab.async false
set_option linter.all false
set_option maxRecDepth 100000
set_option maxHeartbeats 4000000
namespace Lc
open PySem PySem.Spec PyProof.Rows L2
/-! ## o.m(e, .., k = v, ..) -/
def tMethK (C : Addr) (m : Str) (n l : Nat) (sp : Sp) (gV : List V → List V → List V) (E : XK) (ta : TE) (t tk : TA) : TE := fun σ H Q => ta σ H fun x H1 => ∃ a dx fs, x = .ref a ∧ H1 a = some (.ins C dx fs) ∧ fs.lookup m = none ∧
  t σ H1 fun vs H2 => tk σ H2 fun zs H3 => vs.length = n ∧ zs.length = l ∧ sp (gV (x :: vs) zs) H3 Q E
section
variable {X : Cx} {CX : CXT} {k n : Nat} {f C : Addr} {fd : FuncData} {ps ks : List Str} {sp : Sp} {E : XK} {m : Str} {pos apos : Pos} {e o : Expr} {es : List Expr} {kws : List Keyword} {ta : TE} {t tk : TA} {g : List Value → List Value → List Value} {gV : List V → List V → List V}
theorem pe_methK {pl : Sem Bool} (he : PE X o ta) (c : Cls X.K C) (hm : Meth X.K C m f) (F : FnOk X.prog X.w X.K X.mg X.base CX k f fd ps sp) (hr : Room k X.A) (hb : KBn X.K fd ps (n + 1) ks g gV) (hx : Passes CX X E) (ha : PA X (e :: es) t) (hkw : PK X kws tk)
    (hall : (backToKw pos (keywordEach kws X.env)).all (·.1.isSome) = true := by rfl) (hks : (backToKw pos (keywordEach kws X.env)).filterMap (·.1) = ks := by rfl) (hst : starEach (e :: es) X.env = (false, eval e X.env) :: starEach es X.env := by rfl)
    (hpl : ((backTo pos (starEach (e :: es) X.env)).any (·.1) || (backToKw pos (keywordEach kws X.env)).any (·.1.isNone)) = false := by rfl)
    (ht : eval (.Call (.Attribute o m apos) (e :: es) kws pos) X.env = (do
      let ov ← eval o X.env
      standAt apos.atName
      let (f, first) ← holding [ov] (getMethod ov m pl)
      callWith pos f first (backTo pos (starEach (e :: es) X.env)) (backToKw pos (keywordEach kws X.env))) := by rfl) :
    PE X (.Call (.Attribute o m apos) (e :: es) kws pos) (tMethK C m n ks.length sp gV E ta t tk) := by
  refine ⟨fun pins s σ H Q I h => ?_⟩
  refine PySem.W.methodCall_KW (pl := pl) (thn (he.run pins s σ H _ I h) fun u s1 ⟨x, H1, I1, rx, a, dx, fs, ex, ea, l, q⟩ => ?_) ht
  subst ex
  obtain rfl : u = Value.ref a := rx
  refine getmeth_ok I1 ea c hm l ?_
  refine PySem.W.callWith_KW (first := [.ref a]) (h₀ := X.base) I.ok.mod.kin hm.kp hall (thn (ha.run pos pins s1 σ H1 _ I1 q) fun us s2 ⟨vs, H2, I2, r, q2⟩ => ?_) hpl hst
  refine thn (hkw.run pos pins s2 σ H2 _ I2 q2) fun ws s3 ⟨zs, H3, I3, rz, l1, l2, q3⟩ => ⟨I3.kIn, ?_⟩
  rw [hks]
  exact run_fnN (us := .ref a :: us) (vs := .ref a :: vs) F hr hb hx I3 (.cons rfl r) rz (by rw [List.length_cons, l1]) l2 q3
end
theorem kbN {K : PySem.W.Frag} {x qual : Str} {params : Arguments} {body : List Stmt} {scope : Scope} {kws : List (Str × V)} {f : Addr} {fd : FuncData} {ps ks : List Str} {n : Nat} (F : FunD K x qual params body scope [] kws f fd)
    (h : ∀ (kV doc pm : Value) (an : Option Addr) (cdv ct : Value) (us ws : List Value), us.length = n → ws.length = ks.length → bindArgs (PySem.W.fnOf x qual params body scope .none kV doc pm an cdv ct) ⟨us, ks.zip ws⟩ = pure (ps.zip (us ++ ws))) : KBn K fd ps n ks (fun us ws => us ++ ws) (fun vs zs => vs ++ zs) := by
  obtain ⟨oc, od, dV, kV, doc, pm, an, cdv, ct, osl, rfl, lk, hcd, hD, hK⟩ := F.ex
  rcases hD with ⟨_, rfl⟩ | ⟨e, _⟩
  · exact ⟨fun s us ws X l1 l2 => .of_eq (h kV doc pm an cdv ct us ws l1 l2), fun r1 r2 => r1.append r2⟩
  · exact absurd rfl e
/-! ## Data without lists: it stands as long as the tuples stand -/
def SameT (H H' : Hp) : Prop := ∀ b xs, H b = some (.tup xs) → H' b = some (.tup xs)
theorem SameT.refl (H : Hp) : SameT H H := fun _ _ e => e
theorem SameT.trans {H H1 H2 : Hp} (a : SameT H H1) (b : SameT H1 H2) : SameT H H2 := fun c xs e => b c xs (a c xs e)
theorem SameT.of {H H' : Hp} (s : Same H H') : SameT H H' := fun b xs e => s _ _ e
theorem SameT.b {t : Addr} {H H' : Hp} (T : Tape H t) (s : SameB t H H') : SameT H H' := fun b xs e => s _ _ (T.neT e) e
theorem SameT.at {a : Addr} {H H' : Hp} {o : HO} (h : H a = some o) (n : ∀ xs, o ≠ .tup xs) (s : SameB a H H') : SameT H H' := fun b xs e => s _ _ (fun z => by rw [z, h] at e; exact n xs (Option.some.inj e)) e
theorem SameT.lst {H : Hp} {a : Addr} {ys : List V} {o : HO} (h : H a = some (.lst ys)) : SameT H (upd H a o) := fun b xs e => by rw [upd_ne (ne_of e h nofun)]; exact e
mutual
def noL : PyData → Bool
  | .list _ => false
  | .dict _ => false
  | .tuple ds => noLs ds
  | _ => true
def noLs : List PyData → Bool
  | [] => true
  | d :: ds => noL d && noLs ds
end
mutual
theorem Dh.t {H H' : Hp} (s : SameT H H') : ∀ {v : V} {d : PyData}, Dh H v d → noL d = true → Dh H' v d
  | _, _, .non, _ => .non
  | _, _, .bl b, _ => .bl b
  | _, _, .int i, _ => .int i
  | _, _, .str x, _ => .str x
  | _, _, .tup e h, n => .tup (s _ _ e) (DhAll.t s h (by simpa [noL] using n))
  | _, _, .lst e h, n => by simp [noL] at n
  | _, _, .dct e, n => by simp [noL] at n
theorem DhAll.t {H H' : Hp} (s : SameT H H') : ∀ {vs : List V} {ds : List PyData}, DhAll H vs ds → noLs ds = true → DhAll H' vs ds
  | _, _, .nil, _ => .nil
  | _, _, .cons h r, n => by
    rw [noLs, Bool.and_eq_true_iff] at n
    exact .cons (Dh.t s h n.1) (DhAll.t s r n.2)
end
theorem noLs_app {a b : List PyData} : noLs (a ++ b) = (noLs a && noLs b) := by
  induction a with
  | nil => rfl
  | cons x a ih => rw [List.cons_append, noLs, noLs, ih, Bool.and_assoc]
theorem noLs_all {a : List PyData} : noLs a = true ↔ ∀ d ∈ a, noL d = true := by
  induction a with
  | nil => exact ⟨fun _ => nofun, fun _ => rfl⟩
  | cons x a ih =>
    rw [noLs, Bool.and_eq_true_iff, ih]
    constructor
    · rintro ⟨h1, h2⟩ d hd
      rcases List.mem_cons.mp hd with rfl | hd
      · exact h1
      · exact h2 d hd
    · exact fun h => ⟨h x List.mem_cons_self, fun d hd => h d (List.mem_cons_of_mem _ hd)⟩
end Lc
set_option Elab.async false
set_option linter.all false
set_option maxRecDepth 100000
set_option maxHeartbeats 4000000
namespace Lc
open PySem PySem.Spec PyProof.Rows L2
/-! ## a dict comprehension that is stored in a local name -/
section
variable {X : Cx}
theorem sw_dict {e1 e2 : Expr} {cs : List Comprehension} {sc : Scope} {p1 p2 : Pos} {nm : Str} {ln : Nat} {en : Env} (h1 : en.scope.kind = .function) (h2 : en.scope.names.lookup nm = some .local) (h3 : (p2.line == p1.line) = true)
    (h4 : (sc.names.any fun (a, b) => a == nm && (b == .local || b == .cell)) = false) : swapsWith (.DictComp e1 e2 cs sc p1) (some (.Name nm p2)) ln en = pure true := by
  have k1 : en.kindOf nm = some .local := h2
  have k2 : en.blockKind = .function := by
    unfold Env.blockKind
    rw [h1]
    rfl
  unfold swapsWith
  simp only [k2, k1, h4, Expr.pos, h3]
  rfl
theorem ps_setDc {i : Nat} {nm : Str} {p2 p1 p3 : Pos} {kx vx tg it : Expr} {ifs : List Expr} {sc : Scope} {own : List (Str × Nat)} {wi : TI} {g : TG} {tt : TT} {tk tv : TE} (calm : X.calm = true) (nd : X.N.Nodup) (at_ : X.N[i]? = some nm) (loc : X.env.scope.names.lookup nm = some .local)
    (sw : swapsWith (.DictComp kx vx [⟨tg, it, ifs, 0⟩] sc p1) (some (.Name nm p2)) p3.line X.env = pure true) (hi : PI X tg it wi) (ok : BlkOk X.N X.env.scope sc own)
    (hg : ∀ (s : Shared) (H : Hp) (C : Addr) (cl : List (Str × Addr)) (fp : List Addr), PG (X.blk s H sc (compEnvC sc cl C X.env) fp) tg g) (ht : ∀ (s : Shared) (H : Hp) (C : Addr) (cl : List (Str × Addr)) (fp : List Addr), PTs (X.blk s H sc (compEnvC sc cl C X.env) fp) ifs tt)
    (hk : ∀ (s : Shared) (H : Hp) (C : Addr) (cl : List (Str × Addr)) (fp : List Addr), PE (X.blk s H sc (compEnvC sc cl C X.env) fp) kx tk) (hv : ∀ (s : Shared) (H : Hp) (C : Addr) (cl : List (Str × Addr)) (fp : List Addr), PE (X.blk s H sc (compEnvC sc cl C X.env) fp) vx tv) (hs : ∀ x, foldedSetIterable it X.env x = pure x := by intro _; rfl) :
    PS X (.Assign [.Name nm p2] (.DictComp kx vx [⟨tg, it, ifs, 0⟩] sc p1) p3) (tAsg (tDc wi g tt tk tv (own.map (·.2))) (gName i)) := by
  refine ⟨fun pins st σ H D I q0 => ?_⟩
  rw [exec_Assign_Name_used _ _ _ _ sw]
  refine wpAny_bind (wpAny_standAt (wpAny_bind ?_))
  show wpAny _ X.A (do let _ ← comprehension (.DictComp kx vx [⟨tg, it, ifs, 0⟩] sc p1) sc X.env (firstIterPos [⟨tg, it, ifs, 0⟩] p1) newDict false (eval it X.env) (some (assign (.Name nm p2) X.env))) _ _ st
  have q1 : tDc wi g tt tk tv (own.map (·.2)) σ H (fun x H1 => gName i x σ H1 D.nx) := q0
  refine wpAny_bind (thn (dc_core (Qf := fun _ s' => SP X pins D .next s') calm nd I hi ok hg ht hk hv hs q1 fun L C s' mm H' I' qq hn fr => ?_) fun _ s' z => wpAny_pure (wpAny_pure z))
  show wpAny _ _ (assign (.Name nm p2) X.env (.ref L)) _ _ _
  refine wpAny_assign_Name (store_ok2 (v := V.ref L) I' nd at_ (.inl loc) rfl (fun s2 I2 ⟨a, sb, ha⟩ => ?_) (.inr loc))
  obtain ⟨g0, g1, _, g3, g4, g5⟩ := fr
  have ne : C ≠ a := by
    rcases ha with z | z
    · exact z ▸ g1
    · exact fun e => g4 nm a z e.symm
  refine ⟨mm, hn.sameBut sb ne, fun h3 sb3 => ?_⟩
  refine ⟨_, H', I2.turned (t' := s2.toks) (fun b o hb e => ?_) g0 g1 g3 g4 g5, qq⟩
  exact (sb3.2 b hb).trans e
end
/-- a dict comprehension over zip of two tuples of one length -/
theorem dc_zip {K : PySem.W.Frag} {a b : Addr} {xs ys : List V} {g : TG} {tt : TT} {tk tv : TE} {vs : List Nat} {σ : L2.St} {H1 : Hp} {D : Addr} {Qd : Hp → Prop} (hl : xs.length = ys.length) (Pv : Nat → Hp → Prop) (h0 : Pv 0 (upd H1 D (.dK []))) (hq : ∀ i H, Pv i H → SqT K H a xs ∧ SqT K H b ys)
    (hs : ∀ (i : Nat) (x y : V) (T : Addr) (H : Hp), xs[i]? = some x → ys[i]? = some y → Pv i H → H T = none → g (.ref T) (wipe σ vs) (upd H T (.tup [x, y])) fun σ2 H2 => wipe σ2 vs = wipe σ vs ∧ tt σ2 H2 fun c H3 =>
      if c = true then tk σ2 H3 fun k H4 => tv σ2 H4 fun z H5 => ∃ kvs kk, k = kV kk ∧ H5 D = some (.dK kvs) ∧ kvs.length < sizeLine ∧ Pv (i + 1) (upd H5 D (.dK (putK kvs kk z))) else Pv (i + 1) H3) (hd : ∀ H, Pv xs.length H → Qd H) :
    ∃ W : Nat → Nat → Hp → Prop, (∃ m, W 0 m (upd H1 D (.dK []))) ∧ ∀ i m H, W i m H →
      ((RZ.ItzT K a b).stop i H ∧ Qd H) ∨ ((RZ.ItzT K a b).go i H ∧ ∃ N : Hp → Prop, (∀ H', N H' → ∃ m', m' < m ∧ W (i + 1) m' H') ∧ ∀ v H', (RZ.ItzT K a b).yld i H v H' → g v (wipe σ vs) H' fun σ2 H2 => wipe σ2 vs = wipe σ vs ∧ tt σ2 H2 fun c H3 =>
        if c = true then tk σ2 H3 fun k H4 => tv σ2 H4 fun z H5 => ∃ kvs kk, k = kV kk ∧ H5 D = some (.dK kvs) ∧ kvs.length < sizeLine ∧ N (upd H5 D (.dK (putK kvs kk z))) else N H3) := by
  refine ⟨fun i m H => i + m = xs.length ∧ Pv i H, ⟨xs.length, Nat.zero_add _, h0⟩, ?_⟩
  rintro i m H ⟨em, pv⟩
  obtain ⟨q1, q2⟩ := hq i H pv
  cases m with
  | zero =>
    obtain rfl : i = xs.length := by omega
    exact .inl ⟨⟨xs, ys, q1, q2, .inl (Nat.le_refl _)⟩, hd H pv⟩
  | succ m =>
    have l1 : i < xs.length := by omega
    have l2 : i < ys.length := by omega
    refine .inr ⟨⟨xs, ys, _, _, q1, q2, List.getElem?_eq_getElem l1, List.getElem?_eq_getElem l2⟩, Pv (i + 1), fun H' p' => ⟨m, by omega, by omega, p'⟩, fun v H' yl => ?_⟩
    obtain ⟨T, x', y', rfl, hT, rfl, f1, f2⟩ := yl
    exact hs i x' y' T H (f1 xs q1) (f2 ys q2) pv hT
section
variable {X : Cx} {k : Nat} {f : Addr} {fd : FuncData} {ps : List Str} {sp : Sp} {x : Str} {p pos : Pos}
/-- f(), f kept under FnG -/
theorem pe_callG0 (F : FnG X.prog X.w X.K X.mg X.base k f fd ps sp) (gg : X.A.guards = some []) (hr : Room k X.A) (hg : Gl X x) (hm : X.mg x = some (.ref f)) (hk : PySem.W.keepIn X.K (.ref f) = true) (hb : Binds X.K fd ps []) (hdb : (x == ("__debug__" : Str)) = false := by decide) :
    PE X (.Call (.Name x p) [] [] pos) (tCall sp [] E0 tNil) := by
  refine ⟨fun pins s σ H Q I h => wpAny_Call_Name_kw (ld_glob I hg hm ?_ hdb)⟩
  refine PySem.W.callWith_K0 I.kIn hk ?_
  have q : sp [] H Q E0 := h
  have hl : ([] : List V).length = ps.length := F.len _ _ _ _ q
  have b := hb s [] I.kIn hl
  refine wpAny_call (codeAny_mono (F.run X.A X.stack s H ⟨[], []⟩ [] [] Q E0 gg hr I.env0 b .nil q) fun rr s' hq => ?_)
  cases rr with
  | error er => exact hq.elim
  | ok fl =>
    cases fl with
    | ret u => exact I.after hq
    | next => exact hq.elim
    | brk => exact hq.elim
    | cont => exact hq.elim
end
/-- a list comprehension over zip of two tuples of one length -/
theorem lc_zip {K : PySem.W.Frag} {a b : Addr} {xs ys : List V} {g : TG} {tt : TT} {te : TE} {vs : List Nat} {σ : L2.St} {H1 : Hp} {D : Addr} {Qd : Hp → Prop} (hl : xs.length = ys.length) (Pv : Nat → Hp → Prop) (h0 : Pv 0 (upd H1 D (.lst []))) (hq : ∀ i H, Pv i H → SqT K H a xs ∧ SqT K H b ys)
    (hs : ∀ (i : Nat) (x y : V) (T : Addr) (H : Hp), xs[i]? = some x → ys[i]? = some y → Pv i H → H T = none → g (.ref T) (wipe σ vs) (upd H T (.tup [x, y])) fun σ2 H2 => wipe σ2 vs = wipe σ vs ∧ tt σ2 H2 fun c H3 =>
      if c = true then te σ2 H3 fun z H4 => ∃ acc, H4 D = some (.lst acc) ∧ acc.length < sizeLine ∧ Pv (i + 1) (upd H4 D (.lst (acc ++ [z]))) else Pv (i + 1) H3) (hd : ∀ H, Pv xs.length H → Qd H) :
    ∃ W : Nat → Nat → Hp → Prop, (∃ m, W 0 m (upd H1 D (.lst []))) ∧ ∀ i m H, W i m H →
      ((RZ.ItzT K a b).stop i H ∧ Qd H) ∨ ((RZ.ItzT K a b).go i H ∧ ∃ N : Hp → Prop, (∀ H', N H' → ∃ m', m' < m ∧ W (i + 1) m' H') ∧ ∀ v H', (RZ.ItzT K a b).yld i H v H' → g v (wipe σ vs) H' fun σ2 H2 => wipe σ2 vs = wipe σ vs ∧ tt σ2 H2 fun c H3 =>
        if c = true then te σ2 H3 fun z H4 => ∃ acc, H4 D = some (.lst acc) ∧ acc.length < sizeLine ∧ N (upd H4 D (.lst (acc ++ [z]))) else N H3) := by
  refine ⟨fun i m H => i + m = xs.length ∧ Pv i H, ⟨xs.length, Nat.zero_add _, h0⟩, ?_⟩
  rintro i m H ⟨em, pv⟩
  obtain ⟨q1, q2⟩ := hq i H pv
  cases m with
  | zero =>
    obtain rfl : i = xs.length := by omega
    exact .inl ⟨⟨xs, ys, q1, q2, .inl (Nat.le_refl _)⟩, hd H pv⟩
  | succ m =>
    have l1 : i < xs.length := by omega
    have l2 : i < ys.length := by omega
    refine .inr ⟨⟨xs, ys, _, _, q1, q2, List.getElem?_eq_getElem l1, List.getElem?_eq_getElem l2⟩, Pv (i + 1), fun H' p' => ⟨m, by omega, by omega, p'⟩, fun v H' yl => ?_⟩
    obtain ⟨T, x', y', rfl, hT, rfl, f1, f2⟩ := yl
    exact hs i x' y' T H (f1 xs q1) (f2 ys q2) pv hT
theorem paired_snoc {α β : Type} {R : α → β → Prop} {a : α} {b : β} (h : R a b) : ∀ {l : List α} {m : List β}, Paired R l m → Paired R (l ++ [a]) (m ++ [b])
  | _, _, .nil => .cons h .nil
  | _, _, .cons g r => .cons g (paired_snoc h r)
theorem paired_imp {α β : Type} {R S : α → β → Prop} (h : ∀ a b, R a b → S a b) : ∀ {l : List α} {m : List β}, Paired R l m → Paired S l m
  | _, _, .nil => .nil
  | _, _, .cons g r => .cons (h _ _ g) (paired_imp h r)
end Lc
set_option Elab.async false
set_option linter.all false
set_option maxRecDepth 100000
set_option maxHeartbeats 4000000
namespace Lc
open PySem PySem.Spec PyProof.Rows L2 PySem.NumText
/-! ## Digits -/
def digs (m : Nat) : List Nat := (Nat.toDigits 10 m).map Char.toNat
theorem digs_small {m : Nat} (h : m < 10) : digs m = [48 + m] := by
  unfold digs
  rw [Nat.toDigits_of_lt_base h]
  have : ∀ k < 10, (Nat.digitChar k).toNat = 48 + k := by decide
  show [(Nat.digitChar m).toNat] = _
  rw [this m h]
theorem digs_big {m : Nat} (h : 10 ≤ m) : digs m = digs (m / 10) ++ [48 + m % 10] := by
  have hm : m % 10 < 10 := Nat.mod_lt m (by decide)
  have t : Nat.toDigits 10 (m / 10) ++ Nat.toDigits 10 (m % 10) = Nat.toDigits 10 (10 * (m / 10) + m % 10) := Nat.toDigits_append_toDigits (by decide) (by omega) hm
  rw [Nat.div_add_mod] at t
  have e := digs_small hm
  unfold digs at e ⊢
  rw [← t, List.map_append, e]
theorem digs_val (m : Nat) : digitsVal (digs m) = m := W.KIN.val_back m
theorem digs_all : ∀ m, AllDigits (digs m) := by
  intro m
  induction m using Nat.strongRecOn with
  | _ m ih =>
    by_cases h : m < 10
    · rw [digs_small h]
      intro c hc
      have : c = 48 + m := by simpa using hc
      omega
    · rw [digs_big (by omega)]
      intro c hc
      rcases List.mem_append.mp hc with hc | hc
      · exact ih (m / 10) (by omega) c hc
      · have : c = 48 + m % 10 := by simpa using hc
        omega
theorem digs_head : ∀ m, ∃ c r, digs m = c :: r ∧ (c = 48 → r = []) := by
  intro m
  have key : ∀ m, ∃ c r, digs m = c :: r ∧ (0 < m → 49 ≤ c) := by
    intro m
    induction m using Nat.strongRecOn with
    | _ m ih =>
      by_cases h : m < 10
      · exact ⟨48 + m, [], digs_small h, fun _ => by omega⟩
      · obtain ⟨c, r, e, g⟩ := ih (m / 10) (by omega)
        refine ⟨c, r ++ [48 + m % 10], ?_, fun _ => g (by omega)⟩
        rw [digs_big (by omega), e]
        rfl
  by_cases z : m = 0
  · exact ⟨48, [], by rw [z]; exact digs_small (by decide), fun _ => rfl⟩
  · obtain ⟨c, r, e, g⟩ := key m
    exact ⟨c, r, e, fun h => by have := g (by omega); omega⟩
theorem digs_len : ∀ (p m : Nat), 0 < p → m < 10 ^ p → (digs m).length ≤ p := by
  intro p
  induction p with
  | zero => intro m h; omega
  | succ p ih =>
    intro m _ h
    by_cases z : m < 10
    · rw [digs_small z]
      simp
    · rw [digs_big (by omega), List.length_append]
      have hp : 0 < p := by
        cases p with
        | zero => omega
        | succ q => omega
      have : m / 10 < 10 ^ p := by
        rw [Nat.div_lt_iff_lt_mul (by decide)]
        rw [Nat.pow_succ] at h
        exact h
      have := ih (m / 10) hp this
      simp only [List.length_cons, List.length_nil]
      omega
def zf (p r : Nat) : List Nat := List.replicate (p - (digs r).length) 48 ++ digs r
theorem zf_len {p r : Nat} (hp : 0 < p) (h : r < 10 ^ p) : (zf p r).length = p := by
  have := digs_len p r hp h
  unfold zf
  rw [List.length_append, List.length_replicate]
  omega
theorem zf_all (p r : Nat) : AllDigits (zf p r) := by
  intro c hc
  rcases List.mem_append.mp hc with hc | hc
  · have := List.eq_of_mem_replicate hc
    omega
  · exact digs_all r c hc
theorem val_from (l : List Nat) : ∀ a : Nat, l.foldl (fun acc c => acc * 10 + (c - 48)) a = a * 10 ^ l.length + digitsVal l := by
  induction l with
  | nil => intro a; simp [digitsVal]
  | cons c l ih =>
    intro a
    show l.foldl _ (a * 10 + (c - 48)) = _
    have e2 : digitsVal (c :: l) = l.foldl (fun acc c => acc * 10 + (c - 48)) (0 * 10 + (c - 48)) := rfl
    rw [ih, e2, ih, List.length_cons, Nat.pow_succ, Nat.zero_mul, Nat.zero_add, Nat.add_mul, Nat.mul_assoc, Nat.mul_comm 10]
    omega
theorem val_app (a b : List Nat) : digitsVal (a ++ b) = digitsVal a * 10 ^ b.length + digitsVal b := by
  unfold digitsVal
  rw [List.foldl_append]
  exact val_from b _
theorem val_zeros (k : Nat) : digitsVal (List.replicate k 48) = 0 := by
  induction k with
  | zero => rfl
  | succ k ih =>
    rw [List.replicate_succ, digitsVal_zero]
    exact ih
theorem zf_val (p r : Nat) : digitsVal (zf p r) = r := by
  unfold zf
  rw [val_app, val_zeros, digs_val]
  omega
/-! ## A text cut at the point -/
def jl : List (List Nat) → List Nat
  | [] => []
  | [x] => x
  | x :: y :: r => x ++ 46 :: jl (y :: r)
theorem cut_eq : ∀ {a b x y : List Nat}, 46 ∉ a → 46 ∉ b → a ++ 46 :: x = b ++ 46 :: y → a = b ∧ x = y
  | [], [], _, _, _, _, e => ⟨rfl, (List.cons.inj e).2⟩
  | [], c :: b, _, _, _, hb, e => absurd (List.cons.inj e).1 (fun z => hb (by rw [z]; exact List.mem_cons_self))
  | c :: a, [], _, _, ha, _, e => absurd (List.cons.inj e).1.symm (fun z => ha (by rw [z]; exact List.mem_cons_self))
  | c :: a, d :: b, x, y, ha, hb, e => by
    obtain ⟨e1, e2⟩ := List.cons.inj e
    obtain ⟨h1, h2⟩ := cut_eq (fun z => ha (List.mem_cons_of_mem _ z)) (fun z => hb (List.mem_cons_of_mem _ z)) e2
    exact ⟨by rw [e1, h1], h2⟩
theorem jl_one {ps : List (List Nat)} {a : List Nat} (hne : a ≠ []) (ha : 46 ∉ a) (e : jl ps = a) : ps = [a] := by
  match ps, e with
  | [], e => exact absurd e.symm hne
  | [x], e => rw [← show x = a from e]
  | x :: y :: r, e => exact absurd (by rw [← show x ++ 46 :: jl (y :: r) = a from e]; simp) ha
theorem jl_two {ps : List (List Nat)} {a b : List Nat} (hf : ∀ p ∈ ps, 46 ∉ p) (ha : 46 ∉ a) (hb : 46 ∉ b) (hne : b ≠ []) (e : jl ps = a ++ 46 :: b) : ps = [a, b] := by
  match ps, hf, e with
  | [], _, e => exact absurd e (by simp [jl])
  | [x], hf, e => exact absurd (by rw [show x = a ++ 46 :: b from e]; simp) (hf x List.mem_cons_self)
  | x :: y :: r, hf, e =>
    obtain ⟨h1, h2⟩ := cut_eq (hf x List.mem_cons_self) ha (show x ++ 46 :: jl (y :: r) = a ++ 46 :: b from e)
    rw [h1, jl_one hne hb h2]
theorem toL_join : ∀ ps : List Str, (Str.join ⟨#[46]⟩ ps).cps.toList = jl (ps.map fun p => p.cps.toList)
  | [] => rfl
  | [x] => rfl
  | x :: y :: r => by
    have ih := toL_join (y :: r)
    have e : Str.join ⟨#[46]⟩ (x :: y :: r) = x ++ ⟨#[46]⟩ ++ Str.join ⟨#[46]⟩ (y :: r) := rfl
    rw [e]
    show (x.cps ++ #[46] ++ (Str.join ⟨#[46]⟩ (y :: r)).cps).toList = _
    rw [Array.toList_append, Array.toList_append, ih]
    show x.cps.toList ++ [46] ++ jl (y.cps.toList :: r.map fun p => p.cps.toList) = x.cps.toList ++ 46 :: jl (y.cps.toList :: r.map fun p => p.cps.toList)
    rw [List.append_assoc]
    rfl
theorem dot_eq : PySem.Str.ofString "." = ⟨#[46]⟩ := by decide +kernel
theorem map_toL {ps : List Str} {ls : List (List Nat)} (h : ps.map (fun p => p.cps.toList) = ls) : ps = ls.map fun l => (⟨l.toArray⟩ : Str) := by
  rw [← h, List.map_map]
  have : ((fun l => (⟨l.toArray⟩ : Str)) ∘ fun p : Str => p.cps.toList) = id := by
    funext p
    obtain ⟨⟨l⟩⟩ := p
    rfl
  rw [this, List.map_id]
theorem split_jl (x : Str) : jl ((Txt.split x ⟨#[46]⟩).map fun p => p.cps.toList) = x.cps.toList := by
  rw [← toL_join, StrLaws.join_split]
theorem split_one {x : Str} (h : 46 ∉ x.cps.toList) (hne : x.cps.toList ≠ []) : Txt.split x ⟨#[46]⟩ = [x] := by
  have e := map_toL (jl_one hne h (split_jl x))
  rw [e]
  obtain ⟨⟨l⟩⟩ := x
  rfl
theorem split_two {x : Str} {a b : List Nat} (e : x.cps.toList = a ++ 46 :: b) (ha : 46 ∉ a) (hb : 46 ∉ b) (hne : b ≠ []) : Txt.split x ⟨#[46]⟩ = [⟨a.toArray⟩, ⟨b.toArray⟩] := by
  refine map_toL (jl_two (fun p hp => ?_) ha hb hne ((split_jl x).trans e))
  obtain ⟨q, hq, rfl⟩ := List.mem_map.mp hp
  exact StrLaws.split_free x 46 q hq
/-! ## Rounding -/
def ab (n : Int) : Int := if n < 0 then -n else n
def nu (n d s : Int) : Int := if n < 0 then -((2 * ab n * s + d) / (2 * d)) else (2 * ab n * s + d) / (2 * d)
theorem ab_nonneg (n : Int) : 0 ≤ ab n := by unfold ab; split <;> omega
theorem ab_nat (n : Int) : ab n = (n.natAbs : Int) := by unfold ab; split <;> omega
theorem nu_ab {n d s : Int} (hd : 0 < d) (hs : 0 < s) : ab (nu n d s) = (2 * ab n * s + d) / (2 * d) ∧ (nu n d s < 0 → n < 0) := by
  have h0 : 0 ≤ (2 * ab n * s + d) / (2 * d) := Int.ediv_nonneg (by have := Int.mul_nonneg (Int.mul_nonneg (by decide : (0:Int) ≤ 2) (ab_nonneg n)) (Int.le_of_lt hs); omega) (by omega)
  unfold nu
  generalize (2 * ab n * s + d) / (2 * d) = q at h0
  split
  · exact ⟨by unfold ab; split <;> omega, fun _ => by assumption⟩
  · exact ⟨by unfold ab; split <;> omega, fun h => by omega⟩
theorem nu_near {n d s : Int} (hd : 0 < d) (hs : 0 < s) : 2 * (ab (nu n d s) * d) ≤ 2 * (ab n * s) + d ∧ 2 * (ab n * s) < 2 * (ab (nu n d s) * d) + d := by
  rw [(nu_ab hd hs).1]
  have e := Int.mul_ediv_add_emod (2 * ab n * s + d) (2 * d)
  have r0 := Int.emod_nonneg (2 * ab n * s + d) (by omega : 2 * d ≠ 0)
  have r1 := Int.emod_lt_of_pos (2 * ab n * s + d) (by omega : 0 < 2 * d)
  generalize (2 * ab n * s + d) / (2 * d) = q at e
  generalize (2 * ab n * s + d) % (2 * d) = r at e r0 r1
  rw [Int.mul_assoc 2 d q, Int.mul_comm d q, Int.mul_assoc 2 (ab n) s] at e
  omega
/-- the same units again -/
theorem nu_again {u s a b : Int} (hs : 0 < s) (hb : 0 < b) (h : a * s = u * b) (hsg : (a < 0) ↔ (u < 0)) : nu a b s = u := by
  have e1 : ab a * s = ab u * b := by
    unfold ab
    by_cases z : a < 0
    · rw [if_pos z, if_pos (hsg.mp z), Int.neg_mul, Int.neg_mul, h]
    · rw [if_neg z, if_neg (fun q => z (hsg.mpr q)), h]
  have e2 : (2 * ab a * s + b) / (2 * b) = ab u := by
    have : 2 * ab a * s + b = b + 2 * b * ab u := by
      rw [Int.mul_assoc, e1, Int.mul_comm (ab u) b, ← Int.mul_assoc]
      omega
    rw [this, Int.add_mul_ediv_left _ _ (by omega : 2 * b ≠ 0), Int.ediv_eq_zero_of_lt (by omega) (by omega)]
    omega
  unfold nu
  rw [e2]
  unfold ab
  by_cases z : a < 0
  · rw [if_pos z, if_pos (hsg.mp z)]
    omega
  · rw [if_neg z, if_neg (fun q => z (hsg.mpr q))]
/-! ## What a decimal looks like -/
def tenP (p : Nat) : Nat := 10 ^ p
def decB (u : Int) (p : Nat) : List Nat := digs (u.natAbs / 10 ^ p) ++ (if p = 0 then [] else 46 :: zf p (u.natAbs % 10 ^ p))
def decL (u : Int) (p : Nat) : List Nat := (if u < 0 then [45] else []) ++ decB u p
end Lc
namespace Lc
open PySem PySem.Spec PyProof.Rows L2 PySem.NumText
theorem appL (x y : Str) : (x ++ y).cps.toList = x.cps.toList ++ y.cps.toList := by
  show (x.cps ++ y.cps).toList = _
  simp
theorem numL (m : Nat) : (PySem.Str.ofString (toString ((m : Nat) : Int))).cps.toList = digs m := W.KIN.signs_num m
theorem zfillL {a : Str} {k r : Nat} (h : a.cps.toList = digs r) : (Txt.zfill a (k : Int)).cps.toList = zf k r := by
  have ln : a.length = (digs r).length := by rw [lenL, h]
  unfold Txt.zfill
  by_cases z : (k : Int) ≤ a.length
  · rw [if_pos z, h]
    unfold zf
    rw [show k - (digs r).length = 0 by omega]
    rfl
  · rw [if_neg z]
    obtain ⟨c, rr, e, _⟩ := digs_head r
    have c0 : a.cps[0]? = some c := by
      rw [← Array.getElem?_toList, h, e]
      rfl
    have cd := digs_all r c (by rw [e]; exact List.mem_cons_self)
    have e2 : zfilled a ((k : Int).toNat - a.length) = Builtin.Str.padded a ((k : Int).toNat - a.length) 0 48 := by
      unfold zfilled
      rw [c0]
      split
      · rename_i q
        injection q with q
        omega
      · rename_i q
        injection q with q
        omega
      · rfl
    rw [e2]
    unfold Builtin.Str.padded zf
    show (Array.replicate ((k : Int).toNat - a.length) 48 ++ a.cps ++ Array.replicate 0 48).toList = _
    rw [Array.toList_append, Array.toList_append, Array.toList_replicate, Array.toList_replicate, h, ln]
    simp
theorem nu_le {n d s : Int} (hd : 0 < d) (hs : 0 < s) : ab (nu n d s) ≤ ab n * s := by
  have h := (nu_near (n := n) hd hs).1
  have N0 : 0 ≤ ab n * s := Int.mul_nonneg (ab_nonneg n) (Int.le_of_lt hs)
  generalize ab n * s = N at h N0
  generalize ab (nu n d s) = U at h
  rcases (by omega : N < U ∨ U ≤ N) with z | z
  · have a1 : (N + 1) * d ≤ U * d := Int.mul_le_mul_of_nonneg_right (by omega) (by omega)
    have a2 : N * 1 ≤ N * d := Int.mul_le_mul_of_nonneg_left (by omega) N0
    rw [Int.add_mul, Int.one_mul] at a1
    omega
  · exact z
inductive Pk (H : Hp) : V → Prop
  | ty {v : V} {t : String} (h : TyN H v t) (n : t ≠ "int") : Pk H v
  | out {k : Int} (h : k < 0 ∨ 9 < k) : Pk H (.int k)
theorem Pk.same {H H' : Hp} {v : V} (h : Pk H v) (s : Same H H') : Pk H' v := by
  cases h with
  | ty h n => exact .ty (h.same s) n
  | out h => exact .out h
theorem pad9 {k : Nat} (h : k ≤ 9) : PadOk (k : Int) = true := by
  have : ∀ k ≤ 9, PadOk ((k : Nat) : Int) = true := by decide +kernel
  exact this k h
theorem ten_pos (k : Nat) : (0 : Int) < 10 ^ k := Int.pow_pos (by decide)
theorem ten_small {k : Nat} (h : k ≤ 9) : ((10 : Int) ^ k).natAbs < 2 ^ 40 := by
  have : ∀ k ≤ 9, ((10 : Int) ^ k).natAbs < 2 ^ 40 := by decide +kernel
  exact this k h
end Lc
namespace Lc
open PySem PySem.Spec PyProof.Rows L2 PySem.NumText
theorem cut_first (x : Str) : (cutS x none (some 1)).cps.toList = x.cps.toList.take 1 := by
  have e : HT.sIx x.length 0 none = 0 := rfl
  have e2 : HT.sIx x.length x.length (some 1) = min 1 x.length := rfl
  unfold cutS
  rw [e, e2]
  show (x.cps.toList.drop 0).take (min 1 x.length - 0) = _
  rw [List.drop_zero, Nat.sub_zero, lenL]
  cases x.cps.toList with
  | nil => rfl
  | cons c r => simp
theorem cut_rest (x : Str) : (cutS x (some 1) none).cps.toList = x.cps.toList.drop 1 := by
  have e : HT.sIx x.length 0 (some 1) = min 1 x.length := rfl
  have e2 : HT.sIx x.length x.length none = x.length := rfl
  unfold cutS
  rw [e, e2]
  show (x.cps.toList.drop (min 1 x.length)).take (x.length - min 1 x.length) = _
  rw [lenL]
  cases x.cps.toList with
  | nil => rfl
  | cons c r => simp
theorem str_ext {x y : Str} (h : x.cps.toList = y.cps.toList) : x = y := by
  obtain ⟨⟨l⟩⟩ := x
  obtain ⟨⟨m⟩⟩ := y
  have : l = m := h
  rw [this]
theorem dec_head (u : Int) (k : Nat) : ∃ c r, decB u k = c :: r ∧ 48 ≤ c ∧ c ≤ 57 := by
  obtain ⟨c, r, e, _⟩ := digs_head (u.natAbs / 10 ^ k)
  have h := digs_all (u.natAbs / 10 ^ k) c (by rw [e]; exact List.mem_cons_self)
  exact ⟨c, _, by unfold decB; rw [e]; rfl, h.1, h.2⟩
theorem minus_is {x : Str} {u : Int} {k : Nat} (h : x.cps.toList = decL u k) : decide (V.str (cutS x none (some 1)) = V.str "-") = decide (u < 0) := by
  rw [Bool.eq_iff_iff, decide_eq_true_iff, decide_eq_true_iff]
  have e45 : (PySem.Str.ofString "-").cps.toList = [45] := by decide +kernel
  constructor
  · intro q
    injection q with q
    have z := cut_first x
    rw [q, h, e45] at z
    rcases (by omega : u < 0 ∨ ¬ u < 0) with g | g
    · exact g
    · obtain ⟨c, r, e, h1, h2⟩ := dec_head u k
      unfold decL at z
      rw [if_neg g, e] at z
      have : (45 : Nat) = c := by simpa using z
      omega
  · intro q
    have : cutS x none (some 1) = PySem.Str.ofString "-" := by
      apply str_ext
      rw [cut_first, h, e45]
      unfold decL
      rw [if_pos q]
      rfl
    rw [this]
theorem below_is {x : Str} {u : Int} {k : Nat} (h : x.cps.toList = decL u k) (n : u < 0) : (cutS x (some 1) none).cps.toList = decB u k := by
  rw [cut_rest, h]
  unfold decL
  rw [if_pos n]
  rfl
theorem digs_len_le {m : Nat} (h : m < 2 ^ 1100) : (digs m).length ≤ 1921 := by
  rw [← numL, ← lenL]
  refine int_text_len_1921 ?_
  rw [Int.natAbs_natCast]
  by_cases z : m = 0
  · rw [z]
    decide
  · exact Nat.lt_of_lt_of_le ((Nat.log2_lt z).mpr h) (by decide)
theorem decL_len {u : Int} {k : Nat} (h : u.natAbs < 2 ^ 1100) (k9 : k ≤ 9) : (decL u k).length ≤ 1940 ∧ (decB u k).length ≤ 1939 := by
  have h1 := digs_len_le (Nat.lt_of_le_of_lt (Nat.div_le_self u.natAbs (10 ^ k)) h)
  have h2 : (decB u k).length ≤ 1939 := by
    unfold decB
    rw [List.length_append]
    split
    · simp; omega
    · have := zf_len (p := k) (r := u.natAbs % 10 ^ k) (by omega) (Nat.mod_lt _ (Nat.pow_pos (by decide)))
      rw [List.length_cons, this]
      omega
  refine ⟨?_, h2⟩
  unfold decL
  rw [List.length_append]
  split
  · simp only [List.length_cons, List.length_nil]; omega
  · simp only [List.length_nil]; omega
theorem joinL_toL (ys : List Str) : (Txt.join (PySem.Str.ofString "") ys).cps.toList = (ys.map fun y => y.cps.toList).flatten := by
  have e : Txt.join (PySem.Str.ofString "") ys = Str.join Str.empty ys := (StrLaws.glued_eq_join (PySem.Str.ofString "") ys).trans rfl
  rw [e]
  have key : ∀ ys : List Str, (Str.join Str.empty ys).cps.toList = (ys.map fun y => y.cps.toList).flatten := by
    intro ys
    induction ys with
    | nil => rfl
    | cons x r ih =>
      cases r with
      | nil =>
        show x.cps.toList = _
        simp
      | cons y r =>
        have e : Str.join Str.empty (x :: y :: r) = x ++ Str.empty ++ Str.join Str.empty (y :: r) := rfl
        rw [e, appL, appL, ih]
        simp [Str.empty]
  exact key ys
def ten10 : Str := "0123456789"
theorem index_ten {c : Nat} (h : 48 ≤ c ∧ c ≤ 57) : Builtin.Str.occurrences ten10 ⟨#[c]⟩ 0 ten10.length 1 = [c - 48] := by
  have key : ∀ d < 10, Builtin.Str.occurrences ten10 ⟨#[48 + d]⟩ 0 ten10.length 1 = [d] := by decide +kernel
  have := key (c - 48) (by omega)
  rw [show 48 + (c - 48) = c by omega] at this
  exact this
theorem in_ten {c : Nat} (h : 48 ≤ c ∧ c ≤ 57) : decide (c ∈ ten10.cps.toList) = true := by
  have key : ∀ d < 10, decide (48 + d ∈ ten10.cps.toList) = true := by decide +kernel
  have := key (c - 48) (by omega)
  rw [show 48 + (c - 48) = c by omega] at this
  exact this
end Lc
set_option Elab.async false
set_option linter.all false
set_option maxRecDepth 100000
set_option maxHeartbeats 4000000
namespace K77
open PySem PySem.Spec PyProof.Rows L2 Lc
def top (i : Nat) : Stmt := PySem.Challenge.pw_liveclaims_k77_forms_that_are_not_read.main.body.getD i (.Pass ⟨0, 0, 0, 0⟩)
/-! ## is_whole, common_divisor, is_rational -/
abbrev sWhole : Stmt := top 3
abbrev sCd : Stmt := top 4
abbrev sIsR : Stmt := top 5
def spWhole : Sp := fun vs H Q _ => ∃ (v : V) (t : String), vs = [v] ∧ TyN H v t ∧ Q (.bl (t == "int")) H
def spCd : Sp := fun vs H Q _ => ∃ a b : Int, vs = [.int a, .int b] ∧ 0 ≤ a ∧ 0 ≤ b ∧ Q (.int (gd a b)) H
def spIsR : Sp := fun vs H Q _ => ∃ (v : V) (b : Bool), vs = [v] ∧ Rk H v b ∧ Q (.bl b) H
section
variable {P : Program} {w : World} {K : PySem.W.Frag} {mg : Str → Option Value} {base : Heap} {f C : Addr} {fd : FuncData}
theorem scWhole : FnScope ["value"] ["value"] (defScope sWhole) := ⟨rfl, rfl, rfl, by decide +kernel, rfl, by decide +kernel, by decide +kernel⟩
theorem ok_whole (F : Fun K "is_whole" "is_whole" sWhole f fd) (T : Bt mg) : FnOk P w K mg base CX0 1 f fd ["value"] spWhole := by
  refine F.ok scWhole (fun vs H Q E h => ?_) (fun cdv A outer s H vs Q E hr h => ?_)
  · obtain ⟨v, t, rfl, _⟩ := h
    rfl
  · obtain ⟨v, t, rfl, ty, k⟩ := h
    refine ⟨_, pss_one (ps_ret (pe_and (pe_callB call_isi (by rfl) T.isi boot_isinstance (pa_cons (pv 0) (pa_cons (pe_bltn (v := .ty "int") (by rfl) T.int boot_int rfl) pa_nil)))
      (pe_one (pe_not (pe_callB call_isi (by rfl) T.isi boot_isinstance (pa_cons (pv 0) (pa_cons (pe_bltn (v := .ty "bool") (by rfl) T.bool boot_bool rfl) pa_nil))))))), ?_⟩
    refine ⟨_, rfl, v, .ty "int", _, _, _, rfl, .ty "int", ty.x, kit_int ty.mem, _, rfl, ?_⟩
    refine ite2 (fun hi => ?_) (fun hi => ?_)
    · refine ⟨_, rfl, v, .ty "bool", _, _, _, rfl, .ty "bool", ty.x, kit_bool ty.mem, _, rfl, ?_⟩
      have e : (!(t == "bool")) = (t == "int") := by cases ty <;> first | rfl | exact absurd hi (by decide)
      show Q (.bl (!(t == "bool"))) H
      rw [e]
      exact k
    · have e : false = (t == "int") := by cases ty <;> first | rfl | exact absurd rfl hi
      show Q (.bl false) H
      rw [e]
      exact k
theorem scCd : FnScope ["a", "b"] ["a", "b"] (defScope sCd) := ⟨rfl, rfl, rfl, by decide +kernel, rfl, by decide +kernel, by decide +kernel⟩
theorem ok_cd (F : Fun K "common_divisor" "common_divisor" sCd f fd) : FnOk P w K mg base CX0 1 f fd ["a", "b"] spCd := by
  refine F.ok scCd (fun vs H Q E h => ?_) (fun cdv A outer s H vs Q E hr h => ?_)
  · obtain ⟨a, b, rfl, _⟩ := h
    rfl
  · obtain ⟨a, b, rfl, ha, hb, k⟩ := h
    refine ⟨_, pss_cons (ps_while PassesOwn.never (pt_cmpR op_ne (pv 1) pe_int (nomark _)) (pss_one (ps_par (i := 0) (j := 1) (by rfl) scCd.nd rfl rfl (by decide) rfl rfl (pa_cons (pv 1) (pa_cons (pe_op op_mod (pv 0) (pv 1)) pa_nil)) (by rfl))))
      (pss_one (ps_ret (pv 0))), ?_⟩
    refine ⟨fun m σ H' => ∃ a' b' : Int, σ = [some (.int a'), some (.int b')] ∧ 0 ≤ a' ∧ 0 ≤ b' ∧ b'.toNat = m ∧ gd a' b' = gd a b ∧ H' = H, ⟨_, a, b, rfl, ha, hb, rfl, rfl, rfl⟩, ?_⟩
    rintro m σ H' ⟨a', b', rfl, ha', hb', rfl, e, rfl⟩
    refine ⟨_, rfl, rfl, _, rfl, ?_⟩
    rw [show (decide (V.int b' = V.int 0)) = decide (b' = 0) from dec_int.trans (by rw [Bool.eq_iff_iff]; simp)]
    by_cases z : b' = 0
    · rw [decide_eq_true z]
      refine iteF ⟨_, rfl, ?_⟩
      rw [← e, z, gd_zero ha'] at k
      exact k
    · rw [decide_eq_false z]
      have pb : 0 < b' := by omega
      refine iteT ⟨fun σ' H'' => ∃ a2 b2 : Int, σ' = [some (.int a2), some (.int b2)] ∧ 0 ≤ a2 ∧ 0 ≤ b2 ∧ b2.toNat < b'.toNat ∧ gd a2 b2 = gd a b ∧ H'' = H', ?_, ?_⟩
      · rintro σ' H'' ⟨a2, b2, h1, h2, h3, h4, h5, h6⟩
        exact ⟨_, h4, a2, b2, h1, h2, h3, rfl, h5, h6⟩
      · refine ⟨_, rfl, _, rfl, _, rfl, _, _, rfl, rfl, pb, _, _, rfl, b', a' % b', rfl, hb', Int.emod_nonneg _ (by omega), ?_, ?_, rfl⟩
        · have := Int.emod_lt_of_pos a' pb
          have := Int.emod_nonneg a' (by omega : b' ≠ 0)
          omega
        · rw [gd_step ha' pb]
          exact e
theorem scIsR : FnScope ["value", "n", "d"] ["value"] (defScope sIsR) := ⟨rfl, rfl, rfl, by decide +kernel, rfl, by decide +kernel, by decide +kernel⟩
theorem ok_isr {fW fC : Addr} {fdW fdC : FuncData} (F : Fun K "is_rational" "is_rational" sIsR f fd) (T : Bt mg) (GW : FnOk P w K mg base CX0 1 fW fdW ["value"] spWhole) (mW : mg "is_whole" = some (.ref fW)) (kW : PySem.W.keepIn K (.ref fW) = true) (bW : Binds K fdW ["value"] [])
    (GC : FnOk P w K mg base CX0 1 fC fdC ["a", "b"] spCd) (mC : mg "common_divisor" = some (.ref fC)) (kC : PySem.W.keepIn K (.ref fC) = true) (bC : Binds K fdC ["a", "b"] []) : FnOk P w K mg base CX0 2 f fd ["value"] spIsR := by
  refine F.ok scIsR (fun vs H Q E h => ?_) (fun cdv A outer s H vs Q E hr h => ?_)
  · obtain ⟨v, b, rfl, _⟩ := h
    rfl
  · obtain ⟨v, b, rfl, hk, k⟩ := h
    refine ⟨_, pss_cons (ps_if (PW.pt (pw_or (pt_not (pt_val (pe_callB call_isi (by rfl) T.isi boot_isinstance (pa_cons (pv 0) (pa_cons (pe_bltn (v := .ty "tuple") (by rfl) T.tuple boot_tuple rfl) pa_nil)))))
        (pw_or1 (pt_cmpR op_ne (pe_callB call_len_seq (by rfl) T.len PySem.boot_len (pa_cons (pv 0) pa_nil)) pe_int (nomark _))))) (pss_one (ps_ret pe_bl)) pss_nil)
      (pss_cons (ps_asg (pv 0) (pg_tup rfl (pgs_cons (pg_name (i := 1) scIsR.nd rfl (.inl rfl)) (pgs_cons (pg_name (i := 2) scIsR.nd rfl (.inl rfl)) pgs_nil))))
      (pss_cons (ps_if (PW.pt (pw_or (pt_not (pt_val (pe_call GW hr (by rfl) mW kW bW .nil pass0 (pa_cons (pv 1) pa_nil)))) (pw_or (pt_not (pt_val (pe_call GW hr (by rfl) mW kW bW .nil pass0 (pa_cons (pv 2) pa_nil))))
        (pw_or1 (pt_cmpR op_lt (pv 2) pe_int (nomark _)))))) (pss_one (ps_ret pe_bl)) pss_nil)
      (pss_one (ps_ret (pe_cmpR op_eq (pe_call GC hr (by rfl) mC kC bC .nil pass0 (pa_cons (pe_callB call_abs (by rfl) T.abs boot_abs (pa_cons (pv 1) pa_nil)) (pa_cons (pv 2) pa_nil))) pe_int (nomark _)))))), ?_⟩
    cases hk with
    | @other _ t ty n =>
      refine ⟨_, rfl, v, .ty "tuple", _, _, _, rfl, .ty "tuple", ty.x, kit_tuple ty.mem, _, rfl, ?_⟩
      have e : (t == "tuple") = false := by simpa using n
      rw [e]
      exact iteT (iteT k)
    | @len a xs e n =>
      refine ⟨_, rfl, .ref a, .ty "tuple", _, _, _, rfl, .ty "tuple", (TyN.tup e).x, kit_tuple (by decide), _, rfl, ?_⟩
      refine iteF ⟨_, rfl, a, xs, rfl, .inr (SqT.of e), rfl, _, rfl, ?_⟩
      have z : decide (V.int (xs.length : Int) = V.int 2) = false := decide_eq_false (fun q => n (by injection q with q; omega))
      rw [z]
      exact iteT k
    | @pair a x y tx ty e hx hy =>
      refine ⟨_, rfl, .ref a, .ty "tuple", _, _, _, rfl, .ty "tuple", (TyN.tup e).x, kit_tuple (by decide), _, rfl, ?_⟩
      refine iteF ⟨_, rfl, a, _, rfl, .inr (SqT.of e), rfl, _, rfl, ?_⟩
      refine iteF ?_
      refine ⟨_, rfl, a, _, rfl, SqT.of e, rfl, _, _, rfl, _, _, rfl, rfl, ?_⟩
      refine ⟨_, rfl, x, tx, rfl, hx, _, rfl, ?_⟩
      by_cases ix : tx = "int"
      · obtain ⟨n, rfl⟩ := hx.isInt ix
        subst ix
        · refine iteF ⟨_, rfl, y, ty, rfl, hy, _, rfl, ?_⟩
          by_cases iy : ty = "int"
          · obtain ⟨d, rfl⟩ := hy.isInt iy
            subst iy
            · refine iteF ⟨_, rfl, _, _, rfl, rfl, _, rfl, ?_⟩
              by_cases hd : d < 1
              · rw [decide_eq_true hd]
                have z : ratB (.int n) (.int d) = false := by
                  show (decide (0 < d) && _) = false
                  rw [decide_eq_false (by omega : ¬ 0 < d)]
                  rfl
                rw [z] at k
                exact iteT k
              · rw [decide_eq_false hd]
                refine iteF ?_
                refine ⟨_, rfl, n, rfl, _, rfl, _, d, rfl, by split <;> omega, by omega, rfl, ?_⟩
                have z : ratB (.int n) (.int d) = decide (V.int (gd (if n < 0 then -n else n) d) = V.int 1) := by
                  show (decide (0 < d) && decide (gd n d = 1)) = _
                  rw [decide_eq_true (by omega : 0 < d), gd_abs]
                  rw [Bool.eq_iff_iff]
                  simp
                rw [z] at k
                exact k
          · have z : (ty == "int") = false := by simpa using iy
            have z2 : ratB (.int n) y = false := by
              cases hy <;> first | rfl | exact absurd rfl iy
            rw [z2] at k
            rw [z]
            exact iteT (iteT k)
      · have z : (tx == "int") = false := by simpa using ix
        have z2 : ratB x y = false := by
          cases hx <;> first | rfl | exact absurd rfl ix
        rw [z2] at k
        rw [z]
        exact iteT (iteT k)
end
abbrev sTape : Stmt := top 33
section
variable {P : Program} {w : World} {K : PySem.W.Frag} {mg : Str → Option Value} {base : Heap} {f : Addr} {fd : FuncData}
theorem scTape : FnScope ["_law_script"] ["_law_script"] (defScope sTape) := ⟨rfl, rfl, rfl, by decide +kernel, rfl, by decide +kernel, by decide +kernel⟩
theorem ok_tape (F : Fun K "_law_tape" "_law_tape" sTape f fd) (T : Bt mg) : FnOk P w K mg base CX0 1 f fd ["_law_script"] (spTape K) := by
  refine F.ok scTape (fun vs H Q E h => ?_) (fun cdv A outer s H vs Q E hr h => ?_)
  · obtain ⟨a, ns, rfl, _⟩ := h
    rfl
  · obtain ⟨a, ns, rfl, hS, k⟩ := h
    refine ⟨_, pss_one (ps_ret (pe_lst (pa_cons (pe_callTy call_list_of (by rfl) T.list boot_list (pa_cons (pe_slice sl_list (pv 0) po_none (po_some pe_int)) pa_nil)) (pa_cons pe_int (pa_cons pe_int (pa_cons pe_int pa_nil)))))), ?_⟩
    obtain ⟨ms, e⟩ := cut_ints ns none (some 63)
    refine ⟨_, rfl, _, rfl, a, _, rfl, hS, fun p hp => ⟨p, _, rfl, .inl (SqL.of upd_same), fun l hl => ⟨by show 4 ≤ sizeLine; decide, fun t ht => ?_⟩⟩⟩
    have s1 : Same H (upd H p (.lst (cutV (ns.map V.int) none (some 63)))) := Same.upd hp
    have s2 := Same.upd (o := .lst (cutV (ns.map V.int) none (some 63))) hl
    have s3 := Same.upd (o := .lst [.ref l, .int 0, .int 0, .int 17]) ht
    refine k t _ ((s1.trans s2).trans s3) ((s1.trans s2).free ht) ⟨l, ms, 0, 0, 17, upd_same, ?_, by decide, by decide, by decide, by decide⟩
    rw [← e]
    exact s3 _ _ upd_same
end
abbrev sDraw : Stmt := top 34
section
variable {P : Program} {w : World} {K : PySem.W.Frag} {mg : Str → Option Value} {base : Heap} {f : Addr} {fd : FuncData}
theorem scDraw : FnScope ["_law_tape_here", "_law_many", "_law_digit", "_law_cell", "_law_near"] ["_law_tape_here", "_law_many"] (defScope sDraw) := ⟨rfl, rfl, rfl, by decide +kernel, rfl, by decide +kernel, by decide +kernel⟩
theorem ok_draw (F : Fun K "_law_draw" "_law_draw" sDraw f fd) (T : Bt mg) : FnOk P w K mg base CX0 1 f fd ["_law_tape_here", "_law_many"] spDrawL := by
  refine F.ok scDraw (fun vs H Q E h => ?_) (fun cdv A outer s H vs Q E hr h => ?_)
  · obtain ⟨t, l, m, rfl, _⟩ := h
    rfl
  · obtain ⟨t, l, m, rfl, ⟨ns, pos, rest, mix, ht, hl, p0, r0, m0, m1⟩, hm, hm2, k⟩ := h
    refine ⟨_, pss_cons (ps_if (pt_cmpR op_gt (pe_ix ix_list (pv 0) pe_int (fun _ _ => rfl)) pe_int (nomark _))
        (pss_cons (ps_set (i := 2) scDraw.nd rfl (Or.inl rfl) (pe_op op_mod (pe_ix ix_list (pv 0) pe_int (fun _ _ => rfl)) (pv 1)))
        (pss_cons (ps_asg (pe_op op_fdivW (pe_ix ix_list (pv 0) pe_int (fun _ _ => rfl)) (pv 1)) (pg_sub (pv 0) pe_int set_list)) (pss_one (ps_ret (pv 2))))) pss_nil)
      (pss_cons (ps_set (i := 3) scDraw.nd rfl (Or.inl rfl) pe_int)
      (Evl.pss_cut (ps_if (pt_cmpR op_lt (pe_ix ix_list (pv 0) pe_int (fun _ _ => rfl)) (pe_callB call_len_seq (by rfl) T.len PySem.boot_len (pa_cons (pe_ix ix_list (pv 0) pe_int (fun _ _ => rfl)) pa_nil)) (nomark _))
        (pss_one (ps_set (i := 3) scDraw.nd rfl (Or.inl rfl) (pe_ix ix_list (pe_ix ix_list (pv 0) pe_int (fun _ _ => rfl)) (pe_ix ix_list (pv 0) pe_int (fun _ _ => rfl)) (fun _ _ => rfl)))) pss_nil)
      (pss_cons (ps_asg (pe_op op_add (pe_ix ix_list (pv 0) pe_int (fun _ _ => rfl)) pe_int) (pg_sub (pv 0) pe_int set_list))
      (pss_cons (ps_if (pt_cmpR op_ge (pv 3) (pe_op op_pow pe_int pe_int) (nomark _))
        (pss_cons (ps_asg (pe_op op_fdivW (pv 3) (pv 1)) (pg_sub (pv 0) pe_int set_list)) (pss_one (ps_ret (pe_op op_mod (pv 3) (pv 1))))) pss_nil)
      (pss_cons (ps_set (i := 4) scDraw.nd rfl (Or.inl rfl) (pe_op op_add (pe_op op_add (pe_op op_mod (pv 3) pe_int) (pe_op op_mul pe_int (pe_ix ix_list (pv 0) pe_int (fun _ _ => rfl)))) pe_int))
      (pss_cons (ps_asg (pe_op op_mod (pe_op op_add (pe_op op_mul (pe_ix ix_list (pv 0) pe_int (fun _ _ => rfl)) pe_int) (pv 4)) pe_int) (pg_sub (pv 0) pe_int set_list))
      (pss_one (ps_ret (pe_op op_mod (pe_op op_mod (pe_op op_pow (pe_ix ix_list (pv 0) pe_int (fun _ _ => rfl)) pe_int) pe_int) (pv 1)))))))))), ?_⟩
    have nl := tape_ne ht hl
    have dv : ∀ c : Int, CDivW c m := fun c => ⟨hm, log_lt' hm2⟩
    have M0 : (0 : Int) < 2147483647 := by decide
    refine ⟨_, rfl, t, _, _, _, rfl, rfl, SqL.of ht, rfl, _, _, rfl, rfl, _, rfl, ?_⟩
    refine ite2 (fun z => ?_) (fun z => ?_)
    · have z' : 0 < rest := of_decide_eq_true z
      refine ⟨_, rfl, t, _, _, _, rfl, rfl, SqL.of ht, rfl, _, rfl, _, _, rfl, rfl, hm, ?_⟩
      refine ⟨_, rfl, t, _, _, _, rfl, rfl, SqL.of ht, rfl, _, rfl, _, _, rfl, rfl, dv _, _, rfl, t, _, _, 2, rfl, rfl, ht, rfl, ?_⟩
      refine ⟨_, rfl, ?_⟩
      refine k _ _ (Int.emod_nonneg _ (by omega)) (Int.emod_lt_of_pos _ hm) ⟨ns, pos, rest / m, mix, upd_same, by rw [upd_ne nl]; exact hl, p0, Int.ediv_nonneg r0 (by omega), m0, m1⟩ SameB.upd
    · refine ⟨fun σ' H' => ∃ c : Int, σ' = [some (.ref t), some (.int m), none, some (.int c), none] ∧ H' = H, ?_, ?_⟩
      · refine ⟨_, rfl, t, _, _, _, rfl, rfl, SqL.of ht, rfl, _, rfl, t, _, _, _, rfl, rfl, SqL.of ht, rfl, l, _, rfl, .inl (SqL.of hl), _, _, rfl, rfl, _, rfl, ?_⟩
        refine ite2 (fun y => ?_) (fun y => ?_)
        · have y' : pos < ((ns.map V.int).length : Int) := of_decide_eq_true y
          rw [List.length_map] at y'
          have g : (ns.map V.int)[pos.toNat]? = some (.int (ns[pos.toNat]'(by omega))) := by
            rw [List.getElem?_map, List.getElem?_eq_getElem (by omega : pos.toNat < ns.length)]
            rfl
          exact ⟨_, rfl, t, _, _, _, rfl, rfl, SqL.of ht, rfl, _, rfl, t, _, _, _, rfl, rfl, SqL.of ht, rfl, l, _, _, _, rfl, rfl, SqL.of hl, at_of (by omega) g, _, rfl, rfl⟩
        · exact ⟨0, rfl, rfl⟩
      · rintro σ' H' ⟨c, rfl, rfl⟩
        refine ⟨_, rfl, t, _, _, _, rfl, rfl, SqL.of ht, rfl, _, _, rfl, rfl, _, rfl, t, _, _, 1, rfl, rfl, ht, rfl, ?_⟩
        refine ⟨_, rfl, _, _, rfl, rfl, ⟨by decide, by decide, by decide⟩, _, _, rfl, rfl, _, rfl, ?_⟩
        refine ite2 (fun y => ?_) (fun y => ?_)
        · have y' : (10 : Int) ^ (18 : Int).toNat ≤ c := of_decide_eq_true y
          have c0 : 0 ≤ c := Int.le_trans (by decide) y'
          refine ⟨_, rfl, _, rfl, _, _, rfl, rfl, dv _, _, rfl, t, _, _, 2, rfl, rfl, upd_same, rfl, ?_⟩
          refine ⟨_, rfl, _, rfl, _, _, rfl, rfl, hm, ?_⟩
          exact k _ _ (Int.emod_nonneg _ (by omega)) (Int.emod_lt_of_pos _ hm) ⟨ns, pos + 1, c / m, mix, upd_same, by rw [upd_ne nl, upd_ne nl]; exact hl, by omega, Int.ediv_nonneg c0 (by omega), m0, m1⟩ (SameB.upd.trans SameB.upd)
        · refine ⟨_, rfl, _, _, rfl, rfl, M0, _, rfl, t, _, _, _, rfl, rfl, SqL.of upd_same, rfl, _, _, rfl, rfl, .inl ⟨by decide, by decide⟩, _, _, rfl, rfl, _, _, rfl, rfl, ?_⟩
          refine ⟨_, rfl, t, _, _, _, rfl, rfl, SqL.of upd_same, rfl, _, _, rfl, rfl, .inl ⟨by omega, by omega⟩, _, rfl, _, _, rfl, rfl, _, _, rfl, rfl, M0, _, rfl, t, _, _, 3, rfl, rfl, upd_same, rfl, ?_⟩
          have q0 := Int.emod_nonneg (mix * 48271 + (c % 2147483647 + 7919 * (pos + 1) + 11)) (by decide : (2147483647 : Int) ≠ 0)
          have q1 := Int.emod_lt_of_pos (mix * 48271 + (c % 2147483647 + 7919 * (pos + 1) + 11)) M0
          refine ⟨_, rfl, t, _, _, _, rfl, rfl, SqL.of upd_same, rfl, _, _, rfl, rfl, ⟨by decide, by decide, ?_⟩, _, _, rfl, rfl, M0, _, rfl, _, _, rfl, rfl, hm, ?_⟩
          · omega
          · exact k _ _ (Int.emod_nonneg _ (by omega)) (Int.emod_lt_of_pos _ hm) ⟨ns, pos + 1, rest, _, upd_same, by rw [upd_ne nl, upd_ne nl]; exact hl, by omega, r0, q0, q1⟩ (SameB.upd.trans SameB.upd)
end
abbrev sLst : Stmt := top 35
section
variable {P : Program} {w : World} {K : PySem.W.Frag} {mg : Str → Option Value} {base : Heap} {f : Addr} {fd : FuncData}
theorem scLst : FnScope ["_law_n", "_law_d", "_law_a", "_law_b", "_law_rest"] ["_law_n", "_law_d"] (defScope sLst) := ⟨rfl, rfl, rfl, by decide +kernel, rfl, by decide +kernel, by decide +kernel⟩
theorem ok_lst (F : Fun K "_law_lowest" "_law_lowest" sLst f fd) (T : Bt mg) : FnOk P w K mg base CX0 1 f fd ["_law_n", "_law_d"] spLowest := by
  refine F.ok scLst (fun vs H Q E h => ?_) (fun cdv A outer s H vs Q E hr h => ?_)
  · obtain ⟨n, d, rfl, _⟩ := h
    rfl
  · obtain ⟨n, d, rfl, hd, hd2, k⟩ := h
    refine ⟨_, pss_cons (ps_set (i := 2) scLst.nd rfl (Or.inl rfl) (pe_callB call_abs (by rfl) T.abs boot_abs (pa_cons (pv 0) pa_nil)))
      (pss_cons (ps_set (i := 3) scLst.nd rfl (Or.inl rfl) (pv 1))
      (pss_cons (ps_while PassesOwn.never (pt_cmpR op_gt (pv 3) pe_int (nomark _))
        (pss_cons (ps_set (i := 4) scLst.nd rfl (Or.inl rfl) (pe_op op_mod (pv 2) (pv 3))) (pss_cons (ps_set (i := 2) scLst.nd rfl (Or.inl rfl) (pv 3)) (pss_one (ps_set (i := 3) scLst.nd rfl (Or.inl rfl) (pv 4))))))
      (pss_one (ps_ret (pe_tup (pa_cons (pe_op op_fdivW (pv 0) (pv 2)) (pa_cons (pe_op op_fdivW (pv 1) (pv 2)) pa_nil))))))), ?_⟩
    refine ⟨_, rfl, n, rfl, _, rfl, ?_⟩
    refine ⟨fun m σ H' => ∃ (a' b' : Int) (r : Option V), σ = [some (.int n), some (.int d), some (.int a'), some (.int b'), r] ∧ 0 ≤ a' ∧ 0 ≤ b' ∧ b'.toNat = m ∧ gd a' b' = gd n d ∧ H' = H, ⟨_, _, d, none, rfl, by split <;> omega, by omega, rfl, gd_abs n d, rfl⟩, ?_⟩
    rintro m σ H' ⟨a', b', r, rfl, ha', hb', rfl, e, rfl⟩
    refine ⟨_, rfl, _, _, rfl, rfl, _, rfl, ?_⟩
    refine ite2 (fun z => ?_) (fun z => ?_)
    · have pb : 0 < b' := of_decide_eq_true z
      refine ⟨fun σ' H'' => ∃ (a2 b2 : Int) (r : Option V), σ' = [some (.int n), some (.int d), some (.int a2), some (.int b2), r] ∧ 0 ≤ a2 ∧ 0 ≤ b2 ∧ b2.toNat < b'.toNat ∧ gd a2 b2 = gd n d ∧ H'' = H', ?_, ?_⟩
      · rintro σ' H'' ⟨a2, b2, r2, h1, h2, h3, h4, h5, h6⟩
        exact ⟨_, h4, a2, b2, r2, h1, h2, h3, rfl, h5, h6⟩
      · refine ⟨_, rfl, _, rfl, _, _, rfl, rfl, pb, _, rfl, _, rfl, b', a' % b', _, rfl, hb', Int.emod_nonneg _ (by omega), ?_, ?_, rfl⟩
        · have := Int.emod_lt_of_pos a' pb
          have := Int.emod_nonneg a' (by omega : b' ≠ 0)
          omega
        · rw [gd_step ha' pb]
          exact e
    · have zb : ¬ 0 < b' := fun q => z (decide_eq_true q)
      have z0 : b' = 0 := by omega
      rw [z0, gd_zero ha'] at e
      subst e
      have g0 : 0 < gd n d := gd_pos (by omega)
      have gl : (gd n d).natAbs < 2 ^ 4000 := Nat.lt_of_le_of_lt (gd_natAbs_le (by omega)) hd2
      exact ⟨_, rfl, _, rfl, _, _, rfl, rfl, ⟨g0, log_lt' gl⟩, _, rfl, _, rfl, _, _, rfl, rfl, ⟨g0, log_lt' gl⟩, by show 2 ≤ sizeLine; decide, k⟩
end
abbrev sName : Stmt := top 11
section
variable {P : Program} {w : World} {K : PySem.W.Frag} {mg : Str → Option Value} {base : Heap} {f : Addr} {fd : FuncData} {u1 u2 : Tok} {u3 : Tok}
theorem scName : FnScope ["value", "sign"] ["value"] (defScope sName) := ⟨rfl, rfl, rfl, by decide +kernel, rfl, by decide +kernel, by decide +kernel⟩
theorem ok_name (F : Fun K "is_name" "is_name" sName f fd) (T : Bt mg) (m1 : mg "LETTERS" = some (.str letters u1)) (m2 : mg "NAME_SIGNS" = some (.str signs u2)) (m3 : mg "LONGEST_NAME" = some (.int 12 u3)) : FnOk P w K mg base CX0 1 f fd ["value"] spName := by
  refine F.ok scName (fun vs H Q E h => ?_) (fun cdv A outer s H vs Q E hr h => ?_)
  · obtain ⟨v, t, rfl, _⟩ := h
    rfl
  · obtain ⟨v, t, rfl, ty, hl, k⟩ := h
    refine ⟨_, pss_cons (ps_if (PW.pt (pw_or (pt_not (pt_val (pe_callB call_isi (by rfl) T.isi boot_isinstance (pa_cons (pv 0) (pa_cons (pe_bltn (v := .ty "str") (by rfl) T.str boot_str rfl) pa_nil))))) (pw_or (pt_cmpR op_eq (pv 0) pe_str (nomark _))
        (pw_or1 (pt_cmpR op_gt (pe_callB call_len_str (by rfl) T.len PySem.boot_len (pa_cons (pv 0) pa_nil)) (pe_glob (v := .int 12) (by rfl) m3 ⟨_, rfl⟩) (nomark _)))))) (pss_one (ps_ret pe_bl)) pss_nil)
      (pss_one (ps_ret (pe_and (pe_cmpR op_in_sign (pe_ix ix_str (pv 0) pe_int (fun _ _ => rfl)) (pe_glob (v := .str letters) (by rfl) m1 ⟨_, rfl⟩) (by rfl))
        (pe_one (pe_callB (cr_all rfl) (by rfl) T.all (by decide +kernel) (pa_cons (pe_lc (own := [("sign", 1)]) (g := gName 1) (tt := tYes) (te := tOp rInS (tVar 1) (tC (.str signs))) (by rfl) scName.nd (pi_str (pv 0)) (blkOk_by (own := [("sign", 1)]) (N := ["value", "sign"]) (sc := defScope sName) (by decide +kernel))
          (fun _ _ _ _ _ => pg_name (i := 1) scName.nd rfl (Or.inl rfl)) (fun _ _ _ _ _ => pts_nil) (fun _ _ _ _ _ => pe_cmpR op_in_sign (pv 1) (pe_glob (v := .str signs) (by rfl) m2 ⟨_, rfl⟩) (by rfl))) pa_nil)))))), ?_⟩
    refine ⟨_, rfl, v, .ty "str", _, _, _, rfl, .ty "str", ty.x, kit_str ty.mem, _, rfl, ?_⟩
    by_cases ts : t = "str"
    · obtain ⟨x, rfl⟩ := ty.isStr ts
      subst ts
      have hx := hl x rfl
      refine iteF ⟨_, rfl, rfl, _, rfl, ?_⟩
      rw [dec_empty]
      cases e : x.cps.toList with
      | nil =>
        rw [decide_eq_true rfl]
        have k0 := k H (Same.refl H)
        rw [name_nil e] at k0
        exact iteT (iteT k0)
      | cons c r =>
        rw [decide_eq_false (by simp)]
        refine iteF ⟨_, rfl, x, rfl, hx, _, _, rfl, rfl, _, rfl, ?_⟩
        rw [lenL x]
        by_cases l12 : x.cps.toList.length ≤ 12
        · rw [decide_eq_false (by omega)]
          refine iteF ?_
          have ni := name_is e l12
          refine ⟨_, rfl, x, 0, c, rfl, rfl, hx, (show atI x.cps.toList ((0 : Nat) : Int) = some c from atI_nat (by rw [e]; rfl)), c, letters, rfl, rfl, _, rfl, ?_⟩
          show if inL c = true then _ else _
          refine ite2 (fun z => ?_) (fun z => ?_)
          · refine ⟨_, rfl, x, rfl, fun D hD => lc_it walk_str (fun i H' => H' = upd H D (.lst ((x.cps.toList.take i).map fun c => .bl (inS c)))) rfl (fun _ _ _ _ => True.intro) ?_ ?_⟩
            · rintro i y H' H'' hi rfl ⟨rfl, c', hc', rfl⟩
              refine ⟨rfl, ?_⟩
              change tOp rInS (tVar 1) (tC (.str signs)) _ _ _
              refine ⟨_, rfl, c', signs, rfl, rfl, _, upd_same, ?_, ?_⟩
              · rw [List.length_map, List.length_take]
                exact Nat.lt_of_le_of_lt (Nat.min_le_right _ _) (Nat.lt_of_le_of_lt l12 (by decide))
              · rw [upd_upd]
                exact congrArg (fun z => upd H D (.lst z)) (grow hc' inS)
            · rintro H' rfl
              have ez : x.cps.size = x.cps.toList.length := by simp
              refine ⟨D, x.cps.toList.map inS, rfl, SqL.of (by rw [upd_same, ez, List.take_length, List.map_map]; rfl), ?_⟩
              have k1 := k _ (Same.upd (o := .lst ((x.cps.toList.take x.cps.size).map fun c => .bl (inS c))) hD)
              rw [ni, z, ← e] at k1
              rw [List.all_map]
              exact k1
          · have k0 := k H (Same.refl H)
            rw [ni, show inL c = false by simpa using z] at k0
            exact k0
        · rw [decide_eq_true (by omega)]
          have k0 := k H (Same.refl H)
          rw [name_long l12] at k0
          exact iteT k0
    · have z : (t == "str") = false := by simpa using ts
      rw [z]
      have k0 := k H (Same.refl H)
      have nb : nameB v = false := by cases ty <;> first | rfl | exact absurd rfl ts
      rw [nb] at k0
      exact iteT (iteT k0)
end
end K77
set_option Elab.async false
set_option linter.all false
set_option maxRecDepth 100000
set_option maxHeartbeats 4000000
namespace K77
open PySem PySem.Spec PyProof.Rows L2 Lc
def spLNm : Sp := fun vs H Q _ => ∃ (t l : Addr), vs = [.ref t] ∧ TapeL l H t ∧ ∀ (x : Str) (H' : Hp), Sh 12 x → nameB (.str x) = true → TapeL l H' t → SameB t H H' → Q (.str x) H'
abbrev sLnm : Stmt := top 37
section
variable {P : Program} {w : World} {K : PySem.W.Frag} {mg : Str → Option Value} {base : Heap} {f fD : Addr} {fd fdD : FuncData}
theorem scLnm : FnScope ["_law_tape_here", "_law_letters", "_law_size", "_law_place", "_law_sign", "_law_k"] ["_law_tape_here"] (defScope sLnm) := ⟨rfl, rfl, rfl, by decide +kernel, rfl, by decide +kernel, by decide +kernel⟩
theorem ok_lnm (F : Fun K "_law_name" "_law_name" sLnm f fd) (T : Bt mg) (GD : FnOk P w K mg base CX0 1 fD fdD ["_law_tape_here", "_law_many"] spDrawL) (mD : mg "_law_draw" = some (.ref fD)) (kD : PySem.W.keepIn K (.ref fD) = true) (bD : Binds K fdD ["_law_tape_here", "_law_many"] []) :
    FnOk P w K mg base CX0 2 f fd ["_law_tape_here"] spLNm := by
  refine F.ok scLnm (fun vs H Q E h => ?_) (fun cdv A outer s H vs Q E hr h => ?_)
  · obtain ⟨t, l, rfl, _⟩ := h
    rfl
  · obtain ⟨t, l, rfl, hT, k⟩ := h
    replace hT : TapeL l H t := hT
    refine ⟨_, pss_cons (ps_set (i := 1) scLnm.nd rfl (Or.inr rfl) pe_str)
      (pss_cons (ps_set (i := 2) scLnm.nd rfl (Or.inl rfl) (pe_op op_add pe_int (pe_call GD hr (by rfl) mD kD bD .nil pass0 (pa_cons (pv 0) (pa_cons pe_int pa_nil)))))
      (pss_cons (ps_if (pt_cmpR op_eq (pe_call GD hr (by rfl) mD kD bD .nil pass0 (pa_cons (pv 0) (pa_cons pe_int pa_nil))) pe_int (nomark _))
        (pss_cons (ps_set (i := 3) scLnm.nd rfl (Or.inl rfl) (pe_call GD hr (by rfl) mD kD bD .nil pass0 (pa_cons (pv 0) (pa_cons (pv 2) pa_nil))))
        (pss_cons (ps_set (i := 4) scLnm.nd rfl (Or.inl rfl) (pe_ix ix_str (pv 1) (pe_call GD hr (by rfl) mD kD bD .nil pass0 (pa_cons (pv 0) (pa_cons (pe_op op_add pe_int (pe_op op_mul pe_int (pe_callTy call_int1 (by rfl) T.int boot_int (pa_cons (pe_cmpR op_gt (pv 3) pe_int (nomark _)) pa_nil)))) pa_nil))) (fun _ _ => rfl)))
        (pss_one (ps_ret (pe_op op_add_str (pe_op op_add_str (pe_op op_mulS pe_str (pv 3)) (pv 4)) (pe_op op_mulS pe_str (pe_op op_sub (pe_op op_sub (pv 2) pe_int) (pv 3)))))))) pss_nil)
      (pss_one (ps_ret (pe_join pe_str (pe_lc (own := [("_law_k", 5)]) (g := gName 5) (tt := tYes) (te := tOp rIxS (tVar 1) (tCall spDrawL [] E0 (tCons (tVar 0) (tCons (tOp (rI0 fun i j => .int (i + j)) (tC (.int 26)) (tOp (rI CMul fun i j => .int (i * j)) (tC (.int 10)) (tCB (fun xs H Q => (∃ i, xs = [.int i] ∧ Q (.int i) H) ∨ ∃ k, xs = [.bl k] ∧ Q (.int (if k then 1 else 0)) H) (tCons (tOp (rI0 fun i j => .bl (decide (j < i))) (tVar 5) (tC (.int 0))) tNil)))) tNil)))) (by rfl) scLnm.nd (pi_range1 (by rfl) T.range (pa_cons (pv 2) pa_nil))
        (blkOk_by (own := [("_law_k", 5)]) (N := ["_law_tape_here", "_law_letters", "_law_size", "_law_place", "_law_sign", "_law_k"]) (sc := defScope sLnm) (by decide +kernel)) (fun _ _ _ _ _ => pg_name (i := 5) scLnm.nd rfl (Or.inl rfl)) (fun _ _ _ _ _ => pts_nil)
        (fun _ _ _ _ _ => pe_ix ix_str (pv 1) (pe_call GD hr (by rfl) mD kD bD .nil pass0 (pa_cons (pv 0) (pa_cons (pe_op op_add pe_int (pe_op op_mul pe_int (pe_callTy call_int1 (by rfl) T.int boot_int (pa_cons (pe_cmpR op_gt (pv 5) pe_int (nomark _)) pa_nil)))) pa_nil))) (fun _ _ => rfl)))))))), ?_⟩
    have big : ∀ z : Int, 0 ≤ z → z ≤ 1000 → z.natAbs < 2 ^ 4000 := fun z h1 h2 => big1000 h1 h2
    have sl : (signs.cps.toList.length : Int) = 36 := by rw [signs_len]; rfl
    have sz : signs.length ≤ sizeLine := by rw [lenL, signs_len]; decide
    refine ⟨_, rfl, t, l, _, rfl, hT, by decide, big _ (by decide) (by decide), fun k1 H1 u1 v1 T1 S1 => ⟨_, _, rfl, rfl, ?_⟩⟩
    refine ⟨_, rfl, t, l, _, rfl, T1, by decide, big _ (by decide) (by decide), fun k2 H2 u2 v2 T2 S2 => ⟨rfl, _, rfl, ?_⟩⟩
    refine ite2 (fun _ => ?_) (fun _ => ?_)
    · refine ⟨_, rfl, _, rfl, t, l, _, rfl, T2, by omega, big _ (by omega) (by omega), fun k3 H3 u3 v3 T3 S3 => ?_⟩
      refine ⟨_, rfl, _, rfl, _, rfl, _, _, rfl, rfl, .inr ⟨_, rfl, _, _, rfl, rfl, .inl ⟨by decide, by decide⟩, _, _, rfl, rfl, t, l, _, rfl, T3, by split <;> decide, big _ (by split <;> decide) (by split <;> decide), fun k4 H4 u4 v4 T4 S4 => ?_⟩⟩
      obtain ⟨c, hc, mc, isc, ilc⟩ := sgn_at (i := k4) u4 (by split at v4 <;> omega)
      refine ⟨signs, k4, c, rfl, rfl, sz, hc, ?_⟩
      have m1 : Sh k3.toNat (Txt.mul (PySem.Str.ofString "a") k3) := sh_mul sh_a (Nat.le_refl _) (Nat.le_refl _)
      have m2 : Sh 1 (⟨#[c]⟩ : Str) := sh_one (signs_ok c mc)
      have m3 : Sh (1 + k1 - 1 - k3).toNat (Txt.mul (PySem.Str.ofString "a") (1 + k1 - 1 - k3)) := sh_mul sh_a (Nat.le_refl _) (Nat.le_refl _)
      have ss : (100 : Nat) ≤ sizeLine := by decide
      refine ⟨_, rfl, _, _, rfl, rfl, mul_ok a_size (by omega) (by omega), _, rfl, _, _, rfl, rfl, ?_, _, rfl, _, _, rfl, rfl, _, rfl, _, _, rfl, rfl, _, _, rfl, rfl, mul_ok a_size (by omega) (by omega), _, _, rfl, rfl, ?_, ?_⟩
      · have := sh_len m1
        have := sh_len m2
        omega
      · have := sh_len (sh_app m1 m2)
        have := sh_len m3
        omega
      · exact k _ _ ((sh_app (sh_app m1 m2) m3).mono (by omega)) (name_one u3 (by omega) (by omega) isc (fun z => ilc (by rw [z] at v4; simpa using v4))) T4 (((S1.trans S2).trans S3).trans S4)
    · refine ⟨⟨_, rfl⟩, _, rfl, _, rfl, by omega, by omega, fun D hD => ?_⟩
      have nD : D ≠ t := T2.tape.ne hD
      have nL : D ≠ l := by
        obtain ⟨xs, z⟩ := T2.list
        exact Ne.symm (ne_of_none z hD)
      let one : Nat → Str := fun c => ⟨#[c]⟩
      refine lc_it walk_range (fun i H' => ∃ cs : List Nat, H' D = some (.lst ((cs.map one).map V.str)) ∧ cs.length = i ∧ (∀ c ∈ cs, c ∈ signs.cps.toList ∧ inS c = true) ∧ (∀ c r, cs = c :: r → inL c = true) ∧ TapeL l H' t ∧ SameB t H2 H') ⟨[], upd_same, rfl, by simp, nofun, T2.same (Same.upd hD), Same.b t (Same.upd hD)⟩ (fun _ _ _ _ => True.intro) ?_ ?_
      · rintro i y H' H'' hi ⟨cs, h1, h2, h3, h3b, h4, h5⟩ ⟨rfl, rfl⟩
        refine ⟨rfl, ?_⟩
        change tOp rIxS (tVar 1) _ _ _ _
        refine ⟨_, rfl, _, rfl, _, rfl, _, _, rfl, rfl, .inr ⟨_, rfl, _, _, rfl, rfl, .inl ⟨by decide, by decide⟩, _, _, rfl, rfl, t, l, _, rfl, h4, by split <;> decide, big _ (by split <;> decide) (by split <;> decide), fun k4 H4 u4 v4 T4 S4 => ?_⟩⟩
        obtain ⟨c, hc, mc, isc, ilc⟩ := sgn_at (i := k4) u4 (by split at v4 <;> omega)
        refine ⟨signs, k4, c, rfl, rfl, sz, hc, _, S4 _ _ nD h1, by rw [List.length_map, List.length_map, h2]; exact Nat.lt_trans hi (Nat.lt_of_le_of_lt (show (1 + k1).toNat ≤ 12 by omega) (by decide)), ?_⟩
        refine ⟨cs ++ [c], by rw [upd_same, List.map_append, List.map_append]; rfl, by rw [List.length_append, h2]; rfl, fun y hy => ?_, fun c' r' e => ?_, T4.upd nD nL, fun b o n e => ?_⟩
        · rcases List.mem_append.mp hy with hy | hy
          · exact h3 y hy
          · rw [List.mem_singleton.mp hy]
            exact ⟨mc, isc⟩
        · cases cs with
          | nil =>
            have e : c = c' := by injection e
            rw [← e]
            have i0 : i = 0 := by rw [← h2]; rfl
            subst i0
            exact ilc (by simpa using v4)
          | cons d r =>
            injection e with e _
            rw [← e]
            exact h3b d r rfl
        · rw [upd_ne (ne_of_none e hD)]
          exact (h5.trans S4) b o n e
      · rintro H' ⟨cs, h1, h2, h3, h3b, h4, h5⟩
        have e12 : cs.length ≤ 12 := by omega
        have s1 : ∀ y ∈ cs.map one, Sh 1 y := fun y hy => by
          obtain ⟨c, hc, rfl⟩ := List.mem_map.mp hy
          exact sh_one (signs_ok c (h3 c hc).1)
        have sum : ∀ l : List Str, (∀ y ∈ l, Sh 1 y) → (l.map (·.length)).sum ≤ l.length := by
          intro l
          induction l with
          | nil => intro _; simp
          | cons y l ih =>
            intro h
            have := ih fun z hz => h z (List.mem_cons_of_mem _ hz)
            have := sh_len (h y List.mem_cons_self)
            simp only [List.map_cons, List.sum_cons, List.length_cons]
            omega
        have lm : (cs.map one).length = cs.length := List.length_map ..
        refine ⟨_, D, cs.map one, rfl, rfl, .inl (SqL.of h1), by have := sum _ s1; show _ + (cs.map one).length * 0 ≤ _; omega, ?_⟩
        exact k _ _ ((join_sh _ s1).mono (by omega)) (name_join (fun z => by rw [z] at h2; have : (0 : Nat) = (1 + k1).toNat := h2; omega) e12 h3b (fun c hc => (h3 c hc).2)) h4 ((S1.trans S2).trans h5)
end
end K77
set_option Elab.async false
set_option linter.all false
set_option maxRecDepth 100000
set_option maxHeartbeats 4000000
namespace K77
open PySem PySem.Spec PyProof.Rows L2 Lc
abbrev sFr : Stmt := top 38
def spFr : Sp := fun vs H Q _ => ∃ (t c l : Addr) (ss : List Str), vs = [.ref t, .ref l] ∧ TapeL c H t ∧ H l = some (.lst (ss.map V.str)) ∧ ss.length < 36 ∧ ∀ (x : Str) (H' : Hp), Sh 12 x → nameB (.str x) = true → x ∉ ss → TapeL c H' t → SameB t H H' → Q (.str x) H'
theorem ne_tape {H : Hp} {t l : Addr} {ss : List Str} (T : Tape H t) (h : H l = some (.lst (ss.map V.str))) : l ≠ t := fun z => by
  obtain ⟨a, _, _, _, _, ht, _⟩ := T
  rw [z, ht] at h
  cases ss with
  | nil => cases h
  | cons x r =>
    injection h with h
    injection h with h
    injection h with h1 _
    cases h1
section
variable {P : Program} {w : World} {K : PySem.W.Frag} {mg : Str → Option Value} {base : Heap} {f fN : Addr} {fd fdN : FuncData}
theorem scFr : FnScope ["_law_tape_here", "_law_taken", "_law_name_here", "_law_letter"] ["_law_tape_here", "_law_taken"] (defScope sFr) := ⟨rfl, rfl, rfl, by decide +kernel, rfl, by decide +kernel, by decide +kernel⟩
theorem ok_fr (F : Fun K "_law_fresh" "_law_fresh" sFr f fd) (GN : FnOk P w K mg base CX0 2 fN fdN ["_law_tape_here"] spLNm) (mN : mg "_law_name" = some (.ref fN)) (kN : PySem.W.keepIn K (.ref fN) = true) (bN : Binds K fdN ["_law_tape_here"] []) :
    FnOk P w K mg base CX0 3 f fd ["_law_tape_here", "_law_taken"] spFr := by
  refine F.ok scFr (fun vs H Q E h => ?_) (fun cdv A outer s H vs Q E hr h => ?_)
  · obtain ⟨t, c, l, ss, rfl, _⟩ := h
    rfl
  · obtain ⟨t, tl, l, ss, rfl, hT, hl, l36, k⟩ := h
    refine ⟨_, pss_cons (ps_set (i := 2) scFr.nd rfl (Or.inl rfl) (pe_call GN hr (by rfl) mN kN bN .nil pass0 (pa_cons (pv 0) pa_nil)))
      (pss_cons (ps_if (pt_cmpR op_notIn_seq (pv 2) (pv 1) (by rfl)) (pss_one (ps_ret (pv 2))) pss_nil)
      (pss_cons (ps_for PassesOwn.never rfl (pi_str pe_str) (pg_name (i := 3) scFr.nd rfl (Or.inl rfl))
        (pss_one (ps_if (pt_cmpR op_notIn_seq (pe_op op_add_str (pe_slice sl_str (pv 2) po_none (po_some pe_int)) (pv 3)) (pv 1) (by rfl)) (pss_one (ps_ret (pe_op op_add_str (pe_slice sl_str (pv 2) po_none (po_some pe_int)) (pv 3)))) pss_nil)))
      (pss_one (ps_ret (pv 2))))), ?_⟩
    refine ⟨_, rfl, t, tl, rfl, hT, fun x H1 hx nx T1 S1 => ?_⟩
    have hl1 := S1 _ _ (ne_tape hT.tape hl) hl
    have fl : (ss.map V.str).all flatV = true := by simp [flatV]
    have ln := hx.line (by decide)
    refine ⟨_, rfl, _, rfl, l, _, rfl, .inl (SqL.of hl1), rfl, fl, _, rfl, ite2 (fun y => ?_) (fun y => ?_)⟩
    · refine ⟨_, rfl, k x H1 hx nx (fun m => ?_) T1 S1⟩
      rw [if_pos rfl, in_strs, decide_eq_true m] at y
      cases y
    · refine ⟨_, rfl, for_it walk_str (fun i σ H' => (∃ x3 : Option V, σ = [some (.ref t), some (.ref l), some (.str x), x3]) ∧ H' = H1 ∧ ∀ (j : Nat) (c : Nat), j < i → signs.cps[j]? = some c → cutS x none (some 11) ++ (⟨#[c]⟩ : Str) ∈ ss) ⟨⟨_, rfl⟩, rfl, fun j c h => absurd h (Nat.not_lt_zero _)⟩ (fun _ _ _ _ _ => trivial) ?_ ?_⟩
      · rintro i v σ Ha Hb hi ⟨⟨x3, rfl⟩, rfl, all⟩ ⟨rfl, c, hc, rfl⟩
        have hc : signs.cps[i]? = some c := hc
        have mc : c ∈ signs.cps.toList := Array.mem_toList_iff.mpr (Array.mem_of_getElem? hc)
        have isc : inS c = true := decide_eq_true mc
        have cs : c < 1114112 := signs_ok c mc
        have sc : Sh 11 (cutS x none (some 11)) := ⟨by rw [cut_list, List.length_take]; omega, (sh_cut none (some 11) hx).ok⟩
        have so : Sh 1 (⟨#[c]⟩ : Str) := sh_one cs
        have lt : (cutS x none (some 11)).length + (⟨#[c]⟩ : Str).length ≤ sizeLine := Nat.le_trans (Nat.add_le_add (sh_len sc) (sh_len so)) (by decide)
        refine ⟨_, rfl, 11, rfl, x, rfl, ln, _, rfl, _, _, rfl, rfl, lt, _, rfl, l, _, rfl, .inl (SqL.of hl1), rfl, fl, _, rfl, ite2 (fun y => ?_) (fun y => ?_)⟩
        · refine ⟨_, rfl, 11, rfl, x, rfl, ln, _, rfl, _, _, rfl, rfl, lt, k _ _ (sh_app sc so) (name_cut nx isc) (fun m => ?_) T1 S1⟩
          rw [if_pos rfl, in_strs, decide_eq_true m] at y
          cases y
        · refine ⟨⟨_, rfl⟩, rfl, fun j c' hj hc' => ?_⟩
          by_cases e : j = i
          · subst e
            rw [hc] at hc'
            cases hc'
            rw [if_pos rfl, in_strs] at y
            exact of_decide_eq_true (by simpa using y)
          · exact all j c' (by omega) hc'
      · rintro σ H' ⟨⟨x3, rfl⟩, rfl, all⟩
        refine (free_letter (x := x) l36 fun c mc => ?_).elim
        obtain ⟨j, hj⟩ := List.mem_iff_getElem?.mp mc
        rw [Array.getElem?_toList] at hj
        exact all j c (Array.getElem?_eq_some_iff.mp hj).1 hj
end
theorem Same.gone {H H' : Hp} {p : Addr} (s : Same H H') (e : H' p = none) : H p = none := by
  cases q : H p with
  | none => rfl
  | some o => rw [s p o q] at e; cases e
abbrev sCls : Stmt := top 39
/-! ## columns: pairs of texts -/
inductive Cols (H : Hp) : List V → List (Str × Str) → Prop
  | nil : Cols H [] []
  | cons {a : Addr} {z k : Str} {xs : List V} {ps : List (Str × Str)} (e : H a = some (.tup [.str z, .str k])) (r : Cols H xs ps) : Cols H (.ref a :: xs) ((z, k) :: ps)
theorem Cols.t {H H' : Hp} (s : SameT H H') : ∀ {xs : List V} {ps : List (Str × Str)}, Cols H xs ps → Cols H' xs ps
  | _, _, .nil => .nil
  | _, _, .cons e r => .cons (s _ _ e) (Cols.t s r)
theorem Cols.app {H : Hp} : ∀ {xs ys : List V} {ps qs : List (Str × Str)}, Cols H xs ps → Cols H ys qs → Cols H (xs ++ ys) (ps ++ qs)
  | _, _, _, _, .nil, r => r
  | _, _, _, _, .cons e h, r => .cons e (Cols.app h r)
theorem Cols.len {H : Hp} : ∀ {xs : List V} {ps : List (Str × Str)}, Cols H xs ps → xs.length = ps.length
  | _, _, .nil => rfl
  | _, _, .cons _ r => by rw [List.length_cons, List.length_cons, Cols.len r]
def colP (p : Str × Str) : PyData := .tuple [.str p.1, .str p.2]
theorem Cols.dh {H : Hp} : ∀ {xs : List V} {ps : List (Str × Str)}, Cols H xs ps → DhAll H xs (ps.map colP)
  | _, _, .nil => .nil
  | _, _, .cons e r => .cons (.tup e (.cons (.str _) (.cons (.str _) .nil))) (Cols.dh r)
def KindS (k : Str) : Prop := k = "number" ∨ k = "word" ∨ k = "flag"
theorem KindS.sh {k : Str} (h : KindS k) : Sh 100 k := by
  rcases h with rfl | rfl | rfl <;> exact ⟨by decide +kernel, by decide +kernel⟩
def spCls : Sp := fun vs H Q _ => ∃ (t c l n : Addr) (m : Int) (lead : List Str), vs = [.ref t, .ref l, .int m, .ref n] ∧ TapeL c H t ∧ H l = some (.tup (lead.map V.str)) ∧ H n = some (.tup []) ∧ 0 ≤ m ∧ m ≤ 7 ∧ 1 ≤ lead.length ∧ lead.length + m.toNat ≤ 8 ∧ (∀ k ∈ lead, KindS k) ∧
  ∀ (r : Addr) (xs : List V) (ps : List (Str × Str)) (H' : Hp), H' r = some (.tup xs) → Cols H' xs ps → (∀ p ∈ ps, Sh 12 p.1 ∧ nameB (.str p.1) = true ∧ KindS p.2) → (ps.map (·.1)).Nodup → lead.length ≤ ps.length → ps.length ≤ lead.length + m.toNat → TapeL c H' t → SameB t H H' → Q (.ref r) H'
section
variable {P : Program} {w : World} {K : PySem.W.Frag} {mg : Str → Option Value} {base : Heap} {f fD fF : Addr} {fd fdD fdF : FuncData}
theorem scCls : FnScope ["_law_tape_here", "_law_lead", "_law_many", "_law_taken", "_law_names", "_law_columns_here", "_law_kinds", "_law_k", "_law_kind"] ["_law_tape_here", "_law_lead", "_law_many", "_law_taken"] (defScope sCls) := ⟨rfl, rfl, rfl, by decide +kernel, rfl, by decide +kernel, by decide +kernel⟩
theorem ok_cls (F : Fun K "_law_columns" "_law_columns" sCls f fd) (T : Bt mg) (GD : FnOk P w K mg base CX0 1 fD fdD ["_law_tape_here", "_law_many"] spDrawL) (mD : mg "_law_draw" = some (.ref fD)) (kD : PySem.W.keepIn K (.ref fD) = true) (bD : Binds K fdD ["_law_tape_here", "_law_many"] [])
    (GF : FnOk P w K mg base CX0 3 fF fdF ["_law_tape_here", "_law_taken"] spFr) (mF : mg "_law_fresh" = some (.ref fF)) (kF : PySem.W.keepIn K (.ref fF) = true) (bF : Binds K fdF ["_law_tape_here", "_law_taken"] []) :
    FnOk P w K mg base CX0 4 f fd ["_law_tape_here", "_law_lead", "_law_many", "_law_taken"] spCls := by
  refine F.ok scCls (fun vs H Q E h => ?_) (fun cdv A outer s H vs Q E hr h => ?_)
  · obtain ⟨t, c, l, n, m, lead, rfl, _⟩ := h
    rfl
  · obtain ⟨t, c, l, n, m, lead, rfl, hT, hl, hn, m0, m7, ld1, ld8, hkl, k⟩ := h
    have hr1 : Room 1 _ := hr.mono (by decide)
    refine ⟨_, pss_cons (ps_set (i := 4) scCls.nd rfl (Or.inl rfl) (pe_callTy call_list_of (by rfl) T.list boot_list (pa_cons (pv 3) pa_nil)))
      (pss_cons (ps_set (i := 5) scCls.nd rfl (Or.inl rfl) (pe_lst pa_nil))
      (pss_cons (ps_set (i := 6) scCls.nd rfl (Or.inl rfl) (pe_callTy call_list_of (by rfl) T.list boot_list (pa_cons (pv 1) pa_nil)))
      (Evl.pss_cut (ps_for PassesOwn.never rfl (pi_range1 (by rfl) T.range (pa_cons (pe_call GD hr1 (by rfl) mD kD bD .nil pass0 (pa_cons (pv 0) (pa_cons (pe_op op_add (pv 2) pe_int) pa_nil))) pa_nil)) (pg_name (i := 7) scCls.nd rfl (Or.inl rfl))
        (pss_one (ps_expr (pe_bm PySem.F.plainAttrs_list PySem.F.slot_list_append PySem.F.type_list_append mt_append (pv 6) (pa_cons (pe_ix ix_list (pe_lst (pa_cons pe_str (pa_cons pe_str (pa_cons pe_str pa_nil)))) (pe_call GD hr1 (by rfl) mD kD bD .nil pass0 (pa_cons (pv 0) (pa_cons pe_int pa_nil))) (fun _ _ => rfl)) pa_nil)))))
      (pss_cons (ps_for PassesOwn.never rfl (pi_list (pv 6)) (pg_name (i := 8) scCls.nd rfl (Or.inl rfl))
        (pss_cons (ps_expr (pe_bm PySem.F.plainAttrs_list PySem.F.slot_list_append PySem.F.type_list_append mt_append (pv 4) (pa_cons (pe_call GF hr (by rfl) mF kF bF .nil pass0 (pa_cons (pv 0) (pa_cons (pv 4) pa_nil))) pa_nil)))
        (pss_one (ps_expr (pe_bm PySem.F.plainAttrs_list PySem.F.slot_list_append PySem.F.type_list_append mt_append (pv 5) (pa_cons (pe_tup (pa_cons (pe_ix ix_list (pv 4) (pe_un un_neg pe_int) (fun _ _ => rfl)) (pa_cons (pv 8) pa_nil))) pa_nil))))))
      (pss_one (ps_ret (pe_callTy call_tuple_of (by rfl) T.tuple boot_tuple (pa_cons (pv 5) pa_nil)))))))), ?_⟩
    refine ⟨_, rfl, n, _, rfl, .inr (SqT.of hn), fun L hL => ⟨by show 0 ≤ sizeLine; decide, fun M hM => ?_⟩⟩
    have yL := Same.upd (o := .lst []) hL
    have yM := Same.upd (o := .lst []) hM
    refine ⟨_, rfl, l, _, rfl, .inr (SqT.of ((yL.trans yM) _ _ hl)), fun N hN => ?_⟩
    have yN := Same.upd (o := .lst (lead.map V.str)) hN
    have nLt := hT.tape.ne hL
    have nMt := (hT.same yL).tape.ne hM
    have nNt := (hT.same (yL.trans yM)).tape.ne hN
    obtain ⟨ys, hc⟩ := hT.list
    have nLc : L ≠ c := Ne.symm (ne_of_none hc hL)
    have nMc : M ≠ c := Ne.symm (ne_of_none (yL _ _ hc) hM)
    have nNc : N ≠ c := Ne.symm (ne_of_none ((yL.trans yM) _ _ hc) hN)
    have eL : upd H L (.lst []) L = some (.lst []) := upd_same
    have nML : L ≠ M := ne_of_none eL hM
    have nNL : L ≠ N := ne_of_none (yM _ _ eL) hN
    have nNM : M ≠ N := ne_of_none (show upd (upd H L (.lst [])) M (.lst []) M = some (.lst []) from upd_same) hN
    have hL3 := (yM.trans yN) _ _ eL
    have hM3 := yN _ _ (show upd (upd H L (.lst [])) M (.lst []) M = some (.lst []) from upd_same)
    have hN3 : upd (upd (upd H L (.lst [])) M (.lst [])) N (.lst (lead.map V.str)) N = some (.lst (lead.map V.str)) := upd_same
    have s3 := yL.trans (yM.trans yN)
    have gM := Same.gone yL hM
    have gN := Same.gone (yL.trans yM) hN
    have hT3 := hT.same s3
    generalize upd (upd (upd H L (.lst [])) M (.lst [])) N (.lst (lead.map V.str)) = H3 at hL3 hM3 hN3 s3 hT3 yN ⊢
    clear yN yM yL eL
    have o3 : 3 ≤ sizeLine := by decide
    let Md : Option V → Option V → List Str → L2.St → Hp → Prop := fun x7 x8 ks σ H' => σ = [some (.ref t), some (.ref l), some (.int m), some (.ref n), some (.ref L), some (.ref M), some (.ref N), x7, x8] ∧ H' N = some (.lst (ks.map V.str)) ∧ (∀ k ∈ ks, KindS k) ∧ TapeL c H' t ∧ SameB t H H'
    refine ⟨fun σ H' => ∃ x7 ks, Md x7 none ks σ H' ∧ H' L = some (.lst []) ∧ H' M = some (.lst []) ∧ lead.length ≤ ks.length ∧ ks.length ≤ lead.length + m.toNat, ?_, ?_⟩
    · refine ⟨_, rfl, _, rfl, _, _, rfl, rfl, t, c, _, rfl, hT3, by omega, big1000 (by omega) (by omega), fun k2 H4 u2 w2 T4 S4 => ⟨k2, rfl, by omega, by omega, for_range (n := k2.toNat) (fun i σ H' => ∃ x7 ks, Md x7 none ks σ H' ∧ H' L = some (.lst []) ∧ H' M = some (.lst []) ∧ ks.length = i + lead.length)
        ⟨_, lead, ⟨rfl, S4 _ _ nNt hN3, hkl, T4, (Same.b t s3).trans S4⟩, S4 _ _ nLt hL3, S4 _ _ nMt hM3, (Nat.zero_add _).symm⟩ ?_ ?_⟩⟩
      · rintro i σ H5 hi ⟨x7, ks, ⟨rfl, hN5, hk5, T5, S5⟩, hL5, hM5, e5⟩
        refine ⟨_, rfl, .inl ⟨rfl, _, SqL.of hN5⟩, o3, fun q hq => ?_⟩
        have zq := Same.upd (o := .lst [.str "number", .str "word", .str "flag"]) hq
        have nq := T5.tape.ne hq
        refine ⟨_, rfl, t, c, _, rfl, T5.same zq, by decide, big1000 (by decide) (by decide), fun k3 H6 u3 w3 T6 S6 => ?_⟩
        obtain ⟨kk, hkk, skk⟩ : ∃ kk : Str, ([.str "number", .str "word", .str "flag"] : List V)[k3.toNat]? = some (.str kk) ∧ KindS kk := by
          have : k3.toNat = 0 ∨ k3.toNat = 1 ∨ k3.toNat = 2 := by omega
          rcases this with e | e | e <;> rw [e]
          · exact ⟨_, rfl, .inl rfl⟩
          · exact ⟨_, rfl, .inr (.inl rfl)⟩
          · exact ⟨_, rfl, .inr (.inr rfl)⟩
        have S7 : SameB t H5 H6 := (Same.b t zq).trans S6
        have hN6 := S7 _ _ nNt hN5
        refine ⟨q, _, _, _, rfl, rfl, SqL.of (S6 _ _ nq upd_same), at_of (j := k3.toNat) (by omega) hkk, N, _, _, rfl, rfl, hN6, ?_, ?_⟩
        · rw [List.length_map, e5]
          exact Nat.lt_of_le_of_lt (show i + lead.length ≤ 8 by omega) (by decide)
        · refine ⟨_, ks ++ [kk], ⟨rfl, by rw [upd_same, List.map_append]; rfl, fun k hk => ?_, T6.upd nNt nNc, fun b o n e => ?_⟩, by rw [upd_ne nNL]; exact S7 _ _ nLt hL5, by rw [upd_ne nNM]; exact S7 _ _ nMt hM5, by rw [List.length_append, e5, List.length_singleton]; omega⟩
          · rcases List.mem_append.mp hk with hk | hk
            · exact hk5 k hk
            · rw [List.mem_singleton.mp hk]; exact skk
          · rw [upd_ne (fun z => by rw [z, gN] at e; cases e)]
            exact (S5.trans S7) b o n e
      · rintro σ H5 ⟨x7, ks, h5, hL5, hM5, e5⟩
        exact ⟨x7, ks, h5, hL5, hM5, by omega, by omega⟩
    · rintro σ H5 ⟨x7, ks, ⟨rfl, hN5, hk5, T5, S5⟩, hL5, hM5, e5, e6⟩
      refine ⟨_, rfl, N, rfl, ⟨_, SqL.of hN5⟩, for_list (K := K) (a := N) (xs := ks.map V.str) (fun i σ H' => ∃ (x8 : Option V) (ns : List Str) (xs : List V) (ps : List (Str × Str)), Md x7 x8 ks σ H' ∧ H' L = some (.lst (ns.map V.str)) ∧ H' M = some (.lst xs) ∧ Cols H' xs ps ∧ (∀ p ∈ ps, Sh 12 p.1 ∧ nameB (.str p.1) = true ∧ KindS p.2) ∧ ns.length = i ∧ ps.length = i ∧ ps.map (·.1) = ns ∧ ns.Nodup)
        ⟨_, [], [], [], ⟨rfl, hN5, hk5, T5, S5⟩, hL5, hM5, .nil, nofun, rfl, rfl, rfl, List.nodup_nil⟩ (fun i σ H' _ p => by obtain ⟨_, _, _, _, ⟨_, z, _⟩, _⟩ := p; exact SqL.of z) ?_ ?_⟩
      · rintro i x σ H6 hx ⟨x8, ns, xs, ps, ⟨rfl, hN6, _, T6, S6⟩, hL6, hM6, hc6, hp6, e7, e8, en, nd⟩
        obtain ⟨kk, hkk, rfl⟩ : ∃ kk, ks[i]? = some kk ∧ V.str kk = x := by
          rw [List.getElem?_map] at hx
          cases q : ks[i]? with
          | none => rw [q] at hx; cases hx
          | some kk => rw [q] at hx; exact ⟨kk, rfl, Option.some.inj hx⟩
        have hi8 : i < 8 := Nat.lt_of_lt_of_le (List.getElem?_eq_some_iff.mp hkk).1 (show ks.length ≤ 8 by omega)
        have skk := hk5 kk (List.mem_of_getElem? hkk)
        have lim : ∀ {m : Nat}, m ≤ 8 → m < sizeLine := fun h => Nat.lt_of_le_of_lt h (by decide)
        refine ⟨_, rfl, .inl ⟨rfl, _, SqL.of hL6⟩, _, rfl, _, rfl, t, c, L, ns, rfl, T6, hL6, by omega, fun z H7 hz nz fz T7 S7 => ?_⟩
        have hL7 := S7 _ _ nLt hL6
        have hM7 := S7 _ _ nMt hM6
        have hN7 := S7 _ _ nNt hN6
        have hc7 := hc6.t (SameT.b T6.tape S7)
        refine ⟨L, _, _, rfl, rfl, hL7, by rw [List.length_map, e7]; exact lim (by omega), ?_⟩
        have hc8 := hc7.t (SameT.lst (o := .lst (ns.map V.str ++ [.str z])) hL7)
        have T8 := T7.upd (o := .lst (ns.map V.str ++ [.str z])) nLt nLc
        have hL8 : upd H7 L (.lst (ns.map V.str ++ [.str z])) L = some (.lst (ns.map V.str ++ [.str z])) := upd_same
        have hM8 : upd H7 L (.lst (ns.map V.str ++ [.str z])) M = some (.lst xs) := by rw [upd_ne (Ne.symm nML)]; exact hM7
        have hN8 : upd H7 L (.lst (ns.map V.str ++ [.str z])) N = some (.lst (ks.map V.str)) := by rw [upd_ne (Ne.symm nNL)]; exact hN7
        have S8 : SameB t H (upd H7 L (.lst (ns.map V.str ++ [.str z]))) := fun b o n e => by
          rw [upd_ne (fun z => by rw [z, hL] at e; cases e)]
          exact (S6.trans S7) b o n e
        generalize upd H7 L (.lst (ns.map V.str ++ [.str z])) = H8 at hc8 T8 hL8 hM8 hN8 S8 ⊢
        refine ⟨_, rfl, .inl ⟨rfl, _, SqL.of hM8⟩, _, rfl, _, rfl, L, _, _, _, rfl, rfl, SqL.of hL8, (show atI (ns.map V.str ++ [.str z]) (-1) = some (.str z) from ?_), _, rfl, by show 2 ≤ sizeLine; decide, fun q hq => ?_⟩
        · unfold atI
          rw [show ixN (ns.map V.str ++ [V.str z]).length (-1) = some ns.length from ?_]
          · simp
          · have hl : (ns.map V.str ++ [V.str z]).length = ns.length + 1 := by rw [List.length_append, List.length_map]; rfl
            unfold ixN
            rw [hl, if_neg (by decide), if_pos (by omega)]
            exact congrArg some (by omega)
        have zq := Same.upd (o := .tup [.str z, .str kk]) hq
        have hM9 := zq _ _ hM8
        have lx := hc6.len
        refine ⟨M, _, _, rfl, rfl, hM9, lim (by omega), ?_⟩
        refine ⟨_, ns ++ [z], xs ++ [.ref q], ps ++ [(z, kk)], ⟨rfl, by rw [upd_ne (Ne.symm nNM)]; exact zq _ _ hN8, hk5, (T8.same zq).upd nMt nMc, fun b o n e => ?_⟩, by rw [upd_ne nML, zq _ _ hL8, List.map_append]; rfl, upd_same, ?_, ?_, by rw [List.length_append, e7]; rfl, by rw [List.length_append, e8]; rfl, by rw [List.map_append, en]; rfl, List.nodup_append.mpr ⟨nd, List.nodup_cons.mpr ⟨nofun, List.nodup_nil⟩, fun a ha b hb => by rw [List.mem_singleton.mp hb]; exact fun e => fz (by rw [← e]; exact ha)⟩⟩
        · rw [upd_ne (fun z => by rw [z, gM] at e; cases e)]
          exact (S8.trans (Same.b t zq)) b o n e
        · have eq : upd H8 q (.tup [.str z, .str kk]) q = some (.tup [.str z, .str kk]) := upd_same
          have hc9 := (hc8.t (SameT.of zq)).app (.cons eq .nil)
          exact hc9.t (SameT.lst hM9)
        · intro p hp
          rcases List.mem_append.mp hp with hp | hp
          · exact hp6 p hp
          · rw [List.mem_singleton.mp hp]; exact ⟨hz, nz, skk⟩
      · rintro σ H6 ⟨x8, ns, xs, ps, ⟨rfl, hN6, _, T6, S6⟩, hL6, hM6, hc6, hp6, e7, e8, en, nd⟩
        rw [List.length_map] at e8
        refine ⟨_, rfl, M, xs, rfl, .inl ⟨SqL.of hM6, fun r hr => ?_⟩⟩
        have zr := Same.upd (o := .tup xs) hr
        exact k r xs ps _ upd_same (hc6.t (SameT.of zr)) hp6 (by rw [en]; exact nd) (by omega) (by omega) (T6.same zr) (S6.trans (Same.b t zr))
end
end K77
set_option Elab.async false
set_option linter.all false
set_option maxRecDepth 100000
set_option maxHeartbeats 4000000
namespace K77
open PySem PySem.Spec PyProof.Rows L2 Lc
def spRatL : Sp := fun vs H Q _ => ∃ (t c : Addr) (b : Bool), vs = [.ref t, .bl b] ∧ TapeL c H t ∧ ∀ (p : Addr) (n d : Int) (H' : Hp), Rt n d → n.natAbs ≤ 10000000000000000000000000000000000000000 → d.natAbs ≤ 10000000000000000000000000000000000000000 → H' p = some (.tup [.int n, .int d]) → H p = none → TapeL c H' t → SameB t H H' → Q (.ref p) H'
abbrev sRat : Stmt := top 36
section
variable {P : Program} {w : World} {K : PySem.W.Frag} {mg : Str → Option Value} {base : Heap} {f : Addr} {fd : FuncData}
theorem scRat : FnScope ["_law_tape_here", "_law_wide", "_law_size", "_law_number_here", "_law_edge"] ["_law_tape_here", "_law_wide"] (defScope sRat) := ⟨rfl, rfl, rfl, by decide +kernel, rfl, by decide +kernel, by decide +kernel⟩
theorem ok_rat {fD fL : Addr} {fdD fdL : FuncData} (F : Fun K "_law_rational" "_law_rational" sRat f fd) (T : Bt mg) (GD : FnOk P w K mg base CX0 1 fD fdD ["_law_tape_here", "_law_many"] spDrawL) (mD : mg "_law_draw" = some (.ref fD)) (kD : PySem.W.keepIn K (.ref fD) = true) (bD : Binds K fdD ["_law_tape_here", "_law_many"] [])
    (GL : FnOk P w K mg base CX0 1 fL fdL ["_law_n", "_law_d"] spLowest) (mL : mg "_law_lowest" = some (.ref fL)) (kL : PySem.W.keepIn K (.ref fL) = true) (bL : Binds K fdL ["_law_n", "_law_d"] []) : FnOk P w K mg base CX0 2 f fd ["_law_tape_here", "_law_wide"] spRatL := by
  refine F.ok scRat (fun vs H Q E h => ?_) (fun cdv A outer s H vs Q E hr h => ?_)
  · obtain ⟨t, c, b, rfl, _⟩ := h
    rfl
  · obtain ⟨t, c, b, rfl, hT, k⟩ := h
    refine ⟨_, pss_cons (ps_set (i := 2) scRat.nd rfl (Or.inl rfl) (pe_call GD hr (by rfl) mD kD bD .nil pass0 (pa_cons (pv 0) (pa_cons (pe_op op_add pe_int (pe_op op_mul pe_int (pe_callTy call_int1 (by rfl) T.int boot_int (pa_cons (pv 1) pa_nil)))) pa_nil))))
      (pss_cons (ps_if (pt_cmpR op_lt (pv 2) pe_int (nomark _)) (pss_one (ps_ret (pe_tup (pa_cons (pe_op op_sub (pe_call GD hr (by rfl) mD kD bD .nil pass0 (pa_cons (pv 0) (pa_cons pe_int pa_nil))) pe_int) (pa_cons pe_int pa_nil))))) pss_nil)
      (pss_cons (ps_if (pt_cmpR op_lt (pv 2) pe_int (nomark _)) (pss_one (ps_ret (pe_call GL hr (by rfl) mL kL bL .nil pass0 (pa_cons (pe_op op_sub (pe_call GD hr (by rfl) mD kD bD .nil pass0 (pa_cons (pv 0) (pa_cons pe_int pa_nil))) pe_int) (pa_cons (pe_op op_add pe_int (pe_call GD hr (by rfl) mD kD bD .nil pass0 (pa_cons (pv 0) (pa_cons pe_int pa_nil)))) pa_nil))))) pss_nil)
      (pss_cons (ps_if (pt_cmpR op_eq (pv 2) pe_int (nomark _)) (pss_cons (ps_set (i := 3) scRat.nd rfl (Or.inl rfl) (pe_op op_sub (pe_call GD hr (by rfl) mD kD bD .nil pass0 (pa_cons (pv 0) (pa_cons (pe_op op_add (pe_op op_mul pe_int (pe_op op_pow pe_int pe_int)) pe_int) pa_nil))) (pe_op op_pow pe_int pe_int)))
          (pss_one (ps_ret (pe_call GL hr (by rfl) mL kL bL .nil pass0 (pa_cons (pv 3) (pa_cons (pe_op op_add pe_int (pe_call GD hr (by rfl) mD kD bD .nil pass0 (pa_cons (pv 0) (pa_cons (pe_op op_pow pe_int pe_int) pa_nil)))) pa_nil)))))) pss_nil)
      (pss_cons (ps_set (i := 4) scRat.nd rfl (Or.inl rfl) (pe_op op_sub (pe_op op_pow pe_int pe_int) (pe_call GD hr (by rfl) mD kD bD .nil pass0 (pa_cons (pv 0) (pa_cons pe_int pa_nil)))))
      (pss_one (ps_ret (pe_ix ix_list (pe_lst (pa_cons (pe_tup (pa_cons (pv 4) (pa_cons pe_int pa_nil))) (pa_cons (pe_tup (pa_cons (pe_op op_sub pe_int (pv 4)) (pa_cons pe_int pa_nil))) (pa_cons (pe_tup (pa_cons pe_int (pa_cons (pv 4) pa_nil))) (pa_cons (pe_tup (pa_cons (pe_un un_neg pe_int) (pa_cons (pv 4) pa_nil))) pa_nil)))))
        (pe_call GD hr (by rfl) mD kD bD .nil pass0 (pa_cons (pv 0) (pa_cons pe_int pa_nil))) (fun _ _ => rfl)))))))), ?_⟩
    have two : 2 ≤ sizeLine := by decide
    have pw18 : CPow 10 18 := ⟨by decide, by decide, by decide⟩
    have pw40 : CPow 10 40 := ⟨by decide, by decide, by decide⟩
    have b140 : ∀ z : Int, -100000000000000000000000000000000000000000 ≤ z → z ≤ 100000000000000000000000000000000000000000 → z.natAbs < 2 ^ 140 := by
      intro z h1 h2
      have : (2 : Nat) ^ 140 = 1393796574908163946345982392040522594123776 := by decide
      omega
    have big : ∀ z : Int, -100000000000000000000000000000000000000000 ≤ z → z ≤ 100000000000000000000000000000000000000000 → z.natAbs < 2 ^ 4000 := fun z h1 h2 => Nat.lt_of_lt_of_le (b140 z h1 h2) (Nat.pow_le_pow_right (by decide) (by decide))
    have b40 : ∀ z : Int, -10000000000000000000000000000000000000000 ≤ z → z ≤ 10000000000000000000000000000000000000000 → z.natAbs ≤ 10000000000000000000000000000000000000000 := by
      intro z h1 h2
      omega
    refine ⟨_, rfl, _, rfl, .inr ⟨b, rfl, _, _, rfl, rfl, .inl ⟨by decide, by decide⟩, _, _, rfl, rfl, t, c, _, rfl, hT, by cases b <;> decide, by cases b <;> exact big _ (by decide) (by decide), fun k1 H1 u1 v1 T1 S1 => ?_⟩⟩
    refine ⟨_, rfl, _, _, rfl, rfl, _, rfl, ?_⟩
    refine ite2 (fun _ => ?_) (fun _ => ?_)
    · refine ⟨_, rfl, t, c, _, rfl, T1, by decide, big _ (by decide) (by decide), fun k2 H2 u2 v2 T2 S2 => ?_⟩
      refine ⟨_, _, rfl, rfl, two, fun p hp => ?_⟩
      exact k p (k2 - 7) 1 _ (rt_one _) (b40 _ (by omega) (by omega)) (b40 _ (by decide) (by decide)) upd_same ((S1.trans S2).free T2.tape hp) (T2.same (Same.upd hp)) ((S1.trans S2).trans (Same.b t (Same.upd hp)))
    · refine ⟨_, rfl, _, _, rfl, rfl, _, rfl, ?_⟩
      refine ite2 (fun _ => ?_) (fun _ => ?_)
      · refine ⟨_, rfl, t, c, _, rfl, T1, by decide, big _ (by decide) (by decide), fun k2 H2 u2 v2 T2 S2 => ?_⟩
        refine ⟨_, _, rfl, rfl, _, rfl, t, c, _, rfl, T2, by decide, big _ (by decide) (by decide), fun k3 H3 u3 v3 T3 S3 => ?_⟩
        refine ⟨_, _, rfl, rfl, _, _, rfl, by omega, big _ (by omega) (by omega), fun p hp => ?_⟩
        have le := low_le (n := k2 - 200) (d := 1 + k3) (by omega)
        exact k p _ _ _ (low_rt (by omega)) (Nat.le_trans le.1 (b40 _ (by omega) (by omega))) (Nat.le_trans le.2 (b40 _ (by omega) (by omega))) upd_same (((S1.trans S2).trans S3).free T3.tape hp) (T3.same (Same.upd hp)) (((S1.trans S2).trans S3).trans (Same.b t (Same.upd hp)))
      · refine ⟨_, rfl, rfl, _, rfl, ?_⟩
        refine ite2 (fun _ => ?_) (fun _ => ?_)
        · refine ⟨_, rfl, _, _, rfl, rfl, pw18, _, _, rfl, rfl, .inl ⟨by decide, by decide⟩, _, _, rfl, rfl, t, c, _, rfl, T1, ?_, ?_, fun k2 H2 u2 v2 T2 S2 => ?_⟩
          · rw [p18]
            decide
          · rw [p18]
            exact big _ (by decide) (by decide)
          rw [p18] at v2
          refine ⟨_, _, rfl, rfl, pw18, _, _, rfl, rfl, _, rfl, _, rfl, _, _, rfl, rfl, pw18, t, c, _, rfl, T2, ?_, ?_, fun k3 H3 u3 v3 T3 S3 => ?_⟩
          · rw [p18]
            decide
          · rw [p18]
            exact big _ (by decide) (by decide)
          rw [p18] at v3
          refine ⟨_, _, rfl, rfl, _, _, rfl, by omega, big _ (by omega) (by omega), fun p hp => ?_⟩
          have le := low_le (n := k2 - 10 ^ (18 : Int).toNat) (d := 1 + k3) (by omega)
          rw [p18] at le
          refine k p _ _ _ (low_rt (by omega)) ?_ (Nat.le_trans le.2 (b40 _ (by omega) (by omega))) upd_same (((S1.trans S2).trans S3).free T3.tape hp) (T3.same (Same.upd hp)) (((S1.trans S2).trans S3).trans (Same.b t (Same.upd hp)))
          exact Nat.le_trans le.1 (b40 _ (by omega) (by omega))
        · refine ⟨_, _, rfl, rfl, pw40, _, rfl, t, c, _, rfl, T1, by decide, big _ (by decide) (by decide), fun k2 H2 u2 v2 T2 S2 => ?_⟩
          refine ⟨_, _, rfl, rfl, ?_⟩
          rw [p40]
          obtain ⟨ed, he⟩ : ∃ ed : Int, ed = 10000000000000000000000000000000000000000 - k2 := ⟨_, rfl⟩
          rw [show (fun i j : Int => V.int (i - j)) 10000000000000000000000000000000000000000 k2 = V.int ed by rw [he]]
          refine ⟨_, rfl, two, fun a1 ha1 => ⟨_, rfl, _, _, rfl, rfl, two, fun a2 ha2 => ⟨_, rfl, two, fun a3 ha3 => ⟨_, rfl, _, rfl, two, fun a4 ha4 => ⟨by show 4 ≤ sizeLine; decide, fun a5 ha5 => ?_⟩⟩⟩⟩⟩
          have z1 := Same.upd (o := .tup [.int ed, .int 1]) ha1
          have z2 := Same.upd (o := .tup [.int (0 - ed), .int 1]) ha2
          have z3 := Same.upd (o := .tup [.int 1, .int ed]) ha3
          have z4 := Same.upd (o := .tup [.int (-1), .int ed]) ha4
          have z5 := Same.upd (o := .lst [.ref a1, .ref a2, .ref a3, .ref a4]) ha5
          have zz := z1.trans (z2.trans (z3.trans (z4.trans z5)))
          have T5 := T2.same zz
          refine ⟨_, rfl, t, c, _, rfl, T5, by decide, big _ (by decide) (by decide), fun k3 H3 u3 v3 T3 S3 => ?_⟩
          have n5 : a5 ≠ t := (T2.same (z1.trans (z2.trans (z3.trans z4)))).tape.ne ha5
          have n1 : a1 ≠ t := T2.tape.ne ha1
          have n2 : a2 ≠ t := (T2.same z1).tape.ne ha2
          have n3 : a3 ≠ t := (T2.same (z1.trans z2)).tape.ne ha3
          have n4 : a4 ≠ t := (T2.same (z1.trans (z2.trans z3))).tape.ne ha4
          have f0 := S1.trans S2
          have g1 : H a1 = none := f0.free T2.tape ha1
          have g2 : H a2 = none := f0.free T2.tape (z1.free ha2)
          have g3 : H a3 = none := f0.free T2.tape ((z1.trans z2).free ha3)
          have g4 : H a4 = none := f0.free T2.tape ((z1.trans (z2.trans z3)).free ha4)
          have sb := (f0.trans (Same.b t zz)).trans S3
          have e1 := S3 _ _ n1 ((z2.trans (z3.trans (z4.trans z5))) _ _ upd_same)
          have e2 := S3 _ _ n2 ((z3.trans (z4.trans z5)) _ _ upd_same)
          have e3 := S3 _ _ n3 ((z4.trans z5) _ _ upd_same)
          have e4 := S3 _ _ n4 (z5 _ _ upd_same)
          have hL := S3 _ _ n5 (upd_same)
          rcases (by omega : k3 = 0 ∨ k3 = 1 ∨ k3 = 2 ∨ k3 = 3) with rfl | rfl | rfl | rfl
          · exact ⟨a5, _, _, _, rfl, rfl, SqL.of hL, rfl, k a1 _ _ _ (rt_one _) (b40 _ (by omega) (by omega)) (b40 _ (by omega) (by omega)) e1 g1 T3 sb⟩
          · exact ⟨a5, _, _, _, rfl, rfl, SqL.of hL, rfl, k a2 _ _ _ (rt_one _) (b40 _ (by omega) (by omega)) (b40 _ (by omega) (by omega)) e2 g2 T3 sb⟩
          · exact ⟨a5, _, _, _, rfl, rfl, SqL.of hL, rfl, k a3 _ _ _ (rt_inv (by omega)) (b40 _ (by omega) (by omega)) (b40 _ (by omega) (by omega)) e3 g3 T3 sb⟩
          · exact ⟨a5, _, _, _, rfl, rfl, SqL.of hL, rfl, k a4 _ _ _ (rt_ninv (by omega)) (b40 _ (by omega) (by omega)) (b40 _ (by omega) (by omega)) e4 g4 T3 sb⟩
end
end K77
set_option Elab.async false
set_option linter.all false
set_option maxRecDepth 100000
set_option maxHeartbeats 4000000
namespace K77
open PySem PySem.Spec PyProof.Rows L2 Lc
inductive Vk : Str → PyData → Prop
  | non (k : Str) : Vk k .none
  | num {n d : Int} (h : Rt n d) (h1 : n.natAbs ≤ 10000000000000000000000000000000000000000) (h2 : d.natAbs ≤ 10000000000000000000000000000000000000000) : Vk "number" (.tuple [.int n, .int d])
  | flag (b : Bool) : Vk "flag" (.bool b)
  | word {x : Str} (h : Sh 12 x) (hn : nameB (.str x) = true) : Vk "word" (.str x)
inductive Vks : List Str → List PyData → Prop
  | nil : Vks [] []
  | cons {k : Str} {d : PyData} {ks : List Str} {ds : List PyData} (h : Vk k d) (r : Vks ks ds) : Vks (k :: ks) (d :: ds)
theorem Vks.app {k : Str} {d : PyData} (h : Vk k d) : ∀ {ks : List Str} {ds : List PyData}, Vks ks ds → Vks (ks ++ [k]) (ds ++ [d])
  | _, _, .nil => .cons h .nil
  | _, _, .cons a r => .cons a (Vks.app h r)
theorem Vks.len : ∀ {ks : List Str} {ds : List PyData}, Vks ks ds → ks.length = ds.length
  | _, _, .nil => rfl
  | _, _, .cons _ r => by rw [List.length_cons, List.length_cons, Vks.len r]
/-- v is d, all its parts are new since H -/
def DhF (H H' : Hp) (v : V) (d : PyData) : Prop := ∀ H2 : Hp, (∀ b o, H b = none → H' b = some o → H2 b = some o) → Dh H2 v d
theorem DhF.now {H H' : Hp} {v : V} {d : PyData} (h : DhF H H' v d) : Dh H' v d := h H' fun _ _ _ e => e
theorem Cols.get {H : Hp} : ∀ {xs : List V} {ps : List (Str × Str)}, Cols H xs ps → ∀ (i : Nat) (x : V), xs[i]? = some x → ∃ a z kk, x = .ref a ∧ H a = some (.tup [.str z, .str kk]) ∧ ps[i]? = some (z, kk)
  | _, _, .nil, i, x, e => by simp at e
  | _, _, .cons h r, 0, x, e => by
    obtain rfl := Option.some.inj e
    exact ⟨_, _, _, rfl, h, rfl⟩
  | _, _, .cons h r, i + 1, x, e => by
    obtain ⟨a, z, kk, h1, h2, h3⟩ := Cols.get r i x (by simpa using e)
    exact ⟨a, z, kk, h1, h2, by simpa using h3⟩
end K77
set_option Elab.async false
set_option linter.all false
set_option maxRecDepth 100000
set_option maxHeartbeats 4000000
namespace K77
open PySem PySem.Spec PyProof.Rows L2 Lc
abbrev sLf : Stmt := top 40
abbrev sXp : Stmt := top 41
/-- words over one and over two operands: the operands' kind, the result's -/
def OneW (w k r : Str) : Prop := (w = "not" ∧ k = "flag" ∧ r = "flag") ∨ (w = "missing" ∧ KindS k ∧ r = "flag")
def TwoW (w k r : Str) : Prop := ((w = "plus" ∨ w = "minus" ∨ w = "times" ∨ w = "over") ∧ k = "number" ∧ r = "number") ∨ (w = "less" ∧ k = "number" ∧ r = "flag") ∨ (w = "same" ∧ KindS k ∧ r = "flag") ∨ ((w = "both" ∨ w = "either") ∧ k = "flag" ∧ r = "flag")
/-- valid expressions of a kind over the columns ps, at most n deep -/
inductive Xp (ps : List (Str × Str)) : Nat → Str → PyData → Prop
  | col {n : Nat} {z k : Str} (h : (z, k) ∈ ps) : Xp ps (n + 1) k (.tuple [.str "column", .str z])
  | val {n : Nat} {k : Str} {d : PyData} (h : Vk k d) (nn : d ≠ .none) : Xp ps (n + 1) k (.tuple [.str "value", d])
  | one {n : Nat} {w k r : Str} {a : PyData} (hw : OneW w k r) (ha : Xp ps n k a) : Xp ps (n + 1) r (.tuple [.str w, a])
  | two {n : Nat} {w k r : Str} {a b : PyData} (hw : TwoW w k r) (ha : Xp ps n k a) (hb : Xp ps n k b) : Xp ps (n + 1) r (.tuple [.str w, a, b])
  | iff {n : Nat} {k : Str} {a b c : PyData} (ha : Xp ps n "flag" a) (hb : Xp ps n k b) (hc : Xp ps n k c) : Xp ps (n + 1) k (.tuple [.str "if", a, b, c])
theorem Xp.mono {ps : List (Str × Str)} {n : Nat} {k : Str} {d : PyData} (h : Xp ps n k d) : ∀ {m : Nat}, n ≤ m → Xp ps m k d := by
  induction h with
  | col h => intro m l; obtain ⟨j, rfl⟩ : ∃ j, m = j + 1 := ⟨m - 1, by omega⟩; exact .col h
  | val h nn => intro m l; obtain ⟨j, rfl⟩ : ∃ j, m = j + 1 := ⟨m - 1, by omega⟩; exact .val h nn
  | one hw _ ia => intro m l; obtain ⟨j, rfl⟩ : ∃ j, m = j + 1 := ⟨m - 1, by omega⟩; exact .one hw (ia (by omega))
  | two hw _ _ ia ib => intro m l; obtain ⟨j, rfl⟩ : ∃ j, m = j + 1 := ⟨m - 1, by omega⟩; exact .two hw (ia (by omega)) (ib (by omega))
  | iff _ _ _ ia ib ic => intro m l; obtain ⟨j, rfl⟩ : ∃ j, m = j + 1 := ⟨m - 1, by omega⟩; exact .iff (ia (by omega)) (ib (by omega)) (ic (by omega))
theorem DhF.wide {t : Addr} {H Ha Hb : Hp} {v : V} {d : PyData} (h : DhF Ha Hb v d) (s : SameB t H Ha) (T : Tape Ha t) : DhF H Hb v d := fun H2 h2 => h H2 fun b o n e => h2 b o (s.free T n) e
theorem DhF.later {t : Addr} {H Hb Hc : Hp} {v : V} {d : PyData} (h : DhF H Hb v d) (T : Tape H t) (s : SameB t Hb Hc) : DhF H Hc v d := fun H2 h2 => h H2 fun b o e e' => h2 b o e (s b o (T.ne e) e')
theorem Cols.b {t : Addr} {H H' : Hp} {xs : List V} {ps : List (Str × Str)} (h : Cols H xs ps) (T : Tape H t) (s : SameB t H H') : Cols H' xs ps := h.t (SameT.b T s)
/-- what a drawn expression is -/
def NewX (H : Hp) (t c : Addr) (ps : List (Str × Str)) (n : Nat) (k : Str) (Q : VK) : Prop := ∀ (v : V) (d : PyData) (H' : Hp), DhF H H' v d → Xp ps n k d → TapeL c H' t → SameB t H H' → Q v H'
def spLf : Sp := fun vs H Q _ => ∃ (t c L : Addr) (kind : Str) (xs : List V) (ps : List (Str × Str)), vs = [.ref t, .ref L, .str kind] ∧ KindS kind ∧ TapeL c H t ∧ H L = some (.tup xs) ∧ Cols H xs ps ∧ ps.length ≤ 8 ∧ NewX H t c ps 1 kind Q
def spXp : Nat → Sp
  | 0 => fun _ _ _ _ => False
  | n + 1 => fun vs H Q _ => ∃ (t c L : Addr) (kind : Str) (xs : List V) (ps : List (Str × Str)), vs = [.ref t, .ref L, .str kind, .int ((n : Int) + 1)] ∧ KindS kind ∧ TapeL c H t ∧ H L = some (.tup xs) ∧ Cols H xs ps ∧ ps.length ≤ 8 ∧ NewX H t c ps (n + 1) kind Q
abbrev ttLf : TT := tTest (tOp rEq (tVar 5) (tVar 2))
section
variable {P : Program} {w : World} {K : PySem.W.Frag} {mg : Str → Option Value} {base : Heap} {f fD fR fL : Addr} {fd fdD fdR fdL : FuncData}
abbrev nLf : List Str := ["_law_tape_here", "_law_columns_here", "_law_kind", "_law_same", "_law_name_here", "_law_other"]
theorem scLf : FnScope nLf ["_law_tape_here", "_law_columns_here", "_law_kind"] (defScope sLf) := ⟨rfl, rfl, rfl, by decide +kernel, rfl, by decide +kernel, by decide +kernel⟩
theorem ok_lf (F : Fun K "_law_leaf" "_law_leaf" sLf f fd) (T : Bt mg) (GD : FnOk P w K mg base CX0 1 fD fdD ["_law_tape_here", "_law_many"] spDrawL) (mD : mg "_law_draw" = some (.ref fD)) (kD : PySem.W.keepIn K (.ref fD) = true) (bD : Binds K fdD ["_law_tape_here", "_law_many"] [])
    (GR : FnOk P w K mg base CX0 2 fR fdR ["_law_tape_here", "_law_wide"] spRatL) (mR : mg "_law_rational" = some (.ref fR)) (kR : PySem.W.keepIn K (.ref fR) = true) (bR : Binds K fdR ["_law_tape_here", "_law_wide"] []) : FnOk P w K mg base CX0 3 f fd ["_law_tape_here", "_law_columns_here", "_law_kind"] spLf := by
  refine F.ok scLf (fun vs H Q E h => ?_) (fun cdv A outer s H vs Q E hr h => ?_)
  · obtain ⟨t, c, L, kind, xs, ps, rfl, _⟩ := h
    rfl
  · obtain ⟨t, c, L, kind, xs, ps, rfl, hk, hT, hL, hc, l8, k⟩ := h
    have hr1 : Room 1 _ := hr.mono (by decide)
    refine ⟨_, Evl.pss_cut (ps_setLc (i := 3) (own := [("_law_name_here", 4), ("_law_other", 5)]) (g := gTup K 2 (gCons (gName 4) (gCons (gName 5) gNil))) (tt := ttLf) (te := tVar 4) (by rfl) scLf.nd rfl rfl (sw_true rfl rfl rfl (by decide +kernel)) (pi_tup (pv 1)) (blkOk_by (own := [("_law_name_here", 4), ("_law_other", 5)]) (N := nLf) (sc := defScope sLf) (by decide +kernel))
          (fun _ _ _ _ _ => pg_tup rfl (pgs_cons (pg_name (i := 4) scLf.nd rfl (.inl rfl)) (pgs_cons (pg_name (i := 5) scLf.nd rfl (.inl rfl)) pgs_nil))) (fun _ _ _ _ _ => pts_one (pt_cmpR op_eq (pv 5) (pv 2) (nomark _))) (fun _ _ _ _ _ => pv 4))
      (Evl.pss_cut (ps_if (PW.pt (pw_and (pt_truth (pv 3) (fun _ => rfl)) (pw_and1 (pt_cmpR op_gt (pe_call GD hr1 (by rfl) mD kD bD .nil pass0 (pa_cons (pv 0) (pa_cons pe_int pa_nil))) pe_int (nomark _)))))
        (pss_one (ps_ret (pe_tup (pa_cons pe_str (pa_cons (pe_ix ix_list (pv 3) (pe_call GD hr1 (by rfl) mD kD bD .nil pass0 (pa_cons (pv 0) (pa_cons (pe_callB call_len_seq (by rfl) T.len PySem.boot_len (pa_cons (pv 3) pa_nil)) pa_nil))) (fun _ _ => rfl)) pa_nil))))) pss_nil)
      (pss_cons (ps_if (pt_cmpR op_eq (pv 2) pe_str (nomark _)) (pss_one (ps_ret (pe_tup (pa_cons pe_str (pa_cons (pe_call GR hr (by rfl) mR kR bR .nil pass0 (pa_cons (pv 0) (pa_cons pe_bl pa_nil))) pa_nil))))) pss_nil)
      (pss_cons (ps_if (pt_cmpR op_eq (pv 2) pe_str (nomark _)) (pss_one (ps_ret (pe_tup (pa_cons pe_str (pa_cons (pe_cmpR op_eq (pe_call GD hr1 (by rfl) mD kD bD .nil pass0 (pa_cons (pv 0) (pa_cons pe_int pa_nil))) pe_int (nomark _)) pa_nil))))) pss_nil)
      (pss_one (ps_ret (pe_tup (pa_cons pe_str (pa_cons (pe_ix ix_list (pe_lst (pa_cons pe_str (pa_cons pe_str (pa_cons pe_str (pa_cons pe_str pa_nil))))) (pe_call GD hr1 (by rfl) mD kD bD .nil pass0 (pa_cons (pv 0) (pa_cons pe_int pa_nil))) (fun _ _ => rfl)) pa_nil)))))))), ?_⟩
    have two : 2 ≤ sizeLine := by decide
    have four : 4 ≤ sizeLine := by decide
    have lx := hc.len
    -- the columns of the kind
    refine ⟨fun σ H' => ∃ (W : Addr) (ns : List Str) (x4 x5 : Option V), σ = [some (.ref t), some (.ref L), some (.str kind), some (.ref W), x4, x5] ∧ H' W = some (.lst (ns.map V.str)) ∧ H W = none ∧ ns.length ≤ 8 ∧ (∀ z ∈ ns, (z, kind) ∈ ps) ∧ Same H H', ?_, ?_⟩
    · refine ⟨_, rfl, L, rfl, ⟨_, SqT.of hL⟩, fun D hD => lc_tup (K := K) (a := L) (xs := xs) (fun i H' => ∃ ns : List Str, H' D = some (.lst (ns.map V.str)) ∧ ns.length ≤ i ∧ (∀ z ∈ ns, (z, kind) ∈ ps) ∧ Same H H') ⟨[], upd_same, Nat.le_refl _, nofun, Same.upd hD⟩ (fun i H' _ p => by obtain ⟨_, _, _, _, s'⟩ := p; exact SqT.of (s' _ _ hL)) ?_ ?_⟩
      · rintro i x H1 hx ⟨ns, hD1, ln, hn, s1⟩
        obtain ⟨a, z, kk, rfl, ea, ep⟩ := hc.get _ _ hx
        have hi : i < xs.length := (List.getElem?_eq_some_iff.mp hx).1
        refine ⟨a, _, rfl, SqT.of (s1 _ _ ea), rfl, _, _, rfl, _, _, rfl, rfl, rfl, ?_⟩
        change ttLf _ _ _
        refine ⟨_, rfl, _, rfl, rfl, _, rfl, ite2 (fun q => ?_) (fun q => ?_)⟩
        · have ek : kk = kind := by have := of_decide_eq_true q; injection this
          subst ek
          refine ⟨_, rfl, _, hD1, ?_, ns ++ [z], by rw [upd_same, List.map_append]; rfl, by rw [List.length_append]; show ns.length + 1 ≤ _; omega, fun y hy => ?_, fun b o e => by rw [upd_ne (ne_of_none e hD)]; exact s1 b o e⟩
          · rw [List.length_map]
            exact Nat.lt_of_le_of_lt (show _ ≤ 8 by omega) (by decide)
          · rcases List.mem_append.mp hy with hy | hy
            · exact hn y hy
            · rw [List.mem_singleton.mp hy]
              exact List.mem_of_getElem? ep
        · exact ⟨ns, hD1, by omega, hn, s1⟩
      · rintro H1 ⟨ns, hD1, ln, hn, s1⟩
        exact ⟨D, ns, _, _, rfl, hD1, hD, by omega, hn, s1⟩
    rintro σ H1 ⟨W, ns, x4, x5, rfl, hW, gW, ln, hn, s1⟩
    have T1 := hT.same s1
    have nW := hT.tape.ne gW
    have S1 := Same.b t s1
    -- a column
    refine ⟨fun σ H' => σ = [some (.ref t), some (.ref L), some (.str kind), some (.ref W), x4, x5] ∧ TapeL c H' t ∧ SameB t H H', ?_, ?_⟩
    · refine ⟨_, rfl, _, .inl ⟨_, SqL.of hW, rfl⟩, ite2 (fun ne => ?_) (fun _ => iteF ⟨rfl, T1, S1⟩)⟩
      have pos : 0 < ns.length := by
        cases ns with
        | nil => simp at ne
        | cons a r => exact Nat.succ_pos _
      refine ⟨_, rfl, t, c, _, rfl, T1, by decide, big1000 (by decide) (by decide), fun j H2 _ _ T2 S2 => ⟨_, _, rfl, rfl, _, rfl, ite2 (fun _ => ?_) (fun _ => ⟨rfl, T2, S1.trans S2⟩)⟩⟩
      have hW2 := S2 _ _ nW hW
      refine ⟨_, rfl, _, rfl, _, rfl, W, _, rfl, .inl (SqL.of hW2), t, c, _, rfl, T2, by rw [List.length_map]; omega, big1000 (by omega) (by rw [List.length_map]; omega), fun j H3 j0 j1 T3 S3 => ?_⟩
      rw [List.length_map] at j1
      have hj : j.toNat < ns.length := by omega
      have hm : (ns.map V.str)[j.toNat]? = some (.str ns[j.toNat]) := by rw [List.getElem?_map, List.getElem?_eq_getElem hj]; rfl
      refine ⟨W, _, _, _, rfl, rfl, SqL.of (S3 _ _ nW hW2), at_of (j := j.toNat) (by omega) hm, two, fun r hr' => ?_⟩
      have S13 := (S1.trans S2).trans S3
      have zr := Same.upd (o := .tup [.str "column", .str ns[j.toNat]]) hr'
      exact k _ _ _ (fun H5 h5 => .tup (h5 _ _ (S13.free T3.tape hr') upd_same) (.cons (.str _) (.cons (.str _) .nil))) (.col (n := 0) (hn _ (List.getElem_mem hj))) (T3.same zr) (S13.trans (Same.b t zr))
    clear hW gW hn s1 T1 nW S1
    rintro σ H1 ⟨rfl, T1, S1⟩
    have fin : ∀ {H3 : Hp} {v : V} {d : PyData}, DhF H H3 v d → Vk kind d → d ≠ .none → TapeL c H3 t → SameB t H H3 → ∀ r, H3 r = none → Q (.ref r) (upd H3 r (.tup [.str "value", v])) := fun {H3 v d} df vk nn T3 S3 r hr' => by
      have zr := Same.upd (o := .tup [.str "value", v]) hr'
      exact k _ _ _ (fun H5 h5 => .tup (h5 _ _ (S3.free T3.tape hr') upd_same) (.cons (.str _) (.cons ((df.later hT.tape (Same.b t zr)) H5 h5) .nil))) (.val (n := 0) vk nn) (T3.same zr) (S3.trans (Same.b t zr))
    refine ⟨_, rfl, rfl, _, rfl, ?_⟩
    rw [decide_eq_decide.mpr (show V.str kind = V.str "number" ↔ kind = "number" from ⟨fun e => by injection e, fun e => by rw [e]⟩)]
    by_cases k1 : kind = "number"
    · rw [decide_eq_true k1]
      subst k1
      refine iteT ⟨_, rfl, t, c, false, rfl, T1, fun p n d H2 rt h1 h2 e g T2 S2 => ⟨two, ?_⟩⟩
      have g0 := S1.free T1.tape g
      exact fin (fun H5 h5 => .tup (h5 _ _ g0 e) (.cons (.int n) (.cons (.int d) .nil))) (.num rt h1 h2) nofun T2 (S1.trans S2)
    rw [decide_eq_false k1]
    refine iteF ⟨_, rfl, rfl, _, rfl, ?_⟩
    rw [decide_eq_decide.mpr (show V.str kind = V.str "flag" ↔ kind = "flag" from ⟨fun e => by injection e, fun e => by rw [e]⟩)]
    by_cases k2 : kind = "flag"
    · rw [decide_eq_true k2]
      subst k2
      exact iteT ⟨_, rfl, t, c, _, rfl, T1, by decide, big1000 (by decide) (by decide), fun j H2 _ _ T2 S2 => ⟨rfl, two, fin (fun _ _ => .bl _) (.flag _) nofun T2 (S1.trans S2)⟩⟩
    rw [decide_eq_false k2]
    have k3 : kind = "word" := by rcases hk with z | z | z; exact absurd z k1; exact z; exact absurd z k2
    subst k3
    refine iteF ⟨four, fun Y hY => ?_⟩
    have zY := Same.upd (o := .lst [.str "a", .str "b", .str "ab", .str "b0"]) hY
    have nY := T1.tape.ne hY
    refine ⟨_, rfl, t, c, _, rfl, T1.same zY, by decide, big1000 (by decide) (by decide), fun j H2 j0 j4 T2 S2 => ?_⟩
    have S12 := S1.trans ((Same.b t zY).trans S2)
    have all : ∀ v ∈ ([.str "a", .str "b", .str "ab", .str "b0"] : List V), ∃ z : Str, v = .str z ∧ Sh 12 z ∧ nameB (.str z) = true := by
      intro v hv
      simp only [List.mem_cons, List.not_mem_nil, or_false] at hv
      rcases hv with rfl | rfl | rfl | rfl <;> exact ⟨_, rfl, ⟨by decide +kernel, by decide +kernel⟩, by decide +kernel⟩
    have hj : j.toNat < ([.str "a", .str "b", .str "ab", .str "b0"] : List V).length := by show j.toNat < 4; omega
    obtain ⟨z, ez, sz, nz⟩ := all _ (List.getElem_mem hj)
    refine ⟨Y, _, _, _, rfl, rfl, SqL.of (S2 _ _ nY upd_same), at_of (j := j.toNat) (by omega) ((List.getElem?_eq_getElem hj).trans (congrArg some ez)), two, ?_⟩
    exact fin (fun _ _ => .str z) (.word sz nz) nofun T2 S12
end
end K77
set_option Elab.async false
set_option linter.all false
set_option maxRecDepth 100000
set_option maxHeartbeats 4000000
namespace K77
open PySem PySem.Spec PyProof.Rows L2 Lc
section
variable {P : Program} {w : World} {K : PySem.W.Frag} {mg : Str → Option Value} {base : Heap} {f fD fL : Addr} {fd fdD fdL : FuncData}
abbrev nXp : List Str := ["_law_tape_here", "_law_columns_here", "_law_kind", "_law_depth", "_law_turn", "_law_low", "_law_test", "_law_left", "_law_word", "_law_some"]
abbrev pXp : List Str := ["_law_tape_here", "_law_columns_here", "_law_kind", "_law_depth"]
theorem scXp : FnScope nXp pXp (defScope sXp) := ⟨rfl, rfl, rfl, by decide +kernel, rfl, by decide +kernel, by decide +kernel⟩
theorem fn_none {f : Addr} {fd : FuncData} {ps : List Str} {k : Nat} : FnOk P w K mg base CX0 k f fd ps (fun _ _ _ _ => False) := ⟨fun _ _ _ _ h => h.elim, fun _ _ _ _ _ _ _ _ _ _ _ _ _ h => h.elim⟩
theorem ok_xp1 (n : Nat) (F : Fun K "_law_expression" "_law_expression" sXp f fd) (GD : FnOk P w K mg base CX0 1 fD fdD ["_law_tape_here", "_law_many"] spDrawL) (mD : mg "_law_draw" = some (.ref fD)) (kD : PySem.W.keepIn K (.ref fD) = true) (bD : Binds K fdD ["_law_tape_here", "_law_many"] [])
    (GL : FnOk P w K mg base CX0 3 fL fdL ["_law_tape_here", "_law_columns_here", "_law_kind"] spLf) (mL : mg "_law_leaf" = some (.ref fL)) (kL : PySem.W.keepIn K (.ref fL) = true) (bL : Binds K fdL ["_law_tape_here", "_law_columns_here", "_law_kind"] [])
    (GX : FnOk P w K mg base CX0 (3 + n) f fd pXp (spXp n)) (mX : mg "_law_expression" = some (.ref f)) (kX : PySem.W.keepIn K (.ref f) = true) (bX : Binds K fd pXp []) : FnOk P w K mg base CX0 (3 + n + 1) f fd pXp (spXp (n + 1)) := by
  refine F.ok scXp (fun vs H Q E h => ?_) (fun cdv A outer s H vs Q E hr h => ?_)
  · obtain ⟨t, c, L, kind, xs, ps, rfl, _⟩ := h
    rfl
  · obtain ⟨t, c, L, kind, xs, ps, rfl, hk, hT, hL, hc, l8, k⟩ := h
    have hr1 : Room 1 _ := hr.mono (by omega)
    have hr3 : Room 3 _ := hr.mono (by omega)
    refine ⟨_, pss_cons (ps_set (i := 4) scXp.nd rfl (Or.inl rfl) (pe_call GD hr1 (by rfl) mD kD bD .nil pass0 (pa_cons (pv 0) (pa_cons pe_int pa_nil))))
      (pss_cons (ps_set (i := 5) scXp.nd rfl (Or.inl rfl) (pe_op op_sub (pv 3) pe_int))
      (pss_cons (ps_if (PW.pt (pw_or (pt_cmpR op_le (pv 3) pe_int (nomark _)) (pw_or1 (pt_cmpR op_lt (pv 4) pe_int (nomark _))))) (pss_one (ps_ret (pe_call GL hr3 (by rfl) mL kL bL .nil pass0 (pa_cons (pv 0) (pa_cons (pv 1) (pa_cons (pv 2) pa_nil)))))) pss_nil)
      (pss_cons (ps_if (pt_cmpR op_eq (pv 4) pe_int (nomark _)) (pss_cons (ps_set (i := 6) scXp.nd rfl (Or.inl rfl) (pe_call GX hr (by rfl) mX kX bX .nil pass0 (pa_cons (pv 0) (pa_cons (pv 1) (pa_cons pe_str (pa_cons (pv 5) pa_nil))))))
          (pss_cons (ps_set (i := 7) scXp.nd rfl (Or.inl rfl) (pe_call GX hr (by rfl) mX kX bX .nil pass0 (pa_cons (pv 0) (pa_cons (pv 1) (pa_cons (pv 2) (pa_cons (pv 5) pa_nil))))))
          (pss_one (ps_ret (pe_tup (pa_cons pe_str (pa_cons (pv 6) (pa_cons (pv 7) (pa_cons (pe_call GX hr (by rfl) mX kX bX .nil pass0 (pa_cons (pv 0) (pa_cons (pv 1) (pa_cons (pv 2) (pa_cons (pv 5) pa_nil))))) pa_nil))))))))) pss_nil)
      (pss_cons (ps_if (pt_cmpR op_eq (pv 2) pe_str (nomark _)) (pss_one (ps_ret (pe_call GL hr3 (by rfl) mL kL bL .nil pass0 (pa_cons (pv 0) (pa_cons (pv 1) (pa_cons (pv 2) pa_nil)))))) pss_nil)
      (pss_cons (ps_if (pt_cmpR op_eq (pv 2) pe_str (nomark _)) (pss_cons (ps_set (i := 8) scXp.nd rfl (Or.inl rfl) (pe_ix ix_list (pe_lst (pa_cons pe_str (pa_cons pe_str (pa_cons pe_str (pa_cons pe_str pa_nil))))) (pe_call GD hr1 (by rfl) mD kD bD .nil pass0 (pa_cons (pv 0) (pa_cons pe_int pa_nil))) (fun _ _ => rfl)))
          (pss_cons (ps_set (i := 7) scXp.nd rfl (Or.inl rfl) (pe_call GX hr (by rfl) mX kX bX .nil pass0 (pa_cons (pv 0) (pa_cons (pv 1) (pa_cons pe_str (pa_cons (pv 5) pa_nil))))))
          (pss_one (ps_ret (pe_tup (pa_cons (pv 8) (pa_cons (pv 7) (pa_cons (pe_call GX hr (by rfl) mX kX bX .nil pass0 (pa_cons (pv 0) (pa_cons (pv 1) (pa_cons pe_str (pa_cons (pv 5) pa_nil))))) pa_nil)))))))) pss_nil)
      (pss_cons (ps_if (pt_cmpR op_eq (pv 4) pe_int (nomark _)) (pss_one (ps_ret (pe_tup (pa_cons pe_str (pa_cons (pe_call GX hr (by rfl) mX kX bX .nil pass0 (pa_cons (pv 0) (pa_cons (pv 1) (pa_cons pe_str (pa_cons (pv 5) pa_nil))))) pa_nil))))) pss_nil)
      (Evl.pss_cut (ps_set (i := 9) scXp.nd rfl (Or.inl rfl) (pe_ix ix_list (pe_lst (pa_cons pe_str (pa_cons pe_str (pa_cons pe_str pa_nil)))) (pe_call GD hr1 (by rfl) mD kD bD .nil pass0 (pa_cons (pv 0) (pa_cons pe_int pa_nil))) (fun _ _ => rfl)))
      (pss_cons (ps_if (pt_cmpR op_eq (pv 4) pe_int (nomark _)) (pss_one (ps_ret (pe_tup (pa_cons pe_str (pa_cons (pe_call GX hr (by rfl) mX kX bX .nil pass0 (pa_cons (pv 0) (pa_cons (pv 1) (pa_cons (pv 9) (pa_cons (pv 5) pa_nil))))) pa_nil))))) pss_nil)
      (pss_cons (ps_if (pt_cmpR op_eq (pv 4) pe_int (nomark _)) (pss_cons (ps_set (i := 7) scXp.nd rfl (Or.inl rfl) (pe_call GX hr (by rfl) mX kX bX .nil pass0 (pa_cons (pv 0) (pa_cons (pv 1) (pa_cons (pv 9) (pa_cons (pv 5) pa_nil))))))
          (pss_one (ps_ret (pe_tup (pa_cons pe_str (pa_cons (pv 7) (pa_cons (pe_call GX hr (by rfl) mX kX bX .nil pass0 (pa_cons (pv 0) (pa_cons (pv 1) (pa_cons (pv 9) (pa_cons (pv 5) pa_nil))))) pa_nil))))))) pss_nil)
      (pss_cons (ps_if (pt_cmpR op_lt (pv 4) pe_int (nomark _)) (pss_cons (ps_set (i := 7) scXp.nd rfl (Or.inl rfl) (pe_call GX hr (by rfl) mX kX bX .nil pass0 (pa_cons (pv 0) (pa_cons (pv 1) (pa_cons pe_str (pa_cons (pv 5) pa_nil))))))
          (pss_one (ps_ret (pe_tup (pa_cons pe_str (pa_cons (pv 7) (pa_cons (pe_call GX hr (by rfl) mX kX bX .nil pass0 (pa_cons (pv 0) (pa_cons (pv 1) (pa_cons pe_str (pa_cons (pv 5) pa_nil))))) pa_nil))))))) pss_nil)
      (pss_cons (ps_set (i := 8) scXp.nd rfl (Or.inl rfl) (pe_ix ix_list (pe_lst (pa_cons pe_str (pa_cons pe_str pa_nil))) (pe_call GD hr1 (by rfl) mD kD bD .nil pass0 (pa_cons (pv 0) (pa_cons pe_int pa_nil))) (fun _ _ => rfl)))
      (pss_cons (ps_set (i := 7) scXp.nd rfl (Or.inl rfl) (pe_call GX hr (by rfl) mX kX bX .nil pass0 (pa_cons (pv 0) (pa_cons (pv 1) (pa_cons pe_str (pa_cons (pv 5) pa_nil))))))
      (pss_one (ps_ret (pe_tup (pa_cons (pv 8) (pa_cons (pv 7) (pa_cons (pe_call GX hr (by rfl) mX kX bX .nil pass0 (pa_cons (pv 0) (pa_cons (pv 1) (pa_cons pe_str (pa_cons (pv 5) pa_nil))))) pa_nil)))))))))))))))))), ?_⟩
    have two : 2 ≤ sizeLine := by decide
    have three : 3 ≤ sizeLine := by decide
    have four : 4 ≤ sizeLine := by decide
    have kF : KindS "flag" := .inr (.inr rfl)
    have kN : KindS "number" := .inl rfl
    refine ⟨_, rfl, t, c, _, rfl, hT, by decide, big1000 (by decide) (by decide), fun u H1 u0 u9 T1 S1 => ⟨_, rfl, _, _, rfl, rfl, ?_⟩⟩
    show gName 5 (.int ((n : Int) + 1 - 1)) _ _ _
    rw [show (n : Int) + 1 - 1 = n by omega]
    have leaf : spLf [.ref t, .ref L, .str kind] H1 Q E0 := ⟨t, c, L, kind, xs, ps, rfl, hk, T1, S1 _ _ (hT.tape.neT hL) hL, hc.b hT.tape S1, l8, fun v d H2 df xp T2 S2 => k v d H2 (df.wide S1 T1.tape) (xp.mono (by omega)) T2 (S1.trans S2)⟩
    refine ⟨_, rfl, _, _, rfl, rfl, _, rfl, ite2 (fun _ => iteT ⟨_, rfl, _, rfl, _, rfl, leaf⟩) (fun nd => ⟨_, rfl, _, _, rfl, rfl, _, rfl, ite2 (fun _ => ⟨_, rfl, _, rfl, _, rfl, leaf⟩) (fun _ => ?_)⟩)⟩
    obtain ⟨m, rfl⟩ : ∃ m, n = m + 1 := by
      have : ¬ ((n : Int) + 1 ≤ 1) := fun z => nd (decide_eq_true z)
      exact ⟨n - 1, by omega⟩
    rw [show ((m + 1 : Nat) : Int) = (m : Int) + 1 by omega]
    have again : ∀ {H1 : Hp} {kd : Str} {Q' : VK}, KindS kd → TapeL c H1 t → SameB t H H1 → (∀ v d H2, DhF H H2 v d → Xp ps (m + 1) kd d → TapeL c H2 t → SameB t H1 H2 → SameB t H H2 → Q' v H2) → spXp (m + 1) [.ref t, .ref L, .str kd, .int ((m : Int) + 1)] H1 Q' E0 :=
      fun {H1 kd Q'} hk T1 S1 kq => ⟨t, c, L, kd, xs, ps, rfl, hk, T1, S1 _ _ (hT.tape.neT hL) hL, hc.b hT.tape S1, l8, fun v d H2 df xp T2 S2 => kq v d H2 (df.wide S1 T1.tape) xp T2 S2 (S1.trans S2)⟩
    have fin1 : ∀ {H3 : Hp} {wd kd kr : Str} {va : V} {da : PyData}, kr = kind → OneW wd kd kr → DhF H H3 va da → Xp ps (m + 1) kd da → TapeL c H3 t → SameB t H H3 → ∀ r, H3 r = none → Q (.ref r) (upd H3 r (.tup [.str wd, va])) := fun {H3 wd kd kr va da} ek hw dva xa T3 S3 r hr' => by
      subst ek
      have zr := Same.upd (o := .tup [.str wd, va]) hr'
      exact k _ _ _ (fun H5 h5 => .tup (h5 _ _ (S3.free T3.tape hr') upd_same) (.cons (.str _) (.cons (dva.later hT.tape (Same.b t zr) H5 h5) .nil))) (.one hw xa) (T3.same zr) (S3.trans (Same.b t zr))
    have fin2 : ∀ {H3 : Hp} {wd kd kr : Str} {va vb : V} {da db : PyData}, kr = kind → TwoW wd kd kr → DhF H H3 va da → DhF H H3 vb db → Xp ps (m + 1) kd da → Xp ps (m + 1) kd db → TapeL c H3 t → SameB t H H3 → ∀ r, H3 r = none → Q (.ref r) (upd H3 r (.tup [.str wd, va, vb])) := fun {H3 wd kd kr va vb da db} ek hw dva dvb xa xb T3 S3 r hr' => by
      subst ek
      have zr := Same.upd (o := .tup [.str wd, va, vb]) hr'
      exact k _ _ _ (fun H5 h5 => .tup (h5 _ _ (S3.free T3.tape hr') upd_same) (.cons (.str _) (.cons (dva.later hT.tape (Same.b t zr) H5 h5) (.cons (dvb.later hT.tape (Same.b t zr) H5 h5) .nil)))) (.two hw xa xb) (T3.same zr) (S3.trans (Same.b t zr))
    have sE : ∀ (a b : Str), decide (V.str a = V.str b) = decide (a = b) := fun a b => decide_eq_decide.mpr ⟨fun e => by injection e, fun e => by rw [e]⟩
    -- if
    refine ⟨_, rfl, rfl, _, rfl, ite2 (fun _ => ?_) (fun _ => ?_)⟩
    · refine ⟨_, rfl, _, rfl, _, rfl, again kF T1 S1 (fun va da H2 dva xa T2 _ S2 => ?_)⟩
      refine ⟨_, rfl, _, rfl, _, rfl, _, rfl, again hk T2 S2 (fun vb db H3 dvb xb T3 s23 S3 => ?_)⟩
      refine ⟨_, rfl, _, rfl, _, rfl, _, rfl, _, rfl, _, rfl, again hk T3 S3 (fun vc dc H4 dvc xc T4 s34 S4 => ⟨four, fun r hr' => ?_⟩)⟩
      have zr := Same.upd (o := .tup [.str "if", va, vb, vc]) hr'
      have z4 := s34.trans (Same.b t zr)
      exact k _ _ _ (fun H5 h5 => .tup (h5 _ _ (S4.free T4.tape hr') upd_same) (.cons (.str _) (.cons (dva.later hT.tape (s23.trans z4) H5 h5) (.cons (dvb.later hT.tape z4 H5 h5) (.cons (dvc.later hT.tape (Same.b t zr) H5 h5) .nil))))) (.iff xa xb xc) (T4.same zr) (S4.trans (Same.b t zr))
    -- a word
    refine ⟨_, rfl, rfl, _, rfl, ?_⟩
    rw [sE]
    by_cases k1 : kind = "word"
    · rw [decide_eq_true k1]
      exact iteT ⟨_, rfl, _, rfl, _, rfl, leaf⟩
    rw [decide_eq_false k1]
    refine iteF ⟨_, rfl, rfl, _, rfl, ?_⟩
    rw [sE]
    by_cases k2 : kind = "number"
    · rw [decide_eq_true k2]
      refine iteT ⟨four, fun Y hY => ?_⟩
      have zY := Same.upd (o := .lst [.str "plus", .str "minus", .str "times", .str "over"]) hY
      have nY := T1.tape.ne hY
      refine ⟨_, rfl, t, c, _, rfl, T1.same zY, by decide, big1000 (by decide) (by decide), fun j H2 j0 j4 T2 S2 => ?_⟩
      have S12 := S1.trans ((Same.b t zY).trans S2)
      have all : ∀ v ∈ ([.str "plus", .str "minus", .str "times", .str "over"] : List V), ∃ z : Str, v = .str z ∧ (z = "plus" ∨ z = "minus" ∨ z = "times" ∨ z = "over") := by
        intro v hv
        simp only [List.mem_cons, List.not_mem_nil, or_false] at hv
        rcases hv with rfl | rfl | rfl | rfl
        · exact ⟨_, rfl, .inl rfl⟩
        · exact ⟨_, rfl, .inr (.inl rfl)⟩
        · exact ⟨_, rfl, .inr (.inr (.inl rfl))⟩
        · exact ⟨_, rfl, .inr (.inr (.inr rfl))⟩
      have hj : j.toNat < ([.str "plus", .str "minus", .str "times", .str "over"] : List V).length := by show j.toNat < 4; omega
      obtain ⟨z, ez, hz⟩ := all _ (List.getElem_mem hj)
      refine ⟨Y, _, _, _, rfl, rfl, SqL.of (S2 _ _ nY upd_same), at_of (j := j.toNat) (by omega) ((List.getElem?_eq_getElem hj).trans (congrArg some ez)), ?_⟩
      refine ⟨_, rfl, _, rfl, _, rfl, again kN T2 S12 (fun va da H3 dva xa T3 _ S3 => ?_)⟩
      refine ⟨_, rfl, _, rfl, _, rfl, _, rfl, _, rfl, again kN T3 S3 (fun vb db H4 dvb xb T4 s34 S4 => ⟨three, ?_⟩)⟩
      exact fin2 k2.symm (.inl ⟨hz, rfl, rfl⟩) (dva.later hT.tape s34) dvb xa xb T4 S4
    rw [decide_eq_false k2]
    have k3 : "flag" = kind := by rcases hk with z | z | z; exact absurd z k2; exact absurd z k1; exact z.symm
    -- not
    refine iteF ⟨_, rfl, rfl, _, rfl, ite2 (fun _ => ?_) (fun _ => ?_)⟩
    · exact ⟨_, rfl, _, rfl, _, rfl, again kF T1 S1 (fun va da H2 dva xa T2 _ S2 => ⟨two, fin1 k3 (.inl ⟨rfl, rfl, rfl⟩) dva xa T2 S2⟩)⟩
    -- some kind
    refine ⟨fun σ H' => ∃ kd : Str, KindS kd ∧ σ = [some (.ref t), some (.ref L), some (.str kind), some (.int ((m : Int) + 1 + 1)), some (.int u), some (.int ((m : Int) + 1)), none, none, none, some (.str kd)] ∧ TapeL c H' t ∧ SameB t H H', ?_, ?_⟩
    · refine ⟨three, fun Y hY => ?_⟩
      have zY := Same.upd (o := .lst [.str "number", .str "word", .str "flag"]) hY
      have nY := T1.tape.ne hY
      refine ⟨_, rfl, t, c, _, rfl, T1.same zY, by decide, big1000 (by decide) (by decide), fun j H2 j0 j4 T2 S2 => ?_⟩
      have S12 := S1.trans ((Same.b t zY).trans S2)
      have all : ∀ v ∈ ([.str "number", .str "word", .str "flag"] : List V), ∃ z : Str, v = .str z ∧ KindS z := by
        intro v hv
        simp only [List.mem_cons, List.not_mem_nil, or_false] at hv
        rcases hv with rfl | rfl | rfl
        · exact ⟨_, rfl, .inl rfl⟩
        · exact ⟨_, rfl, .inr (.inl rfl)⟩
        · exact ⟨_, rfl, .inr (.inr rfl)⟩
      have hj : j.toNat < ([.str "number", .str "word", .str "flag"] : List V).length := by show j.toNat < 3; omega
      obtain ⟨z, ez, hz⟩ := all _ (List.getElem_mem hj)
      exact ⟨Y, _, _, _, rfl, rfl, SqL.of (S2 _ _ nY upd_same), at_of (j := j.toNat) (by omega) ((List.getElem?_eq_getElem hj).trans (congrArg some ez)), z, hz, rfl, T2, S12⟩
    clear T1 S1 leaf
    rintro σ H1 ⟨kd, hkd, rfl, T1, S1⟩
    refine ⟨_, rfl, rfl, _, rfl, ite2 (fun _ => ?_) (fun _ => ?_)⟩
    · exact ⟨_, rfl, _, rfl, _, rfl, _, rfl, again hkd T1 S1 (fun va da H2 dva xa T2 _ S2 => ⟨two, fin1 k3 (.inr ⟨rfl, hkd, rfl⟩) dva xa T2 S2⟩)⟩
    refine ⟨_, rfl, rfl, _, rfl, ite2 (fun _ => ?_) (fun _ => ?_)⟩
    · refine ⟨_, rfl, _, rfl, _, rfl, _, rfl, again hkd T1 S1 (fun va da H2 dva xa T2 _ S2 => ?_)⟩
      refine ⟨_, rfl, _, rfl, _, rfl, _, rfl, _, rfl, again hkd T2 S2 (fun vb db H3 dvb xb T3 s23 S3 => ⟨three, ?_⟩)⟩
      exact fin2 k3 (.inr (.inr (.inl ⟨rfl, hkd, rfl⟩))) (dva.later hT.tape s23) dvb xa xb T3 S3
    refine ⟨_, rfl, _, _, rfl, rfl, _, rfl, ite2 (fun _ => ?_) (fun _ => ?_)⟩
    · refine ⟨_, rfl, _, rfl, _, rfl, again kN T1 S1 (fun va da H2 dva xa T2 _ S2 => ?_)⟩
      refine ⟨_, rfl, _, rfl, _, rfl, _, rfl, again kN T2 S2 (fun vb db H3 dvb xb T3 s23 S3 => ⟨three, ?_⟩)⟩
      exact fin2 k3 (.inr (.inl ⟨rfl, rfl, rfl⟩)) (dva.later hT.tape s23) dvb xa xb T3 S3
    refine ⟨two, fun Y hY => ?_⟩
    have zY := Same.upd (o := .lst [.str "both", .str "either"]) hY
    have nY := T1.tape.ne hY
    refine ⟨_, rfl, t, c, _, rfl, T1.same zY, by decide, big1000 (by decide) (by decide), fun j H2 j0 j4 T2 S2 => ?_⟩
    have S12 := S1.trans ((Same.b t zY).trans S2)
    have all : ∀ v ∈ ([.str "both", .str "either"] : List V), ∃ z : Str, v = .str z ∧ (z = "both" ∨ z = "either") := by
      intro v hv
      simp only [List.mem_cons, List.not_mem_nil, or_false] at hv
      rcases hv with rfl | rfl
      · exact ⟨_, rfl, .inl rfl⟩
      · exact ⟨_, rfl, .inr rfl⟩
    have hj : j.toNat < ([.str "both", .str "either"] : List V).length := by show j.toNat < 2; omega
    obtain ⟨z, ez, hz⟩ := all _ (List.getElem_mem hj)
    refine ⟨Y, _, _, _, rfl, rfl, SqL.of (S2 _ _ nY upd_same), at_of (j := j.toNat) (by omega) ((List.getElem?_eq_getElem hj).trans (congrArg some ez)), ?_⟩
    refine ⟨_, rfl, _, rfl, _, rfl, again kF T2 S12 (fun va da H3 dva xa T3 _ S3 => ?_)⟩
    refine ⟨_, rfl, _, rfl, _, rfl, _, rfl, _, rfl, again kF T3 S3 (fun vb db H4 dvb xb T4 s34 S4 => ⟨three, ?_⟩)⟩
    exact fin2 k3 (.inr (.inr (.inr ⟨hz, rfl, rfl⟩))) (dva.later hT.tape s34) dvb xa xb T4 S4
theorem ok_xp (F : Fun K "_law_expression" "_law_expression" sXp f fd) (GD : FnOk P w K mg base CX0 1 fD fdD ["_law_tape_here", "_law_many"] spDrawL) (mD : mg "_law_draw" = some (.ref fD)) (kD : PySem.W.keepIn K (.ref fD) = true) (bD : Binds K fdD ["_law_tape_here", "_law_many"] [])
    (GL : FnOk P w K mg base CX0 3 fL fdL ["_law_tape_here", "_law_columns_here", "_law_kind"] spLf) (mL : mg "_law_leaf" = some (.ref fL)) (kL : PySem.W.keepIn K (.ref fL) = true) (bL : Binds K fdL ["_law_tape_here", "_law_columns_here", "_law_kind"] [])
    (mX : mg "_law_expression" = some (.ref f)) (kX : PySem.W.keepIn K (.ref f) = true) (bX : Binds K fd pXp []) : ∀ n : Nat, FnOk P w K mg base CX0 (3 + n) f fd pXp (spXp n)
  | 0 => fn_none
  | n + 1 => ok_xp1 n F GD mD kD bD GL mL kL bL (ok_xp F GD mD kD bD GL mL kL bL mX kX bX n) mX kX bX
end
end K77
set_option Elab.async false
set_option linter.all false
set_option maxRecDepth 100000
set_option maxHeartbeats 4000000
namespace K77
open PySem PySem.Spec PyProof.Rows L2 Lc
mutual
def dpt : PyData → Nat
  | .tuple ds => dpw ds
  | _ => 0
def dpw : List PyData → Nat
  | .str w :: r => if w = ("column" : Str) ∨ w = ("value" : Str) then 1 else 1 + dpts r
  | _ => 0
def dpts : List PyData → Nat
  | [] => 0
  | d :: r => max (dpt d) (dpts r)
end
theorem dpt_leaf {w : Str} {r : List PyData} (h : w = "column" ∨ w = "value") : dpt (.tuple (.str w :: r)) = 1 := by rw [dpt, dpw, if_pos h]
theorem dpt_op {w : Str} {r : List PyData} (h : ¬ (w = "column" ∨ w = "value")) : dpt (.tuple (.str w :: r)) = 1 + dpts r := by rw [dpt, dpw, if_neg h]
theorem dpts_max : ∀ {ds : List PyData} {m : Nat}, 0 < ds.length → (∃ d ∈ ds, dpt d = m) → (∀ d ∈ ds, dpt d ≤ m) → dpts ds = m
  | [], _, h, _, _ => absurd h (by decide)
  | [d], m, _, ⟨x, hx, e⟩, _ => by
    rw [List.mem_singleton.mp hx] at e
    rw [dpts, dpts, e]
    omega
  | d :: a :: r, m, _, ⟨x, hx, e⟩, hm => by
    have up : dpts (a :: r) ≤ m := by
      have key : ∀ l : List PyData, (∀ d ∈ l, dpt d ≤ m) → dpts l ≤ m := fun l => by
        induction l with
        | nil => intro _; rw [dpts]; omega
        | cons y l ih => intro h; rw [dpts]; have := h y List.mem_cons_self; have := ih (fun d hd => h d (List.mem_cons_of_mem _ hd)); omega
      exact key _ fun d hd => hm d (List.mem_cons_of_mem _ hd)
    have d0 := hm d List.mem_cons_self
    rw [dpts]
    rcases List.mem_cons.mp hx with rfl | hx
    · omega
    · have low : ∀ l : List PyData, x ∈ l → dpt x ≤ dpts l := fun l => by
        induction l with
        | nil => intro h; cases h
        | cons y l ih =>
          intro h
          rw [dpts]
          rcases List.mem_cons.mp h with rfl | h
          · omega
          · have := ih h; omega
      have := low _ hx
      omega
theorem w_leaf {w : Str} (h : w = "not" ∨ w = "missing" ∨ w = "plus" ∨ w = "minus" ∨ w = "times" ∨ w = "over" ∨ w = "less" ∨ w = "same" ∨ w = "both" ∨ w = "either" ∨ w = "if") : ¬ (w = "column" ∨ w = "value") := by
  rcases h with rfl | rfl | rfl | rfl | rfl | rfl | rfl | rfl | rfl | rfl | rfl <;> decide +kernel
theorem OneW.no {w k r : Str} (h : OneW w k r) : ¬ (w = "column" ∨ w = "value") := by
  rcases h with ⟨rfl, _⟩ | ⟨rfl, _⟩ <;> decide +kernel
theorem TwoW.no {w k r : Str} (h : TwoW w k r) : ¬ (w = "column" ∨ w = "value") := by
  rcases h with ⟨rfl | rfl | rfl | rfl, _⟩ | ⟨rfl, _⟩ | ⟨rfl, _⟩ | ⟨rfl | rfl, _⟩ <;> decide +kernel
/-- an expression: a leaf, or a word and its operands -/
theorem Xp.ops {ps : List (Str × Str)} {n : Nat} {k : Str} {d : PyData} (h : Xp ps (n + 1) k d) : (∃ (w : Str) (x : PyData), (w = "column" ∨ w = "value") ∧ d = .tuple [.str w, x]) ∨ ∃ (w : Str) (os : List PyData), ¬ (w = ("column" : Str) ∨ w = ("value" : Str)) ∧ d = .tuple (.str w :: os) ∧ 0 < os.length ∧ os.length ≤ 3 ∧ ∀ o ∈ os, ∃ k', Xp ps n k' o := by
  cases h with
  | col h => exact .inl ⟨_, _, .inl rfl, rfl⟩
  | val h _ => exact .inl ⟨_, _, .inr rfl, rfl⟩
  | one hw ha => exact .inr ⟨_, _, hw.no, rfl, by simp, by simp, fun o ho => by rw [List.mem_singleton.mp ho]; exact ⟨_, ha⟩⟩
  | two hw ha hb => exact .inr ⟨_, _, hw.no, rfl, by simp, by simp, fun o ho => by simp only [List.mem_cons, List.not_mem_nil, or_false] at ho; rcases ho with rfl | rfl; exact ⟨_, ha⟩; exact ⟨_, hb⟩⟩
  | iff ha hb hc => exact .inr ⟨_, _, by decide +kernel, rfl, by simp, by simp, fun o ho => by simp only [List.mem_cons, List.not_mem_nil, or_false] at ho; rcases ho with rfl | rfl | rfl; exact ⟨_, ha⟩; exact ⟨_, hb⟩; exact ⟨_, hc⟩⟩
theorem Xp.zero {ps : List (Str × Str)} {k : Str} {d : PyData} (h : Xp ps 0 k d) : False := nomatch h
theorem cut_tail {x : V} {ys : List V} : cutV (x :: ys) (some 1) none = ys := by
  unfold cutV
  simp [HT.sIx]
theorem tail_not {x : V} {ys : List V} : ¬ (HT.sIx (x :: ys).length 0 (some 1) = 0 ∧ HT.sIx (x :: ys).length (x :: ys).length none = (x :: ys).length) := by
  rintro ⟨z, _⟩
  have : HT.sIx (x :: ys).length 0 (some ((1 : Nat) : Int)) = min 1 (x :: ys).length := HT.sIx_nat _ _ _
  have z' : HT.sIx (x :: ys).length 0 (some ((1 : Nat) : Int)) = 0 := z
  rw [List.length_cons] at *
  omega
theorem at_zero {x : V} {ys : List V} : atI (x :: ys) (0 : Int) = some x := (show atI (x :: ys) ((0 : Nat) : Int) = some x from atI_nat rfl)
def KdP (kvs : List (Key × V)) (ps : List (Str × Str)) : Prop := ∀ z k, (z, k) ∈ ps → valV kvs (Sum.inr z : Key) = some (.str k)
def LeafD (ps : List (Str × Str)) (w : Str) (dx : PyData) (k : Str) : Prop := (w = "column" ∧ ∃ z, dx = .str z ∧ (z, k) ∈ ps) ∨ (w = "value" ∧ Vk k dx ∧ dx ≠ .none ∧ KindS k)
/-- the operands' kinds that a word wants -/
def opsV (w : Str) : Option (List V) :=
  if w = "plus" ∨ w = "minus" ∨ w = "times" ∨ w = "over" ∨ w = "less" then some [.str "number", .str "number"] else if w = "same" then some [.non, .non] else if w = "both" ∨ w = "either" then some [.str "flag", .str "flag"] else if w = "not" then some [.str "flag"] else if w = "missing" then some [.non] else if w = "if" then some [.str "flag", .non, .non] else none
/-- a word, its operands' kinds, the kind of the whole -/
inductive OpK : Str → List Str → Str → Prop
  | one {w k r : Str} (h : OneW w k r) : OpK w [k] r
  | two {w k r : Str} (h : TwoW w k r) : OpK w [k, k] r
  | iff (k : Str) : OpK "if" ["flag", k, k] k
theorem OpK.ops {w r : Str} {ks : List Str} (h : OpK w ks r) : ∃ os, opsV w = some os ∧ os.length = ks.length ∧ ∀ (i : Nat) (o : V), os[i]? = some o → o = .non ∨ ∃ k, ks[i]? = some k ∧ o = .str k := by
  have fin1 : ∀ {o : V} {k : Str}, (o = .non ∨ o = .str k) → ∀ (i : Nat) (x : V), [o][i]? = some x → x = .non ∨ ∃ k', [k][i]? = some k' ∧ x = .str k' := fun {o k} h i x e => by
    match i, e with
    | 0, e => injection e with e; subst e; rcases h with rfl | rfl; exact .inl rfl; exact .inr ⟨_, rfl, rfl⟩
    | i + 1, e => simp at e
  have fin2 : ∀ {o p : V} {k l : Str}, (o = .non ∨ o = .str k) → (p = .non ∨ p = .str l) → ∀ (i : Nat) (x : V), [o, p][i]? = some x → x = .non ∨ ∃ k', [k, l][i]? = some k' ∧ x = .str k' := fun {o p k l} h g i x e => by
    match i, e with
    | 0, e => injection e with e; subst e; rcases h with rfl | rfl; exact .inl rfl; exact .inr ⟨_, rfl, rfl⟩
    | 1, e => injection e with e; subst e; rcases g with rfl | rfl; exact .inl rfl; exact .inr ⟨_, rfl, rfl⟩
    | i + 2, e => simp at e
  cases h with
  | one h =>
    rcases h with ⟨rfl, rfl, _⟩ | ⟨rfl, _, _⟩
    · exact ⟨[.str "flag"], by decide +kernel, rfl, fin1 (.inr rfl)⟩
    · exact ⟨[.non], by decide +kernel, rfl, fin1 (.inl rfl)⟩
  | two h =>
    rcases h with ⟨rfl | rfl | rfl | rfl, rfl, _⟩ | ⟨rfl, rfl, _⟩ | ⟨rfl, _, _⟩ | ⟨rfl | rfl, rfl, _⟩
    · exact ⟨[.str "number", .str "number"], by decide +kernel, rfl, fin2 (.inr rfl) (.inr rfl)⟩
    · exact ⟨[.str "number", .str "number"], by decide +kernel, rfl, fin2 (.inr rfl) (.inr rfl)⟩
    · exact ⟨[.str "number", .str "number"], by decide +kernel, rfl, fin2 (.inr rfl) (.inr rfl)⟩
    · exact ⟨[.str "number", .str "number"], by decide +kernel, rfl, fin2 (.inr rfl) (.inr rfl)⟩
    · exact ⟨[.str "number", .str "number"], by decide +kernel, rfl, fin2 (.inr rfl) (.inr rfl)⟩
    · exact ⟨[.non, .non], by decide +kernel, rfl, fin2 (.inl rfl) (.inl rfl)⟩
    · exact ⟨[.str "flag", .str "flag"], by decide +kernel, rfl, fin2 (.inr rfl) (.inr rfl)⟩
    · exact ⟨[.str "flag", .str "flag"], by decide +kernel, rfl, fin2 (.inr rfl) (.inr rfl)⟩
  | iff k =>
    refine ⟨[.str "flag", .non, .non], by decide +kernel, rfl, fun i x e => ?_⟩
    match i, e with
    | 0, e => injection e with e; subst e; exact .inr ⟨_, rfl, rfl⟩
    | 1, e => injection e with e; exact .inl e.symm
    | 2, e => injection e with e; exact .inl e.symm
    | i + 3, e => simp at e
inductive Xps (ps : List (Str × Str)) (n : Nat) : List Str → List PyData → Prop
  | nil : Xps ps n [] []
  | cons {k : Str} {ks : List Str} {o : PyData} {os : List PyData} (h : Xp ps n k o) (r : Xps ps n ks os) : Xps ps n (k :: ks) (o :: os)
theorem Xps.len {ps : List (Str × Str)} {n : Nat} : ∀ {ks : List Str} {os : List PyData}, Xps ps n ks os → ks.length = os.length
  | _, _, .nil => rfl
  | _, _, .cons _ r => by rw [List.length_cons, List.length_cons, r.len]
theorem Xps.get {ps : List (Str × Str)} {n : Nat} : ∀ {ks : List Str} {os : List PyData}, Xps ps n ks os → ∀ (i : Nat) (o : PyData), os[i]? = some o → ∃ k, ks[i]? = some k ∧ Xp ps n k o
  | _, _, .nil, i, o, e => by simp at e
  | _, _, .cons h r, 0, o, e => by injection e with e; subst e; exact ⟨_, rfl, h⟩
  | _, _, .cons h r, i + 1, o, e => r.get i o (by simpa using e)
theorem Vk.kind {k : Str} {d : PyData} (h : Vk k d) (nn : d ≠ .none) : KindS k := by
  cases h with
  | non => exact absurd rfl nn
  | num => exact .inl rfl
  | flag => exact .inr (.inr rfl)
  | word => exact .inr (.inl rfl)
theorem Xp.ops2 {ps : List (Str × Str)} {n : Nat} {k : Str} {d : PyData} (h : Xp ps (n + 1) k d) : (∃ (w : Str) (x : PyData), (w = "column" ∨ w = "value") ∧ d = .tuple [.str w, x] ∧ LeafD ps w x k) ∨ ∃ (w : Str) (os : List PyData) (ks : List Str), ¬ (w = "column" ∨ w = "value") ∧ d = .tuple (.str w :: os) ∧ OpK w ks k ∧ Xps ps n ks os := by
  cases h with
  | col h => exact .inl ⟨_, _, .inl rfl, rfl, .inl ⟨rfl, _, rfl, h⟩⟩
  | val h nn => exact .inl ⟨_, _, .inr rfl, rfl, .inr ⟨rfl, h, nn, h.kind nn⟩⟩
  | one hw ha => exact .inr ⟨_, _, _, hw.no, rfl, .one hw, .cons ha .nil⟩
  | two hw ha hb => exact .inr ⟨_, _, _, hw.no, rfl, .two hw, .cons ha (.cons hb .nil)⟩
  | iff ha hb hc => exact .inr ⟨_, _, _, by decide +kernel, rfl, .iff _, .cons ha (.cons hb (.cons hc .nil))⟩
theorem OpK.ne {w r : Str} {ks : List Str} (h : OpK w ks r) : ∃ l k0, ks = l ++ [k0] ∧ ks.length ≤ 3 := by
  cases h with
  | one _ => exact ⟨[], _, rfl, by simp⟩
  | two _ => exact ⟨[_], _, rfl, by simp⟩
  | iff => exact ⟨[_, _], _, rfl, by simp⟩
abbrev sWithin : Stmt := top 12
def spWithin : Sp := fun vs H Q _ => ∃ (a : Addr) (n d : Int), vs = [.ref a] ∧ H a = some (.tup [.int n, .int d]) ∧ Q (.bl (limB (.int n) (.int d))) H
section
variable {P : Program} {w : World} {K : PySem.W.Frag} {mg : Str → Option Value} {base : Heap} {f : Addr} {fd : FuncData} {u1 : Tok} {fR fW fN fD fL fA fQ fX fY : Addr} {fdR fdW fdN fdD fdL fdA fdQ fdX fdY : FuncData}
theorem scWithin : FnScope ["number"] ["number"] (defScope sWithin) := ⟨rfl, rfl, rfl, by decide +kernel, rfl, by decide +kernel, by decide +kernel⟩
theorem ok_within (F : Fun K "within_limit" "within_limit" sWithin f fd) (T : Bt mg) (m1 : mg "LIMIT" = some (.int lim u1)) : FnOk P w K mg base CX0 1 f fd ["number"] spWithin := by
  refine F.ok scWithin (fun vs H Q E h => ?_) (fun cdv A outer s H vs Q E hr h => ?_)
  · obtain ⟨a, n, d, rfl, _⟩ := h
    rfl
  · obtain ⟨a, n, d, rfl, ha, k⟩ := h
    refine ⟨_, pss_one (ps_ret (pe_and (pe_cmpR op_le (pe_callB call_abs (by rfl) T.abs boot_abs (pa_cons (pe_ix ix_tup (pv 0) pe_int (fun _ _ => rfl)) pa_nil)) (pe_glob (v := .int lim) (by rfl) m1 ⟨_, rfl⟩) (nomark _))
      (pe_one (pe_cmpR op_le (pe_ix ix_tup (pv 0) pe_int (fun _ _ => rfl)) (pe_glob (v := .int lim) (by rfl) m1 ⟨_, rfl⟩) (nomark _))))), ?_⟩
    refine ⟨_, rfl, a, _, _, _, rfl, rfl, SqT.of ha, rfl, n, rfl, _, _, rfl, rfl, _, rfl, ?_⟩
    have e : limB (.int n) (.int d) = (decide ((if n < 0 then -n else n) ≤ lim) && decide (d ≤ lim)) := rfl
    rw [e] at k
    by_cases z : (if n < 0 then -n else n) ≤ lim
    · rw [decide_eq_true z] at k ⊢
      exact iteT ⟨_, rfl, a, _, _, _, rfl, rfl, SqT.of ha, rfl, _, _, rfl, rfl, k⟩
    · rw [decide_eq_false z] at k ⊢
      exact iteF k
end
end K77
set_option Elab.async false
set_option linter.all false
set_option maxRecDepth 100000
set_option maxHeartbeats 4000000
namespace K77
open PySem PySem.Spec PyProof.Rows L2 Lc
theorem opsV_all {p : Str → List V → Prop} (h1 : p "plus" [.str "number", .str "number"]) (h2 : p "minus" [.str "number", .str "number"]) (h3 : p "times" [.str "number", .str "number"]) (h4 : p "over" [.str "number", .str "number"]) (h5 : p "less" [.str "number", .str "number"]) (h6 : p "same" [.non, .non]) (h7 : p "both" [.str "flag", .str "flag"]) (h8 : p "either" [.str "flag", .str "flag"]) (h9 : p "not" [.str "flag"]) (h10 : p "missing" [.non]) (h11 : p "if" [.str "flag", .non, .non]) : ∀ x os, opsV x = some os → p x os := by
  intro x os h
  unfold opsV at h
  split at h
  · obtain rfl := Option.some.inj h
    rename_i z
    rcases z with rfl | rfl | rfl | rfl | rfl
    · exact h1
    · exact h2
    · exact h3
    · exact h4
    · exact h5
  split at h
  · obtain rfl := Option.some.inj h
    rename_i z
    subst z
    exact h6
  split at h
  · obtain rfl := Option.some.inj h
    rename_i z
    rcases z with rfl | rfl
    · exact h7
    · exact h8
  split at h
  · obtain rfl := Option.some.inj h
    rename_i z
    subst z
    exact h9
  split at h
  · obtain rfl := Option.some.inj h
    rename_i z
    subst z
    exact h10
  split at h
  · obtain rfl := Option.some.inj h
    rename_i z
    subst z
    exact h11
  cases h
/-! ## texts of numbers, values, expressions -/
abbrev CL (x : Str) : List Nat := x.cps.toList
def TS (l : List Nat) : Str := ⟨l.toArray⟩
theorem cl_ts (l : List Nat) : CL (TS l) = l := by simp [CL, TS]
theorem ts_cl (x : Str) : TS (CL x) = x := str_ext (cl_ts _)
theorem ts_of {x : Str} {l : List Nat} (h : CL x = l) : x = TS l := by rw [← h, ts_cl]
theorem ts_inj {a b : List Nat} (h : TS a = TS b) : a = b := by rw [← cl_ts a, h, cl_ts]
theorem ts_len (l : List Nat) : (TS l).length = l.length := by rw [lenL]; exact congrArg List.length (cl_ts l)
theorem ts_app (a b : List Nat) : TS a ++ TS b = TS (a ++ b) := str_ext (by rw [appL]; show CL (TS a) ++ CL (TS b) = CL (TS (a ++ b)); rw [cl_ts, cl_ts, cl_ts])
def intL (n : Int) : List Nat := (if n < 0 then [45] else []) ++ digs n.natAbs
theorem int_str (n : Int) : PySem.Str.ofString (toString n) = TS (intL n) := by
  refine ts_of ?_
  unfold intL
  cases n with
  | ofNat m =>
    rw [if_neg (show ¬ Int.ofNat m < 0 from Int.not_lt.mpr (Int.natCast_nonneg m))]
    exact numL m
  | negSucc m =>
    rw [if_pos (Int.negSucc_lt_zero m)]
    have e : toString (Int.negSucc m) = "-" ++ toString ((m + 1 : Nat) : Int) := rfl
    have e2 : PySem.Str.ofString ("-" ++ toString ((m + 1 : Nat) : Int)) = PySem.Str.ofString "-" ++ PySem.Str.ofString (toString ((m + 1 : Nat) : Int)) := by
      refine str_ext ?_
      rw [appL, PySem.Str.ofString_eq_toList, PySem.Str.ofString_eq_toList, PySem.Str.ofString_eq_toList, String.toList_append, List.map_append]
    rw [e, e2]
    show (PySem.Str.ofString "-" ++ PySem.Str.ofString (toString ((m + 1 : Nat) : Int))).cps.toList = _
    rw [appL, numL]
    rfl
def ratL (n d : Int) : List Nat := if d = 1 then intL n else intL n ++ 47 :: intL d
def valL : PyData → List Nat
  | .bool true => [35, 121, 101, 115]
  | .bool false => [35, 110, 111]
  | .str x => 39 :: CL x
  | .tuple [.int n, .int d] => ratL n d
  | _ => []
def colL : List PyData → List Nat
  | [.str z] => CL z
  | _ => []
def valsL : List PyData → List Nat
  | [d] => 61 :: valL d
  | _ => []
mutual
def shL : PyData → List Nat
  | .tuple ds => shW ds
  | _ => []
def shW : List PyData → List Nat
  | .str w :: r => if w = ("column" : Str) then colL r else if w = ("value" : Str) then valsL r else 40 :: CL w ++ shLs r ++ [41]
  | _ => []
def shLs : List PyData → List Nat
  | [] => []
  | d :: r => 32 :: shL d ++ shLs r
end
mutual
def tkL : PyData → List (List Nat)
  | .tuple ds => tkW ds
  | _ => []
def tkW : List PyData → List (List Nat)
  | .str w :: r => if w = ("column" : Str) then [colL r] else if w = ("value" : Str) then [valsL r] else [40] :: CL w :: tkLs r ++ [[41]]
  | _ => []
def tkLs : List PyData → List (List Nat)
  | [] => []
  | d :: r => [32] :: tkL d ++ tkLs r
end
/-- expressions by their form -/
inductive Xf : Nat → PyData → Prop
  | col {n : Nat} {z : Str} (h : Sh 12 z) (hn : nameB (.str z) = true) : Xf (n + 1) (.tuple [.str "column", .str z])
  | val {n : Nat} {k : Str} {d : PyData} (h : Vk k d) (nn : d ≠ .none) : Xf (n + 1) (.tuple [.str "value", d])
  | op {n : Nat} {w : Str} {os : List PyData} {ops : List V} (h : opsV w = some ops) (l : ops.length = os.length) (ho : ∀ o ∈ os, Xf n o) : Xf (n + 1) (.tuple (.str w :: os))
theorem Xf.mono {n : Nat} {d : PyData} (h : Xf n d) : ∀ {m : Nat}, n ≤ m → Xf m d := by
  induction h with
  | col h hn => intro m l; obtain ⟨j, rfl⟩ : ∃ j, m = j + 1 := ⟨m - 1, by omega⟩; exact .col h hn
  | val h nn => intro m l; obtain ⟨j, rfl⟩ : ∃ j, m = j + 1 := ⟨m - 1, by omega⟩; exact .val h nn
  | op h l _ ih => intro m lm; obtain ⟨j, rfl⟩ : ∃ j, m = j + 1 := ⟨m - 1, by omega⟩; exact .op h l fun o ho => ih o ho (by omega)
theorem Xps.mem {ps : List (Str × Str)} {n : Nat} : ∀ {ks : List Str} {os : List PyData}, Xps ps n ks os → ∀ o ∈ os, ∃ k, Xp ps n k o
  | _, _, .nil, o, h => by cases h
  | _, _, .cons h r, o, hm => by
    rcases List.mem_cons.mp hm with rfl | hm
    · exact ⟨_, h⟩
    · exact Xps.mem r o hm
theorem xp_xf {ps : List (Str × Str)} (hp : ∀ p ∈ ps, Sh 12 p.1 ∧ nameB (.str p.1) = true) : ∀ {n : Nat} {k : Str} {d : PyData}, Xp ps n k d → Xf n d := by
  intro n k d h
  induction h with
  | col h => exact .col (hp _ h).1 (hp _ h).2
  | val h nn => exact .val h nn
  | one hw _ ia =>
    obtain ⟨ops, e, l, _⟩ := (OpK.one hw).ops
    exact .op e l fun o ho => by rw [List.mem_singleton.mp ho]; exact ia
  | two hw _ _ ia ib =>
    obtain ⟨ops, e, l, _⟩ := (OpK.two hw).ops
    exact .op e l fun o ho => by simp only [List.mem_cons, List.not_mem_nil, or_false] at ho; rcases ho with rfl | rfl; exact ia; exact ib
  | @iff n k a b c _ _ _ ia ib ic =>
    obtain ⟨ops, e, l, _⟩ := (OpK.iff k).ops
    exact .op e l fun o ho => by simp only [List.mem_cons, List.not_mem_nil, or_false] at ho; rcases ho with rfl | rfl | rfl; exact ia; exact ib; exact ic
/-! ### signs -/
abbrev sgl (c : Nat) : Prop := c = 40 ∨ c = 41 ∨ c = 32
def Plain (t : List Nat) : Prop := t ≠ [] ∧ ∀ c ∈ t, ¬ sgl c
theorem opsV_words {w : Str} {ops : List V} (h : opsV w = some ops) : Plain (CL w) ∧ (CL w).length ≤ 7 ∧ 1 ≤ ops.length ∧ ops.length ≤ 3 ∧ ¬ (w = "column" ∨ w = "value") := by
  have key : ∀ x os, opsV x = some os → Plain (CL x) ∧ (CL x).length ≤ 7 ∧ 1 ≤ os.length ∧ os.length ≤ 3 ∧ ¬ (x = "column" ∨ x = "value") := by
    refine opsV_all ?_ ?_ ?_ ?_ ?_ ?_ ?_ ?_ ?_ ?_ ?_ <;> (unfold Plain sgl; decide +kernel)
  exact key w ops h
theorem name_signs {z : Str} (h : nameB (.str z) = true) : CL z ≠ [] ∧ (CL z).length ≤ 12 ∧ (∀ c ∈ CL z, 48 ≤ c ∧ c ≤ 122) ∧ ∀ c r, CL z = c :: r → 97 ≤ c := by
  have h : nameL z.cps.toList = true := h
  have all : ∀ c ∈ signs.cps.toList, 48 ≤ c ∧ c ≤ 122 := by decide +kernel
  have low : ∀ c ∈ letters.cps.toList, 97 ≤ c := by decide +kernel
  cases e : z.cps.toList with
  | nil => rw [e] at h; cases h
  | cons c r =>
    rw [e] at h
    have h : (decide ((c :: r).length ≤ 12) && (inL c && (c :: r).all inS)) = true := h
    obtain ⟨h1, h2⟩ := Bool.and_eq_true_iff.mp h
    obtain ⟨h3, h4⟩ := Bool.and_eq_true_iff.mp h2
    rw [show CL z = c :: r from e]
    refine ⟨nofun, of_decide_eq_true h1, fun x hx => all x (of_decide_eq_true (List.all_eq_true.mp h4 x hx)), fun x y e' => ?_⟩
    injection e' with e1 e2
    rw [← e1]
    exact low c (of_decide_eq_true h3)
theorem digs_signs (m : Nat) : digs m ≠ [] ∧ ∀ c ∈ digs m, 48 ≤ c ∧ c ≤ 57 := by
  refine ⟨?_, fun c hc => digs_all m c hc⟩
  obtain ⟨c, r, e, _⟩ := digs_head m
  rw [e]
  nofun
theorem int_signs (n : Int) : intL n ≠ [] ∧ ∀ c ∈ intL n, c = 45 ∨ (48 ≤ c ∧ c ≤ 57) := by
  obtain ⟨h1, h2⟩ := digs_signs n.natAbs
  unfold intL
  refine ⟨?_, fun c hc => ?_⟩
  · split
    · nofun
    · exact h1
  · rcases List.mem_append.mp hc with hc | hc
    · split at hc
      · exact .inl (by simpa using hc)
      · cases hc
    · exact .inr (h2 c hc)
theorem rat_signs (n d : Int) : ratL n d ≠ [] ∧ ∀ c ∈ ratL n d, 45 ≤ c ∧ c ≤ 57 := by
  obtain ⟨h1, h2⟩ := int_signs n
  obtain ⟨h3, h4⟩ := int_signs d
  have f : ∀ {l : List Nat}, (∀ c ∈ l, c = 45 ∨ (48 ≤ c ∧ c ≤ 57)) → ∀ c ∈ l, 45 ≤ c ∧ c ≤ 57 := fun h c hc => by
    rcases h c hc with rfl | h
    · decide
    · omega
  unfold ratL
  split
  · exact ⟨h1, f h2⟩
  · refine ⟨by intro z; simp at z, fun c hc => ?_⟩
    rcases List.mem_append.mp hc with hc | hc
    · exact f h2 c hc
    · rcases List.mem_cons.mp hc with rfl | hc
      · decide
      · exact f h4 c hc
theorem int_len {n : Int} (h : n.natAbs ≤ 10000000000000000000000000000000000000000) : (intL n).length ≤ 42 := by
  have := digs_len 41 n.natAbs (by decide) (Nat.lt_of_le_of_lt h (by decide))
  unfold intL
  rw [List.length_append]
  split <;> simp <;> omega
theorem val_text {k : Str} {d : PyData} (h : Vk k d) (nn : d ≠ .none) : Plain (61 :: valL d) ∧ (valL d).length ≤ 90 := by
  have pl : ∀ {l : List Nat}, (∀ c ∈ l, 42 ≤ c ∨ c = 39 ∨ c = 35) → Plain (61 :: l) := fun {l} hl => ⟨nofun, fun c hc => by
    rcases List.mem_cons.mp hc with rfl | hc
    · unfold sgl; decide
    · have := hl c hc
      unfold sgl
      omega⟩
  cases h with
  | non => exact absurd rfl nn
  | num rt h1 h2 =>
    refine ⟨pl fun c hc => .inl ?_, ?_⟩
    · have := (rat_signs _ _).2 c hc
      omega
    · show (ratL _ _).length ≤ 90
      have a := int_len h1
      have b := int_len h2
      unfold ratL
      split
      · omega
      · rw [List.length_append, List.length_cons]; omega
  | flag b => cases b <;> (refine ⟨pl ?_, ?_⟩ <;> decide)
  | @word x hx hn =>
    obtain ⟨_, h2, h3, _⟩ := name_signs hn
    refine ⟨pl fun c hc => ?_, ?_⟩
    · rcases List.mem_cons.mp hc with rfl | hc
      · exact .inr (.inl rfl)
      · have := h3 c hc
        omega
    · show (39 :: CL x).length ≤ 90
      rw [List.length_cons]
      omega
theorem col_plain {z : Str} (hn : nameB (.str z) = true) : Plain (CL z) := by
  obtain ⟨h1, _, h3, _⟩ := name_signs hn
  refine ⟨h1, fun c hc => ?_⟩
  have := h3 c hc
  unfold sgl
  omega
theorem tk_col {z : Str} : tkL (.tuple [.str "column", .str z]) = [CL z] := by rw [tkL, tkW, if_pos rfl, colL]
theorem tk_val {d : PyData} : tkL (.tuple [.str "value", d]) = [61 :: valL d] := by rw [tkL, tkW, if_neg (by decide +kernel), if_pos rfl, valsL]
theorem tk_op {w : Str} {os : List PyData} (h : ¬ (w = "column" ∨ w = "value")) : tkL (.tuple (.str w :: os)) = [40] :: CL w :: tkLs os ++ [[41]] := by rw [tkL, tkW, if_neg (fun e => h (.inl e)), if_neg (fun e => h (.inr e))]
theorem sh_col {z : Str} : shL (.tuple [.str "column", .str z]) = CL z := by rw [shL, shW, if_pos rfl, colL]
theorem sh_val {d : PyData} : shL (.tuple [.str "value", d]) = 61 :: valL d := by rw [shL, shW, if_neg (by decide +kernel), if_pos rfl, valsL]
theorem sh_op {w : Str} {os : List PyData} (h : ¬ (w = "column" ∨ w = "value")) : shL (.tuple (.str w :: os)) = 40 :: CL w ++ shLs os ++ [41] := by rw [shL, shW, if_neg (fun e => h (.inl e)), if_neg (fun e => h (.inr e))]
theorem xf_flat {n : Nat} {d : PyData} (h : Xf n d) : (tkL d).flatten = shL d := by
  induction h with
  | col => rw [tk_col, sh_col]; simp
  | val => rw [tk_val, sh_val]; simp
  | @op n w os ops h l ho ih =>
    have nw := (opsV_words h).2.2.2.2
    rw [tk_op nw, sh_op nw]
    have e : (tkLs os).flatten = shLs os := by
      clear h l
      induction os with
      | nil => rw [tkLs, shLs]; rfl
      | cons o r ih2 =>
        rw [tkLs, shLs, List.flatten_append, List.flatten_cons, ih o List.mem_cons_self, ih2 (fun x hx => ho x (List.mem_cons_of_mem _ hx)) fun x hx => ih x (List.mem_cons_of_mem _ hx)]
        rfl
    simp [e]
def szT : Nat → Nat
  | 0 => 0
  | n + 1 => 3 * szT n + 100
theorem xf_len {n : Nat} {d : PyData} (h : Xf n d) : (shL d).length ≤ szT n := by
  induction h with
  | @col n z h hn =>
    have := (name_signs hn).2.1
    rw [sh_col, szT]
    omega
  | @val n k d h nn =>
    have := (val_text h nn).2
    rw [sh_val, szT, List.length_cons]
    omega
  | @op n w os ops h l ho ih =>
    obtain ⟨_, h2, h3, h4, nw⟩ := opsV_words h
    have key : ∀ l : List PyData, (∀ o ∈ l, (shL o).length ≤ szT n) → (shLs l).length ≤ l.length * (szT n + 1) := fun l => by
      induction l with
      | nil => intro _; rw [shLs]; exact Nat.zero_le _
      | cons o r ih2 =>
        intro hl
        have a := hl o List.mem_cons_self
        have b := ih2 fun x hx => hl x (List.mem_cons_of_mem _ hx)
        rw [shLs, List.length_append, List.length_cons, List.length_cons, Nat.succ_mul]
        omega
    have := key os ih
    have l3 : os.length ≤ 3 := by omega
    have : os.length * (szT n + 1) ≤ 3 * (szT n + 1) := Nat.mul_le_mul_right _ l3
    rw [sh_op nw, szT]
    simp only [List.length_append, List.length_cons, List.length_nil]
    omega
/-! ### the text's pieces -/
inductive Sep : List (List Nat) → Prop
  | nil : Sep []
  | one {c : Nat} {r : List (List Nat)} (h : sgl c) (hr : Sep r) : Sep ([c] :: r)
  | pl {t : List Nat} {r : List (List Nat)} (h : Plain t) (hs : r = [] ∨ ∃ c r', r = [c] :: r' ∧ sgl c) (hr : Sep r) : Sep (t :: r)
theorem xf_sep {n : Nat} {d : PyData} (h : Xf n d) : ∀ {r : List (List Nat)}, (r = [] ∨ ∃ c r', r = [c] :: r' ∧ sgl c) → Sep r → Sep (tkL d ++ r) := by
  induction h with
  | col h hn => intro r hs hr; rw [tk_col]; exact .pl (col_plain hn) hs hr
  | val h nn => intro r hs hr; rw [tk_val]; exact .pl (val_text h nn).1 hs hr
  | @op n w os ops h l ho ih =>
    intro r hs hr
    obtain ⟨h1, _, h3, _, nw⟩ := opsV_words h
    rw [tk_op nw]
    have end_ : Sep ([41] :: r) := .one (.inr (.inl rfl)) hr
    have key : ∀ l : List PyData, (∀ o ∈ l, ∀ {r : List (List Nat)}, (r = [] ∨ ∃ c r', r = [c] :: r' ∧ sgl c) → Sep r → Sep (tkL o ++ r)) → Sep (tkLs l ++ ([41] :: r)) ∧ ∃ c r', tkLs l ++ ([41] :: r) = [c] :: r' ∧ sgl c := fun l => by
      induction l with
      | nil => intro _; rw [tkLs]; exact ⟨end_, 41, r, rfl, .inr (.inl rfl)⟩
      | cons o s ih2 =>
        intro hl
        obtain ⟨a, b⟩ := ih2 fun x hx => hl x (List.mem_cons_of_mem _ hx)
        rw [tkLs]
        refine ⟨?_, 32, tkL o ++ tkLs s ++ ([41] :: r), by simp, .inr (.inr rfl)⟩
        have := hl o List.mem_cons_self (r := tkLs s ++ ([41] :: r)) (.inr b) a
        show Sep ([32] :: tkL o ++ tkLs s ++ ([41] :: r))
        rw [List.cons_append, List.cons_append, List.append_assoc]
        exact .one (.inr (.inr rfl)) this
    obtain ⟨a, b⟩ := key os ih
    have e : ([40] :: CL w :: tkLs os ++ [[41]]) ++ r = [40] :: CL w :: (tkLs os ++ ([41] :: r)) := by simp
    rw [e]
    exact .one (.inl rfl) (.pl h1 (.inr b) a)
def pfold : List Nat → Nat → List Nat → List (Nat × List Nat)
  | [], at_, cur => if cur = [] then [] else [(at_ - cur.length, cur)]
  | c :: r, at_, cur => if c = 40 ∨ c = 41 ∨ c = 32 then (if cur = [] then [] else [(at_ - cur.length, cur)]) ++ (at_, [c]) :: pfold r (at_ + 1) [] else pfold r (at_ + 1) (cur ++ [c])
def ptok : Nat → List (List Nat) → List (Nat × List Nat)
  | _, [] => []
  | p, t :: r => (p, t) :: ptok (p + t.length) r
theorem pfold_run : ∀ {t : List Nat}, (∀ c ∈ t, ¬ sgl c) → ∀ (rest : List Nat) (p : Nat) (cur : List Nat), pfold (t ++ rest) p cur = pfold rest (p + t.length) (cur ++ t)
  | [], _, rest, p, cur => by simp
  | c :: t, h, rest, p, cur => by
    rw [List.cons_append, pfold, if_neg (h c List.mem_cons_self), pfold_run (fun x hx => h x (List.mem_cons_of_mem _ hx))]
    rw [List.length_cons, List.append_assoc]
    congr 1
    omega
theorem pfold_tok : ∀ {toks : List (List Nat)}, Sep toks → ∀ p, pfold toks.flatten p [] = ptok p toks := by
  intro toks h
  induction h with
  | nil => intro p; rfl
  | @one c r hc hr ih =>
    intro p
    show pfold (c :: r.flatten) p [] = (p, [c]) :: ptok (p + 1) r
    rw [pfold, if_pos hc, if_pos rfl, ih]
    rfl
  | @pl t r hp hs hr ih =>
    intro p
    rw [List.flatten_cons, pfold_run hp.2, List.nil_append, ptok]
    have e : p + t.length - t.length = p := by omega
    rcases hs with rfl | ⟨c, r', rfl, hc⟩
    · show pfold [] _ t = _
      rw [pfold, if_neg hp.1, e]
      rfl
    · have i2 := ih (p + t.length)
      have e2 : ([c] :: r').flatten = c :: r'.flatten := rfl
      rw [e2, pfold, if_pos hc, if_pos rfl] at i2
      rw [e2, pfold, if_pos hc, if_neg hp.1, e]
      have i3 : (p + t.length, [c]) :: pfold r'.flatten (p + t.length + 1) [] = ptok (p + t.length) ([c] :: r') := by rw [← i2]; rfl
      rw [← i3]
      rfl
theorem ptok_map : ∀ (toks : List (List Nat)) (p : Nat), (ptok p toks).map (·.2) = toks
  | [], _ => rfl
  | t :: r, p => by rw [ptok, List.map_cons, ptok_map r]
end K77
set_option Elab.async false
set_option linter.all false
set_option maxRecDepth 100000
set_option maxHeartbeats 4000000
namespace K77
open PySem PySem.Spec PyProof.Rows L2 Lc
theorem dh_pair {H : Hp} {x : V} {n d : Int} (h : Dh H x (.tuple [.int n, .int d])) : ∃ p, x = .ref p ∧ H p = some (.tup [.int n, .int d]) := by
  cases h with
  | tup e hs =>
    cases hs with
    | cons a r =>
      cases r with
      | cons b r =>
        cases r
        cases a
        cases b
        exact ⟨_, rfl, e⟩
def isTB : PyData → Bool
  | .bool true => true
  | _ => false
def isFB : PyData → Bool
  | .bool false => true
  | _ => false
def spShr : Sp := fun vs H Q _ => ∃ (p : Addr) (n d : Int), vs = [.ref p] ∧ H p = some (.tup [.int n, .int d]) ∧ n.natAbs ≤ 10000000000000000000000000000000000000000 ∧ d.natAbs ≤ 10000000000000000000000000000000000000000 ∧ Q (.str (TS (ratL n d))) H
def spShv : Sp := fun vs H Q _ => ∃ (v : V) (d : PyData) (kd : Str), vs = [v] ∧ Dh H v d ∧ Vk kd d ∧ d ≠ .none ∧ ∀ H', Same H H' → Q (.str (TS (valL d))) H'
def spSh (n : Nat) : Sp := fun vs H Q _ => ∃ (v : V) (d : PyData), vs = [v] ∧ Dh H v d ∧ Xf n d ∧ n ≤ 8 ∧ ∀ H', Same H H' → Q (.str (TS (shL d))) H'
theorem lg_lim {n : Int} (h : n.natAbs ≤ 10000000000000000000000000000000000000000) : n.natAbs.log2 < 1920 := by
  by_cases z : n.natAbs = 0
  · rw [z]; decide
  · exact Nat.lt_of_lt_of_le ((Nat.log2_lt z).mpr (Nat.lt_of_le_of_lt h (show 10000000000000000000000000000000000000000 < 2 ^ 140 by decide))) (by decide)
theorem sh_join (x : Str) (ys : List Str) : CL (Txt.join (PySem.Str.ofString " ") (x :: ys)) = CL x ++ (ys.map fun y => 32 :: CL y).flatten := by
  have e : ∀ zs, Txt.join (PySem.Str.ofString " ") zs = Str.join (PySem.Str.ofString " ") zs := fun zs => StrLaws.glued_eq_join (PySem.Str.ofString " ") zs
  rw [e]
  induction ys generalizing x with
  | nil => simp [Str.join]
  | cons y r ih =>
    have e : Str.join (PySem.Str.ofString " ") (x :: y :: r) = x ++ PySem.Str.ofString " " ++ Str.join (PySem.Str.ofString " ") (y :: r) := rfl
    have s : CL (PySem.Str.ofString " ") = [32] := by decide +kernel
    show (Str.join (PySem.Str.ofString " ") (x :: y :: r)).cps.toList = _
    rw [e, appL, appL]
    have := ih y
    show CL x ++ CL (PySem.Str.ofString " ") ++ CL (Str.join (PySem.Str.ofString " ") (y :: r)) = _
    rw [this, s]
    simp
theorem shLs_flat (os : List PyData) : (os.map fun o => 32 :: shL o).flatten = shLs os := by
  induction os with
  | nil => rw [shLs]; rfl
  | cons o r ih => rw [List.map_cons, List.flatten_cons, ih, shLs]
theorem shs_sum {n : Nat} {os : List PyData} (h : ∀ o ∈ os, Xf n o) : ((os.map fun o => TS (shL o)).map (·.length)).sum ≤ os.length * szT n := by
  induction os with
  | nil => exact Nat.zero_le _
  | cons o r ih =>
    have a := xf_len (h o List.mem_cons_self)
    have b := ih fun x hx => h x (List.mem_cons_of_mem _ hx)
    rw [List.map_cons, List.map_cons, List.sum_cons, List.length_cons, Nat.succ_mul, ts_len]
    omega
theorem szT_le {n : Nat} (h : n ≤ 8) : szT n ≤ 330000 := by
  have : n = 0 ∨ n = 1 ∨ n = 2 ∨ n = 3 ∨ n = 4 ∨ n = 5 ∨ n = 6 ∨ n = 7 ∨ n = 8 := by omega
  rcases this with rfl | rfl | rfl | rfl | rfl | rfl | rfl | rfl | rfl <;> decide +kernel
theorem xf_tup {n : Nat} {d : PyData} (h : Xf n d) : ∃ ds, d = .tuple ds := by cases h <;> exact ⟨_, rfl⟩
theorem Xf.zero {d : PyData} (h : Xf 0 d) : False := nomatch h
theorem Xf.noL {n : Nat} {d : PyData} (h : Xf n d) : Lc.noL d = true := by
  induction h with
  | col _ _ => rfl
  | val h _ => cases h <;> rfl
  | @op n w os ops h l ho ih =>
    rw [Lc.noL, noLs_all]
    intro x hx
    rcases List.mem_cons.mp hx with rfl | hx
    · rfl
    · exact ih x hx
abbrev teShe (n : Nat) : TE := tCall (spSh n) [] E0 (tCons (tVar 2) tNil)
section
variable {P : Program} {w : World} {K : PySem.W.Frag} {mg : Str → Option Value} {base : Heap} {f : Addr} {fd : FuncData}
abbrev sShr : Stmt := top 29
abbrev nShr : List Str := ["number", "n", "d"]
abbrev pShr : List Str := ["number"]
theorem scShr : FnScope nShr pShr (defScope sShr) := ⟨rfl, rfl, rfl, by decide +kernel, rfl, by decide +kernel, by decide +kernel⟩
section
theorem ok_Shr (F : Fun K "show_rational" "show_rational" sShr f fd) (T : Bt mg) : FnOk P w K mg base CX0 1 f fd pShr (spShr) := by
  refine F.ok scShr (fun vs H Q E h => ?_) (fun cdv A outer s H vs Q E hr h => ?_)
  · obtain ⟨p, n, d, rfl, _⟩ := h
    rfl
  · obtain ⟨p, n, d, rfl, hp, b1, b2, k⟩ := h
    refine ⟨_, (pss_cons (ps_asg (pv 0) (pg_tup rfl (pgs_cons (pg_name (i := 1) scShr.nd rfl (.inl rfl)) (pgs_cons (pg_name (i := 2) scShr.nd rfl (.inl rfl)) pgs_nil))))
      (pss_one (ps_ret (pe_ifExp (pt_cmpR op_eq (pv 2) pe_int (nomark _)) (pe_callTy call_str_int (by rfl) T.str boot_str (pa_cons (pv 1) pa_nil)) (pe_joined (.cons (pe_fmt (pv 1)) (.cons pe_str (.cons (pe_fmt (pv 2)) .nil)))))))), ?_⟩
    have line : ∀ {l : List Nat}, l.length ≤ 100 → (TS l).length ≤ sizeLine := fun {l} h => by rw [ts_len]; exact Nat.le_trans h (by decide)
    have a := int_len b1
    have b := int_len b2
    refine ⟨_, rfl, p, _, rfl, SqT.of hp, rfl, _, _, rfl, _, _, rfl, rfl, ?_⟩
    refine ⟨_, rfl, rfl, _, rfl, ?_⟩
    unfold ratL at k
    by_cases z : d = 1
    · rw [decide_eq_true (show V.int d = V.int 1 by rw [z])]
      rw [if_pos z, ← int_str] at k
      exact iteT ⟨_, rfl, n, rfl, lg_lim b1, k⟩
    · rw [decide_eq_false (show ¬ V.int d = V.int 1 from fun e => z (by injection e))]
      rw [if_neg z] at k
      refine iteF ?_
      have e0 : Str.empty ++ PySem.Str.ofString (toString n) = TS (intL n) := by rw [int_str]; exact str_ext (by rw [appL]; rfl)
      have e1 : TS (intL n) ++ ("/" : Str) = TS (intL n ++ [47]) := by rw [← ts_app]; rfl
      have e2 : TS (intL n ++ [47]) ++ PySem.Str.ofString (toString d) = TS (intL n ++ 47 :: intL d) := by rw [int_str, ts_app, List.append_assoc]; rfl
      refine ⟨_, rfl, .inr ⟨n, rfl, lg_lim b1, _, rfl, ?_, ?_⟩⟩
      · rw [e0]; exact line (by omega)
      rw [e0]
      refine ⟨_, rfl, ?_, ?_⟩
      · rw [e1]; exact line (by rw [List.length_append]; show _ + 1 ≤ _; omega)
      rw [e1]
      refine ⟨_, rfl, .inr ⟨d, rfl, lg_lim b2, _, rfl, ?_, ?_⟩⟩
      · rw [e2]; exact line (by rw [List.length_append, List.length_cons]; omega)
      rw [e2]
      exact k
end
abbrev sShv : Stmt := top 30
abbrev nShv : List Str := ["value"]
abbrev pShv : List Str := ["value"]
theorem scShv : FnScope nShv pShv (defScope sShv) := ⟨rfl, rfl, rfl, by decide +kernel, rfl, by decide +kernel, by decide +kernel⟩
section
variable {fA_ : Addr} {fdA_ : FuncData}
theorem ok_Shv (F : Fun K "show_value" "show_value" sShv f fd) (T : Bt mg)
    (GA_ : FnOk P w K mg base CX0 1 fA_ fdA_ ["number"] (spShr)) (mA_ : mg "show_rational" = some (.ref fA_)) (kA_ : PySem.W.keepIn K (.ref fA_) = true) (bA_ : Binds K fdA_ ["number"] []) : FnOk P w K mg base CX0 2 f fd pShv (spShv) := by
  refine F.ok scShv (fun vs H Q E h => ?_) (fun cdv A outer s H vs Q E hr h => ?_)
  · obtain ⟨v, d, kd, rfl, _⟩ := h
    rfl
  · obtain ⟨v, d, kd, rfl, hv, vk, nn, k⟩ := h
    have hrA_ : Room (1) _ := hr.mono (by first | decide | omega)
    refine ⟨_, (pss_cons (ps_if (PW.pt (pw_or (pt_cmpR op_isBA (pv 0) pe_bl (nomark _)) (pw_or1 (pt_cmpR op_isBA (pv 0) pe_bl (nomark _))))) (pss_one (ps_ret (pe_ifExp (pt_val (pv 0)) pe_str pe_str))) pss_nil)
      (pss_cons (ps_if (pt_val (pe_callB call_isi (by rfl) T.isi boot_isinstance (pa_cons (pv 0) (pa_cons (pe_bltn (v := .ty "str") (by rfl) T.str boot_str rfl) pa_nil)))) (pss_one (ps_ret (pe_op op_add_str pe_str (pv 0)))) pss_nil)
      (pss_one (ps_ret (pe_call GA_ hrA_ (by rfl) mA_ kA_ bA_ .nil pass0 (pa_cons (pv 0) pa_nil)))))), ?_⟩
    have k := k H (Same.refl H)
    have e1 : decide (v = V.bl true) = isTB d ∧ decide (v = V.bl false) = isFB d := by
      cases hv with
      | bl b => cases b <;> exact ⟨by decide +kernel, by decide +kernel⟩
      | _ => exact ⟨decide_eq_false nofun, decide_eq_false nofun⟩
    refine ⟨_, rfl, true, rfl, _, rfl, ?_⟩
    rw [e1.1]
    cases vk with
    | non => exact absurd rfl nn
    | flag b =>
      cases hv
      cases b with
      | true => exact iteT (iteT ⟨_, rfl, _, rfl, iteT k⟩)
      | false =>
        refine iteF ⟨_, rfl, false, rfl, _, rfl, ?_⟩
        rw [e1.2]
        exact iteT ⟨_, rfl, _, rfl, iteF k⟩
    | @word x hx hn =>
      cases hv
      have ts : TyN H (.str x) "str" := .str x
      refine iteF ⟨_, rfl, false, rfl, _, rfl, ?_⟩
      rw [e1.2]
      refine iteF ⟨_, rfl, .str x, .ty "str", _, _, _, rfl, .ty "str", ts.x, kit_str ts.mem, _, rfl, iteT ?_⟩
      have l12 : x.cps.toList.length ≤ 12 := (name_signs hn).2.1
      refine ⟨_, rfl, _, _, rfl, rfl, ?_, ?_⟩
      · rw [lenL x]
        exact Nat.le_trans (show 1 + _ ≤ 13 by omega) (by decide)
      · have e : ("'" : Str) ++ x = TS (39 :: CL x) := str_ext (by rw [appL]; show _ = CL (TS _); rw [cl_ts]; rfl)
        rw [e]
        exact k
    | @num n dd rt h1 h2 =>
      obtain ⟨p, rfl, hp⟩ := dh_pair hv
      have ts : TyN H (.ref p) "tuple" := .tup hp
      refine iteF ⟨_, rfl, false, rfl, _, rfl, ?_⟩
      rw [e1.2]
      exact iteF ⟨_, rfl, .ref p, .ty "str", _, _, _, rfl, .ty "str", ts.x, kit_str ts.mem, _, rfl, iteF ⟨_, rfl, p, n, dd, rfl, hp, h1, h2, k⟩⟩
end
abbrev sShe : Stmt := top 31
abbrev nShe : List Str := ["expression", "word", "operand"]
abbrev pShe : List Str := ["expression"]
theorem scShe : FnScope nShe pShe (defScope sShe) := ⟨rfl, rfl, rfl, by decide +kernel, rfl, by decide +kernel, by decide +kernel⟩
section
variable {fA_ fB_ : Addr} {fdA_ fdB_ : FuncData}
theorem ok_She (F : Fun K "show_expression" "show_expression" sShe f fd) (T : Bt mg) (n : Nat)
    (GA_ : FnOk P w K mg base CX0 (2 + n) fA_ fdA_ ["expression"] (spSh n)) (mA_ : mg "show_expression" = some (.ref fA_)) (kA_ : PySem.W.keepIn K (.ref fA_) = true) (bA_ : Binds K fdA_ ["expression"] [])
    (GB_ : FnOk P w K mg base CX0 2 fB_ fdB_ ["value"] (spShv)) (mB_ : mg "show_value" = some (.ref fB_)) (kB_ : PySem.W.keepIn K (.ref fB_) = true) (bB_ : Binds K fdB_ ["value"] []) : FnOk P w K mg base CX0 (2 + n + 1) f fd pShe (spSh (n + 1)) := by
  refine F.ok scShe (fun vs H Q E h => ?_) (fun cdv A outer s H vs Q E hr h => ?_)
  · obtain ⟨v, d, rfl, _⟩ := h
    rfl
  · obtain ⟨v, d, rfl, hv, xf, k⟩ := h
    have hrA_ : Room ((2 + n)) _ := hr.mono (by first | decide | omega)
    have hrB_ : Room (2) _ := hr.mono (by first | decide | omega)
    refine ⟨_, (pss_cons (ps_set (i := 1) scShe.nd rfl (Or.inl rfl) (pe_ix ix_tup (pv 0) pe_int (fun _ _ => rfl)))
      (pss_cons (ps_if (pt_cmpR op_eq (pv 1) pe_str (nomark _)) (pss_one (ps_ret (pe_ix ix_tup (pv 0) pe_int (fun _ _ => rfl)))) pss_nil)
      (pss_cons (ps_if (pt_cmpR op_eq (pv 1) pe_str (nomark _)) (pss_one (ps_ret (pe_op op_add_str pe_str (pe_call GB_ hrB_ (by rfl) mB_ kB_ bB_ .nil pass0 (pa_cons (pe_ix ix_tup (pv 0) pe_int (fun _ _ => rfl)) pa_nil))))) pss_nil)
      (pss_one (ps_ret (pe_op op_add_str (pe_op op_add_str pe_str (pe_m1 PySem.F.slot_str_join PySem.F.type_str_join mt_join pe_str (pe_op op_cat (pe_lst (pa_cons (pv 1) pa_nil)) (pe_lc (own := [("operand", 2)]) (g := (gName 2)) (tt := tYes) (te := teShe n) (by rfl) scShe.nd (pi_tup (pe_slice sl_tup (pv 0) (po_some pe_int) po_none)) (blkOk_by (own := [("operand", 2)]) (N := nShe) (sc := defScope sShe) (by decide +kernel)) (fun _ _ _ _ _ => (pg_name (i := 2) scShe.nd rfl (.inl rfl))) (fun _ _ _ _ _ => pts_nil) (fun _ _ _ _ _ => (pe_call GA_ hrA_ (by rfl) mA_ kA_ bA_ .nil pass0 (pa_cons (pv 2) pa_nil))))))) pe_str)))))), ?_⟩
    obtain ⟨xf, n8, k⟩ := (⟨xf, k⟩ : Xf (n + 1) d ∧ n + 1 ≤ 8 ∧ ∀ H', Same H H' → Q (.str (TS (shL d))) H')
    have sE : ∀ (a b : Str), decide (V.str a = V.str b) = decide (a = b) := fun a b => decide_eq_decide.mpr ⟨fun e => by injection e, fun e => by rw [e]⟩
    have sz := szT_le n8
    have sz1 := szT_le (show n ≤ 8 by omega)
    have ln := xf_len xf
    cases xf with
    | @col _ z hz hn =>
      cases hv with
      | @tup a ys0 _ ea hs0 =>
      cases hs0 with
      | cons h1 r1 =>
      cases h1
      cases r1 with
      | cons h2 r2 =>
      cases r2
      cases h2
      rw [sh_col, ts_cl] at k
      refine ⟨_, rfl, a, _, _, .str "column", rfl, rfl, SqT.of ea, rfl, ?_⟩
      refine ⟨_, rfl, rfl, _, rfl, ?_⟩
      rw [sE, decide_eq_true rfl]
      exact iteT ⟨_, rfl, a, _, _, .str z, rfl, rfl, SqT.of ea, rfl, k H (Same.refl H)⟩
    | @val _ kk dv vk nn =>
      cases hv with
      | @tup a ys0 _ ea hs0 =>
      cases hs0 with
      | cons h1 r1 =>
      cases h1
      cases r1 with
      | @cons v2 _ _ _ h2 r2 =>
      cases r2
      rw [sh_val] at k
      have lv := (val_text vk nn).2
      have ee : ("=" : Str) ++ TS (valL dv) = TS (61 :: valL dv) := str_ext (by rw [appL]; show _ ++ CL (TS _) = CL (TS _); rw [cl_ts, cl_ts]; rfl)
      refine ⟨_, rfl, a, _, _, .str "value", rfl, rfl, SqT.of ea, rfl, ?_⟩
      refine ⟨_, rfl, rfl, _, rfl, ?_⟩
      rw [sE, decide_eq_false (by decide +kernel)]
      refine iteF ⟨_, rfl, rfl, _, rfl, ?_⟩
      rw [sE, decide_eq_true rfl]
      refine iteT ⟨_, rfl, a, _, _, v2, rfl, rfl, SqT.of ea, rfl, v2, dv, kk, rfl, h2, vk, nn, fun H' s' => ⟨_, _, rfl, rfl, ?_, ?_⟩⟩
      · rw [ts_len]
        exact Nat.le_trans (show 1 + _ ≤ 100 by omega) (by decide)
      · rw [ee]
        exact k H' s'
    | @op _ w os ops ho l hos =>
      obtain ⟨_, w7, _, l3, nw⟩ := opsV_words ho
      rw [l] at l3
      cases hv with
      | @tup a ys0 _ ea hs0 =>
      cases hs0 with
      | @cons _ ys _ _ h1 r1 =>
      cases h1
      have ly := r1.len
      rw [sh_op nw] at k ln
      refine ⟨_, rfl, a, _, _, .str w, rfl, rfl, SqT.of ea, at_zero, ?_⟩
      refine ⟨_, rfl, rfl, _, rfl, ?_⟩
      rw [sE, decide_eq_false (fun e => nw (.inl e))]
      refine iteF ⟨_, rfl, rfl, _, rfl, ?_⟩
      rw [sE, decide_eq_false (fun e => nw (.inr e))]
      refine iteF ⟨⟨_, rfl⟩, _, rfl, by show 1 ≤ sizeLine; decide, fun p0 hp0 => ?_⟩
      have z0 := Same.upd (o := .lst [.str w]) hp0
      refine ⟨_, rfl, 1, rfl, a, _, rfl, SqT.of (z0 _ _ ea), tail_not, fun q hq => ?_⟩
      rw [cut_tail]
      have zq := Same.upd (o := .tup ys) hq
      have s2 := z0.trans zq
      have hp2 := zq _ _ (upd_same (H := H) (a := p0) (o := .lst [.str w]))
      have hq2 : upd (upd H p0 (.lst [.str w])) q (.tup ys) q = some (.tup ys) := upd_same
      generalize upd (upd H p0 (.lst [.str w])) q (.tup ys) = H2 at s2 hq2 hp2 ⊢
      refine ⟨q, rfl, ⟨_, SqT.of hq2⟩, fun D hD => lc_tup (K := K) (a := q) (xs := ys) (fun i H' => H' D = some (.lst (((os.take i).map fun o => TS (shL o)).map V.str)) ∧ Same H2 H') ⟨upd_same, Same.upd hD⟩ (fun i H' _ p => SqT.of (p.2 _ _ hq2)) ?_ ?_⟩
      · rintro i x H3 hx ⟨hD3, s3⟩
        obtain ⟨o, eo, dh⟩ := r1.get _ _ hx
        refine ⟨rfl, ?_⟩
        change teShe n _ _ _
        refine ⟨_, rfl, x, o, rfl, dh.same (s2.trans s3), hos o (List.mem_of_getElem? eo), by omega, fun H4 s4 => ⟨_, s4 _ _ hD3, ?_, ?_, fun b o' eb => by rw [upd_ne (ne_of_none eb hD)]; exact s4 b o' (s3 b o' eb)⟩⟩
        · rw [List.length_map, List.length_map, List.length_take]
          exact Nat.lt_of_le_of_lt (show _ ≤ 3 by omega) (by decide)
        · rw [upd_same, List.take_add_one, eo]
          simp
      · rintro H3 ⟨hD3, s3⟩
        rw [ly, List.take_length] at hD3
        refine ⟨p0, D, _, _, rfl, rfl, s3 _ _ hp2, hD3, ?_, fun u hu => ?_⟩
        · rw [List.length_map, List.length_map]
          exact Nat.le_trans (show 1 + _ ≤ 4 by omega) (by decide)
        have zu := Same.upd (o := .lst ([.str w] ++ (os.map fun o => TS (shL o)).map V.str)) hu
        have sm := shs_sum hos
        have sm3 : os.length * szT n ≤ 3 * szT n := Nat.mul_le_mul_right _ l3
        have lw : w.length = (CL w).length := lenL w
        have jn : Txt.join (PySem.Str.ofString " ") (w :: os.map fun o => TS (shL o)) = TS (CL w ++ shLs os) := by
          refine ts_of ?_
          rw [sh_join, List.map_map, ← shLs_flat]
          congr 2
        refine ⟨_, u, w :: os.map (fun o => TS (shL o)), rfl, rfl, .inl (SqL.of (by rw [upd_same]; rfl)), ?_, _, _, rfl, rfl, ?_, ?_⟩
        · rw [List.map_cons, List.sum_cons, List.length_cons, List.length_map]
          have : (PySem.Str.ofString " ").length = 1 := by decide +kernel
          rw [this]
          omega
        · rw [jn, ts_len]
          simp only [List.length_append, List.length_cons, List.length_nil] at ln
          have : (PySem.Str.ofString "(").length = 1 := by decide +kernel
          rw [this, List.length_append]
          exact Nat.le_trans (show _ ≤ 330010 by omega) (by decide)
        have e1 : ("(" : Str) ++ TS (CL w ++ shLs os) = TS (40 :: CL w ++ shLs os) := str_ext (by rw [appL]; show _ ++ CL (TS _) = CL (TS _); rw [cl_ts, cl_ts]; rfl)
        have e2 : TS (40 :: CL w ++ shLs os) ++ (")" : Str) = TS (40 :: CL w ++ shLs os ++ [41]) := (show TS (40 :: CL w ++ shLs os) ++ TS [41] = _ from ts_app _ _)
        rw [jn]
        refine ⟨_, _, rfl, rfl, ?_, ?_⟩
        · rw [e1, ts_len]
          simp only [List.length_append, List.length_cons, List.length_nil] at ln ⊢
          have : (PySem.Str.ofString ")").length = 1 := by decide +kernel
          rw [this]
          exact Nat.le_trans (show _ ≤ 330010 by omega) (by decide)
        rw [e1, e2]
        exact k _ ((s2.trans s3).trans zu)
theorem ok_SheN {fA : Addr} {fdA : FuncData} (F : Fun K "show_expression" "show_expression" sShe f fd) (T : Bt mg) (mX : mg "show_expression" = some (.ref f)) (kX : PySem.W.keepIn K (.ref f) = true) (bX : Binds K fd pShe [])
    (GA : FnOk P w K mg base CX0 2 fA fdA ["value"] spShv) (mA : mg "show_value" = some (.ref fA)) (kA : PySem.W.keepIn K (.ref fA) = true) (bA : Binds K fdA ["value"] []) : ∀ n : Nat, FnOk P w K mg base CX0 (2 + n) f fd pShe (spSh n)
  | 0 => fn_weak (sp' := fun _ _ _ _ => False) (fun _ _ _ _ ⟨_, _, _, _, xf, _⟩ => xf.zero.elim) fn_none
  | n + 1 => ok_She F T n (ok_SheN F T mX kX bX GA mA kA bA n) mX kX bX GA mA kA bA
end
end
end K77
set_option Elab.async false
set_option linter.all false
set_option maxRecDepth 100000
set_option maxHeartbeats 4000000
namespace K77
open PySem PySem.Spec PyProof.Rows L2 Lc
/-! ## reading texts -/
theorem sub_one {x : Str} {c : Nat} : Builtin.Str.subAt x ⟨#[c]⟩ 0 = decide ((CL x).head? = some c) := by
  rw [StrLaws.subAt_eq]
  show ((List.drop 0 x.cps.toList).take 1 == [c]) = _
  rw [List.drop_zero, Bool.eq_iff_iff, beq_iff_eq, decide_eq_true_iff]
  show x.cps.toList.take 1 = [c] ↔ x.cps.toList.head? = some c
  cases x.cps.toList with
  | nil => simp
  | cons a r => simp
theorem starts_one {x : Str} {c : Nat} : Txt.startswith x ⟨#[c]⟩ = decide ((CL x).head? = some c) := by
  unfold Txt.startswith
  rw [sub_one]
  show (decide (0 + 1 ≤ x.length) && _) = _
  by_cases h : (CL x).head? = some c
  · rw [decide_eq_true h, Bool.and_true]
    refine decide_eq_true ?_
    rw [lenL]
    have h : x.cps.toList.head? = some c := h
    cases e : x.cps.toList with
    | nil => rw [e] at h; cases h
    | cons a r => simp
  · rw [decide_eq_false h, Bool.and_false]
theorem prefix_one {x : Str} {c : Nat} : Txt.removeprefix x ⟨#[c]⟩ = TS (if (CL x).head? = some c then (CL x).drop 1 else CL x) := by
  rw [StrLaws.removeprefix_eq]
  have e : (decide (0 + (⟨#[c]⟩ : Str).length ≤ x.length) && Builtin.Str.subAt x ⟨#[c]⟩ 0) = decide ((CL x).head? = some c) := starts_one
  rw [e]
  by_cases h : (CL x).head? = some c
  · rw [if_pos (decide_eq_true h), if_pos h]
    show (⟨((x.cps.toList.drop 1).take (x.length - 1)).toArray⟩ : Str) = ⟨((CL x).drop 1).toArray⟩
    rw [List.take_of_length_le (by rw [List.length_drop, lenL]; exact Nat.le_refl _)]
  · rw [if_neg (by rw [decide_eq_false h]; decide), if_neg h, ts_cl]
theorem slash_eq : PySem.Str.ofString "/" = ⟨#[47]⟩ := by decide +kernel
theorem minus_eq : PySem.Str.ofString "-" = ⟨#[45]⟩ := by decide +kernel
theorem equal_eq : PySem.Str.ofString "=" = ⟨#[61]⟩ := by decide +kernel
theorem tick_eq : PySem.Str.ofString "'" = ⟨#[39]⟩ := by decide +kernel
theorem part_none {x : Str} (h : 47 ∉ CL x) : Txt.partition x ⟨#[47]⟩ = (x, Str.empty, Str.empty) := by
  have e := StrLaws.found_one x 47
  rw [decide_eq_false h] at e
  unfold Txt.partition
  cases q : Builtin.Str.occurrences x ⟨#[47]⟩ 0 x.length 1 with
  | nil => rfl
  | cons i r => rw [q] at e; cases e
theorem part_some {x : Str} {a b : List Nat} (e : CL x = a ++ 47 :: b) (ha : 47 ∉ a) (hb : 47 ∉ b) : Txt.partition x ⟨#[47]⟩ = (TS a, ⟨#[47]⟩, TS b) := by
  have f := StrLaws.found_one x 47
  rw [decide_eq_true (show 47 ∈ x.cps.toList by rw [show x.cps.toList = a ++ 47 :: b from e]; simp)] at f
  obtain ⟨fi, ch⟩ := StrLaws.occ_chain x ⟨#[47]⟩ 1
  unfold Txt.partition
  cases q : Builtin.Str.occurrences x ⟨#[47]⟩ 0 x.length 1 with
  | nil => rw [q] at f; cases f
  | cons i r =>
    rw [q] at ch
    obtain ⟨_, ⟨h1, h2⟩, _⟩ := ch
    rw [StrLaws.subAt_eq] at h2
    have h2 : (x.cps.toList.drop i).take 1 = [47] := eq_of_beq h2
    rw [show x.cps.toList = a ++ 47 :: b from e] at h2
    have hi : i = a.length := by
      have g : (a ++ 47 :: b)[i]? = some 47 := by
        have := congrArg (fun l : List Nat => l[0]?) h2
        simpa [List.getElem?_take, List.getElem?_drop] using this
      by_cases l1 : i < a.length
      · rw [List.getElem?_append_left l1] at g
        exact absurd (List.mem_of_getElem? g) ha
      · rw [List.getElem?_append_right (by omega)] at g
        by_cases l2 : i = a.length
        · exact l2
        · obtain ⟨j, hj⟩ : ∃ j, i - a.length = j + 1 := ⟨i - a.length - 1, by omega⟩
          rw [hj] at g
          exact absurd (List.mem_of_getElem? (show b[j]? = some 47 by simpa using g)) hb
    subst hi
    have xl : x.length = a.length + (b.length + 1) := by
      rw [lenL, show x.cps.toList = a ++ 47 :: b from e, List.length_append, List.length_cons]
    show (Builtin.Str.strSub x 0 a.length, (⟨#[47]⟩ : Str), Builtin.Str.strSub x (a.length + 1) x.length) = _
    refine Prod.ext ?_ (Prod.ext rfl ?_)
    · refine ts_of ?_
      show (Builtin.Str.strSub x 0 a.length).cps.toList = a
      rw [StrLaws.strSub_toList, show x.cps.toList = a ++ 47 :: b from e]
      simp
    · refine ts_of ?_
      show (Builtin.Str.strSub x (a.length + 1) x.length).cps.toList = b
      rw [StrLaws.strSub_toList, show x.cps.toList = a ++ 47 :: b from e, xl]
      have : a ++ 47 :: b = (a ++ [47]) ++ b := by simp
      rw [this, List.drop_append_of_le_length (by simp)]
      simp
      exact List.take_of_length_le (by omega)
theorem int_no47 (n : Int) : 47 ∉ intL n := fun h => by
  rcases (int_signs n).2 47 h with h | h
  · cases h
  · omega
theorem int_abs (n : Int) : (if (intL n).head? = some 45 then (intL n).drop 1 else intL n) = digs n.natAbs ∧ ((intL n).head? = some 45 ↔ n < 0) := by
  unfold intL
  obtain ⟨c, r, e, _⟩ := digs_head n.natAbs
  by_cases h : n < 0
  · rw [if_pos h]
    simp [h]
  · rw [if_neg h]
    have hc : 48 ≤ c ∧ c ≤ 57 := (digs_signs n.natAbs).2 c (by rw [e]; exact List.mem_cons_self)
    have ne : c ≠ 45 := by omega
    rw [List.nil_append, e]
    simp [ne, h]
end K77
set_option Elab.async false
set_option linter.all false
set_option maxRecDepth 100000
set_option maxHeartbeats 4000000
namespace K77
open PySem PySem.Spec PyProof.Rows L2 Lc
/-! ## what texts are read as -/
def rNIS : R2 := fun x y H Q => ∃ (c : Nat) (z : Str), x = .str ⟨#[c]⟩ ∧ y = .str z ∧ Q (.bl (!decide (c ∈ z.cps.toList))) H
structure Tx (l : List Nat) : Prop where
  len : l.length ≤ 400000
  ok : ∀ c ∈ l, c < 128
theorem Tx.sub {l m : List Nat} (h : Tx l) (s : m.Sublist l) : Tx m := ⟨Nat.le_trans s.length_le h.len, fun c hc => h.ok c (s.subset hc)⟩
theorem Tx.line {l : List Nat} (h : Tx l) : (TS l).length ≤ sizeLine := by rw [ts_len]; exact Nat.le_trans h.len (by decide)
theorem Tx.line2 {l : List Nat} (h : Tx l) : (TS l).length + 2 ≤ sizeLine := by rw [ts_len]; exact Nat.le_trans (Nat.add_le_add_right h.len 2) (by decide)
abbrev isD (c : Nat) : Bool := decide (c ∈ ten10.cps.toList)
theorem isD_is (c : Nat) : isD c = true ↔ 48 ≤ c ∧ c ≤ 57 := by
  refine ⟨fun h => ?_, fun h => in_ten h⟩
  have h : c ∈ ten10.cps.toList := of_decide_eq_true h
  have e : ten10.cps.toList = [48, 49, 50, 51, 52, 53, 54, 55, 56, 57] := by decide +kernel
  rw [e] at h
  simp only [List.mem_cons, List.not_mem_nil, or_false] at h
  omega
def digN (l : List Nat) : Option Nat := if l = [] then none else if 41 < l.length then none else if l.all isD = false then none else if l.head? = some 48 ∧ l ≠ [48] then none else some (NumText.digitsVal l)
def dgV (l : List Nat) : V := match digN l with
  | none => .non
  | some m => .int (m : Int)
theorem digN_digits {l : List Nat} {m : Nat} (h : digN l = some m) : l ≠ [] ∧ l.length ≤ 41 ∧ l.all isD = true := by
  unfold digN at h
  split at h
  · cases h
  split at h
  · cases h
  split at h
  · cases h
  exact ⟨by assumption, by omega, by simpa using (by assumption : ¬ l.all isD = false)⟩
def spDg : Sp := fun vs H Q _ => ∃ (l : List Nat), vs = [.str (TS l)] ∧ Tx l ∧ ∀ H', Same H H' → Q (dgV l) H'
theorem int_digits {l : List Nat} (h1 : l ≠ []) (h2 : l.length ≤ 41) (h3 : l.all isD = true) : PySem.intText? (TS l) = some (NumText.digitsVal l : Int) := by
  have hc : (TS l).cps.toList = l := cl_ts l
  have := intText_digits (x := TS l) (by rw [hc]; intro c hm; exact (isD_is c).mp (List.all_eq_true.mp h3 c hm)) (by rw [hc]; exact h1) (by rw [ts_len]; omega)
  rw [hc] at this
  exact this
theorem grow' {x : List Nat} {i c : Nat} (h : x[i]? = some c) (g : Nat → Bool) : (x.take i).map (fun c => V.bl (g c)) ++ [.bl (g c)] = (x.take (i + 1)).map fun c => V.bl (g c) := by
  rw [List.take_add_one, h]
  simp
theorem grow_f {x : List Nat} {i c : Nat} (h : x[i]? = some c) (g : Nat → Bool) : ((x.take (i + 1)).filter g).map (fun c => V.str ⟨#[c]⟩) = if g c = true then ((x.take i).filter g).map (fun c => V.str ⟨#[c]⟩) ++ [.str ⟨#[c]⟩] else ((x.take i).filter g).map fun c => V.str ⟨#[c]⟩ := by
  rw [List.take_add_one, h]
  by_cases z : g c = true <;> simp [z, List.filter_append]
theorem at_ts {l : List Nat} {i c : Nat} (h : (TS l).cps[i]? = some c) : l[i]? = some c := by
  have q : (TS l).cps.toList[i]? = some c := by simpa using h
  rw [show (TS l).cps.toList = l from cl_ts l] at q
  exact q
theorem ts_size (l : List Nat) : (TS l).cps.size = l.length := ts_len l
theorem dec_nil (l : List Nat) : decide (V.str (TS l) = V.str "") = decide (l = []) := decide_eq_decide.mpr ⟨fun q => by injection q with q; rw [← cl_ts l, q]; decide +kernel, fun q => by rw [q]; rfl⟩
theorem dec_ts {l m : List Nat} {z : Str} (e : CL z = m) : decide (V.str (TS l) = V.str z) = decide (l = m) := decide_eq_decide.mpr ⟨fun q => by injection q with q; rw [← e, ← q, cl_ts], fun q => by rw [q, ← e, ts_cl]⟩
theorem dec_one {c d : Nat} {z : Str} (e : CL z = [d]) : decide (V.str ⟨#[c]⟩ = V.str z) = decide (c = d) := by
  have : (⟨#[c]⟩ : Str) = TS [c] := rfl
  rw [this, dec_ts e]
  exact decide_eq_decide.mpr ⟨fun q => by injection q, fun q => by rw [q]⟩
theorem zero_cl : CL (PySem.Str.ofString "0") = [48] := by decide +kernel
/-- a list of signs against the empty list -/
theorem sgn_ok {c : Nat} (h : c < 128) : PyData.canLay0 (.str ⟨#[c]⟩) = true := by
  have key : ∀ c, c < 128 → PyData.canLay0 (.str ⟨#[c]⟩) = true := by decide +kernel
  exact key c h
theorem sgns_shaped {cs : List Nat} (h : ∀ c ∈ cs, c < 128) : SeqAt.shaped (.list (cs.map fun c => .str ⟨#[c]⟩)) = true := by
  have a : PyData.canLayAll0 (cs.map fun c => .str ⟨#[c]⟩) = true := by
    induction cs with
    | nil => rfl
    | cons c r ih =>
      show (PyData.canLay0 (.str ⟨#[c]⟩) && PyData.canLayAll0 (r.map fun c => .str ⟨#[c]⟩)) = true
      rw [sgn_ok (h c List.mem_cons_self), ih fun x hx => h x (List.mem_cons_of_mem _ hx)]
      rfl
  have d : PyData.depthAll (cs.map fun c => .str ⟨#[c]⟩) = 0 := by
    induction cs with
    | nil => rfl
    | cons c r ih =>
      show max 0 (PyData.depthAll (r.map fun c => .str ⟨#[c]⟩)) = 0
      rw [ih (fun x hx => h x (List.mem_cons_of_mem _ hx)) (by
        show PyData.canLayAll0 (r.map fun c => .str ⟨#[c]⟩) = true
        have : (PyData.canLay0 (.str ⟨#[c]⟩) && PyData.canLayAll0 (r.map fun c => .str ⟨#[c]⟩)) = true := a
        exact (Bool.and_eq_true_iff.mp this).2)]
      rfl
  show (PyData.canLay0 (.list (cs.map fun c => .str ⟨#[c]⟩)) && decide ((PyData.list (cs.map fun c => .str ⟨#[c]⟩)).depth ≤ 64)) = true
  rw [show PyData.canLay0 (.list (cs.map fun c => .str ⟨#[c]⟩)) = PyData.canLayAll0 (cs.map fun c => .str ⟨#[c]⟩) by rw [PyData.canLay0], a, show (PyData.list (cs.map fun c => .str ⟨#[c]⟩)).depth = PyData.depthAll (cs.map fun c => .str ⟨#[c]⟩) + 1 by rw [PyData.depth], d]
  rfl
theorem sgns_nil (cs : List Nat) : PyData.eqv (.list (cs.map fun c => .str ⟨#[c]⟩)) (.list []) = decide (cs = []) := by
  cases cs with
  | nil => rfl
  | cons c r => rw [decide_eq_false (by simp)]; rfl
theorem Dps.sgns {K : PySem.W.Frag} {H : Hp} (cs : List Nat) : DpAll K H (cs.map fun c => V.str ⟨#[c]⟩) (cs.map fun c => PyData.str ⟨#[c]⟩) := by
  induction cs with
  | nil => exact .nil
  | cons c r ih => exact .cons (.str _) ih
theorem filter_nil {l : List Nat} {g : Nat → Bool} : decide (l.filter (fun c => !g c) = []) = l.all g := by
  induction l with
  | nil => rfl
  | cons c r ih => cases e : g c <;> simp [e, ← ih]
section
variable {u1 u2 : Tok}
variable {P : Program} {w : World} {K : PySem.W.Frag} {mg : Str → Option Value} {base : Heap} {f : Addr} {fd : FuncData}
abbrev sRw : Stmt := top 19
abbrev nRw : List Str := ["text", "sign"]
abbrev pRw : List Str := ["text"]
theorem scRw : FnScope nRw pRw (defScope sRw) := ⟨rfl, rfl, rfl, by decide +kernel, rfl, by decide +kernel, by decide +kernel⟩
section
theorem ok_Rw (F : Fun K "read_whole" "read_whole" sRw f fd) (T : Bt mg) (mD : mg "DIGITS" = some (.str ten10 u1)) (mM : mg "MOST_DIGITS" = some (.int 41 u2)) : FnOk P w K mg base CX0 1 f fd pRw (spDg) := by
  refine F.ok scRw (fun vs H Q E h => ?_) (fun cdv A outer s H vs Q E hr h => ?_)
  · obtain ⟨l, rfl, _⟩ := h
    rfl
  · obtain ⟨l, rfl, tx, k⟩ := h
    refine ⟨_, (pss_cons (ps_if (PW.pt (pw_or (pt_cmpR op_eq (pv 0) pe_str (nomark _)) (pw_or (pt_cmpR op_gt (pe_callB call_len_str (by rfl) T.len PySem.boot_len (pa_cons (pv 0) pa_nil)) (pe_glob (v := .int 41) (by rfl) mM ⟨_, rfl⟩) (nomark _)) (pw_or1 (pt_not (pt_val (pe_callB (cr_all rfl) (by rfl) T.all (by decide +kernel) (pa_cons (pe_lc (own := [("sign", 1)]) (g := (gName 1)) (tt := tYes) (te := (tOp rInS (tVar 1) (tC (.str ten10)))) (by rfl) scRw.nd (pi_str (pv 0)) (blkOk_by (own := [("sign", 1)]) (N := nRw) (sc := defScope sRw) (by decide +kernel)) (fun _ _ _ _ _ => (pg_name (i := 1) scRw.nd rfl (.inl rfl))) (fun _ _ _ _ _ => pts_nil) (fun _ _ _ _ _ => (pe_cmpR op_in_sign (pv 1) (pe_glob (v := .str ten10) (by rfl) mD ⟨_, rfl⟩) (by rfl)))) pa_nil)))))))) (pss_one (ps_ret pe_non)) pss_nil)
      (pss_cons (ps_if (PW.pt (pw_and (pt_cmpR op_eq (pe_ix ix_str (pv 0) pe_int (fun _ _ => rfl)) pe_str (nomark _)) (pw_and1 (pt_cmpR op_ne (pv 0) pe_str (nomark _))))) (pss_one (ps_ret pe_non)) pss_nil)
      (pss_one (ps_ret (pe_callTy call_int_str (by rfl) T.int boot_int (pa_cons (pv 0) pa_nil)))))), ?_⟩
    have hc := cl_ts l
    unfold dgV at k
    refine ⟨_, rfl, rfl, _, rfl, ?_⟩
    rw [dec_nil]
    by_cases l0 : l = []
    · rw [decide_eq_true l0]
      have k0 := k H (Same.refl H)
      rw [show digN l = none by unfold digN; rw [if_pos l0]] at k0
      exact iteT (iteT k0)
    rw [decide_eq_false l0]
    refine iteF ⟨_, rfl, _, rfl, tx.line, _, _, rfl, rfl, _, rfl, ?_⟩
    rw [ts_len]
    by_cases l41 : 41 < l.length
    · rw [decide_eq_true (by omega)]
      have k0 := k H (Same.refl H)
      rw [show digN l = none by unfold digN; rw [if_neg l0, if_pos l41]] at k0
      exact iteT (iteT k0)
    rw [decide_eq_false (by omega)]
    refine iteF ⟨_, rfl, _, rfl, fun D hD => lc_it walk_str (fun i H' => H' = upd H D (.lst ((l.take i).map fun c => .bl (isD c)))) rfl (fun _ _ _ _ => True.intro) ?_ ?_⟩
    · rintro i y H' H'' hi rfl ⟨rfl, c', hc', rfl⟩
      have hc' := at_ts hc'
      refine ⟨rfl, ?_⟩
      change tOp rInS (tVar 1) (tC (.str ten10)) _ _ _
      refine ⟨_, rfl, c', ten10, rfl, rfl, _, upd_same, ?_, ?_⟩
      · rw [List.length_map, List.length_take]
        exact Nat.lt_of_le_of_lt (Nat.min_le_right _ _) (Nat.lt_of_le_of_lt (show _ ≤ 41 by omega) (by decide))
      · rw [upd_upd]
        exact congrArg (fun z => upd H D (.lst z)) (grow' hc' _)
    rintro H' rfl
    have zD := Same.upd (o := .lst ((l.take (TS l).cps.size).map fun c => .bl (isD c))) hD
    refine ⟨D, l.map isD, rfl, SqL.of (by rw [upd_same, ts_size, List.take_length, List.map_map]; rfl), _, rfl, ?_⟩
    dsimp only
    rw [List.all_map]
    have k1 := k _ zD
    generalize upd H D (.lst ((l.take (TS l).cps.size).map fun c => .bl (isD c))) = H2 at zD k1 ⊢
    show if (!l.all isD) = true then _ else _
    cases al : l.all isD with
    | false =>
      rw [show digN l = none by unfold digN; rw [if_neg l0, if_neg l41, if_pos al]] at k1
      exact iteT k1
    | true =>
      refine iteF ?_
      obtain ⟨c, r, e⟩ : ∃ c r, l = c :: r := by cases l with | nil => exact absurd rfl l0 | cons c r => exact ⟨c, r, rfl⟩
      refine ⟨_, rfl, _, 0, c, rfl, rfl, tx.line, (show atI (TS l).cps.toList ((0 : Nat) : Int) = some c from atI_nat (by rw [show (TS l).cps.toList = l from hc, e]; rfl)), rfl, _, rfl, ?_⟩
      rw [dec_one zero_cl]
      have g2 := int_digits l0 (by omega) al
      by_cases z : c = 48
      · rw [decide_eq_true z]
        refine iteT ⟨_, rfl, rfl, _, rfl, ?_⟩
        rw [dec_ts zero_cl]
        by_cases z2 : l = [48]
        · rw [decide_eq_true z2]
          rw [show digN l = some (NumText.digitsVal l) by unfold digN; rw [if_neg l0, if_neg l41, if_neg (by rw [al]; decide), if_neg (fun q => q.2 z2)]] at k1
          exact iteF ⟨_, rfl, _, _, rfl, g2, by rw [ts_len]; omega, k1⟩
        · rw [decide_eq_false z2]
          rw [show digN l = none by unfold digN; rw [if_neg l0, if_neg l41, if_neg (by rw [al]; decide), if_pos ⟨by rw [e, z]; rfl, z2⟩]] at k1
          exact iteT k1
      · rw [decide_eq_false z]
        rw [show digN l = some (NumText.digitsVal l) by unfold digN; rw [if_neg l0, if_neg l41, if_neg (by rw [al]; decide), if_neg (fun q => z (by have := q.1; rw [e] at this; injection this))]] at k1
        exact iteF (iteF ⟨_, rfl, _, _, rfl, g2, by rw [ts_len]; omega, k1⟩)
end
abbrev sDg : Stmt := top 43
abbrev nDg : List Str := ["_law_text", "_law_sign"]
abbrev pDg : List Str := ["_law_text"]
theorem scDg : FnScope nDg pDg (defScope sDg) := ⟨rfl, rfl, rfl, by decide +kernel, rfl, by decide +kernel, by decide +kernel⟩
section
theorem ok_Dg (F : Fun K "_law_digits" "_law_digits" sDg f fd) (T : Bt mg) : FnOk P w K mg base CX0 1 f fd pDg (spDg) := by
  refine F.ok scDg (fun vs H Q E h => ?_) (fun cdv A outer s H vs Q E hr h => ?_)
  · obtain ⟨l, rfl, _⟩ := h
    rfl
  · obtain ⟨l, rfl, tx, k⟩ := h
    refine ⟨_, (pss_cons (ps_if (PW.pt (pw_or (pt_cmpR op_eq (pv 0) pe_str (nomark _)) (pw_or (pt_cmpR (op_neD hr.units) (pe_lc (own := [("_law_sign", 1)]) (g := (gName 1)) (tt := (tTest (tOp rNIS (tVar 1) (tC (.str ten10))))) (te := (tVar 1)) (by rfl) scDg.nd (pi_str (pv 0)) (blkOk_by (own := [("_law_sign", 1)]) (N := nDg) (sc := defScope sDg) (by decide +kernel)) (fun _ _ _ _ _ => (pg_name (i := 1) scDg.nd rfl (.inl rfl))) (fun _ _ _ _ _ => (pts_one (pt_cmpR op_notIn_sign (pv 1) pe_str (by rfl)))) (fun _ _ _ _ _ => (pv 1))) (pe_lst pa_nil) (nomark _)) (pw_or1 (pt_cmpR op_gt (pe_callB call_len_str (by rfl) T.len PySem.boot_len (pa_cons (pv 0) pa_nil)) pe_int (nomark _)))))) (pss_one (ps_ret pe_non)) pss_nil)
      (pss_cons (ps_if (PW.pt (pw_and (pt_cmpR op_gt (pe_callB call_len_str (by rfl) T.len PySem.boot_len (pa_cons (pv 0) pa_nil)) pe_int (nomark _)) (pw_and1 (pt_cmpR op_eq (pe_ix ix_str (pv 0) pe_int (fun _ _ => rfl)) pe_str (nomark _))))) (pss_one (ps_ret pe_non)) pss_nil)
      (pss_one (ps_ret (pe_callTy call_int_str (by rfl) T.int boot_int (pa_cons (pv 0) pa_nil)))))), ?_⟩
    have hc := cl_ts l
    unfold dgV at k
    refine ⟨_, rfl, rfl, _, rfl, ?_⟩
    rw [dec_nil]
    by_cases l0 : l = []
    · rw [decide_eq_true l0]
      have k0 := k H (Same.refl H)
      rw [show digN l = none by unfold digN; rw [if_pos l0]] at k0
      exact iteT (iteT k0)
    rw [decide_eq_false l0]
    refine iteF ⟨_, rfl, _, rfl, fun D hD => lc_it walk_str (fun i H' => H' = upd H D (.lst (((l.take i).filter fun c => !isD c).map fun c => .str ⟨#[c]⟩))) rfl (fun _ _ _ _ => True.intro) ?_ ?_⟩
    · rintro i y H' H'' hi rfl ⟨rfl, c', hc', rfl⟩
      have hc' := at_ts hc'
      have gr := grow_f hc' fun c => !isD c
      refine ⟨rfl, ?_⟩
      refine ⟨_, rfl, c', ten10, rfl, rfl, _, rfl, ?_⟩
      show if (!isD c') = true then _ else _
      cases q : isD c' with
      | true =>
        rw [q, if_neg (by decide)] at gr
        exact iteF (congrArg (fun z => upd H D (.lst z)) gr.symm)
      | false =>
        rw [q, if_pos (show (!false) = true from rfl)] at gr
        refine iteT ⟨_, rfl, _, upd_same, ?_, ?_⟩
        · rw [List.length_map]
          refine Nat.lt_of_le_of_lt (List.length_filter_le _ _) ?_
          rw [List.length_take]
          exact Nat.lt_of_le_of_lt (Nat.min_le_right _ _) (Nat.lt_of_le_of_lt tx.len (by decide))
        · rw [upd_upd]
          exact congrArg (fun z => upd H D (.lst z)) gr.symm
    rintro H' rfl
    rw [ts_size, List.take_length]
    have zD := Same.upd (o := .lst ((l.filter fun c => !isD c).map fun c => .str ⟨#[c]⟩)) hD
    refine ⟨by show 0 ≤ sizeLine; decide, fun D2 hD2 => ?_⟩
    have zE := Same.upd (o := .lst []) hD2
    refine ⟨_, _, .lst (SqL.of (zE _ _ upd_same)) (Dps.sgns _), .lst (SqL.of upd_same) .nil, sgns_shaped (fun c hc => tx.ok c (List.mem_filter.mp hc).1), rfl, _, rfl, ?_⟩
    rw [sgns_nil, filter_nil]
    have k1 := k _ (zD.trans zE)
    generalize upd (upd H D (.lst ((l.filter fun c => !isD c).map fun c => .str ⟨#[c]⟩))) D2 (.lst []) = H2 at k1 ⊢
    cases al : l.all isD with
    | false =>
      have : digN l = none := by
        unfold digN
        rw [if_neg l0]
        split
        · rfl
        · rfl
      rw [this] at k1
      exact iteT (iteT k1)
    | true =>
      refine iteF ⟨_, rfl, _, rfl, tx.line, _, _, rfl, rfl, _, rfl, ?_⟩
      rw [ts_len]
      by_cases l41 : 41 < l.length
      · rw [decide_eq_true (by omega)]
        rw [show digN l = none by unfold digN; rw [if_neg l0, if_pos l41]] at k1
        exact iteT k1
      rw [decide_eq_false (by omega)]
      refine iteF ?_
      obtain ⟨c, r, e⟩ : ∃ c r, l = c :: r := by cases l with | nil => exact absurd rfl l0 | cons c r => exact ⟨c, r, rfl⟩
      have g2 := int_digits l0 (by omega) al
      refine ⟨_, rfl, _, rfl, tx.line, _, _, rfl, rfl, _, rfl, ?_⟩
      rw [ts_len]
      by_cases l1 : 1 < l.length
      · rw [decide_eq_true (by omega)]
        refine iteT ⟨_, rfl, _, 0, c, rfl, rfl, tx.line, (show atI (TS l).cps.toList ((0 : Nat) : Int) = some c from atI_nat (by rw [show (TS l).cps.toList = l from hc, e]; rfl)), rfl, _, rfl, ?_⟩
        rw [dec_one zero_cl]
        by_cases z : c = 48
        · rw [decide_eq_true z]
          rw [show digN l = none by unfold digN; rw [if_neg l0, if_neg l41, if_neg (by rw [al]; decide), if_pos ⟨by rw [e, z]; rfl, fun q => by rw [q] at l1; simp at l1⟩]] at k1
          exact iteT k1
        · rw [decide_eq_false z]
          rw [show digN l = some (NumText.digitsVal l) by unfold digN; rw [if_neg l0, if_neg l41, if_neg (by rw [al]; decide), if_neg (fun q => z (by have := q.1; rw [e] at this; injection this))]] at k1
          exact iteF ⟨_, rfl, _, _, rfl, g2, by rw [ts_len]; omega, k1⟩
      · rw [decide_eq_false (by omega)]
        rw [show digN l = some (NumText.digitsVal l) by
          unfold digN
          rw [if_neg l0, if_neg l41, if_neg (by rw [al]; decide), if_neg (fun q => q.2 (by
            have h1 := q.1
            rw [e] at h1 l1
            have : r = [] := List.length_eq_zero_iff.mp (by simp at l1; exact List.length_eq_zero_iff.mpr l1)
            injection h1 with h1
            rw [e, this, h1]))]] at k1
        exact iteF (iteF ⟨_, rfl, _, _, rfl, g2, by rw [ts_len]; omega, k1⟩)
end
end
end K77
set_option Elab.async false
set_option linter.all false
set_option maxRecDepth 100000
set_option maxHeartbeats 4000000
namespace K77
open PySem PySem.Spec PyProof.Rows L2 Lc
/-! ## numbers -/
theorem part_gen {x : Str} (h : 47 ∈ CL x) : ∃ a b, CL x = a ++ 47 :: b ∧ Txt.partition x ⟨#[47]⟩ = (TS a, ⟨#[47]⟩, TS b) := by
  have f := StrLaws.found_one x 47
  rw [decide_eq_true (show 47 ∈ x.cps.toList from h)] at f
  obtain ⟨fi, ch⟩ := StrLaws.occ_chain x ⟨#[47]⟩ 1
  unfold Txt.partition
  cases q : Builtin.Str.occurrences x ⟨#[47]⟩ 0 x.length 1 with
  | nil => rw [q] at f; cases f
  | cons i r =>
    rw [q] at ch
    obtain ⟨_, ⟨h1, h2⟩, _⟩ := ch
    rw [StrLaws.subAt_eq] at h2
    have h2 : (x.cps.toList.drop i).take 1 = [47] := eq_of_beq h2
    have e : x.cps.toList = x.cps.toList.take i ++ 47 :: x.cps.toList.drop (i + 1) := by
      have d : x.cps.toList.drop i = 47 :: x.cps.toList.drop (i + 1) := by
        cases w : x.cps.toList.drop i with
        | nil => rw [w] at h2; cases h2
        | cons c r =>
          rw [w] at h2
          have h2 : [c] = [47] := h2
          injection h2 with h2 _
          rw [h2]
          congr 1
          have := congrArg (List.drop 1) w
          rw [List.drop_drop] at this
          exact this.symm
      rw [← d, List.take_append_drop]
    refine ⟨_, _, e, ?_⟩
    show (Builtin.Str.strSub x 0 i, (⟨#[47]⟩ : Str), Builtin.Str.strSub x (i + 1) x.length) = _
    refine Prod.ext ?_ (Prod.ext rfl ?_)
    · refine ts_of ?_
      show (Builtin.Str.strSub x 0 i).cps.toList = _
      rw [StrLaws.strSub_toList, List.drop_zero]
      rfl
    · refine ts_of ?_
      show (Builtin.Str.strSub x (i + 1) x.length).cps.toList = _
      rw [StrLaws.strSub_toList]
      exact List.take_of_length_le (by rw [List.length_drop, lenL]; exact Nat.le_refl _)
def negA (l : List Nat) : Bool := decide (l.head? = some 45)
def str45 (l : List Nat) : List Nat := if l.head? = some 45 then l.drop 1 else l
def obN : Option (List Nat) → Option Nat
  | none => some 1
  | some b => digN b
def sgI (ng : Bool) (s : Nat) : Int := if ng then -(s : Int) else s
def numF : Bool → Bool → Option Nat → Option Nat → PyData
  | ng, sl, some s, some d => if ((sl && decide (d = 1)) || (ng && decide (s = 0))) = true then .none else if numB (.int (sgI ng s)) (.int (d : Int)) = true then .tuple [.int (sgI ng s), .int (d : Int)] else .none
  | _, _, _, _ => .none
def numAB (a : List Nat) (ob : Option (List Nat)) : PyData := numF (negA a) ob.isSome (digN (str45 a)) (obN ob)
def cutL : List Nat → Option (List Nat × List Nat)
  | [] => none
  | c :: r => if c = 47 then some ([], r) else (cutL r).map fun p => (c :: p.1, p.2)
def numD (l : List Nat) : PyData := match cutL l with
  | none => numAB l none
  | some p => numAB p.1 (some p.2)
theorem numF_n1 {ng sl : Bool} {o : Option Nat} : numF ng sl none o = .none := by rw [numF]; nofun
theorem numF_n2 {ng sl : Bool} {o : Option Nat} : numF ng sl o none = .none := by rw [numF]; nofun
theorem cutL_none : ∀ {l : List Nat}, 47 ∉ l → cutL l = none
  | [], _ => rfl
  | c :: r, h => by
    rw [cutL, if_neg (fun e => h (by rw [e]; exact List.mem_cons_self)), cutL_none fun q => h (List.mem_cons_of_mem _ q)]
    rfl
theorem cutL_some : ∀ {l : List Nat}, 47 ∈ l → ∃ a b, cutL l = some (a, b) ∧ l = a ++ 47 :: b ∧ 47 ∉ a
  | [], h => by cases h
  | c :: r, h => by
    by_cases z : c = 47
    · exact ⟨[], r, by rw [cutL, if_pos z], by rw [z]; rfl, nofun⟩
    · have h : 47 ∈ r := by
        rcases List.mem_cons.mp h with q | q
        · exact absurd q.symm z
        · exact q
      obtain ⟨a, b, e1, e2, e3⟩ := cutL_some h
      exact ⟨c :: a, b, by rw [cutL, if_neg z, e1]; rfl, by rw [e2]; rfl, fun q => by rcases List.mem_cons.mp q with q | q; exact z q.symm; exact e3 q⟩
theorem cut_two : ∀ {a0 a b b0 : List Nat}, a ++ 47 :: b = a0 ++ 47 :: b0 → 47 ∉ a0 → (a = a0 ∧ b = b0) ∨ (47 ∈ a ∧ 47 ∈ b0)
  | [], [], _, _, e, _ => .inl ⟨rfl, (List.cons.inj e).2⟩
  | [], c :: r, b, b0, e, _ => by
    obtain ⟨e1, e2⟩ := List.cons.inj e
    exact .inr ⟨by rw [e1]; exact List.mem_cons_self, by rw [← e2]; simp⟩
  | c :: r, [], b, b0, e, h => absurd (List.cons.inj e).1 (fun z => h (by rw [z]; exact List.mem_cons_self))
  | c :: r, d :: s, b, b0, e, h => by
    obtain ⟨e1, e2⟩ := List.cons.inj e
    rcases cut_two e2 (fun z => h (List.mem_cons_of_mem _ z)) with ⟨h1, h2⟩ | ⟨h1, h2⟩
    · exact .inl ⟨by rw [e1, h1], h2⟩
    · exact .inr ⟨List.mem_cons_of_mem _ h1, h2⟩
theorem dig47 {l : List Nat} (h : 47 ∈ l) : digN l = none := by
  cases e : digN l with
  | none => rfl
  | some m =>
    have := List.all_eq_true.mp (digN_digits e).2.2 47 h
    have := (isD_is 47).mp this
    omega
theorem str47 {l : List Nat} : 47 ∈ str45 l ↔ 47 ∈ l := by
  unfold str45
  cases l with
  | nil => simp
  | cons c r =>
    by_cases z : c = 45
    · subst z
      simp
    · simp [z]
theorem num_any {l a b : List Nat} (e : l = a ++ 47 :: b) : numD l = numAB a (some b) := by
  obtain ⟨a0, b0, c1, c2, c3⟩ := cutL_some (l := l) (by rw [e]; simp)
  have : numD l = numAB a0 (some b0) := by unfold numD; rw [c1]
  rw [this]
  rcases cut_two (e.symm.trans c2) c3 with ⟨rfl, rfl⟩ | ⟨h1, h2⟩
  · rfl
  · unfold numAB
    rw [dig47 (str47.mpr h1), numF_n1, show obN (some b0) = none from dig47 h2, numF_n2]
theorem num_no {l : List Nat} (h : 47 ∉ l) : numD l = numAB l none := by unfold numD; rw [cutL_none h]
theorem str45_sub (l : List Nat) : (str45 l).Sublist l := by
  unfold str45
  split
  · exact List.drop_sublist _ _
  · exact List.Sublist.refl _
def optV : Option Nat → V
  | none => .non
  | some m => .int (m : Int)
theorem dgV_is (l : List Nat) : dgV l = optV (digN l) := by unfold dgV; cases digN l <;> rfl
def spNm : Sp := fun vs H Q _ => ∃ (l : List Nat), vs = [.str (TS l)] ∧ Tx l ∧ ∀ v H', Same H H' → Dh H' v (numD l) → Q v H'
section
variable {P : Program} {w : World} {K : PySem.W.Frag} {mg : Str → Option Value} {base : Heap} {f : Addr} {fd : FuncData}
abbrev sRr : Stmt := top 20
abbrev nRr : List Str := ["text", "above", "slash", "below", "size", "d", "negative", "number"]
abbrev pRr : List Str := ["text"]
theorem scRr : FnScope nRr pRr (defScope sRr) := ⟨rfl, rfl, rfl, by decide +kernel, rfl, by decide +kernel, by decide +kernel⟩
section
variable {fA_ fB_ fC_ : Addr} {fdA_ fdB_ fdC_ : FuncData}
theorem ok_Rr (F : Fun K "read_rational" "read_rational" sRr f fd) (T : Bt mg)
    (GA_ : FnOk P w K mg base CX0 1 fA_ fdA_ ["text"] (spDg)) (mA_ : mg "read_whole" = some (.ref fA_)) (kA_ : PySem.W.keepIn K (.ref fA_) = true) (bA_ : Binds K fdA_ ["text"] [])
    (GB_ : FnOk P w K mg base CX0 2 fB_ fdB_ ["value"] (spIsR)) (mB_ : mg "is_rational" = some (.ref fB_)) (kB_ : PySem.W.keepIn K (.ref fB_) = true) (bB_ : Binds K fdB_ ["value"] [])
    (GC_ : FnOk P w K mg base CX0 1 fC_ fdC_ ["number"] (spWithin)) (mC_ : mg "within_limit" = some (.ref fC_)) (kC_ : PySem.W.keepIn K (.ref fC_) = true) (bC_ : Binds K fdC_ ["number"] []) : FnOk P w K mg base CX0 3 f fd pRr (spNm) := by
  refine F.ok scRr (fun vs H Q E h => ?_) (fun cdv A outer s H vs Q E hr h => ?_)
  · obtain ⟨l, rfl, _⟩ := h
    rfl
  · obtain ⟨l, rfl, tx, k⟩ := h
    have hrA_ : Room (1) _ := hr.mono (by first | decide | omega)
    have hrB_ : Room (2) _ := hr.mono (by first | decide | omega)
    have hrC_ : Room (1) _ := hr.mono (by first | decide | omega)
    refine ⟨_, (pss_cons (ps_asg (pe_m1 PySem.F.slot_str_partition PySem.F.type_str_partition mt_partition (pv 0) pe_str) (pg_tup rfl (pgs_cons (pg_name (i := 1) scRr.nd rfl (.inl rfl)) (pgs_cons (pg_name (i := 2) scRr.nd rfl (.inl rfl)) (pgs_cons (pg_name (i := 3) scRr.nd rfl (.inl rfl)) pgs_nil)))))
      (pss_cons (ps_set (i := 4) scRr.nd rfl (Or.inl rfl) (pe_call GA_ hrA_ (by rfl) mA_ kA_ bA_ .nil pass0 (pa_cons (pe_m1 PySem.F.slot_str_removeprefix PySem.F.type_str_removeprefix mt_removeprefix (pv 1) pe_str) pa_nil)))
      (Evl.pss_cut (ps_set (i := 5) scRr.nd rfl (Or.inl rfl) (pe_ifExp (pt_cmpR op_eq (pv 2) pe_str (nomark _)) pe_int (pe_call GA_ hrA_ (by rfl) mA_ kA_ bA_ .nil pass0 (pa_cons (pv 3) pa_nil))))
      (Evl.pss_cut (ps_if (PW.pt (pw_or (pt_cmpR op_isN (pv 4) pe_non (nomark _)) (pw_or (pt_cmpR op_isN (pv 5) pe_non (nomark _)) (pw_or1 (PW.pt (pw_and (pt_cmpR op_ne (pv 2) pe_str (nomark _)) (pw_and1 (pt_cmpR op_eq (pv 5) pe_int (nomark _))))))))) (pss_one (ps_ret pe_non)) pss_nil)
      (pss_cons (ps_set (i := 6) scRr.nd rfl (Or.inl rfl) (pe_m1 PySem.F.slot_str_startswith PySem.F.type_str_startswith mt_startswith (pv 1) pe_str))
      (pss_cons (ps_if (PW.pt (pw_and (pt_val (pv 6)) (pw_and1 (pt_cmpR op_eq (pv 4) pe_int (nomark _))))) (pss_one (ps_ret pe_non)) pss_nil)
      (Evl.pss_cut (ps_set (i := 7) scRr.nd rfl (Or.inl rfl) (pe_tup (pa_cons (pe_ifExp (pt_val (pv 6)) (pe_un un_neg (pv 4)) (pv 4)) (pa_cons (pv 5) pa_nil))))
      (pss_one (ps_ret (pe_ifExp (PW.pt (pw_and (pt_val (pe_call GB_ hrB_ (by rfl) mB_ kB_ bB_ .nil pass0 (pa_cons (pv 7) pa_nil))) (pw_and1 (pt_val (pe_call GC_ hrC_ (by rfl) mC_ kC_ bC_ .nil pass0 (pa_cons (pv 7) pa_nil)))))) (pv 7) pe_non)))))))))), ?_⟩
    have two : 2 ≤ sizeLine := by decide
    obtain ⟨a, ob, sl, bl, pe, esl, ebl, en, ta, tb⟩ : ∃ (a : List Nat) (ob : Option (List Nat)) (sl : Str) (bl : List Nat), Txt.partition (TS l) (PySem.Str.ofString "/") = (TS a, sl, TS bl) ∧ decide (V.str sl = V.str "") = ob.isNone ∧ (∀ b, ob = some b → bl = b) ∧ numD l = numAB a ob ∧ Tx a ∧ Tx bl := by
      rw [slash_eq]
      by_cases h : 47 ∈ l
      · obtain ⟨a, b, e1, e2⟩ := part_gen (x := TS l) (by rw [cl_ts]; exact h)
        rw [cl_ts] at e1
        exact ⟨a, some b, _, b, e2, (show decide (V.str (⟨#[47]⟩ : Str) = V.str "") = false by decide +kernel), fun _ e => by injection e, num_any e1, tx.sub (by rw [e1]; exact List.sublist_append_left _ _), tx.sub (by rw [e1]; exact (List.sublist_cons_self _ _).trans (List.sublist_append_right _ _))⟩
      · exact ⟨l, none, _, [], part_none (by rw [cl_ts]; exact h), by decide +kernel, nofun, num_no h, tx, tx.sub (List.nil_sublist _)⟩
    have k0 : ∀ H', Same H H' → numD l = .none → Q .non H' := fun H' s e => k .non H' s (by rw [e]; exact .non)
    refine ⟨_, rfl, ⟨_, rfl⟩, _, _, rfl, rfl, by decide +kernel, tx.line, fun p hp => ?_⟩
    rw [pe]
    have zp := Same.upd (o := .tup [.str (TS a), .str sl, .str (TS bl)]) hp
    refine ⟨p, _, rfl, SqT.of upd_same, rfl, _, _, rfl, _, _, rfl, _, _, rfl, rfl, ?_⟩
    generalize upd H p (.tup [.str (TS a), .str sl, .str (TS bl)]) = H1 at zp ⊢
    refine ⟨_, rfl, ⟨_, rfl⟩, _, _, rfl, rfl, ta.line, ?_⟩
    rw [minus_eq, prefix_one, cl_ts]
    refine ⟨str45 a, rfl, ta.sub (str45_sub a), fun H2 s2 => ?_⟩
    rw [dgV_is]
    refine ⟨fun σ H' => ∃ w6 w7 : Option V, σ = [some (.str (TS l)), some (.str (TS a)), some (.str sl), some (.str (TS bl)), some (optV (digN (str45 a))), some (optV (obN ob)), w6, w7] ∧ Same H1 H', ?_, ?_⟩
    · refine ⟨_, rfl, rfl, _, rfl, ?_⟩
      rw [esl]
      cases ob with
      | none => exact iteT ⟨none, none, rfl, s2⟩
      | some b =>
        obtain rfl := ebl b rfl
        exact iteF ⟨_, rfl, bl, rfl, tb, fun H3 s3 => ⟨none, none, by rw [dgV_is]; rfl, s2.trans s3⟩⟩
    rintro σ H3 ⟨w6, w7, rfl, s3⟩
    have sH := zp.trans s3
    refine ⟨fun σ H' => ∃ (s d : Nat), σ = [some (.str (TS l)), some (.str (TS a)), some (.str sl), some (.str (TS bl)), some (.int (s : Int)), some (.int (d : Int)), w6, w7] ∧ H' = H3 ∧ digN (str45 a) = some s ∧ obN ob = some d ∧ (ob.isSome && decide (d = 1)) = false, ?_, ?_⟩
    · refine ⟨_, rfl, rfl, _, rfl, ?_⟩
      cases e1 : digN (str45 a) with
      | none => exact iteT (iteT (k0 _ sH (by rw [en, numAB, e1, numF_n1])))
      | some s =>
        refine iteF ⟨_, rfl, rfl, _, rfl, ?_⟩
        cases e2 : obN ob with
        | none => exact iteT (iteT (k0 _ sH (by rw [en, numAB, e2, numF_n2])))
        | some d =>
          refine iteF ⟨_, rfl, rfl, _, rfl, ?_⟩
          rw [esl]
          cases ob with
          | none => exact iteF (iteF ⟨s, d, rfl, rfl, rfl, rfl, rfl⟩)
          | some b =>
            refine iteT ⟨_, rfl, rfl, _, rfl, ?_⟩
            by_cases z : d = 1
            · rw [decide_eq_true (show optV (some d) = V.int 1 by rw [z]; rfl)]
              exact iteT (k0 _ sH (by rw [en, numAB, e1, e2, numF, if_pos (by rw [decide_eq_true z]; rfl)]))
            · rw [decide_eq_false (show ¬ optV (some d) = V.int 1 from fun q => z (by have q : V.int (d : Int) = V.int 1 := q; injection q with q; omega))]
              exact iteF ⟨s, d, rfl, rfl, rfl, rfl, by rw [decide_eq_false z]; rfl⟩
    rintro σ H4 ⟨s, d, rfl, rfl, e1, e2, e3⟩
    have en : numD l = numF (negA a) ob.isSome (some s) (some d) := by rw [en, numAB, e1, e2]
    rw [numF, e3, Bool.false_or] at en
    refine ⟨_, rfl, ⟨_, rfl⟩, _, _, rfl, rfl, ?_⟩
    rw [starts_one, cl_ts]
    have fin : ∀ (n : Int) (q : Addr) (H5 : Hp), n = sgI (negA a) s → (negA a && decide (s = 0)) = false → H5 q = some (.tup [.int n, .int (d : Int)]) → Same H H5 → numD l = if numB (.int n) (.int (d : Int)) = true then .tuple [.int n, .int (d : Int)] else .none := fun n q H5 hn hz _ _ => by rw [en, if_neg (by rw [hz]; decide), hn]
    by_cases ng : a.head? = some 45
    · have ngA : negA a = true := decide_eq_true ng
      rw [decide_eq_true ng]
      refine ⟨_, rfl, _, rfl, iteT ⟨_, rfl, rfl, _, rfl, ?_⟩⟩
      by_cases z : s = 0
      · rw [decide_eq_true (show V.int (s : Int) = V.int 0 by rw [z]; rfl)]
        exact iteT (k0 _ sH (by rw [en, ngA, decide_eq_true z]; rfl))
      rw [decide_eq_false (show ¬ V.int (s : Int) = V.int 0 from fun e => z (by injection e with e; omega))]
      refine iteF ⟨fun σ H' => ∃ (q : Addr) (w0 w1 w2 w3 w4 w5 w6 : Option V), σ = [w0, w1, w2, w3, w4, w5, w6, some (.ref q)] ∧ H' q = some (.tup [.int (-(s : Int)), .int (d : Int)]) ∧ Same H H', ?_, ?_⟩
      · exact ⟨_, rfl, _, rfl, iteT ⟨_, rfl, _, rfl, _, rfl, two, fun q hq => ⟨q, _, _, _, _, _, _, _, rfl, upd_same, sH.trans (Same.upd hq)⟩⟩⟩
      · rintro σ H5 ⟨q, w0, w1, w2, w3, w4, w5, w6, rfl, hq, s5⟩
        have f := fin _ q H5 (by rw [ngA]; rfl) (by rw [decide_eq_false z, Bool.and_false]) hq s5
        refine ⟨_, rfl, .ref q, _, rfl, .pair hq (.int _) (.int _), _, rfl, ?_⟩
        cases r1 : ratB (.int (-(s : Int))) (.int (d : Int)) with
        | false => exact iteF (k0 _ s5 (by rw [f, if_neg (by unfold numB; rw [r1, Bool.false_and]; decide)]))
        | true =>
          refine iteT ⟨_, rfl, q, _, _, rfl, hq, _, rfl, ?_⟩
          cases r2 : limB (.int (-(s : Int))) (.int (d : Int)) with
          | false => exact iteF (k0 _ s5 (by rw [f, if_neg (by unfold numB; rw [r1, r2]; decide)]))
          | true => exact iteT ⟨_, rfl, k _ H5 s5 (by rw [f, if_pos (by unfold numB; rw [r1, r2]; rfl)]; exact .tup hq (.cons (.int _) (.cons (.int _) .nil)))⟩
    · have ngA : negA a = false := decide_eq_false ng
      rw [decide_eq_false ng]
      refine ⟨_, rfl, _, rfl, iteF (iteF ⟨fun σ H' => ∃ (q : Addr) (w0 w1 w2 w3 w4 w5 w6 : Option V), σ = [w0, w1, w2, w3, w4, w5, w6, some (.ref q)] ∧ H' q = some (.tup [.int (s : Int), .int (d : Int)]) ∧ Same H H', ?_, ?_⟩)⟩
      · exact ⟨_, rfl, _, rfl, iteF ⟨_, rfl, _, rfl, two, fun q hq => ⟨q, _, _, _, _, _, _, _, rfl, upd_same, sH.trans (Same.upd hq)⟩⟩⟩
      · rintro σ H5 ⟨q, w0, w1, w2, w3, w4, w5, w6, rfl, hq, s5⟩
        have f := fin _ q H5 (by rw [ngA]; rfl) (by rw [ngA]; rfl) hq s5
        refine ⟨_, rfl, .ref q, _, rfl, .pair hq (.int _) (.int _), _, rfl, ?_⟩
        cases r1 : ratB (.int (s : Int)) (.int (d : Int)) with
        | false => exact iteF (k0 _ s5 (by rw [f, if_neg (by unfold numB; rw [r1, Bool.false_and]; decide)]))
        | true =>
          refine iteT ⟨_, rfl, q, _, _, rfl, hq, _, rfl, ?_⟩
          cases r2 : limB (.int (s : Int)) (.int (d : Int)) with
          | false => exact iteF (k0 _ s5 (by rw [f, if_neg (by unfold numB; rw [r1, r2]; decide)]))
          | true => exact iteT ⟨_, rfl, k _ H5 s5 (by rw [f, if_pos (by unfold numB; rw [r1, r2]; rfl)]; exact .tup hq (.cons (.int _) (.cons (.int _) .nil)))⟩
end
end
end K77
set_option Elab.async false
set_option linter.all false
set_option maxRecDepth 100000
set_option maxHeartbeats 4000000
namespace K77
open PySem PySem.Spec PyProof.Rows L2 Lc
/-! ## numbers as the law reads them -/
theorem cut1 (l : List Nat) : cutS (TS l) none (some 1) = TS (l.take 1) := ts_of (by show (cutS (TS l) none (some 1)).cps.toList = _; rw [cut_first, show (TS l).cps.toList = l from cl_ts l])
theorem cutR (l : List Nat) : cutS (TS l) (some 1) none = TS (l.drop 1) := ts_of (by show (cutS (TS l) (some 1) none).cps.toList = _; rw [cut_rest, show (TS l).cps.toList = l from cl_ts l])
theorem dec_take {l : List Nat} {c : Nat} {z : Str} (e : CL z = [c]) : decide (V.str (TS (l.take 1)) = V.str z) = decide (l.head? = some c) := by
  rw [dec_ts e]
  cases l with
  | nil => rfl
  | cons a r => exact decide_eq_decide.mpr (by simp)
theorem minus_cl : CL (PySem.Str.ofString "-") = [45] := by decide +kernel
def jl47 : List (List Nat) → List Nat
  | [] => []
  | [x] => x
  | x :: y :: r => x ++ 47 :: jl47 (y :: r)
theorem toL_join47 : ∀ ps : List Str, (Str.join ⟨#[47]⟩ ps).cps.toList = jl47 (ps.map fun p => p.cps.toList)
  | [] => rfl
  | [x] => rfl
  | x :: y :: r => by
    have ih := toL_join47 (y :: r)
    have e : Str.join ⟨#[47]⟩ (x :: y :: r) = x ++ ⟨#[47]⟩ ++ Str.join ⟨#[47]⟩ (y :: r) := rfl
    rw [e]
    show (x.cps ++ #[47] ++ (Str.join ⟨#[47]⟩ (y :: r)).cps).toList = _
    rw [Array.toList_append, Array.toList_append, ih]
    show x.cps.toList ++ [47] ++ jl47 (y.cps.toList :: r.map fun p => p.cps.toList) = x.cps.toList ++ 47 :: jl47 (y.cps.toList :: r.map fun p => p.cps.toList)
    rw [List.append_assoc]
    rfl
inductive Parts (m : List Nat) : List Str → Prop
  | one (h : 47 ∉ m) : Parts m [TS m]
  | two {p q : List Nat} (e : m = p ++ 47 :: q) (hp : 47 ∉ p) (hq : 47 ∉ q) : Parts m [TS p, TS q]
  | more {p q : List Nat} {y z : Str} {r : List Str} (e : m = p ++ 47 :: q) (hp : 47 ∉ p) (hq : 47 ∈ q) : Parts m (TS p :: y :: z :: r)
theorem parts_of (m : List Nat) : Parts m (Txt.split (TS m) ⟨#[47]⟩) := by
  have e : jl47 ((Txt.split (TS m) ⟨#[47]⟩).map fun p => p.cps.toList) = m := by
    rw [← toL_join47, StrLaws.join_split]
    exact cl_ts m
  have fr := StrLaws.split_free (TS m) 47
  by_cases m0 : m = []
  · subst m0
    rw [show Txt.split (TS []) ⟨#[47]⟩ = [TS []] by decide +kernel]
    exact .one nofun
  match q : Txt.split (TS m) ⟨#[47]⟩, e, fr with
  | [], e, _ => exact absurd e.symm m0
  | [x], e, fr =>
    have e : x.cps.toList = m := e
    have := ts_of (x := x) e
    rw [this]
    exact .one (by rw [← e]; exact fr x List.mem_cons_self)
  | [x, y], e, fr =>
    have e : x.cps.toList ++ 47 :: y.cps.toList = m := e
    have h := Parts.two e.symm (fr x List.mem_cons_self) (fr y (List.mem_cons_of_mem _ List.mem_cons_self))
    rw [show TS x.cps.toList = x from ts_cl x, show TS y.cps.toList = y from ts_cl y] at h
    exact h
  | x :: y :: z :: r, e, fr =>
    have e : x.cps.toList ++ 47 :: (y.cps.toList ++ 47 :: jl47 (z.cps.toList :: r.map fun p => p.cps.toList)) = m := e
    have h := Parts.more (y := y) (z := z) (r := r) e.symm (fr x List.mem_cons_self) (by simp)
    rw [show TS x.cps.toList = x from ts_cl x] at h
    exact h
theorem num_A {l : List Nat} (h : 47 ∉ str45 l) : numD l = numF (negA l) false (digN (str45 l)) (some 1) := num_no fun q => h (str47.mpr q)
theorem num_B {l p q : List Nat} (e : str45 l = p ++ 47 :: q) (hp : 47 ∉ p) : numD l = numF (negA l) true (digN p) (digN q) := by
  unfold str45 at e
  by_cases z : l.head? = some 45
  · rw [if_pos z] at e
    obtain ⟨c, r, rfl⟩ : ∃ c r, l = c :: r := by cases l with | nil => cases z | cons c r => exact ⟨c, r, rfl⟩
    obtain rfl : c = 45 := by injection z
    have e : r = p ++ 47 :: q := e
    rw [num_any (a := 45 :: p) (b := q) (by rw [e]; rfl)]
    rfl
  · rw [if_neg z] at e
    have np : ¬ p.head? = some 45 := fun w => z (by rw [e]; cases p with | nil => cases w | cons c r => exact w)
    rw [num_any e]
    unfold numAB negA str45
    rw [if_neg np, decide_eq_false np, decide_eq_false z]
    rfl
theorem dig0 {r : List Nat} (h : digN r = some 0) : r = [48] := by
  obtain ⟨h1, h2, h3⟩ := digN_digits h
  unfold digN at h
  rw [if_neg h1, if_neg (by omega), if_neg (by rw [h3]; decide)] at h
  split at h
  · cases h
  · rename_i hz
    cases r with
    | nil => exact absurd rfl h1
    | cons c t =>
      by_cases z : c = 48
      · exact Classical.byContradiction fun w => hz ⟨by rw [z]; rfl, w⟩
      · have hc := (isD_is c).mp (List.all_eq_true.mp h3 c List.mem_cons_self)
        have hv : NumText.digitsVal (c :: t) = 0 := Option.some.inj h
        have va := val_app [c] t
        rw [show [c] ++ t = c :: t from rfl, hv] at va
        have v1 : NumText.digitsVal [c] = c - 48 := by show 0 * 10 + (c - 48) = _; omega
        rw [v1] at va
        have : 0 < 10 ^ t.length := Nat.pow_pos (by decide)
        have : 1 * 1 ≤ (c - 48) * 10 ^ t.length := Nat.mul_le_mul (by omega) (by omega)
        omega
theorem minus0 {l : List Nat} : l = [45, 48] ↔ negA l = true ∧ digN (str45 l) = some 0 := by
  refine ⟨fun h => by rw [h]; decide +kernel, fun ⟨h1, h2⟩ => ?_⟩
  have h1 : l.head? = some 45 := of_decide_eq_true h1
  have := dig0 h2
  unfold str45 at this
  rw [if_pos h1] at this
  cases l with
  | nil => cases h1
  | cons c r =>
    injection h1 with h1
    rw [h1]
    exact congrArg (45 :: ·) this
theorem low_same {s d : Int} (h : 0 < d) : (lowN s d = s ∧ lowD s d = d) ↔ gd s d = 1 := by
  refine ⟨fun ⟨_, h2⟩ => ?_, fun g => ?_⟩
  · have m := (low_mul (n := s) (d := d) (by omega)).2
    rw [h2] at m
    have : d * gd s d = d * 1 := by rw [m, Int.mul_one]
    exact Int.eq_of_mul_eq_mul_left (by omega) this
  · unfold lowN lowD
    rw [g, Int.ediv_one, Int.ediv_one]
    exact ⟨rfl, rfl⟩
theorem gd_sg (ng : Bool) (s : Nat) (d : Int) : gd (sgI ng s) d = gd (s : Int) d := by
  cases ng with
  | false => rfl
  | true => show gd (-(s : Int)) d = _; unfold gd; rw [Int.neg_gcd]
theorem num_law {ng sl : Bool} {s d : Nat} : numF ng sl (some s) (some d) = if d < 1 ∨ lim < (s : Int) ∨ lim < (d : Int) then .none else if (sl = true ∧ d = 1) ∨ ¬ (lowN (s : Int) (d : Int) = s ∧ lowD (s : Int) (d : Int) = d) ∨ (ng = true ∧ s = 0) then .none else .tuple [.int (sgI ng s), .int (d : Int)] := by
  have ab : (if sgI ng s < 0 then -sgI ng s else sgI ng s) = (s : Int) := by
    cases ng with
    | false => show (if (s : Int) < 0 then -(s : Int) else s) = s; split <;> omega
    | true => show (if -(s : Int) < 0 then - -(s : Int) else -(s : Int)) = s; split <;> omega
  have nb : numB (.int (sgI ng s)) (.int (d : Int)) = (decide ((0 : Int) < d) && decide (gd (s : Int) (d : Int) = 1) && (decide ((s : Int) ≤ lim) && decide ((d : Int) ≤ lim))) := by
    show (decide ((0 : Int) < d) && decide (gd (sgI ng s) d = 1) && (decide ((if sgI ng s < 0 then -sgI ng s else sgI ng s) ≤ lim) && decide ((d : Int) ≤ lim))) = _
    rw [gd_sg, ab]
  rw [numF, nb]
  by_cases c1 : d < 1 ∨ lim < (s : Int) ∨ lim < (d : Int)
  · rw [if_pos c1]
    split
    · rfl
    · rw [if_neg]
      intro q
      simp only [Bool.and_eq_true, decide_eq_true_eq] at q
      omega
  · rw [if_neg c1]
    have dp : (0 : Int) < d := by omega
    by_cases c2 : (sl = true ∧ d = 1) ∨ ¬ (lowN (s : Int) (d : Int) = s ∧ lowD (s : Int) (d : Int) = d) ∨ (ng = true ∧ s = 0)
    · rw [if_pos c2]
      split
      · rfl
      · rename_i w
        rw [if_neg]
        intro q
        simp only [Bool.and_eq_true, Bool.or_eq_true, decide_eq_true_eq] at q w
        rcases c2 with c2 | c2 | c2
        · exact w (.inl c2)
        · exact c2 ((low_same dp).mpr q.1.2)
        · exact w (.inr c2)
    · rw [if_neg c2]
      have n1 : ¬ (sl = true ∧ d = 1) := fun q => c2 (.inl q)
      have n2 : lowN (s : Int) (d : Int) = s ∧ lowD (s : Int) (d : Int) = d := Classical.byContradiction fun q => c2 (.inr (.inl q))
      have n3 : ¬ (ng = true ∧ s = 0) := fun q => c2 (.inr (.inr q))
      rw [if_neg (by simp only [Bool.and_eq_true, Bool.or_eq_true, decide_eq_true_eq]; intro q; rcases q with q | q; exact n1 q; exact n3 q), if_pos]
      simp only [Bool.and_eq_true, decide_eq_true_eq]
      exact ⟨⟨dp, (low_same dp).mp n2⟩, by omega, by omega⟩
def lone (tw : Bool) (so dq : Option Nat) (l : List Nat) : Prop := numD l = numF (negA l) tw so dq ∧ (tw = false → dq = some 1 ∧ so = digN (str45 l)) ∧ (tw = true → l ≠ [45, 48])
theorem dec_m0 (l : List Nat) : decide (V.str (TS l) = V.str "-0") = decide (l = [45, 48]) := dec_ts (by decide +kernel)
theorem low_eqv {n d : Int} (h : 0 < d) : PyData.eqv (.tuple [.int (lowN n d), .int (lowD n d)]) (.tuple [.int n, .int d]) = decide (gd n d = 1) := by
  have m := low_mul (n := n) (d := d) (by omega)
  have g := gd_pos (a := n) (b := d) (by omega)
  by_cases z : gd n d = 1
  · rw [decide_eq_true z]
    rw [z, Int.mul_one, Int.mul_one] at m
    rw [m.1, m.2]
    simp [PyData.eqv, PyData.eqvAll]
  · rw [decide_eq_false z]
    have ne : lowD n d ≠ d := fun e => by
      rw [e] at m
      have : d * gd n d = d * 1 := by rw [Int.mul_one]; exact m.2
      exact z (Int.eq_of_mul_eq_mul_left (by omega) this)
    simp [PyData.eqv, PyData.eqvAll, ne]
theorem gd_zero (d : Int) (h : 0 < d) : gd 0 d = d := by
  unfold gd
  rw [Int.gcd_zero_left]
  omega
section
variable {P : Program} {w : World} {K : PySem.W.Frag} {mg : Str → Option Value} {base : Heap} {f : Addr} {fd : FuncData}
abbrev sLno : Stmt := top 45
abbrev nLno : List Str := ["_law_text", "_law_below", "_law_parts", "_law_above", "_law_bottom"]
abbrev pLno : List Str := ["_law_text"]
theorem scLno : FnScope nLno pLno (defScope sLno) := ⟨rfl, rfl, rfl, by decide +kernel, rfl, by decide +kernel, by decide +kernel⟩
section
variable {fA_ fB_ : Addr} {fdA_ fdB_ : FuncData}
theorem ok_Lno (F : Fun K "_law_number" "_law_number" sLno f fd) (T : Bt mg)
    (GA_ : FnOk P w K mg base CX0 1 fA_ fdA_ ["_law_text"] (spDg)) (mA_ : mg "_law_digits" = some (.ref fA_)) (kA_ : PySem.W.keepIn K (.ref fA_) = true) (bA_ : Binds K fdA_ ["_law_text"] [])
    (GB_ : FnOk P w K mg base CX0 1 fB_ fdB_ ["_law_n", "_law_d"] (spLowest)) (mB_ : mg "_law_lowest" = some (.ref fB_)) (kB_ : PySem.W.keepIn K (.ref fB_) = true) (bB_ : Binds K fdB_ ["_law_n", "_law_d"] []) : FnOk P w K mg base CX0 2 f fd pLno (spNm) := by
  refine F.ok scLno (fun vs H Q E h => ?_) (fun cdv A outer s H vs Q E hr h => ?_)
  · obtain ⟨l, rfl, _⟩ := h
    rfl
  · obtain ⟨l, rfl, tx, k⟩ := h
    have hrA_ : Room (1) _ := hr.mono (by first | decide | omega)
    have hrB_ : Room (1) _ := hr.mono (by first | decide | omega)
    refine ⟨_, (Evl.pss_cut (ps_set (i := 1) scLno.nd rfl (Or.inl rfl) (pe_ifExp (pt_cmpR op_eq (pe_slice sl_str (pv 0) po_none (po_some pe_int)) pe_str (nomark _)) (pe_slice sl_str (pv 0) (po_some pe_int) po_none) (pv 0)))
      (pss_cons (ps_set (i := 2) scLno.nd rfl (Or.inl rfl) (pe_m1 PySem.F.slot_str_split PySem.F.type_str_split mt_split (pv 1) pe_str))
      (pss_cons (ps_set (i := 3) scLno.nd rfl (Or.inl rfl) (pe_call GA_ hrA_ (by rfl) mA_ kA_ bA_ .nil pass0 (pa_cons (pe_ix ix_list (pv 2) pe_int (fun _ _ => rfl)) pa_nil)))
      (Evl.pss_cut (ps_set (i := 4) scLno.nd rfl (Or.inl rfl) (pe_ifExp (pt_cmpR op_eq (pe_callB call_len_seq (by rfl) T.len PySem.boot_len (pa_cons (pv 2) pa_nil)) pe_int (nomark _)) (pe_call GA_ hrA_ (by rfl) mA_ kA_ bA_ .nil pass0 (pa_cons (pe_ix ix_list (pv 2) pe_int (fun _ _ => rfl)) pa_nil)) pe_int))
      (pss_cons (ps_if (PW.pt (pw_or (pt_cmpR op_gt (pe_callB call_len_seq (by rfl) T.len PySem.boot_len (pa_cons (pv 2) pa_nil)) pe_int (nomark _)) (pw_or (pt_cmpR op_isN (pv 3) pe_non (nomark _)) (pw_or (pt_cmpR op_isN (pv 4) pe_non (nomark _)) (pw_or (pt_cmpR op_lt (pv 4) pe_int (nomark _)) (pw_or (pt_cmpR op_gt (pv 3) (pe_op op_pow pe_int pe_int) (nomark _)) (pw_or1 (pt_cmpR op_gt (pv 4) (pe_op op_pow pe_int pe_int) (nomark _))))))))) (pss_one (ps_ret pe_non)) pss_nil)
      (Evl.pss_cut (ps_if (PW.pt (pw_or (PW.pt (pw_and (pt_cmpR op_eq (pe_callB call_len_seq (by rfl) T.len PySem.boot_len (pa_cons (pv 2) pa_nil)) pe_int (nomark _)) (pw_and1 (pt_cmpR op_eq (pv 4) pe_int (nomark _))))) (pw_or (pt_cmpR (op_neD hr.units) (pe_call GB_ hrB_ (by rfl) mB_ kB_ bB_ .nil pass0 (pa_cons (pv 3) (pa_cons (pv 4) pa_nil))) (pe_tup (pa_cons (pv 3) (pa_cons (pv 4) pa_nil))) (nomark _)) (pw_or1 (pt_cmpR op_eq (pv 0) pe_str (nomark _)))))) (pss_one (ps_ret pe_non)) pss_nil)
      (pss_one (ps_ret (pe_ifExp (pt_cmpR op_eq (pe_slice sl_str (pv 0) po_none (po_some pe_int)) pe_str (nomark _)) (pe_tup (pa_cons (pe_op op_sub pe_int (pv 3)) (pa_cons (pv 4) pa_nil))) (pe_tup (pa_cons (pv 3) (pa_cons (pv 4) pa_nil)))))))))))), ?_⟩
    have two : 2 ≤ sizeLine := by decide
    have pw40 : CPow 10 40 := ⟨by decide, by decide, by decide⟩
    have k0 : ∀ H', Same H H' → numD l = .none → Q .non H' := fun H' s e => k .non H' s (by rw [e]; exact .non)
    refine ⟨fun σ H' => σ = [some (.str (TS l)), some (.str (TS (str45 l))), none, none, none] ∧ H' = H, ?_, ?_⟩
    · refine ⟨_, rfl, 1, rfl, _, rfl, tx.line, rfl, _, rfl, ?_⟩
      rw [cut1, dec_take minus_cl]
      by_cases z : l.head? = some 45
      · rw [decide_eq_true z]
        refine iteT ⟨_, rfl, 1, rfl, _, rfl, tx.line, ?_⟩
        rw [cutR]
        unfold str45
        rw [if_pos z]
        exact ⟨rfl, rfl⟩
      · rw [decide_eq_false z]
        unfold str45
        rw [if_neg z]
        exact iteF ⟨_, rfl, rfl, rfl⟩
    rintro σ H1 ⟨rfl, rfl⟩
    have tm := tx.sub (str45_sub l)
    refine ⟨_, rfl, ⟨_, rfl⟩, _, _, rfl, rfl, by decide +kernel, tm.line2, fun p hp => ?_⟩
    rw [slash_eq]
    have pt := parts_of (str45 l)
    generalize Txt.split (TS (str45 l)) ⟨#[47]⟩ = ps at pt ⊢
    have zp := Same.upd (o := .lst (ps.map V.str)) hp
    have ep : upd H1 p (.lst (ps.map V.str)) p = some (.lst (ps.map V.str)) := upd_same
    generalize upd H1 p (.lst (ps.map V.str)) = H2 at zp ep ⊢
    obtain ⟨a, ps', eps, ta⟩ : ∃ (a : List Nat) (ps' : List Str), ps = TS a :: ps' ∧ Tx a := by
      cases pt with
      | one h => exact ⟨_, _, rfl, tm⟩
      | two e _ _ => exact ⟨_, _, rfl, tm.sub (by rw [e]; exact List.sublist_append_left _ _)⟩
      | more e _ _ => exact ⟨_, _, rfl, tm.sub (by rw [e]; exact List.sublist_append_left _ _)⟩
    refine ⟨_, rfl, p, _, _, .str (TS a), rfl, rfl, SqL.of ep, by rw [eps]; exact at_zero, a, rfl, ta, fun H3 s3 => ?_⟩
    rw [dgV_is]
    refine ⟨fun σ H' => ∃ (dq : Option Nat), σ = [some (.str (TS l)), some (.str (TS (str45 l))), some (.ref p), some (optV (digN a)), some (optV dq)] ∧ Same H2 H' ∧ ((2 < ps.length ∧ numD l = .none) ∨ (ps.length ≤ 2 ∧ lone (decide (ps.length = 2)) (digN a) dq l)), ?_, ?_⟩
    · refine ⟨_, rfl, p, _, rfl, .inl (SqL.of (s3 _ _ ep)), rfl, _, rfl, ?_⟩
      rw [List.length_map]
      cases pt with
      | one h =>
        obtain ⟨rfl, rfl⟩ : a = str45 l ∧ ps' = [] := by
          injection eps with e1 e2
          exact ⟨(ts_inj e1).symm, e2.symm⟩
        rw [decide_eq_false (by show ¬ V.int ((1 : Nat) : Int) = V.int 2; decide)]
        exact iteF ⟨some 1, rfl, s3, .inr ⟨Nat.le_succ 1, num_A h, fun _ => ⟨rfl, rfl⟩, nofun⟩⟩
      | @two p1 q1 e hp1 hq1 =>
        obtain rfl : a = p1 := by
          injection eps with e1 e2
          exact (ts_inj e1).symm
        have tq : Tx q1 := tm.sub (by rw [e]; exact (List.sublist_cons_self _ _).trans (List.sublist_append_right _ _))
        rw [decide_eq_true (by show V.int ((2 : Nat) : Int) = V.int 2; rfl)]
        refine iteT ⟨_, rfl, p, _, _, .str (TS q1), rfl, rfl, SqL.of (s3 _ _ ep), rfl, q1, rfl, tq, fun H4 s4 => ?_⟩
        rw [dgV_is]
        refine ⟨digN q1, rfl, s3.trans s4, .inr ⟨Nat.le_refl 2, num_B e hp1, nofun, fun _ q => ?_⟩⟩
        rw [q] at e
        have : 47 ∈ str45 [45, 48] := by rw [e]; simp
        exact absurd this (by decide)
      | @more p1 q1 y z r e hp1 hq1 =>
        have h3 : ¬ V.int (((TS p1 :: y :: z :: r).length : Nat) : Int) = V.int 2 := fun q => by injection q with q; simp only [List.length_cons] at q; omega
        rw [decide_eq_false h3]
        exact iteF ⟨some 1, rfl, s3, .inl ⟨by simp only [List.length_cons]; omega, by rw [num_B e hp1, dig47 hq1, numF_n2]⟩⟩
    rintro σ H4 ⟨dq, rfl, s4, cs⟩
    have sH := zp.trans s4
    refine ⟨_, rfl, p, _, rfl, .inl (SqL.of (s4 _ _ ep)), _, _, rfl, rfl, _, rfl, ?_⟩
    rw [List.length_map]
    rcases cs with ⟨l3, en⟩ | ⟨l2, en, h1, h2⟩
    · rw [decide_eq_true (by omega)]
      exact iteT (iteT (k0 _ sH en))
    rw [decide_eq_false (by omega)]
    refine iteF ⟨_, rfl, rfl, _, rfl, ?_⟩
    cases e1 : digN a with
    | none => exact iteT (iteT (k0 _ sH (by rw [en, e1, numF_n1])))
    | some s =>
    refine iteF ⟨_, rfl, rfl, _, rfl, ?_⟩
    cases e2 : dq with
    | none => exact iteT (iteT (k0 _ sH (by rw [en, e2, numF_n2])))
    | some d =>
    rw [e1, e2, num_law] at en
    refine iteF ⟨_, rfl, _, _, rfl, rfl, _, rfl, ?_⟩
    by_cases c1 : d < 1
    · rw [decide_eq_true (by omega)]
      exact iteT (iteT (k0 _ sH (by rw [en, if_pos (.inl c1)])))
    rw [decide_eq_false (by omega)]
    refine iteF ⟨_, rfl, _, _, rfl, rfl, pw40, _, _, rfl, rfl, _, rfl, ?_⟩
    rw [p40]
    by_cases c2 : lim < (s : Int)
    · rw [decide_eq_true (show (10000000000000000000000000000000000000000 : Int) < s from c2)]
      exact iteT (iteT (k0 _ sH (by rw [en, if_pos (.inr (.inl c2))])))
    rw [decide_eq_false (show ¬ (10000000000000000000000000000000000000000 : Int) < s from c2)]
    refine iteF ⟨_, rfl, _, _, rfl, rfl, pw40, _, _, rfl, rfl, _, rfl, ?_⟩
    by_cases c3 : lim < (d : Int)
    · rw [p40, decide_eq_true (show (10000000000000000000000000000000000000000 : Int) < d from c3)]
      exact iteT (k0 _ sH (by rw [en, if_pos (.inr (.inr c3))]))
    rw [p40, decide_eq_false (show ¬ (10000000000000000000000000000000000000000 : Int) < d from c3)]
    rw [if_neg (fun q => by rcases q with q | q | q; exact c1 q; exact c2 q; exact c3 q)] at en
    have dp : (0 : Int) < d := by omega
    have db : (d : Int).natAbs < 2 ^ 4000 := by
      have : (d : Int).natAbs ≤ 10000000000000000000000000000000000000000 := by have : ¬ (10000000000000000000000000000000000000000 : Int) < d := c3; omega
      exact Nat.lt_of_le_of_lt this (Nat.lt_of_lt_of_le (show 10000000000000000000000000000000000000000 < 2 ^ 140 by decide) (Nat.pow_le_pow_right (by decide) (by decide)))
    have eD : (lowN (s : Int) (d : Int) = s ∧ lowD (s : Int) (d : Int) = d) ↔ gd (s : Int) (d : Int) = 1 := low_same dp
    have zero : l = [45, 48] → s = 0 := fun m0 => by
      have tf : decide (ps.length = 2) = false := by
        cases q : decide (ps.length = 2) with
        | false => rfl
        | true => exact absurd m0 (h2 q)
      have := (h1 tf).2
      rw [(minus0.mp m0).2, e1] at this
      exact Option.some.inj this
    have neg0 : gd (s : Int) (d : Int) = 1 → ¬ (ps.length = 2 ∧ d = 1) → ¬ l = [45, 48] → ¬ (negA l = true ∧ s = 0) := fun g1 nd m0 q => by
      cases tw : decide (ps.length = 2) with
      | true =>
        refine nd ⟨of_decide_eq_true tw, ?_⟩
        rw [q.2] at g1
        have g1 : gd 0 (d : Int) = 1 := g1
        rw [gd_zero _ dp] at g1
        omega
      | false =>
        refine m0 (minus0.mpr ⟨q.1, ?_⟩)
        rw [← (h1 tw).2, e1, q.2]
    refine iteF ⟨fun σ H' => σ = [some (.str (TS l)), some (.str (TS (str45 l))), some (.ref p), some (.int (s : Int)), some (.int (d : Int))] ∧ Same H1 H' ∧ numD l = .tuple [.int (sgI (negA l) s), .int (d : Int)], ?_, ?_⟩
    · refine ⟨_, rfl, p, _, rfl, .inl (SqL.of (s4 _ _ ep)), rfl, _, rfl, ?_⟩
      rw [List.length_map]
      by_cases t2 : ps.length = 2
      · rw [decide_eq_true (show V.int (ps.length : Int) = V.int 2 by rw [t2]; rfl)]
        refine iteT ⟨_, rfl, rfl, _, rfl, ?_⟩
        by_cases d1 : d = 1
        · rw [decide_eq_true (show optV (some d) = V.int 1 by rw [d1]; rfl)]
          exact iteT (iteT (k0 _ sH (by rw [en, if_pos (.inl ⟨decide_eq_true t2, d1⟩)])))
        · rw [decide_eq_false (show ¬ optV (some d) = V.int 1 from fun q => d1 (by have q : V.int (d : Int) = V.int 1 := q; injection q with q; omega))]
          refine iteF ?_
          have nd : ¬ (ps.length = 2 ∧ d = 1) := fun q => d1 q.2
          refine ⟨_, rfl, _, rfl, (s : Int), (d : Int), rfl, dp, db, fun q1 hq1 => ⟨_, rfl, _, rfl, two, fun q2 hq2 => ?_⟩⟩
          have y1 := Same.upd (o := .tup [.int (lowN (s : Int) (d : Int)), .int (lowD (s : Int) (d : Int))]) hq1
          have y2 := Same.upd (o := .tup [.int (s : Int), .int (d : Int)]) hq2
          have s6 := sH.trans (y1.trans y2)
          refine ⟨_, _, .tup (SqT.of (y2 _ _ upd_same)) (.cons (.int _) (.cons (.int _) .nil)), .tup (SqT.of upd_same) (.cons (.int _) (.cons (.int _) .nil)), rfl, rfl, _, rfl, ?_⟩
          rw [low_eqv dp]
          by_cases g1 : gd (s : Int) (d : Int) = 1
          · rw [decide_eq_true g1]
            refine iteF ⟨_, rfl, rfl, _, rfl, ?_⟩
            rw [dec_m0]
            by_cases m0 : l = [45, 48]
            · rw [decide_eq_true m0]
              exact iteT (k0 _ s6 (by rw [en, if_pos (.inr (.inr ⟨(minus0.mp m0).1, zero m0⟩))]))
            · rw [decide_eq_false m0]
              exact iteF ⟨rfl, s6, by rw [en, if_neg (fun q => by rcases q with q | q | q; exact nd ⟨of_decide_eq_true q.1, q.2⟩; exact q (eD.mpr g1); exact neg0 g1 nd m0 q)]⟩
          · rw [decide_eq_false g1]
            exact iteT (iteT (k0 _ s6 (by rw [en, if_pos (.inr (.inl fun q => g1 (eD.mp q)))])))
      · rw [decide_eq_false (show ¬ V.int (ps.length : Int) = V.int 2 from fun q => t2 (by injection q with q; omega))]
        refine iteF (iteF ?_)
        have nd : ¬ (ps.length = 2 ∧ d = 1) := fun q => t2 q.1
        refine ⟨_, rfl, _, rfl, (s : Int), (d : Int), rfl, dp, db, fun q1 hq1 => ⟨_, rfl, _, rfl, two, fun q2 hq2 => ?_⟩⟩
        have y1 := Same.upd (o := .tup [.int (lowN (s : Int) (d : Int)), .int (lowD (s : Int) (d : Int))]) hq1
        have y2 := Same.upd (o := .tup [.int (s : Int), .int (d : Int)]) hq2
        have s6 := sH.trans (y1.trans y2)
        refine ⟨_, _, .tup (SqT.of (y2 _ _ upd_same)) (.cons (.int _) (.cons (.int _) .nil)), .tup (SqT.of upd_same) (.cons (.int _) (.cons (.int _) .nil)), rfl, rfl, _, rfl, ?_⟩
        rw [low_eqv dp]
        by_cases g1 : gd (s : Int) (d : Int) = 1
        · rw [decide_eq_true g1]
          refine iteF ⟨_, rfl, rfl, _, rfl, ?_⟩
          rw [dec_m0]
          by_cases m0 : l = [45, 48]
          · rw [decide_eq_true m0]
            exact iteT (k0 _ s6 (by rw [en, if_pos (.inr (.inr ⟨(minus0.mp m0).1, zero m0⟩))]))
          · rw [decide_eq_false m0]
            exact iteF ⟨rfl, s6, by rw [en, if_neg (fun q => by rcases q with q | q | q; exact nd ⟨of_decide_eq_true q.1, q.2⟩; exact q (eD.mpr g1); exact neg0 g1 nd m0 q)]⟩
        · rw [decide_eq_false g1]
          exact iteT (iteT (k0 _ s6 (by rw [en, if_pos (.inr (.inl fun q => g1 (eD.mp q)))])))
    rintro σ H5 ⟨rfl, s5, en5⟩
    refine ⟨_, rfl, 1, rfl, _, rfl, tx.line, rfl, _, rfl, ?_⟩
    rw [cut1, dec_take minus_cl]
    by_cases z : l.head? = some 45
    · rw [decide_eq_true z]
      refine iteT ⟨_, rfl, _, _, rfl, rfl, _, rfl, two, fun q hq => ?_⟩
      refine k _ _ (s5.trans (Same.upd hq)) ?_
      rw [en5, show sgI (negA l) s = 0 - (s : Int) by rw [show negA l = true from decide_eq_true z]; show -(s : Int) = _; omega]
      exact .tup upd_same (.cons (.int _) (.cons (.int _) .nil))
    · rw [decide_eq_false z]
      refine iteF ⟨_, rfl, _, rfl, two, fun q hq => ?_⟩
      refine k _ _ (s5.trans (Same.upd hq)) ?_
      rw [en5, show sgI (negA l) s = (s : Int) by rw [show negA l = false from decide_eq_false z]; rfl]
      exact .tup upd_same (.cons (.int _) (.cons (.int _) .nil))
end
end
end K77
set_option Elab.async false
set_option linter.all false
set_option maxRecDepth 100000
set_option maxHeartbeats 4000000
namespace K77
open PySem PySem.Spec PyProof.Rows L2 Lc
/-! ## leaves -/
def nmL (l : List Nat) : Bool := nameB (.str (TS l))
def valD (l : List Nat) : PyData := if l = [35, 121, 101, 115] then .bool true else if l = [35, 110, 111] then .bool false else if l.head? = some 39 then (if nmL (l.drop 1) = true then .str (TS (l.drop 1)) else .none) else numD l
def wrapD : PyData → PyData
  | .none => .none
  | d => .tuple [.str "value", d]
theorem wrap_ne {d : PyData} (h : d ≠ .none) : wrapD d = .tuple [.str "value", d] := by cases d <;> first | rfl | exact absurd rfl h
def leafD (t : List Nat) : PyData := if nmL t = true then .tuple [.str "column", .str (TS t)] else if t.head? = some 61 then wrapD (valD (t.drop 1)) else .none
def spLin : Sp := fun vs H Q _ => ∃ (l : List Nat), vs = [.str (TS l)] ∧ Tx l ∧ ∀ H', Same H H' → Q (.bl (nmL l)) H'
def spRv : Sp := fun vs H Q _ => ∃ (l : List Nat), vs = [.str (TS l)] ∧ Tx l ∧ ∀ v H', Same H H' → Dh H' v (valD l) → Q v H'
def spRl : Sp := fun vs H Q _ => ∃ (l : List Nat), vs = [.str (TS l)] ∧ Tx l ∧ ∀ v H', Same H H' → Dh H' v (leafD l) → Q v H'
theorem cutG {l : List Nat} {a b : Nat} (h1 : a ≤ b) : cutS (TS l) (some (a : Int)) (some (b : Int)) = TS ((l.drop a).take (b - a)) := by
  refine ts_of ?_
  show (cutS (TS l) (some (a : Int)) (some (b : Int))).cps.toList = _
  unfold cutS
  rw [HT.sIx_nat, HT.sIx_nat, ts_len]
  show List.take (min b l.length - min a l.length) (List.drop (min a l.length) (CL (TS l))) = _
  rw [cl_ts]
  by_cases ha : a ≤ l.length
  · rw [Nat.min_eq_left ha]
    by_cases hb : b ≤ l.length
    · rw [Nat.min_eq_left hb]
    · rw [Nat.min_eq_right (by omega), List.take_of_length_le (by rw [List.length_drop]; exact Nat.le_refl _), List.take_of_length_le (by rw [List.length_drop]; omega)]
  · rw [Nat.min_eq_right (show l.length ≤ a by omega), List.drop_of_length_le (Nat.le_refl _), List.drop_of_length_le (by omega), List.take_nil, List.take_nil]
theorem cutE {l : List Nat} {a : Nat} : cutS (TS l) (some (a : Int)) none = TS (l.drop a) := by
  refine ts_of ?_
  show (cutS (TS l) (some (a : Int)) none).cps.toList = _
  have e2 : HT.sIx (TS l).length (TS l).length none = (TS l).length := rfl
  unfold cutS
  rw [HT.sIx_nat, e2, ts_len]
  show List.take (l.length - min a l.length) (List.drop (min a l.length) (CL (TS l))) = _
  rw [cl_ts]
  by_cases ha : a ≤ l.length
  · rw [Nat.min_eq_left ha, List.take_of_length_le (by rw [List.length_drop]; exact Nat.le_refl _)]
  · rw [Nat.min_eq_right (by omega), List.drop_of_length_le (Nat.le_refl _), List.drop_of_length_le (by omega), List.take_nil]
theorem nm_not61 {l : List Nat} (h : l.head? = some 61) : nmL l = false := by
  cases q : nmL l with
  | false => rfl
  | true =>
    cases l with
    | nil => cases h
    | cons c r =>
      injection h with h
      have := (name_signs q).2.2.2 c r (cl_ts _)
      omega
def isNo : PyData → Bool
  | .none => true
  | _ => false
theorem isNo_t {d : PyData} (h : isNo d = true) : d = .none := by cases d <;> first | rfl | cases h
theorem isNo_f {d : PyData} (h : isNo d = false) : d ≠ .none := fun e => by rw [e] at h; cases h
theorem dh_non {H : Hp} {v : V} {d : PyData} (h : Dh H v d) : decide (v = V.non) = isNo d := by
  cases h <;> first | rfl | exact decide_eq_false nofun
theorem yes_cl : CL (PySem.Str.ofString "#yes") = [35, 121, 101, 115] := by decide +kernel
theorem no_cl : CL (PySem.Str.ofString "#no") = [35, 110, 111] := by decide +kernel
theorem eyes_cl : CL (PySem.Str.ofString "=#yes") = [61, 35, 121, 101, 115] := by decide +kernel
theorem eno_cl : CL (PySem.Str.ofString "=#no") = [61, 35, 110, 111] := by decide +kernel
theorem tick_cl : CL (PySem.Str.ofString "'") = [39] := by decide +kernel
theorem eq_cl : CL (PySem.Str.ofString "=") = [61] := by decide +kernel
section
variable {P : Program} {w : World} {K : PySem.W.Frag} {mg : Str → Option Value} {base : Heap} {f : Addr} {fd : FuncData}
abbrev sLin : Stmt := top 44
abbrev nLin : List Str := ["_law_text", "_law_sign"]
abbrev pLin : List Str := ["_law_text"]
theorem scLin : FnScope nLin pLin (defScope sLin) := ⟨rfl, rfl, rfl, by decide +kernel, rfl, by decide +kernel, by decide +kernel⟩
section
theorem ok_Lin (F : Fun K "_law_is_name" "_law_is_name" sLin f fd) (T : Bt mg) : FnOk P w K mg base CX0 1 f fd pLin (spLin) := by
  refine F.ok scLin (fun vs H Q E h => ?_) (fun cdv A outer s H vs Q E hr h => ?_)
  · obtain ⟨l, rfl, _⟩ := h
    rfl
  · obtain ⟨l, rfl, tx, k⟩ := h
    refine ⟨_, (pss_cons (ps_if (PW.pt (pw_or (pt_not (pt_chain op_le op_le pe_int (pe_callB call_len_str (by rfl) T.len PySem.boot_len (pa_cons (pv 0) pa_nil)) pe_int)) (pw_or1 (pt_cmpR op_notIn_sign (pe_ix ix_str (pv 0) pe_int (fun _ _ => rfl)) pe_str (by rfl))))) (pss_one (ps_ret pe_bl)) pss_nil)
      (pss_one (ps_ret (pe_cmpR (op_eqD hr.units) (pe_lc (own := [("_law_sign", 1)]) (g := (gName 1)) (tt := (tTest (tOp rNIS (tVar 1) (tC (.str signs))))) (te := (tVar 1)) (by rfl) scLin.nd (pi_str (pv 0)) (blkOk_by (own := [("_law_sign", 1)]) (N := nLin) (sc := defScope sLin) (by decide +kernel)) (fun _ _ _ _ _ => (pg_name (i := 1) scLin.nd rfl (.inl rfl))) (fun _ _ _ _ _ => (pts_one (pt_cmpR op_notIn_sign (pv 1) pe_str (by rfl)))) (fun _ _ _ _ _ => (pv 1))) (pe_lst pa_nil) (nomark _))))), ?_⟩
    have hc := cl_ts l
    unfold nmL at k
    have k0 := k H (Same.refl H)
    refine ⟨_, rfl, _, rfl, tx.line, _, _, rfl, rfl, _, rfl, ?_⟩
    rw [ts_len]
    cases e : l with
    | nil =>
      rw [decide_eq_false (by simp)]
      rw [name_nil (by rw [show (TS l).cps.toList = l from hc]; exact e)] at k0
      exact iteF ⟨_, rfl, iteT (iteT k0)⟩
    | cons c r =>
      rw [decide_eq_true (by simp only [List.length_cons]; omega)]
      refine iteT ⟨_, _, rfl, rfl, _, rfl, ?_⟩
      rw [← e]
      by_cases l12 : l.length ≤ 12
      · rw [decide_eq_true (by omega)]
        have ni := name_is (x := TS l) (by rw [show (TS l).cps.toList = l from hc]; exact e) (by rw [show (TS l).cps.toList = l from hc]; exact l12)
        rw [ni] at k
        refine iteF ⟨_, rfl, TS l, 0, c, rfl, rfl, tx.line, (show atI (TS l).cps.toList ((0 : Nat) : Int) = some c from atI_nat (by rw [show (TS l).cps.toList = l from hc, e]; rfl)), c, letters, rfl, rfl, _, rfl, ?_⟩
        show if (!inL c) = true then _ else _
        cases q : inL c with
        | false =>
          have k1 := k H (Same.refl H)
          rw [q] at k1
          exact iteT k1
        | true =>
          refine iteF ⟨_, rfl, TS l, rfl, fun D hD => lc_it walk_str (fun i H' => H' = upd H D (.lst (((l.take i).filter fun c => !inS c).map fun c => .str ⟨#[c]⟩))) rfl (fun _ _ _ _ => True.intro) ?_ ?_⟩
          · rintro i y H' H'' hi rfl ⟨rfl, c', hc', rfl⟩
            have hc' := at_ts hc'
            have gr := grow_f hc' fun c => !inS c
            refine ⟨rfl, ?_⟩
            refine ⟨_, rfl, c', signs, rfl, rfl, _, rfl, ?_⟩
            show if (!inS c') = true then _ else _
            cases q : inS c' with
            | true =>
              rw [q, if_neg (by decide)] at gr
              exact iteF (congrArg (fun z => upd H D (.lst z)) gr.symm)
            | false =>
              rw [q, if_pos (show (!false) = true from rfl)] at gr
              refine iteT ⟨_, rfl, _, upd_same, ?_, ?_⟩
              · rw [List.length_map]
                refine Nat.lt_of_le_of_lt (List.length_filter_le _ _) ?_
                rw [List.length_take]
                exact Nat.lt_of_le_of_lt (Nat.min_le_right _ _) (Nat.lt_of_le_of_lt tx.len (by decide))
              · rw [upd_upd]
                exact congrArg (fun z => upd H D (.lst z)) gr.symm
          rintro H' rfl
          rw [ts_size, List.take_length]
          have zD := Same.upd (o := .lst ((l.filter fun c => !inS c).map fun c => .str ⟨#[c]⟩)) hD
          refine ⟨by show 0 ≤ sizeLine; decide, fun D2 hD2 => ?_⟩
          have zE := Same.upd (o := .lst []) hD2
          refine ⟨_, _, .lst (SqL.of (zE _ _ upd_same)) (Dps.sgns _), .lst (SqL.of upd_same) .nil, sgns_shaped (fun c hc => tx.ok c (List.mem_filter.mp hc).1), rfl, ?_⟩
          have k1 := k _ (zD.trans zE)
          rw [sgns_nil, filter_nil]
          rw [q, Bool.true_and, ← e] at k1
          exact k1
      · rw [decide_eq_false (by omega)]
        rw [name_long (by rw [show (TS l).cps.toList = l from hc]; exact l12)] at k0
        exact iteT (iteT k0)
end
abbrev sRv : Stmt := top 21
abbrev nRv : List Str := ["text", "word"]
abbrev pRv : List Str := ["text"]
theorem scRv : FnScope nRv pRv (defScope sRv) := ⟨rfl, rfl, rfl, by decide +kernel, rfl, by decide +kernel, by decide +kernel⟩
section
variable {fA_ fB_ : Addr} {fdA_ fdB_ : FuncData}
theorem ok_Rv (F : Fun K "read_value" "read_value" sRv f fd) (T : Bt mg)
    (GA_ : FnOk P w K mg base CX0 1 fA_ fdA_ ["value"] (spName)) (mA_ : mg "is_name" = some (.ref fA_)) (kA_ : PySem.W.keepIn K (.ref fA_) = true) (bA_ : Binds K fdA_ ["value"] [])
    (GB_ : FnOk P w K mg base CX0 3 fB_ fdB_ ["text"] (spNm)) (mB_ : mg "read_rational" = some (.ref fB_)) (kB_ : PySem.W.keepIn K (.ref fB_) = true) (bB_ : Binds K fdB_ ["text"] []) : FnOk P w K mg base CX0 4 f fd pRv (spRv) := by
  refine F.ok scRv (fun vs H Q E h => ?_) (fun cdv A outer s H vs Q E hr h => ?_)
  · obtain ⟨l, rfl, _⟩ := h
    rfl
  · obtain ⟨l, rfl, tx, k⟩ := h
    have hrA_ : Room (1) _ := hr.mono (by first | decide | omega)
    have hrB_ : Room (3) _ := hr.mono (by first | decide | omega)
    refine ⟨_, (pss_cons (ps_if (PW.pt (pw_or (pt_cmpR op_eq (pv 0) pe_str (nomark _)) (pw_or1 (pt_cmpR op_eq (pv 0) pe_str (nomark _))))) (pss_one (ps_ret (pe_cmpR op_eq (pv 0) pe_str (nomark _)))) pss_nil)
      (pss_cons (ps_if (pt_val (pe_m1 PySem.F.slot_str_startswith PySem.F.type_str_startswith mt_startswith (pv 0) pe_str)) (pss_cons (ps_set (i := 1) scRv.nd rfl (Or.inl rfl) (pe_slice sl_str (pv 0) (po_some pe_int) po_none))
      (pss_one (ps_ret (pe_ifExp (pt_val (pe_call GA_ hrA_ (by rfl) mA_ kA_ bA_ .nil pass0 (pa_cons (pv 1) pa_nil))) (pv 1) pe_non)))) pss_nil)
      (pss_one (ps_ret (pe_call GB_ hrB_ (by rfl) mB_ kB_ bB_ .nil pass0 (pa_cons (pv 0) pa_nil)))))), ?_⟩
    have t1 : Tx (l.drop 1) := tx.sub (List.drop_sublist _ _)
    unfold valD at k
    refine ⟨_, rfl, rfl, _, rfl, ?_⟩
    rw [dec_ts yes_cl]
    by_cases y : l = [35, 121, 101, 115]
    · rw [decide_eq_true y]
      refine iteT (iteT ⟨_, rfl, rfl, ?_⟩)
      show Q (.bl (decide (V.str (TS l) = V.str (PySem.Str.ofString "#yes")))) H
      rw [dec_ts yes_cl, decide_eq_true y]
      exact k _ H (Same.refl H) (by rw [if_pos y]; exact .bl _)
    rw [decide_eq_false y]
    rw [if_neg y] at k
    refine iteF ⟨_, rfl, rfl, _, rfl, ?_⟩
    rw [dec_ts no_cl]
    by_cases n : l = [35, 110, 111]
    · rw [decide_eq_true n]
      refine iteT ⟨_, rfl, rfl, ?_⟩
      show Q (.bl (decide (V.str (TS l) = V.str (PySem.Str.ofString "#yes")))) H
      rw [dec_ts yes_cl, decide_eq_false y]
      exact k _ H (Same.refl H) (by rw [if_pos n]; exact .bl _)
    rw [decide_eq_false n]
    rw [if_neg n] at k
    refine iteF ⟨_, rfl, ⟨_, rfl⟩, _, _, rfl, rfl, _, rfl, ?_⟩
    rw [tick_eq, starts_one, cl_ts]
    by_cases q : l.head? = some 39
    · rw [decide_eq_true q]
      rw [if_pos q] at k
      refine iteT ⟨_, rfl, 1, rfl, _, rfl, tx.line, ?_⟩
      rw [cutR]
      refine ⟨_, rfl, .str (TS (l.drop 1)), "str", rfl, .str _, fun y e => by injection e with e; rw [← e]; exact t1.line, fun H' s' => ⟨_, rfl, ?_⟩⟩
      show if nmL (l.drop 1) = true then _ else _
      cases nb : nmL (l.drop 1) with
      | true =>
        rw [if_pos nb] at k
        exact iteT ⟨_, rfl, k _ H' s' (.str _)⟩
      | false =>
        rw [if_neg (by rw [nb]; decide)] at k
        exact iteF (k _ H' s' .non)
    · rw [decide_eq_false q]
      rw [if_neg q] at k
      exact iteF ⟨_, rfl, l, rfl, tx, k⟩
end
abbrev sRl : Stmt := top 22
abbrev nRl : List Str := ["token", "value"]
abbrev pRl : List Str := ["token"]
theorem scRl : FnScope nRl pRl (defScope sRl) := ⟨rfl, rfl, rfl, by decide +kernel, rfl, by decide +kernel, by decide +kernel⟩
section
variable {fA_ fB_ : Addr} {fdA_ fdB_ : FuncData}
theorem ok_Rl (F : Fun K "read_leaf" "read_leaf" sRl f fd) (T : Bt mg)
    (GA_ : FnOk P w K mg base CX0 1 fA_ fdA_ ["value"] (spName)) (mA_ : mg "is_name" = some (.ref fA_)) (kA_ : PySem.W.keepIn K (.ref fA_) = true) (bA_ : Binds K fdA_ ["value"] [])
    (GB_ : FnOk P w K mg base CX0 4 fB_ fdB_ ["text"] (spRv)) (mB_ : mg "read_value" = some (.ref fB_)) (kB_ : PySem.W.keepIn K (.ref fB_) = true) (bB_ : Binds K fdB_ ["text"] []) : FnOk P w K mg base CX0 5 f fd pRl (spRl) := by
  refine F.ok scRl (fun vs H Q E h => ?_) (fun cdv A outer s H vs Q E hr h => ?_)
  · obtain ⟨l, rfl, _⟩ := h
    rfl
  · obtain ⟨l, rfl, tx, k⟩ := h
    have hrA_ : Room (1) _ := hr.mono (by first | decide | omega)
    have hrB_ : Room (4) _ := hr.mono (by first | decide | omega)
    refine ⟨_, (pss_cons (ps_if (pt_val (pe_call GA_ hrA_ (by rfl) mA_ kA_ bA_ .nil pass0 (pa_cons (pv 0) pa_nil))) (pss_one (ps_ret (pe_tup (pa_cons pe_str (pa_cons (pv 0) pa_nil))))) pss_nil)
      (pss_cons (ps_if (pt_not (pt_val (pe_m1 PySem.F.slot_str_startswith PySem.F.type_str_startswith mt_startswith (pv 0) pe_str))) (pss_one (ps_ret pe_non)) pss_nil)
      (pss_cons (ps_set (i := 1) scRl.nd rfl (Or.inl rfl) (pe_call GB_ hrB_ (by rfl) mB_ kB_ bB_ .nil pass0 (pa_cons (pe_slice sl_str (pv 0) (po_some pe_int) po_none) pa_nil)))
      (pss_one (ps_ret (pe_ifExp (pt_cmpR op_isN (pv 1) pe_non (nomark _)) pe_non (pe_tup (pa_cons pe_str (pa_cons (pv 1) pa_nil))))))))), ?_⟩
    have two : 2 ≤ sizeLine := by decide
    have t1 : Tx (l.drop 1) := tx.sub (List.drop_sublist _ _)
    unfold leafD at k
    refine ⟨_, rfl, .str (TS l), "str", rfl, .str _, fun y e => by injection e with e; rw [← e]; exact tx.line, fun H' s' => ⟨_, rfl, ?_⟩⟩
    show if nmL l = true then _ else _
    cases nb : nmL l with
    | true =>
      rw [if_pos nb] at k
      exact iteT ⟨_, rfl, two, fun p hp => k _ _ (s'.trans (Same.upd hp)) (.tup upd_same (.cons (.str _) (.cons (.str _) .nil)))⟩
    | false =>
      rw [if_neg (by rw [nb]; decide)] at k
      refine iteF ⟨_, rfl, ⟨_, rfl⟩, _, _, rfl, rfl, _, rfl, ?_⟩
      rw [equal_eq, starts_one, cl_ts]
      by_cases q : l.head? = some 61
      · rw [decide_eq_true q]
        rw [if_pos q] at k
        refine iteF ⟨_, rfl, 1, rfl, _, rfl, tx.line, ?_⟩
        rw [cutR]
        refine ⟨l.drop 1, rfl, t1, fun v H2 s2 hv => ⟨_, rfl, rfl, _, rfl, ?_⟩⟩
        rw [dh_non hv]
        cases z : isNo (valD (l.drop 1)) with
        | true => exact iteT (k _ H2 (s'.trans s2) (by rw [isNo_t z]; exact .non))
        | false => exact iteF ⟨_, rfl, two, fun p hp => k _ _ ((s'.trans s2).trans (Same.upd hp)) (by rw [wrap_ne (isNo_f z)]; exact .tup upd_same (.cons (.str _) (.cons (hv.same (Same.upd hp)) .nil)))⟩
      · rw [decide_eq_false q]
        rw [if_neg q] at k
        exact iteT (k _ H' s' .non)
end
abbrev sLlo : Stmt := top 46
abbrev nLlo : List Str := ["_law_token_here", "_law_number_here"]
abbrev pLlo : List Str := ["_law_token_here"]
theorem scLlo : FnScope nLlo pLlo (defScope sLlo) := ⟨rfl, rfl, rfl, by decide +kernel, rfl, by decide +kernel, by decide +kernel⟩
section
variable {fA_ fB_ : Addr} {fdA_ fdB_ : FuncData}
theorem ok_Llo (F : Fun K "_law_leaf_of" "_law_leaf_of" sLlo f fd) (T : Bt mg)
    (GA_ : FnOk P w K mg base CX0 1 fA_ fdA_ ["_law_text"] (spLin)) (mA_ : mg "_law_is_name" = some (.ref fA_)) (kA_ : PySem.W.keepIn K (.ref fA_) = true) (bA_ : Binds K fdA_ ["_law_text"] [])
    (GB_ : FnOk P w K mg base CX0 2 fB_ fdB_ ["_law_text"] (spNm)) (mB_ : mg "_law_number" = some (.ref fB_)) (kB_ : PySem.W.keepIn K (.ref fB_) = true) (bB_ : Binds K fdB_ ["_law_text"] []) : FnOk P w K mg base CX0 3 f fd pLlo (spRl) := by
  refine F.ok scLlo (fun vs H Q E h => ?_) (fun cdv A outer s H vs Q E hr h => ?_)
  · obtain ⟨l, rfl, _⟩ := h
    rfl
  · obtain ⟨l, rfl, tx, k⟩ := h
    have hrA_ : Room (1) _ := hr.mono (by first | decide | omega)
    have hrB_ : Room (2) _ := hr.mono (by first | decide | omega)
    refine ⟨_, (pss_cons (ps_if (pt_val (pe_call GA_ hrA_ (by rfl) mA_ kA_ bA_ .nil pass0 (pa_cons (pv 0) pa_nil))) (pss_one (ps_ret (pe_tup (pa_cons pe_str (pa_cons (pv 0) pa_nil))))) pss_nil)
      (pss_cons (ps_if (pt_cmpR op_ne (pe_slice sl_str (pv 0) po_none (po_some pe_int)) pe_str (nomark _)) (pss_one (ps_ret pe_non)) pss_nil)
      (pss_cons (ps_if (pt_cmpR op_in_seq (pv 0) (pe_lst (pa_cons pe_str (pa_cons pe_str pa_nil))) (by rfl)) (pss_one (ps_ret (pe_tup (pa_cons pe_str (pa_cons (pe_cmpR op_eq (pv 0) pe_str (nomark _)) pa_nil))))) pss_nil)
      (pss_cons (ps_if (pt_cmpR op_eq (pe_slice sl_str (pv 0) (po_some pe_int) (po_some pe_int)) pe_str (nomark _)) (pss_one (ps_ret (pe_ifExp (pt_val (pe_call GA_ hrA_ (by rfl) mA_ kA_ bA_ .nil pass0 (pa_cons (pe_slice sl_str (pv 0) (po_some pe_int) po_none) pa_nil))) (pe_tup (pa_cons pe_str (pa_cons (pe_slice sl_str (pv 0) (po_some pe_int) po_none) pa_nil))) pe_non))) pss_nil)
      (pss_cons (ps_set (i := 1) scLlo.nd rfl (Or.inl rfl) (pe_call GB_ hrB_ (by rfl) mB_ kB_ bB_ .nil pass0 (pa_cons (pe_slice sl_str (pv 0) (po_some pe_int) po_none) pa_nil)))
      (pss_one (ps_ret (pe_ifExp (pt_cmpR op_isN (pv 1) pe_non (nomark _)) pe_non (pe_tup (pa_cons pe_str (pa_cons (pv 1) pa_nil))))))))))), ?_⟩
    have two : 2 ≤ sizeLine := by decide
    have t1 : Tx (l.drop 1) := tx.sub (List.drop_sublist _ _)
    have t2 : Tx (l.drop 2) := tx.sub (List.drop_sublist _ _)
    unfold leafD at k
    refine ⟨_, rfl, l, rfl, tx, fun H' s' => ⟨_, rfl, ?_⟩⟩
    cases nb : nmL l with
    | true =>
      rw [if_pos nb] at k
      exact iteT ⟨_, rfl, two, fun p hp => k _ _ (s'.trans (Same.upd hp)) (.tup upd_same (.cons (.str _) (.cons (.str _) .nil)))⟩
    | false =>
      rw [if_neg (by rw [nb]; decide)] at k
      refine iteF ⟨_, rfl, 1, rfl, _, rfl, tx.line, rfl, _, rfl, ?_⟩
      rw [cut1, dec_take eq_cl]
      by_cases q : l.head? = some 61
      · rw [decide_eq_true q]
        rw [if_pos q] at k
        obtain ⟨m, rfl⟩ : ∃ m, l = 61 :: m := by
          cases l with
          | nil => cases q
          | cons c r => injection q with q; exact ⟨r, by rw [q]⟩
        have k : ∀ v H', Same H H' → Dh H' v (wrapD (valD m)) → Q v H' := k
        unfold valD at k
        refine iteF ⟨_, rfl, two, fun p hp => ⟨p, _, rfl, .inl (SqL.of upd_same), rfl, rfl, _, rfl, ?_⟩⟩
        have zp := s'.trans (Same.upd (o := .lst [.str "=#yes", .str "=#no"]) hp)
        have dv : inV (V.str (TS (61 :: m))) [.str "=#yes", .str "=#no"] = (decide (m = [35, 121, 101, 115]) || decide (m = [35, 110, 111])) := by
          have key : ∀ {z : Str} {r : List Nat}, CL z = 61 :: r → eqV (.str z) (.str (TS (61 :: m))) = decide (m = r) := fun {z r} e => by
            show (z == TS (61 :: m)) = _
            rw [Bool.eq_iff_iff, beq_iff_eq, decide_eq_true_iff]
            refine ⟨fun q => ?_, fun q => by rw [q, ← e, ts_cl]⟩
            rw [q, cl_ts] at e
            injection e
          show (eqV (.str "=#yes") (.str (TS (61 :: m))) || (eqV (.str "=#no") (.str (TS (61 :: m))) || false)) = _
          rw [key eyes_cl, key eno_cl, Bool.or_false]
        show if inV (V.str (TS (61 :: m))) [.str "=#yes", .str "=#no"] = true then _ else _
        rw [dv]
        generalize upd H' p (.lst [.str "=#yes", .str "=#no"]) = H2 at zp ⊢
        by_cases y : m = [35, 121, 101, 115]
        · rw [decide_eq_true y, Bool.true_or]
          rw [if_pos y] at k
          refine iteT ⟨_, rfl, rfl, two, fun r hr => k _ _ (zp.trans (Same.upd hr)) ?_⟩
          rw [dec_ts eyes_cl, decide_eq_true (by rw [y])]
          exact .tup upd_same (.cons (.str _) (.cons (.bl _) .nil))
        rw [decide_eq_false y, Bool.false_or]
        rw [if_neg y] at k
        by_cases n : m = [35, 110, 111]
        · rw [decide_eq_true n]
          rw [if_pos n] at k
          refine iteT ⟨_, rfl, rfl, two, fun r hr => k _ _ (zp.trans (Same.upd hr)) ?_⟩
          rw [dec_ts eyes_cl, decide_eq_false (by rw [n]; decide)]
          exact .tup upd_same (.cons (.str _) (.cons (.bl _) .nil))
        rw [decide_eq_false n]
        rw [if_neg n] at k
        refine iteF ⟨_, rfl, 1, rfl, 2, rfl, _, rfl, tx.line, rfl, _, rfl, ?_⟩
        rw [show cutS (TS (61 :: m)) (some 1) (some 2) = TS (m.take 1) from cutG (a := 1) (b := 2) (by decide), dec_take tick_cl]
        by_cases t : m.head? = some 39
        · rw [decide_eq_true t]
          rw [if_pos t] at k
          refine iteT ⟨_, rfl, 2, rfl, _, rfl, tx.line, ?_⟩
          rw [show cutS (TS (61 :: m)) (some 2) none = TS (m.drop 1) from cutE (a := 2)]
          refine ⟨m.drop 1, rfl, t2, fun H3 s3 => ⟨_, rfl, ?_⟩⟩
          cases nb2 : nmL (m.drop 1) with
          | true =>
            rw [if_pos nb2] at k
            refine iteT ⟨_, rfl, 2, rfl, _, rfl, tx.line, two, fun r hr => k _ _ ((zp.trans s3).trans (Same.upd hr)) ?_⟩
            rw [show cutS (TS (61 :: m)) (some 2) none = TS (m.drop 1) from cutE (a := 2)]
            exact .tup upd_same (.cons (.str _) (.cons (.str _) .nil))
          | false =>
            rw [if_neg (by rw [nb2]; decide)] at k
            exact iteF (k _ H3 (zp.trans s3) .non)
        · rw [decide_eq_false t]
          rw [if_neg t] at k
          refine iteF ⟨_, rfl, 1, rfl, _, rfl, tx.line, ?_⟩
          rw [cutR]
          refine ⟨m, rfl, t1, fun v H3 s3 hv => ⟨_, rfl, rfl, _, rfl, ?_⟩⟩
          rw [dh_non hv]
          cases z : isNo (numD m) with
          | true => exact iteT (k _ H3 (zp.trans s3) (by rw [isNo_t z]; exact .non))
          | false => exact iteF ⟨_, rfl, two, fun r hr => k _ _ ((zp.trans s3).trans (Same.upd hr)) (by rw [wrap_ne (isNo_f z)]; exact .tup upd_same (.cons (.str _) (.cons (hv.same (Same.upd hr)) .nil)))⟩
      · rw [decide_eq_false q]
        rw [if_neg q] at k
        exact iteT (k _ H' s' .non)
end
end
end K77
set_option Elab.async false
set_option linter.all false
set_option maxRecDepth 100000
set_option maxHeartbeats 4000000
namespace K77
open PySem PySem.Spec PyProof.Rows L2 Lc
def sgs : Str := "() "
theorem sgs_in (c : Nat) : decide (c ∈ sgs.cps.toList) = decide (sgl c) := by
  have e : sgs.cps.toList = [40, 41, 32] := by decide +kernel
  rw [e]
  exact decide_eq_decide.mpr (by simp [sgl])
def PcsH (H : Hp) (P : Addr) (rs : List Addr) (ps : List (Nat × List Nat)) : Prop := H P = some (.lst (rs.map V.ref)) ∧ Paired (fun r (q : Nat × List Nat) => H r = some (.tup [.int (q.1 : Int), .str (TS q.2)])) rs ps
theorem PcsH.same {H H' : Hp} {P : Addr} {rs : List Addr} {ps : List (Nat × List Nat)} (h : PcsH H P rs ps) (s : Same H H') : PcsH H' P rs ps := ⟨s _ _ h.1, paired_imp (fun _ _ e => s _ _ e) h.2⟩
theorem paired_len {α β : Type} {R : α → β → Prop} : ∀ {l : List α} {m : List β}, Paired R l m → l.length = m.length
  | _, _, .nil => rfl
  | _, _, .cons _ r => by rw [List.length_cons, List.length_cons, paired_len r]
theorem paired_get {α β : Type} {R : α → β → Prop} : ∀ {l : List α} {m : List β}, Paired R l m → ∀ {i : Nat} {b : β}, m[i]? = some b → ∃ a, l[i]? = some a ∧ R a b
  | _, _, .nil, i, b, e => by simp at e
  | _, _, .cons h r, 0, b, e => by injection e with e; subst e; exact ⟨_, rfl, h⟩
  | _, _, .cons h r, i + 1, b, e => paired_get r (by simpa using e)
def spPo : Sp := fun vs H Q _ => ∃ (l : List Nat), vs = [.str (TS l)] ∧ l.length ≤ 400000 ∧ ∀ (P : Addr) (rs : List Addr) (H' : Hp), Same H H' → PcsH H' P rs (pfold l 0 [] ++ [(l.length, [])]) → Q (.ref P) H'
theorem cut_mid {l : List Nat} {a b : Nat} (h1 : a ≤ b) (h2 : b ≤ l.length) : cutS (TS l) (some (a : Int)) (some (b : Int)) = TS ((l.drop a).take (b - a)) := by
  refine ts_of ?_
  show (cutS (TS l) (some (a : Int)) (some (b : Int))).cps.toList = _
  unfold cutS
  rw [HT.sIx_nat, HT.sIx_nat, ts_len, show min a l.length = a by omega, show min b l.length = b by omega]
  show List.take (b - a) (List.drop a (CL (TS l))) = _
  rw [cl_ts]
theorem cut_end {l : List Nat} {a : Nat} (h : a ≤ l.length) : cutS (TS l) (some (a : Int)) none = TS (l.drop a) := by
  refine ts_of ?_
  show (cutS (TS l) (some (a : Int)) none).cps.toList = _
  have e2 : HT.sIx (TS l).length (TS l).length none = (TS l).length := rfl
  unfold cutS
  rw [HT.sIx_nat, e2, ts_len, Nat.min_eq_left h]
  show List.take (l.length - a) (List.drop a (CL (TS l))) = _
  rw [cl_ts, List.take_of_length_le (by rw [List.length_drop]; exact Nat.le_refl _)]
section
variable {u1 : Tok}
variable {P : Program} {w : World} {K : PySem.W.Frag} {mg : Str → Option Value} {base : Heap} {f : Addr} {fd : FuncData}
abbrev sPo : Stmt := top 23
abbrev nPo : List Str := ["text", "pieces", "start", "at", "sign"]
abbrev pPo : List Str := ["text"]
theorem scPo : FnScope nPo pPo (defScope sPo) := ⟨rfl, rfl, rfl, by decide +kernel, rfl, by decide +kernel, by decide +kernel⟩
section
theorem ok_Po (F : Fun K "pieces_of" "pieces_of" sPo f fd) (T : Bt mg) (mS : mg "SINGLE_SIGNS" = some (.str sgs u1)) : FnOk P w K mg base CX0 1 f fd pPo (spPo) := by
  refine F.ok scPo (fun vs H Q E h => ?_) (fun cdv A outer s H vs Q E hr h => ?_)
  · obtain ⟨l, rfl, _⟩ := h
    rfl
  · obtain ⟨l, rfl, hl, k⟩ := h
    refine ⟨_, (pss_cons (ps_set (i := 1) scPo.nd rfl (Or.inl rfl) (pe_lst pa_nil))
      (pss_cons (ps_set (i := 2) scPo.nd rfl (Or.inl rfl) pe_int)
      (pss_cons (ps_for PassesOwn.never rfl (pi_enS (by rfl) T.enum (pa_cons (pv 0) pa_nil)) (pg_tup rfl (pgs_cons (pg_name (i := 3) scPo.nd rfl (.inl rfl)) (pgs_cons (pg_name (i := 4) scPo.nd rfl (.inl rfl)) pgs_nil))) (pss_one (ps_if (pt_cmpR op_in_sign (pv 4) (pe_glob (v := .str sgs) (by rfl) mS ⟨_, rfl⟩) (by rfl)) (Evl.pss_cut (ps_if (pt_cmpR op_lt (pv 2) (pv 3) (nomark _)) (pss_one (ps_expr (pe_bm PySem.F.plainAttrs_list PySem.F.slot_list_append PySem.F.type_list_append mt_append (pv 1) (pa_cons (pe_tup (pa_cons (pv 2) (pa_cons (pe_slice sl_str (pv 0) (po_some (pv 2)) (po_some (pv 3))) pa_nil))) pa_nil)))) pss_nil)
      (pss_cons (ps_expr (pe_bm PySem.F.plainAttrs_list PySem.F.slot_list_append PySem.F.type_list_append mt_append (pv 1) (pa_cons (pe_tup (pa_cons (pv 3) (pa_cons (pv 4) pa_nil))) pa_nil)))
      (pss_one (ps_set (i := 2) scPo.nd rfl (Or.inl rfl) (pe_op op_add (pv 3) pe_int))))) pss_nil)))
      (Evl.pss_cut (ps_if (pt_cmpR op_lt (pv 2) (pe_callB call_len_str (by rfl) T.len PySem.boot_len (pa_cons (pv 0) pa_nil)) (nomark _)) (pss_one (ps_expr (pe_bm PySem.F.plainAttrs_list PySem.F.slot_list_append PySem.F.type_list_append mt_append (pv 1) (pa_cons (pe_tup (pa_cons (pv 2) (pa_cons (pe_slice sl_str (pv 0) (po_some (pv 2)) po_none) pa_nil))) pa_nil)))) pss_nil)
      (pss_cons (ps_expr (pe_bm PySem.F.plainAttrs_list PySem.F.slot_list_append PySem.F.type_list_append mt_append (pv 1) (pa_cons (pe_tup (pa_cons (pe_callB call_len_str (by rfl) T.len PySem.boot_len (pa_cons (pv 0) pa_nil)) (pa_cons pe_str pa_nil))) pa_nil)))
      (pss_one (ps_ret (pv 1)))))))), ?_⟩
    have two : 2 ≤ sizeLine := by decide
    have line : (TS l).length ≤ sizeLine := by rw [ts_len]; exact Nat.le_trans hl (by decide)
    refine ⟨by show 0 ≤ sizeLine; decide, fun P hP => ?_⟩
    -- one more piece
    have more : ∀ {Ha : Hp} {rs : List Addr} {acc : List (Nat × List Nat)} {r : Addr} {q : Nat × List Nat}, PcsH Ha P rs acc → Same H Ha → Ha r = none → PcsH (upd (upd Ha r (.tup [.int (q.1 : Int), .str (TS q.2)])) P (.lst (rs.map V.ref ++ [.ref r]))) P (rs ++ [r]) (acc ++ [q]) ∧ Same H (upd (upd Ha r (.tup [.int (q.1 : Int), .str (TS q.2)])) P (.lst (rs.map V.ref ++ [.ref r]))) ∧ upd Ha r (.tup [.int (q.1 : Int), .str (TS q.2)]) P = some (.lst (rs.map V.ref)) := fun {Ha rs acc r q} pc sa hr => by
      have zr := Same.upd (o := .tup [.int (q.1 : Int), .str (TS q.2)]) hr
      have hp := zr _ _ pc.1
      have kt : SameT (upd Ha r (.tup [.int (q.1 : Int), .str (TS q.2)])) (upd (upd Ha r (.tup [.int (q.1 : Int), .str (TS q.2)])) P (.lst (rs.map V.ref ++ [.ref r]))) := SameT.lst hp
      refine ⟨⟨by rw [upd_same, List.map_append]; rfl, paired_snoc (a := r) (b := q) (R := fun (r' : Addr) (q' : Nat × List Nat) => upd (upd Ha r (.tup [.int (q.1 : Int), .str (TS q.2)])) P (.lst (rs.map V.ref ++ [.ref r])) r' = some (.tup [.int (q'.1 : Int), .str (TS q'.2)])) (kt _ _ upd_same) (paired_imp (fun _ _ e => kt _ _ (zr _ _ e)) pc.2)⟩, fun b o e => ?_, hp⟩
      rw [upd_ne (ne_of_none e hP)]
      exact zr _ _ (sa _ _ e)
    refine ⟨_, rfl, _, rfl, for_it walk_enS (fun i σ H' => ∃ (rs : List Addr) (acc : List (Nat × List Nat)) (s : Nat) (x3 x4 : Option V), σ = [some (.str (TS l)), some (.ref P), some (.int (s : Int)), x3, x4] ∧ s ≤ i ∧ i ≤ l.length ∧ PcsH H' P rs acc ∧ rs.length ≤ 2 * i ∧ acc ++ pfold (l.drop i) i ((l.drop s).take (i - s)) = pfold l 0 [] ∧ Same H H') ⟨[], [], 0, none, none, rfl, Nat.le_refl _, Nat.zero_le _, ⟨upd_same, .nil⟩, Nat.zero_le _, by simp, Same.upd hP⟩ (fun _ _ _ _ _ => True.intro) ?_ ?_⟩
    · rintro i x σ Ha Hb hi ⟨rs, acc, s, x3, x4, rfl, hs, hil, pc, lr, ea, sa⟩ ⟨q, i', z, rfl, hq, rfl, e1, e2⟩
      obtain rfl : V.int ((i : Nat) : Int) = i' := Option.some.inj e1
      obtain ⟨c, ec, rfl⟩ : ∃ c, l[i]? = some c ∧ V.str ⟨#[c]⟩ = z := by
        have e2 : Option.map (fun c => V.str ⟨#[c]⟩) (TS l).cps[i]? = some z := e2
        cases hc : (TS l).cps[i]? with
        | none => rw [hc] at e2; cases e2
        | some c =>
          rw [hc] at e2
          refine ⟨c, ?_, Option.some.inj e2⟩
          have : (TS l).cps.toList[i]? = some c := by simpa using hc
          rw [show (TS l).cps.toList = l from cl_ts l] at this
          exact this
      have li : i < l.length := (List.getElem?_eq_some_iff.mp ec).1
      have zq := Same.upd (o := .tup [.int ((i : Nat) : Int), .str ⟨#[c]⟩]) hq
      have pc1 := pc.same zq
      have sa1 := sa.trans zq
      have dr : l.drop i = c :: l.drop (i + 1) := by rw [List.drop_eq_getElem_cons li, (List.getElem?_eq_some_iff.mp ec).2]
      have cl : ((l.drop s).take (i - s)).length = i - s := by rw [List.length_take, List.length_drop]; omega
      rw [dr] at ea
      refine ⟨q, _, rfl, SqT.of upd_same, rfl, _, _, rfl, _, _, rfl, rfl, ?_⟩
      generalize upd Ha q (.tup [.int ((i : Nat) : Int), .str ⟨#[c]⟩]) = H1 at pc1 sa1 ⊢
      refine ⟨_, rfl, c, sgs, rfl, rfl, _, rfl, ?_⟩
      rw [sgs_in]
      by_cases sg : sgl c
      · rw [decide_eq_true sg]
        rw [pfold, if_pos sg] at ea
        refine iteT ⟨fun σ H' => ∃ (rs : List Addr) (acc' : List (Nat × List Nat)), σ = [some (.str (TS l)), some (.ref P), some (.int (s : Int)), some (.int (i : Int)), some (.str ⟨#[c]⟩)] ∧ PcsH H' P rs acc' ∧ rs.length ≤ 2 * i + 1 ∧ acc' ++ (i, [c]) :: pfold (l.drop (i + 1)) (i + 1) [] = pfold l 0 [] ∧ Same H H', ?_, ?_⟩
        · refine ⟨_, rfl, _, rfl, _, _, rfl, rfl, _, rfl, ?_⟩
          by_cases lt : s < i
          · rw [decide_eq_true (by omega)]
            have ne : (l.drop s).take (i - s) ≠ [] := fun z => by rw [z] at cl; simp at cl; omega
            rw [if_neg ne, cl, show i - (i - s) = s by omega] at ea
            refine iteT ⟨_, rfl, .inl ⟨rfl, _, SqL.of pc1.1⟩, _, rfl, _, rfl, _, rfl, (s : Int), rfl, _, rfl, (i : Int), rfl, _, rfl, line, ?_⟩
            rw [cut_mid (by omega) (by omega)]
            refine ⟨two, fun r hr => ?_⟩
            obtain ⟨m1, m2, m3⟩ := more (q := (s, (l.drop s).take (i - s))) pc1 sa1 hr
            refine ⟨P, _, _, rfl, rfl, m3, by rw [List.length_map]; exact Nat.lt_of_le_of_lt (show _ ≤ 900000 by omega) (by decide), _, _, rfl, m1, by rw [List.length_append]; show rs.length + 1 ≤ _; omega, ?_, m2⟩
            rw [List.append_assoc]
            exact ea
          · rw [decide_eq_false (by omega)]
            have e : (l.drop s).take (i - s) = [] := List.length_eq_zero_iff.mp (by omega)
            rw [e, if_pos rfl] at ea
            exact iteF ⟨rs, acc, rfl, pc1, by omega, ea, sa1⟩
        · rintro σ H2 ⟨rs2, acc2, rfl, pc2, lr2, ea2, s2⟩
          refine ⟨_, rfl, .inl ⟨rfl, _, SqL.of pc2.1⟩, _, rfl, _, rfl, two, fun r hr => ?_⟩
          obtain ⟨m1, m2, m3⟩ := more (q := (i, [c])) pc2 s2 hr
          refine ⟨P, _, _, rfl, rfl, m3, by rw [List.length_map]; exact Nat.lt_of_le_of_lt (show _ ≤ 900000 by omega) (by decide), _, rfl, _, _, rfl, rfl, ?_⟩
          refine ⟨rs2 ++ [r], acc2 ++ [(i, [c])], i + 1, _, _, rfl, Nat.le_refl _, by omega, m1, by rw [List.length_append]; show rs2.length + 1 ≤ _; omega, ?_, m2⟩
          rw [Nat.sub_self, List.take_zero, List.append_assoc]
          exact ea2
      · rw [decide_eq_false sg]
        rw [pfold, if_neg sg] at ea
        refine iteF ⟨rs, acc, s, _, _, rfl, by omega, by omega, pc1, by omega, ?_, sa1⟩
        have e : (l.drop s).take (i - s) ++ [c] = (l.drop s).take (i + 1 - s) := by
          rw [show i + 1 - s = (i - s) + 1 by omega, List.take_add_one, List.getElem?_drop, show s + (i - s) = i by omega, ec]
          rfl
        rw [e] at ea
        exact ea
    · rintro σ H1 ⟨rs, acc, s, x3, x4, rfl, hs, hil, pc, lr, ea, sa⟩
      have ez : (TS l).cps.size = l.length := ts_len l
      rw [ez] at hs hil lr ea
      rw [List.drop_length, pfold] at ea
      have cl : ((l.drop s).take (l.length - s)).length = l.length - s := by rw [List.length_take, List.length_drop]; omega
      have ct : (l.drop s).take (l.length - s) = l.drop s := List.take_of_length_le (by rw [List.length_drop]; exact Nat.le_refl _)
      refine ⟨fun σ H' => ∃ (rs : List Addr), σ = [some (.str (TS l)), some (.ref P), some (.int (s : Int)), x3, x4] ∧ PcsH H' P rs (pfold l 0 []) ∧ rs.length ≤ 2 * l.length + 1 ∧ Same H H', ?_, ?_⟩
      · refine ⟨_, rfl, _, rfl, _, rfl, line, _, _, rfl, rfl, _, rfl, ?_⟩
        rw [ts_len]
        by_cases lt : s < l.length
        · rw [decide_eq_true (by omega)]
          have ne : (l.drop s).take (l.length - s) ≠ [] := fun z => by rw [z] at cl; simp at cl; omega
          rw [if_neg ne, cl, show l.length - (l.length - s) = s by omega, ct] at ea
          refine iteT ⟨_, rfl, .inl ⟨rfl, _, SqL.of pc.1⟩, _, rfl, _, rfl, _, rfl, (s : Int), rfl, _, rfl, line, ?_⟩
          rw [cut_end hs]
          refine ⟨two, fun r hr => ?_⟩
          obtain ⟨m1, m2, m3⟩ := more (q := (s, l.drop s)) pc sa hr
          refine ⟨P, _, _, rfl, rfl, m3, by rw [List.length_map]; exact Nat.lt_of_le_of_lt (show _ ≤ 900000 by omega) (by decide), rs ++ [r], rfl, ?_, by rw [List.length_append]; show rs.length + 1 ≤ _; omega, m2⟩
          rw [← ea]
          exact m1
        · rw [decide_eq_false (by omega)]
          have e : (l.drop s).take (l.length - s) = [] := List.length_eq_zero_iff.mp (by omega)
          rw [e, if_pos rfl, List.append_nil] at ea
          rw [← ea]
          exact iteF ⟨rs, rfl, pc, by omega, sa⟩
      · rintro σ H2 ⟨rs2, rfl, pc2, lr2, s2⟩
        refine ⟨_, rfl, .inl ⟨rfl, _, SqL.of pc2.1⟩, _, rfl, _, rfl, line, two, fun r hr => ?_⟩
        rw [ts_len]
        obtain ⟨m1, m2, m3⟩ := more (q := (l.length, [])) pc2 s2 hr
        exact ⟨P, _, _, rfl, rfl, m3, by rw [List.length_map]; exact Nat.lt_of_le_of_lt (show _ ≤ 900000 by omega) (by decide), _, rfl, k P _ _ m2 m1⟩
end
end
/-! ## errors that tell one thing -/
structure ErF (K : PySem.W.Frag) (mg : Str → Option Value) (x fld : Str) (C fI : Addr) : Prop where
  oex : OexC K C
  iC : PySem.W.findIn K (.ref C) "__init__" = some (some (.ref fI))
  tI : PySem.W.typeIn K (.ref fI) = some (.type "function")
  nG : PySem.W.findIn K (.ref C) fld = some none
  gC : mg x = some (.ref C)
def TellsF (C : Addr) (fld : Str) (H : Hp) (v : V) (E : XK) : Prop := ∀ (d : Addr) (H' : Hp), Same H H' → H d = none → H' d = some (.xd [(fld, v)]) → E (.ref C) (some d) H'
theorem TellsF.same {C : Addr} {fld : Str} {H H' : Hp} {v : V} {E : XK} (h : TellsF C fld H v E) (s : Same H H') : TellsF C fld H' v E := fun d H2 s2 e1 e2 => h d H2 (s.trans s2) (by cases q : H d with | none => rfl | some o => rw [s _ _ q] at e1; cases e1) e2
def spIni (C : Addr) (fld : Str) : Sp := fun vs H Q _ => ∃ (a : Addr) (v : V), vs = [.ref a, v] ∧ H a = some (exo a C none) ∧ ∀ dx, H dx = none → dx ≠ a → Q .non (upd (upd H dx (exd dx [(fld, v)])) a (exo a C (some dx)))
abbrev sIni : Stmt := inClass (top 1) 0
section
variable {P : Program} {w : World} {K : PySem.W.Frag} {mg : Str → Option Value} {base : Heap} {f C fI : Addr} {fd fdI : FuncData}
theorem scIni : FnScope ["self", "position"] ["self", "position"] (defScope sIni) := ⟨rfl, rfl, rfl, by decide +kernel, rfl, by decide +kernel, by decide +kernel⟩
theorem ok_ini (F : Fun K "__init__" "BadText.__init__" sIni fI fdI) (T : ErF K mg "BadText" "position" C fI) : FnOk P w K mg base CX0 1 fI fdI ["self", "position"] (spIni C "position") := by
  refine F.ok scIni (fun vs H Q E h => ?_) (fun cdv A outer s H vs Q E hr h => ?_)
  · obtain ⟨a, v, rfl, _⟩ := h
    rfl
  · obtain ⟨a, v, rfl, ha, k⟩ := h
    refine ⟨_, pss_one (ps_ost (pv 0) (pv 1)), ?_⟩
    exact ⟨_, rfl, _, rfl, a, C, rfl, T.oex, T.nG, .inl ⟨ha, fun dx h1 h2 => k dx h1 h2⟩⟩
/-- raise X(v) -/
theorem tells_ofF {H : Hp} {fld : Str} {v : V} {E : XK} (t : TellsF C fld H v E) : ∀ a, H a = none → spIni C fld (.ref a :: ([v] ++ [])) (upd H a (exo a C none))
    (fun v' H2 => v' = .non ∧ ∃ (d : Addr) (fs : List (Str × V)), H2 a = some (exo a C (some d)) ∧ H2 d = some (exd d fs) ∧ H d = none ∧ E (.ref C) (some d) (upd (del H2 a) d (.xd fs))) (fun _ _ _ => False) := by
  intro a ha
  refine ⟨a, v, rfl, upd_same, fun dx hx hne => ⟨rfl, dx, _, upd_same, by rw [upd_ne hne, upd_same], by rw [upd_ne hne] at hx; exact hx, ?_⟩⟩
  rw [upd_ne hne] at hx
  refine t dx _ (fun b o e => ?_) hx upd_same
  have nb : b ≠ a := ne_of_none e ha
  have nd : b ≠ dx := ne_of_none e hx
  rw [upd_ne nd, del_ne nb, upd_ne nb, upd_ne nd, upd_ne nb]
  exact e
end
/-! ## where tokens and pieces stand -/
def tokL (l : List Nat) (p : Nat) : List Nat := (l.drop p).takeWhile fun c => !decide (sgl c)
def PF (l : List Nat) (p : Nat) : List (Nat × List Nat) := pfold (l.drop p) p [] ++ [(l.length, [])]
def hdL (l : List Nat) (p : Nat) : List Nat := match l[p]? with
  | none => []
  | some c => if sgl c then [c] else tokL l p
theorem tw_split (g : Nat → Bool) : ∀ l : List Nat, ∃ r, l = l.takeWhile g ++ r ∧ (∀ c ∈ l.takeWhile g, g c = true) ∧ (r = [] ∨ ∃ d r', r = d :: r' ∧ g d = false)
  | [] => ⟨[], rfl, nofun, .inl rfl⟩
  | c :: t => by
    cases e : g c with
    | false => exact ⟨c :: t, by rw [List.takeWhile_cons, e]; rfl, by rw [List.takeWhile_cons, e]; nofun, .inr ⟨c, t, rfl, e⟩⟩
    | true =>
      obtain ⟨r, h1, h2, h3⟩ := tw_split g t
      refine ⟨r, ?_, ?_, h3⟩
      · rw [List.takeWhile_cons, e]
        show c :: t = c :: (t.takeWhile g ++ r)
        rw [← h1]
      · rw [List.takeWhile_cons, e]
        intro x hx
        rcases List.mem_cons.mp hx with rfl | hx
        · exact e
        · exact h2 x hx
theorem tok_split {l : List Nat} {p : Nat} : ∃ r, l.drop p = tokL l p ++ r ∧ l.drop (p + (tokL l p).length) = r ∧ (∀ c ∈ tokL l p, ¬ sgl c) ∧ (r = [] ∨ ∃ d r', r = d :: r' ∧ sgl d) := by
  obtain ⟨r, h1, h2, h3⟩ := tw_split (fun c => !decide (sgl c)) (l.drop p)
  have h1 : l.drop p = tokL l p ++ r := h1
  refine ⟨r, h1, ?_, fun c hc => ?_, ?_⟩
  · have e : l.drop (p + (tokL l p).length) = (l.drop p).drop (tokL l p).length := by rw [List.drop_drop]
    rw [e]
    generalize tokL l p = t at h1 ⊢
    rw [h1, List.drop_left]
  · have := h2 c hc
    simpa only [Bool.not_eq_true', decide_eq_false_iff_not] using this
  · rcases h3 with h | ⟨d, r', e, h⟩
    · exact .inl h
    · exact .inr ⟨d, r', e, by simpa only [Bool.not_eq_false', decide_eq_true_eq] using h⟩
theorem tok_len {l : List Nat} {p : Nat} (h : p ≤ l.length) : p + (tokL l p).length ≤ l.length := by
  obtain ⟨r, h1, _⟩ := tok_split (l := l) (p := p)
  have := congrArg List.length h1
  rw [List.length_drop, List.length_append] at this
  omega
theorem hd_sgl {l : List Nat} {p c : Nat} (h : l[p]? = some c) (s : sgl c) : hdL l p = [c] := by unfold hdL; rw [h]; exact if_pos s
theorem hd_tok {l : List Nat} {p c : Nat} (h : l[p]? = some c) (s : ¬ sgl c) : hdL l p = tokL l p := by unfold hdL; rw [h]; exact if_neg s
theorem hd_none {l : List Nat} {p : Nat} (h : l.length ≤ p) : hdL l p = [] := by unfold hdL; rw [List.getElem?_eq_none h]
theorem drop_c {l : List Nat} {p c : Nat} (h : l[p]? = some c) : l.drop p = c :: l.drop (p + 1) := by
  obtain ⟨h1, h2⟩ := List.getElem?_eq_some_iff.mp h
  rw [List.drop_eq_getElem_cons h1, h2]
theorem tok_sgl {l : List Nat} {p c : Nat} (h : l[p]? = some c) (s : sgl c) : tokL l p = [] := by
  unfold tokL
  rw [drop_c h, List.takeWhile_cons, decide_eq_true s]
  rfl
theorem tok_none {l : List Nat} {p : Nat} (h : l.length ≤ p) : tokL l p = [] := by
  unfold tokL
  rw [List.drop_of_length_le h]
  rfl
theorem tok_ne {l : List Nat} {p c : Nat} (h : l[p]? = some c) (s : ¬ sgl c) : tokL l p ≠ [] := by
  unfold tokL
  rw [drop_c h, List.takeWhile_cons, decide_eq_false s]
  exact List.cons_ne_nil _ _
theorem pf_next {l : List Nat} {p : Nat} (h : p < l.length) : PF l p = (p, hdL l p) :: PF l (p + (hdL l p).length) ∧ p + (hdL l p).length ≤ l.length := by
  obtain ⟨c, hc⟩ : ∃ c, l[p]? = some c := ⟨_, List.getElem?_eq_getElem h⟩
  have dr := drop_c hc
  by_cases s : sgl c
  · rw [hd_sgl hc s]
    refine ⟨?_, h⟩
    show PF l p = (p, [c]) :: PF l (p + 1)
    unfold PF
    rw [dr, pfold, if_pos s, if_pos rfl]
    rfl
  · rw [hd_tok hc s]
    obtain ⟨r, h1, h2, h3, h4⟩ := tok_split (l := l) (p := p)
    have ne := tok_ne hc s
    refine ⟨?_, tok_len (Nat.le_of_lt h)⟩
    unfold PF
    rw [h2, h1]
    generalize tokL l p = t at h3 ne ⊢
    rw [pfold_run h3, List.nil_append]
    rcases h4 with rfl | ⟨d, r', rfl, hd⟩
    · rw [pfold, if_neg ne, pfold, if_pos rfl, Nat.add_sub_cancel]
      rfl
    · rw [pfold, if_pos hd, if_neg ne, pfold, if_pos hd, if_pos rfl, Nat.add_sub_cancel]
      rfl
theorem pf_head {l : List Nat} {p : Nat} (h : p ≤ l.length) : ∃ r, PF l p = (p, hdL l p) :: r := by
  by_cases lt : p < l.length
  · exact ⟨_, (pf_next lt).1⟩
  · obtain rfl : p = l.length := by omega
    refine ⟨[], ?_⟩
    rw [hd_none (Nat.le_refl _)]
    unfold PF
    rw [List.drop_length]
    rfl
theorem pf_at {l : List Nat} {p i : Nat} (h : p ≤ l.length) (d : (PF l 0).drop i = PF l p) : (PF l 0)[i]? = some (p, hdL l p) := by
  obtain ⟨r, e⟩ := pf_head h
  have := congrArg (fun x : List (Nat × List Nat) => x[0]?) d
  rw [List.getElem?_drop, e] at this
  exact this
theorem pf_step {l : List Nat} {p i : Nat} (h : p < l.length) (d : (PF l 0).drop i = PF l p) : (PF l 0).drop (i + 1) = PF l (p + (hdL l p).length) := by
  rw [← List.drop_drop, d, (pf_next h).1]
  rfl
theorem hd_is {l : List Nat} {p c : Nat} (s : sgl c) : hdL l p = [c] ↔ l[p]? = some c := by
  constructor
  · intro h
    cases e : l[p]? with
    | none => rw [hd_none (List.getElem?_eq_none_iff.mp e)] at h; cases h
    | some d =>
      by_cases sd : sgl d
      · rw [hd_sgl e sd] at h
        injection h with h
        rw [h]
      · rw [hd_tok e sd] at h
        obtain ⟨_, _, _, h3, _⟩ := tok_split (l := l) (p := p)
        exact absurd s (h3 c (by rw [h]; exact List.mem_cons_self))
  · intro h
    exact hd_sgl h s
theorem hd_nil {l : List Nat} {p : Nat} : hdL l p = [] ↔ l.length ≤ p := by
  constructor
  · intro h
    cases e : l[p]? with
    | none => exact List.getElem?_eq_none_iff.mp e
    | some d =>
      by_cases sd : sgl d
      · rw [hd_sgl e sd] at h; cases h
      · rw [hd_tok e sd] at h
        exact absurd h (tok_ne e sd)
  · exact hd_none
theorem sgl_cases {c : Nat} {p : Nat → Prop} (h1 : p 40) (h2 : p 41) (h3 : p 32) : sgl c → p c := by
  rintro (rfl | rfl | rfl)
  · exact h1
  · exact h2
  · exact h3
/-! ## what is read -/
def nops (t : List Nat) : Nat := ((opsV (TS t)).map List.length).getD 0
theorem leaf_hd {l : List Nat} {p : Nat} : leafD (hdL l p) = leafD (tokL l p) := by
  cases e : l[p]? with
  | none =>
    have := List.getElem?_eq_none_iff.mp e
    rw [hd_none this, tok_none this]
  | some c =>
    by_cases s : sgl c
    · rw [hd_sgl e s, tok_sgl e s]
      have h0 : leafD [] = .none := isNo_t (by decide +kernel)
      have h1 : isNo (leafD [c]) = true := sgl_cases (p := fun c => isNo (leafD [c]) = true) (by decide +kernel) (by decide +kernel) (by decide +kernel) s
      rw [h0, isNo_t h1]
    · rw [hd_tok e s]
theorem ops_hd {l : List Nat} {p : Nat} : opsV (TS (hdL l p)) = opsV (TS (tokL l p)) := by
  cases e : l[p]? with
  | none =>
    have := List.getElem?_eq_none_iff.mp e
    rw [hd_none this, tok_none this]
  | some c =>
    by_cases s : sgl c
    · rw [hd_sgl e s, tok_sgl e s]
      have h0 : opsV (TS []) = none := by decide +kernel
      have h1 : (opsV (TS [c])) = none := Option.isNone_iff_eq_none.mp (sgl_cases (p := fun c => (opsV (TS [c])).isNone = true) (by decide +kernel) (by decide +kernel) (by decide +kernel) s)
      rw [h0, h1]
    · rw [hd_tok e s]
theorem ops_tok {l : List Nat} {p : Nat} {os : List V} (h : opsV (TS (hdL l p)) = some os) : hdL l p = tokL l p ∧ p < l.length := by
  cases e : l[p]? with
  | none =>
    have := List.getElem?_eq_none_iff.mp e
    rw [hd_none this] at h
    have h0 : opsV (TS []) = none := by decide +kernel
    rw [h0] at h
    cases h
  | some c =>
    refine ⟨?_, (List.getElem?_eq_some_iff.mp e).1⟩
    by_cases s : sgl c
    · rw [ops_hd, tok_sgl e s] at h
      have h0 : opsV (TS []) = none := by decide +kernel
      rw [h0] at h
      cases h
    · exact hd_tok e s
theorem nops_some {t : List Nat} {os : List V} (h : opsV (TS t) = some os) : nops t = os.length := by unfold nops; rw [h]; rfl
theorem nops_none {t : List Nat} (h : opsV (TS t) = none) : nops t = 0 := by unfold nops; rw [h]; rfl
def rds (R : Nat → PyData × Nat) (l : List Nat) : Nat → Nat → List PyData → PyData × Nat
  | 0, p, acc => if l[p]? = some 41 then (.tuple acc, p + 1) else (.none, p)
  | k + 1, p, acc => if l[p]? = some 32 then (if isNo (R (p + 1)).1 = true then (.none, (R (p + 1)).2) else rds R l k (R (p + 1)).2 (acc ++ [(R (p + 1)).1])) else (.none, p)
def rdo (R : Nat → PyData × Nat) (l : List Nat) (p : Nat) : PyData × Nat := if nops (tokL l p) = 0 then (.none, p) else rds R l (nops (tokL l p)) (p + (tokL l p).length) [.str (TS (tokL l p))]
def rd (l : List Nat) : Nat → Nat → PyData × Nat
  | 0, p => (.none, p)
  | n + 1, p => if l.length ≤ p then (.none, p) else if l[p]? = some 40 then rdo (rd l n) l (p + 1) else if isNo (leafD (tokL l p)) = true then (.none, p) else (leafD (tokL l p), p + (tokL l p).length)
def reD (l : List Nat) : PyData × Nat := if isNo (rd l 8 0).1 = true then (.none, (rd l 8 0).2) else if (rd l 8 0).2 < l.length then (.none, (rd l 8 0).2) else rd l 8 0
theorem numF_noL {a b : Bool} {o1 o2 : Option Nat} : noL (numF a b o1 o2) = true := by
  cases o1 with
  | none => rw [numF_n1]; rfl
  | some s =>
    cases o2 with
    | none => rw [numF_n2]; rfl
    | some d =>
      unfold numF
      dsimp only
      split
      · rfl
      split <;> rfl
theorem num_noL {l : List Nat} : noL (numD l) = true := by
  unfold numD numAB
  split <;> exact numF_noL
theorem leaf_noL {t : List Nat} : noL (leafD t) = true := by
  have v : ∀ m, noL (valD m) = true := fun m => by
    unfold valD
    split
    · rfl
    split
    · rfl
    split
    · split <;> rfl
    · exact num_noL
  unfold leafD
  split
  · rfl
  split
  · have := v (t.drop 1)
    generalize valD (t.drop 1) = d at this
    cases z : isNo d with
    | true => rw [isNo_t z]; rfl
    | false =>
      rw [wrap_ne (isNo_f z), noL, noLs, noLs, noLs, this]
      rfl
  · rfl
theorem rds_noL {R : Nat → PyData × Nat} {l : List Nat} (hR : ∀ p, noL (R p).1 = true) : ∀ (k p : Nat) (acc : List PyData), (∀ d ∈ acc, noL d = true) → noL (rds R l k p acc).1 = true
  | 0, p, acc, h => by
    unfold rds
    split
    · exact noLs_all.mpr h
    · rfl
  | k + 1, p, acc, h => by
    unfold rds
    split
    · split
      · rfl
      · refine rds_noL hR k _ _ fun d hd => ?_
        rcases List.mem_append.mp hd with hd | hd
        · exact h d hd
        · rw [List.mem_singleton.mp hd]; exact hR _
    · rfl
theorem rdo_noL {R : Nat → PyData × Nat} {l : List Nat} (hR : ∀ p, noL (R p).1 = true) (p : Nat) : noL (rdo R l p).1 = true := by
  unfold rdo
  split
  · rfl
  · exact rds_noL hR _ _ _ fun d hd => by rw [List.mem_singleton.mp hd]; rfl
theorem rd_noL {l : List Nat} : ∀ (n p : Nat), noL (rd l n p).1 = true
  | 0, p => rfl
  | n + 1, p => by
    unfold rd
    split
    · rfl
    split
    · exact rdo_noL (rd_noL n) _
    split
    · rfl
    · exact leaf_noL
theorem rds_le {R : Nat → PyData × Nat} {l : List Nat} (hR : ∀ p, p ≤ l.length → (R p).2 ≤ l.length) : ∀ (k p : Nat) (acc : List PyData), p ≤ l.length → (rds R l k p acc).2 ≤ l.length
  | 0, p, acc, h => by
    unfold rds
    split
    · rename_i e
      exact (List.getElem?_eq_some_iff.mp e).1
    · exact h
  | k + 1, p, acc, h => by
    unfold rds
    split
    · rename_i e
      have := hR (p + 1) (List.getElem?_eq_some_iff.mp e).1
      split
      · exact this
      · exact rds_le hR k _ _ this
    · exact h
theorem rd_le {l : List Nat} : ∀ (n p : Nat), p ≤ l.length → (rd l n p).2 ≤ l.length
  | 0, p, h => h
  | n + 1, p, h => by
    unfold rd
    split
    · exact h
    split
    · rename_i e
      have h1 : p + 1 ≤ l.length := (List.getElem?_eq_some_iff.mp e).1
      unfold rdo
      split
      · exact h1
      · exact rds_le (rd_le n) _ _ _ (tok_len h1)
    split
    · exact h
    · exact tok_len h
theorem free_of {H H1 : Hp} {r : Addr} (s : Same H H1) (e : H1 r = none) : H r = none := by
  cases q : H r with
  | none => rfl
  | some o => rw [s _ _ q] at e; cases e
/-! ## promises of the reading -/
def NewQ (H : Hp) (Q : VK) (l : List Nat) (q : Nat) (d : PyData) : Prop := ∀ (r : Addr) (e : V) (b : Nat) (H' : Hp), Same H H' → H' r = some (.tup [e, .int (b : Int)]) → Dh H' e d → (PF l 0).drop b = PF l q → q ≤ l.length → Q (.ref r) H'
structure OutR (C : Addr) (H : Hp) (Q : VK) (E : XK) (l : List Nat) (o : PyData × Nat) : Prop where
  good : isNo o.1 = false → NewQ H Q l o.2 o.1
  bad : isNo o.1 = true → ∀ H', Same H H' → TellsF C "position" H' (.int (o.2 : Int)) E
def spCp (C : Addr) : Sp := fun vs H Q E => ∃ (P : Addr) (rs : List Addr) (l : List Nat) (j p : Nat) (tk : List Nat), vs = [.ref P, .int (j : Int), .str (TS tk)] ∧ PcsH H P rs (PF l 0) ∧ (PF l 0).drop j = PF l p ∧ p ≤ l.length ∧ (hdL l p = tk → Q .non H) ∧ (hdL l p ≠ tk → TellsF C "position" H (.int (p : Int)) E)
def spRf (C : Addr) (n : Nat) : Sp := fun vs H Q E => ∃ (P : Addr) (rs : List Addr) (l : List Nat) (i p dp : Nat), vs = [.ref P, .int (i : Int), .int (dp : Int)] ∧ PcsH H P rs (PF l 0) ∧ (PF l 0).drop i = PF l p ∧ p ≤ l.length ∧ Tx l ∧ dp + n = 9 ∧ OutR C H Q E l (rd l n p)
def spRo (C : Addr) (n : Nat) : Sp := fun vs H Q E => ∃ (P : Addr) (rs : List Addr) (l : List Nat) (i p dp : Nat), vs = [.ref P, .int (i : Int), .int (dp : Int)] ∧ PcsH H P rs (PF l 0) ∧ (PF l 0).drop i = PF l p ∧ p ≤ l.length ∧ Tx l ∧ dp + n = 8 ∧ OutR C H Q E l (rdo (rd l n) l p)
def spRoP (C : Addr) : Nat → Sp
  | 0 => fun _ _ _ _ => False
  | n + 1 => spRo C n
def spRe (C : Addr) : Sp := fun vs H Q E => ∃ (v : V), vs = [v] ∧ ((∃ t, TyN H v t ∧ t ≠ "str" ∧ TellsF C "position" H (.int 0) E) ∨ ∃ l, v = .str (TS l) ∧ Tx l ∧ (isNo (reD l).1 = false → ∀ v H', Same H H' → Dh H' v (reD l).1 → Q v H') ∧ (isNo (reD l).1 = true → ∀ H', Same H H' → TellsF C "position" H' (.int ((reD l).2 : Int)) E))
structure OpsA (K : PySem.W.Frag) (w : World) (mg : Str → Option Value) (oA : Addr) : Prop where
  g : mg "OPERANDS" = some (.ref oA)
  d : ∃ es n, KDict K w oA es n
  at_ : ∀ x os, opsV x = some os → ∃ a, KDct K w oA x (.ref a) ∧ PySem.W.nsIn K oA x = some (some (.ref a)) ∧ ∀ H, SqT K H a os
  no : ∀ x, opsV x = none → PySem.W.nsIn K oA x = some none
theorem pcs_at {H : Hp} {P : Addr} {rs : List Addr} {ps : List (Nat × List Nat)} (h : PcsH H P rs ps) {i pos : Nat} {t : List Nat} (e : ps[i]? = some (pos, t)) : ∃ r, (rs.map V.ref)[i]? = some (.ref r) ∧ H r = some (.tup [.int (pos : Int), .str (TS t)]) := by
  obtain ⟨r, h1, h2⟩ := paired_get h.2 e
  exact ⟨r, by rw [List.getElem?_map, h1]; rfl, h2⟩
theorem ts_eq {a b : List Nat} : V.str (TS a) = V.str (TS b) ↔ a = b := ⟨fun q => by injection q with q; rw [← cl_ts a, ← cl_ts b, q], fun q => by rw [q]⟩
end K77
set_option Elab.async false
set_option linter.all false
set_option maxRecDepth 100000
set_option maxHeartbeats 4000000
namespace K77
open PySem PySem.Spec PyProof.Rows L2 Lc
section
variable {P : Program} {w : World} {K : PySem.W.Frag} {mg : Str → Option Value} {base : Heap} {f C fI oA : Addr} {fd fdI : FuncData} {u1 : Tok}
abbrev sCp : Stmt := top 24
abbrev nCp : List Str := ["pieces", "at", "wanted", "position", "piece"]
abbrev pCp : List Str := ["pieces", "at", "wanted"]
theorem scCp : FnScope nCp pCp (defScope sCp) := ⟨rfl, rfl, rfl, by decide +kernel, rfl, by decide +kernel, by decide +kernel⟩
section
theorem ok_Cp (F : Fun K "check_piece" "check_piece" sCp f fd) (T : Bt mg) (Z : ErF K mg "BadText" "position" C fI) (GI : FnOk P w K mg base CX0 1 fI fdI ["self", "position"] (spIni C "position")) (bI : Binds K fdI ["self", "position"] []) : FnOk P w K mg base (L2.CX P w) 3 f fd pCp (spCp C) := by
  refine F.okX scCp (fun vs H Q E h => ?_) (fun cdv A outer s H vs Q E hr h => ?_)
  · obtain ⟨P, rs, l, j, p, tk, rfl, _⟩ := h
    rfl
  · obtain ⟨P, rs, l, j, p, tk, rfl, pc, dj, lp, k1, k2⟩ := h
    have hrI : Room 2 _ := hr.mono (by first | decide | omega)
    refine ⟨_, (pss_cons (ps_asg (pe_ix ix_list (pv 0) (pv 1) (fun _ _ => rfl)) (pg_tup rfl (pgs_cons (pg_name (i := 3) scCp.nd rfl (.inl rfl)) (pgs_cons (pg_name (i := 4) scCp.nd rfl (.inl rfl)) pgs_nil))))
      (pss_one (ps_if (pt_cmpR op_ne (pv 4) (pv 2) (nomark _)) (pss_one (ps_raise (W := fun cls d _ H => E cls d H) rfl (takes_of rfl rfl rfl rfl) (pmk_oex Z.oex Z.iC Z.tI GI hrI bI .nil pass0 (by rfl) Z.gC (pa_cons (pv 3) pa_nil)))) pss_nil))), ?_⟩
    obtain ⟨r, e1, e2⟩ := pcs_at pc (pf_at lp dj)
    refine ⟨_, rfl, _, rfl, P, _, _, .ref r, rfl, rfl, SqL.of pc.1, at_of (j := j) rfl e1, r, _, rfl, SqT.of e2, rfl, _, _, rfl, _, _, rfl, rfl, ?_⟩
    refine ⟨_, rfl, _, rfl, rfl, _, rfl, ?_⟩
    show if (!decide (V.str (TS (hdL l p)) = V.str (TS tk))) = true then _ else _
    by_cases h : hdL l p = tk
    · rw [decide_eq_true (ts_eq.mpr h)]
      exact iteF (k1 h)
    · rw [decide_eq_false (fun q => h (ts_eq.mp q))]
      exact iteT ⟨_, rfl, by show 1 ≤ 1000; decide, tells_ofF (k2 h)⟩
end
abbrev sRf : Stmt := top 25
abbrev nRf : List Str := ["pieces", "at", "depth", "position", "piece", "leaf"]
abbrev pRf : List Str := ["pieces", "at", "depth"]
theorem scRf : FnScope nRf pRf (defScope sRf) := ⟨rfl, rfl, rfl, by decide +kernel, rfl, by decide +kernel, by decide +kernel⟩
section
variable {fA_ fB_ : Addr} {fdA_ fdB_ : FuncData}
theorem ok_Rf (F : Fun K "read_form" "read_form" sRf f fd) (T : Bt mg) (n : Nat) (mP : mg "DEEPEST" = some (.int 8 u1)) (Z : ErF K mg "BadText" "position" C fI) (GI : FnOk P w K mg base CX0 1 fI fdI ["self", "position"] (spIni C "position")) (bI : Binds K fdI ["self", "position"] [])
    (GA_ : FnOk P w K mg base (L2.CX P w) (5 + 2 * n) fA_ fdA_ ["pieces", "at", "depth"] (spRoP C n)) (mA_ : mg "read_operation" = some (.ref fA_)) (kA_ : PySem.W.keepIn K (.ref fA_) = true) (bA_ : Binds K fdA_ ["pieces", "at", "depth"] [])
    (GB_ : FnOk P w K mg base CX0 5 fB_ fdB_ ["token"] (spRl)) (mB_ : mg "read_leaf" = some (.ref fB_)) (kB_ : PySem.W.keepIn K (.ref fB_) = true) (bB_ : Binds K fdB_ ["token"] []) : FnOk P w K mg base (L2.CX P w) (5 + 2 * n + 1) f fd pRf (spRf C n) := by
  refine F.okX scRf (fun vs H Q E h => ?_) (fun cdv A outer s H vs Q E hr h => ?_)
  · obtain ⟨P, rs, l, i, p, dp, rfl, _⟩ := h
    rfl
  · obtain ⟨P, rs, l, i, p, dp, rfl, pc, di, lp, tx, ld, ko⟩ := h
    have hrA_ : Room ((5 + 2 * n)) _ := hr.mono (by first | decide | omega)
    have hrB_ : Room (5) _ := hr.mono (by first | decide | omega)
    have hrI : Room 2 _ := hr.mono (by first | decide | omega)
    refine ⟨_, (pss_cons (ps_asg (pe_ix ix_list (pv 0) (pv 1) (fun _ _ => rfl)) (pg_tup rfl (pgs_cons (pg_name (i := 3) scRf.nd rfl (.inl rfl)) (pgs_cons (pg_name (i := 4) scRf.nd rfl (.inl rfl)) pgs_nil))))
      (pss_cons (ps_if (pt_cmpR op_gt (pv 2) (pe_glob (v := .int 8) (by rfl) mP ⟨_, rfl⟩) (nomark _)) (pss_one (ps_raise (W := fun cls d _ H => E cls d H) rfl (takes_of rfl rfl rfl rfl) (pmk_oex Z.oex Z.iC Z.tI GI hrI bI .nil pass0 (by rfl) Z.gC (pa_cons (pv 3) pa_nil)))) pss_nil)
      (pss_cons (ps_if (pt_cmpR op_eq (pv 4) pe_str (nomark _)) (pss_one (ps_ret (pe_callS GA_ hrA_ (by rfl) mA_ kA_ bA_ (fun σ => passAt (W := fun cls d _ H => E cls d H) (takes_of rfl rfl rfl rfl) σ) (pa_cons (pv 0) (pa_cons (pe_op op_add (pv 1) pe_int) (pa_cons (pv 2) pa_nil)))))) pss_nil)
      (pss_cons (ps_set (i := 5) scRf.nd rfl (Or.inl rfl) (pe_call GB_ hrB_ (by rfl) mB_ kB_ bB_ .nil pass0 (pa_cons (pv 4) pa_nil)))
      (pss_cons (ps_if (pt_cmpR op_isN (pv 5) pe_non (nomark _)) (pss_one (ps_raise (W := fun cls d _ H => E cls d H) rfl (takes_of rfl rfl rfl rfl) (pmk_oex Z.oex Z.iC Z.tI GI hrI bI .nil pass0 (by rfl) Z.gC (pa_cons (pv 3) pa_nil)))) pss_nil)
      (pss_one (ps_ret (pe_tup (pa_cons (pv 5) (pa_cons (pe_op op_add (pv 1) pe_int) pa_nil)))))))))), ?_⟩
    have two : 2 ≤ sizeLine := by decide
    have par : CL (PySem.Str.ofString "(") = [40] := by decide +kernel
    obtain ⟨r, e1, e2⟩ := pcs_at pc (pf_at lp di)
    refine ⟨_, rfl, _, rfl, P, _, _, .ref r, rfl, rfl, SqL.of pc.1, at_of (j := i) rfl e1, r, _, rfl, SqT.of e2, rfl, _, _, rfl, _, _, rfl, rfl, ?_⟩
    refine ⟨_, rfl, _, _, rfl, rfl, _, rfl, ?_⟩
    cases n with
    | zero =>
      rw [decide_eq_true (by omega)]
      exact iteT ⟨_, rfl, by show 1 ≤ 1000; decide, tells_ofF (ko.bad rfl H (Same.refl H))⟩
    | succ n =>
    rw [decide_eq_false (by omega)]
    refine iteF ⟨_, rfl, rfl, _, rfl, ?_⟩
    rw [dec_ts par]
    have rdS : rd l (n + 1) p = if l.length ≤ p then (.none, p) else if l[p]? = some 40 then rdo (rd l n) l (p + 1) else if isNo (leafD (tokL l p)) = true then (.none, p) else (leafD (tokL l p), p + (tokL l p).length) := by rw [rd]
    by_cases op : hdL l p = [40]
    · rw [decide_eq_true op]
      have e40 := (hd_is (.inl rfl)).mp op
      have lt : p < l.length := (List.getElem?_eq_some_iff.mp e40).1
      have st := pf_step lt di
      rw [op] at st
      rw [rdS, if_neg (by omega), if_pos e40] at ko
      exact iteT ⟨_, rfl, _, rfl, _, _, rfl, rfl, _, rfl, P, rs, l, i + 1, p + 1, dp, by rw [show ((i + 1 : Nat) : Int) = (i : Int) + 1 by omega] <;> rfl, pc, st, lt, tx, by omega, ko⟩
    · rw [decide_eq_false op]
      have n40 : ¬ l[p]? = some 40 := fun z => op ((hd_is (.inl rfl)).mpr z)
      have th : Tx (hdL l p) := by
        cases e : l[p]? with
        | none => rw [hd_none (List.getElem?_eq_none_iff.mp e)]; exact ⟨Nat.zero_le _, nofun⟩
        | some c =>
          by_cases s : sgl c
          · rw [hd_sgl e s]
            exact ⟨by show 1 ≤ 400000; decide, fun x hx => by rw [List.mem_singleton.mp hx]; exact tx.ok c (List.mem_of_getElem? e)⟩
          · rw [hd_tok e s]
            exact tx.sub ((List.takeWhile_sublist _).trans (List.drop_sublist _ _))
      refine iteF ⟨_, rfl, hdL l p, rfl, th, fun v H' s' hv => ⟨_, rfl, rfl, _, rfl, ?_⟩⟩
      rw [dh_non hv]
      rw [leaf_hd] at hv
      cases z : isNo (leafD (hdL l p)) with
      | true =>
        refine iteT ⟨_, rfl, by show 1 ≤ 1000; decide, tells_ofF ?_⟩
        have q : rd l (n + 1) p = (.none, p) := by
          rw [rdS]
          by_cases ge : l.length ≤ p
          · rw [if_pos ge]
          · rw [if_neg ge, if_neg n40, if_pos (by rw [← leaf_hd]; exact z)]
        have := ko.bad
        rw [q] at this
        exact this rfl H' s'
      | false =>
        have z2 : isNo (leafD (tokL l p)) = false := by rw [← leaf_hd]; exact z
        have lt : p < l.length := by
          by_cases lt : p < l.length
          · exact lt
          · rw [tok_none (by omega)] at z2
            exact absurd z2 (by decide +kernel)
        have ht : hdL l p = tokL l p := by
          by_cases s : sgl (l[p]'lt)
          · rw [tok_sgl (List.getElem?_eq_getElem lt) s] at z2
            exact absurd z2 (by decide +kernel)
          · exact hd_tok (List.getElem?_eq_getElem lt) s
        have q : rd l (n + 1) p = (leafD (tokL l p), p + (tokL l p).length) := by
          rw [rdS, if_neg (by omega), if_neg n40, if_neg (by rw [z2]; decide)]
        have kg := ko.good
        rw [q] at kg
        have st := pf_step lt di
        rw [ht] at st
        refine iteF ⟨_, rfl, _, rfl, _, _, rfl, rfl, two, fun q hq => ?_⟩
        have zq := Same.upd (o := .tup [v, .int ((i : Int) + 1)]) hq
        exact kg z2 q v (i + 1) _ (s'.trans zq) (by rw [upd_same]; rfl) (hv.same zq) st (tok_len (Nat.le_of_lt lt))
end
end
end K77
set_option Elab.async false
set_option linter.all false
set_option maxRecDepth 100000
set_option maxHeartbeats 4000000
namespace K77
open PySem PySem.Spec PyProof.Rows L2 Lc
section
variable {P : Program} {w : World} {K : PySem.W.Frag} {mg : Str → Option Value} {base : Heap} {f C fI oA : Addr} {fd fdI : FuncData} {u1 : Tok}
abbrev sRo : Stmt := top 26
abbrev nRo : List Str := ["pieces", "at", "depth", "position", "word", "parts", "behind", "kind", "operand"]
abbrev pRo : List Str := ["pieces", "at", "depth"]
theorem scRo : FnScope nRo pRo (defScope sRo) := ⟨rfl, rfl, rfl, by decide +kernel, rfl, by decide +kernel, by decide +kernel⟩
section
variable {fA_ fB_ : Addr} {fdA_ fdB_ : FuncData}
theorem ok_Ro (F : Fun K "read_operation" "read_operation" sRo f fd) (T : Bt mg) (n : Nat) (OA : OpsA K w mg oA) (Z : ErF K mg "BadText" "position" C fI) (GI : FnOk P w K mg base CX0 1 fI fdI ["self", "position"] (spIni C "position")) (bI : Binds K fdI ["self", "position"] [])
    (GA_ : FnOk P w K mg base (L2.CX P w) 3 fA_ fdA_ ["pieces", "at", "wanted"] (spCp C)) (mA_ : mg "check_piece" = some (.ref fA_)) (kA_ : PySem.W.keepIn K (.ref fA_) = true) (bA_ : Binds K fdA_ ["pieces", "at", "wanted"] [])
    (GB_ : FnOk P w K mg base (L2.CX P w) (5 + 2 * n + 1) fB_ fdB_ ["pieces", "at", "depth"] (spRf C n)) (mB_ : mg "read_form" = some (.ref fB_)) (kB_ : PySem.W.keepIn K (.ref fB_) = true) (bB_ : Binds K fdB_ ["pieces", "at", "depth"] []) : FnOk P w K mg base (L2.CX P w) (5 + 2 * n + 1 + 1) f fd pRo (spRo C n) := by
  refine F.okX scRo (fun vs H Q E h => ?_) (fun cdv A outer s H vs Q E hr h => ?_)
  · obtain ⟨P, rs, l, i, p, dp, rfl, _⟩ := h
    rfl
  · obtain ⟨P, rs, l, i, p, dp, rfl, pc, di, lp, tx, ld, ko⟩ := h
    have hrA_ : Room (3) _ := hr.mono (by first | decide | omega)
    have hrB_ : Room ((5 + 2 * n + 1)) _ := hr.mono (by first | decide | omega)
    have hrI : Room 2 _ := hr.mono (by first | decide | omega)
    obtain ⟨es, nn, KD⟩ := OA.d
    refine ⟨_, (pss_cons (ps_asg (pe_ix ix_list (pv 0) (pv 1) (fun _ _ => rfl)) (pg_tup rfl (pgs_cons (pg_name (i := 3) scRo.nd rfl (.inl rfl)) (pgs_cons (pg_name (i := 4) scRo.nd rfl (.inl rfl)) pgs_nil))))
      (pss_cons (ps_if (pt_cmpR (op_notIn_kd KD) (pv 4) (pe_glob (v := .ref oA) (by rfl) OA.g rfl) (by rfl)) (pss_one (ps_raise (W := fun cls d _ H => E cls d H) rfl (takes_of rfl rfl rfl rfl) (pmk_oex Z.oex Z.iC Z.tI GI hrI bI .nil pass0 (by rfl) Z.gC (pa_cons (pv 3) pa_nil)))) pss_nil)
      (pss_cons (ps_set (i := 5) scRo.nd rfl (Or.inl rfl) (pe_lst (pa_cons (pv 4) pa_nil)))
      (pss_cons (ps_set (i := 6) scRo.nd rfl (Or.inl rfl) (pe_op op_add (pv 1) pe_int))
      (pss_cons (ps_for (passes_of rfl) rfl (pi_tup (pe_ix ix_kdict (pe_glob (v := .ref oA) (by rfl) OA.g rfl) (pv 4) (fun _ _ => rfl))) (pg_name (i := 7) scRo.nd rfl (.inl rfl)) (pss_cons (ps_expr (pe_callS GA_ hrA_ (by rfl) mA_ kA_ bA_ (fun σ => passAt (W := fun cls d _ H => E cls d H) (takes_of rfl rfl rfl rfl) σ) (pa_cons (pv 0) (pa_cons (pv 6) (pa_cons pe_str pa_nil)))))
      (pss_cons (ps_asg (pe_callS GB_ hrB_ (by rfl) mB_ kB_ bB_ (fun σ => passAt (W := fun cls d _ H => E cls d H) (takes_of rfl rfl rfl rfl) σ) (pa_cons (pv 0) (pa_cons (pe_op op_add (pv 6) pe_int) (pa_cons (pe_op op_add (pv 2) pe_int) pa_nil)))) (pg_tup rfl (pgs_cons (pg_name (i := 8) scRo.nd rfl (.inl rfl)) (pgs_cons (pg_name (i := 6) scRo.nd rfl (.inl rfl)) pgs_nil))))
      (pss_one (ps_expr (pe_bm PySem.F.plainAttrs_list PySem.F.slot_list_append PySem.F.type_list_append mt_append (pv 5) (pa_cons (pv 8) pa_nil)))))))
      (pss_cons (ps_expr (pe_callS GA_ hrA_ (by rfl) mA_ kA_ bA_ (fun σ => passAt (W := fun cls d _ H => E cls d H) (takes_of rfl rfl rfl rfl) σ) (pa_cons (pv 0) (pa_cons (pv 6) (pa_cons pe_str pa_nil)))))
      (pss_one (ps_ret (pe_tup (pa_cons (pe_callTy call_tuple_of (by rfl) T.tuple boot_tuple (pa_cons (pv 5) pa_nil)) (pa_cons (pe_op op_add (pv 6) pe_int) pa_nil))))))))))), ?_⟩
    have two : 2 ≤ sizeLine := by decide
    obtain ⟨r, e1, e2⟩ := pcs_at pc (pf_at lp di)
    refine ⟨_, rfl, _, rfl, P, _, _, .ref r, rfl, rfl, SqL.of pc.1, at_of (j := i) rfl e1, r, _, rfl, SqT.of e2, rfl, _, _, rfl, _, _, rfl, rfl, ?_⟩
    cases ops : opsV (TS (hdL l p)) with
    | none =>
      refine ⟨_, rfl, TS (hdL l p), _, rfl, rfl, OA.no _ ops, _, rfl, iteT ⟨_, rfl, by show 1 ≤ 1000; decide, tells_ofF ?_⟩⟩
      have q : rdo (rd l n) l p = (.none, p) := by
        unfold rdo
        rw [if_pos (nops_none (by rw [← ops_hd]; exact ops))]
      have := ko.bad
      rw [q] at this
      exact this rfl H (Same.refl H)
    | some os =>
    obtain ⟨ht, lt⟩ := ops_tok ops
    obtain ⟨_, _, l1, l3, _⟩ := opsV_words ops
    have st := pf_step lt di
    obtain ⟨oa, kd1, kd2, hoa⟩ := OA.at_ _ os ops
    have q0 : rdo (rd l n) l p = rds (rd l n) l os.length (p + (tokL l p).length) [.str (TS (tokL l p))] := by
      unfold rdo
      rw [nops_some (by rw [← ht]; exact ops), if_neg (by omega)]
    rw [q0] at ko
    have lt2 := tok_len (Nat.le_of_lt lt)
    rw [ht] at ops kd1 kd2 st ⊢
    have tks : Tx (tokL l p) := tx.sub ((List.takeWhile_sublist _).trans (List.drop_sublist _ _))
    generalize tokL l p = wd at *
    generalize hres : rds (rd l n) l os.length (p + wd.length) [.str (TS wd)] = res at ko
    refine ⟨_, rfl, TS wd, _, rfl, rfl, kd2, _, rfl, iteF ?_⟩
    refine ⟨_, rfl, by show 1 ≤ sizeLine; decide, fun Z hZ => ?_⟩
    have zZ := Same.upd (o := .lst [.str (TS wd)]) hZ
    refine ⟨_, rfl, _, _, rfl, rfl, ?_⟩
    refine ⟨_, rfl, oA, TS wd, _, rfl, rfl, kd1, oa, rfl, ⟨_, hoa _⟩, for_tup (K := K) (a := oa) (xs := os) (fun j σ H' => ∃ (us : List V) (acc : List PyData) (b q : Nat) (x7 x8 : Option V), σ = [some (.ref P), some (.int (i : Int)), some (.int (dp : Int)), some (.int (p : Int)), some (.str (TS wd)), some (.ref Z), some (.int (b : Int)), x7, x8] ∧ (PF l 0).drop b = PF l q ∧ q ≤ l.length ∧ rds (rd l n) l (os.length - j) q acc = res ∧ H' Z = some (.lst us) ∧ DhAll H' us acc ∧ (∀ d ∈ acc, noL d = true) ∧ us.length = j + 1 ∧ Same H H') ⟨[.str (TS wd)], [.str (TS wd)], i + 1, p + wd.length, none, none, by rw [show ((i + 1 : Nat) : Int) = (i : Int) + 1 by omega] <;> rfl, st, lt2, hres, upd_same, .cons (.str _) .nil, fun d hd => by rw [List.mem_singleton.mp hd]; rfl, rfl, zZ⟩ (fun _ _ H' _ _ => hoa H') ?_ ?_⟩
    · rintro j x σ H1 hx ⟨us, acc, b, q, x7, x8, rfl, dq, lq, er, hZ1, du, nl, lu, s1⟩
      have lj : j < os.length := (List.getElem?_eq_some_iff.mp hx).1
      rw [show os.length - j = (os.length - (j + 1)) + 1 by omega, rds] at er
      have pc1 := pc.same s1
      have sp : PySem.Str.ofString " " = TS [32] := by decide +kernel
      refine ⟨_, rfl, _, rfl, P, rs, l, b, q, [32], by rw [sp] <;> rfl, pc1, dq, lq, fun h32 => ?_, fun h32 => ?_⟩
      · have e32 := (hd_is (.inr (.inr rfl))).mp h32
        have ltq : q < l.length := (List.getElem?_eq_some_iff.mp e32).1
        have st1 := pf_step ltq dq
        rw [h32] at st1
        rw [if_pos e32] at er
        refine ⟨_, rfl, _, rfl, _, _, rfl, rfl, _, rfl, _, _, rfl, rfl, P, rs, l, b + 1, q + 1, dp + 1, by rw [show ((b + 1 : Nat) : Int) = (b : Int) + 1 by omega, show ((dp + 1 : Nat) : Int) = (dp : Int) + 1 by omega] <;> rfl, pc1, st1, ltq, tx, by omega, fun z r2 e b2 H2 s2 hr2 he d2 l2 => ?_, fun z H2 s2 => ?_⟩
        · rw [if_neg (by rw [z]; decide)] at er
          refine ⟨r2, _, rfl, SqT.of hr2, rfl, _, _, rfl, _, _, rfl, rfl, ?_⟩
          have hZ2 := s2 _ _ hZ1
          refine ⟨_, rfl, .inl ⟨rfl, _, SqL.of hZ2⟩, _, rfl, Z, _, _, rfl, rfl, hZ2, Nat.lt_of_le_of_lt (show _ ≤ 4 by omega) (by decide), ?_⟩
          have kt : SameT H2 (upd H2 Z (.lst (us ++ [e]))) := SameT.lst hZ2
          have nr : noL (rd l n (q + 1)).1 = true := rd_noL n _
          refine ⟨us ++ [e], _, b2, _, _, _, rfl, d2, l2, er, upd_same, DhAll.append (DhAll.t kt (DhAll.same s2 du) (noLs_all.mpr nl)) (.cons (he.t kt nr) .nil), fun d hd => ?_, by rw [List.length_append, lu]; rfl, fun b' o' eb' => by rw [upd_ne (ne_of_none eb' hZ)]; exact s2 _ _ (s1 _ _ eb')⟩
          rcases List.mem_append.mp hd with hd | hd
          · exact nl d hd
          · rw [List.mem_singleton.mp hd]; exact nr
        · rw [if_pos z] at er
          have := ko.bad
          rw [← er] at this
          exact this rfl H2 (s1.trans s2)
      · have n32 : ¬ l[q]? = some 32 := fun z => h32 ((hd_is (.inr (.inr rfl))).mpr z)
        rw [if_neg n32] at er
        have := ko.bad
        rw [← er] at this
        exact this rfl H1 s1
    · rintro σ H1 ⟨us, acc, b, q, x7, x8, rfl, dq, lq, er, hZ1, du, nl, lu, s1⟩
      rw [Nat.sub_self, rds] at er
      have sp : PySem.Str.ofString ")" = TS [41] := by decide +kernel
      refine ⟨_, rfl, _, rfl, P, rs, l, b, q, [41], by rw [sp] <;> rfl, pc.same s1, dq, lq, fun h41 => ?_, fun h41 => ?_⟩
      · have e41 := (hd_is (.inr (.inl rfl))).mp h41
        have ltq : q < l.length := (List.getElem?_eq_some_iff.mp e41).1
        have st1 := pf_step ltq dq
        rw [h41] at st1
        rw [if_pos e41] at er
        have kg := ko.good
        rw [← er] at kg
        refine ⟨_, rfl, Z, _, rfl, .inl ⟨SqL.of hZ1, fun q' hq => ?_⟩⟩
        have zq := Same.upd (o := .tup us) hq
        refine ⟨_, rfl, _, _, rfl, rfl, two, fun u hu => ?_⟩
        have zu := Same.upd (o := .tup [.ref q', .int ((b : Int) + 1)]) hu
        exact kg rfl u (.ref q') (b + 1) _ ((s1.trans zq).trans zu) (by rw [upd_same]; rfl) (.tup (zu _ _ upd_same) (DhAll.same (zq.trans zu) du)) st1 ltq
      · have n41 : ¬ l[q]? = some 41 := fun z => h41 ((hd_is (.inr (.inl rfl))).mpr z)
        rw [if_neg n41] at er
        have := ko.bad
        rw [← er] at this
        exact this rfl H1 s1
end
abbrev sRe : Stmt := top 27
abbrev nRe : List Str := ["text", "pieces", "expression", "behind"]
abbrev pRe : List Str := ["text"]
theorem scRe : FnScope nRe pRe (defScope sRe) := ⟨rfl, rfl, rfl, by decide +kernel, rfl, by decide +kernel, by decide +kernel⟩
section
variable {fA_ fB_ fC_ : Addr} {fdA_ fdB_ fdC_ : FuncData}
theorem ok_Re (F : Fun K "read_expression" "read_expression" sRe f fd) (T : Bt mg) (Z : ErF K mg "BadText" "position" C fI) (GI : FnOk P w K mg base CX0 1 fI fdI ["self", "position"] (spIni C "position")) (bI : Binds K fdI ["self", "position"] [])
    (GA_ : FnOk P w K mg base CX0 1 fA_ fdA_ ["text"] (spPo)) (mA_ : mg "pieces_of" = some (.ref fA_)) (kA_ : PySem.W.keepIn K (.ref fA_) = true) (bA_ : Binds K fdA_ ["text"] [])
    (GB_ : FnOk P w K mg base (L2.CX P w) 22 fB_ fdB_ ["pieces", "at", "depth"] (spRf C 8)) (mB_ : mg "read_form" = some (.ref fB_)) (kB_ : PySem.W.keepIn K (.ref fB_) = true) (bB_ : Binds K fdB_ ["pieces", "at", "depth"] [])
    (GC_ : FnOk P w K mg base (L2.CX P w) 3 fC_ fdC_ ["pieces", "at", "wanted"] (spCp C)) (mC_ : mg "check_piece" = some (.ref fC_)) (kC_ : PySem.W.keepIn K (.ref fC_) = true) (bC_ : Binds K fdC_ ["pieces", "at", "wanted"] []) : FnOk P w K mg base (L2.CX P w) 23 f fd pRe (spRe C) := by
  refine F.okX scRe (fun vs H Q E h => ?_) (fun cdv A outer s H vs Q E hr h => ?_)
  · obtain ⟨v, rfl, _⟩ := h
    rfl
  · obtain ⟨v, rfl, k⟩ := h
    have hrA_ : Room (1) _ := hr.mono (by first | decide | omega)
    have hrB_ : Room (22) _ := hr.mono (by first | decide | omega)
    have hrC_ : Room (3) _ := hr.mono (by first | decide | omega)
    have hrI : Room 2 _ := hr.mono (by first | decide | omega)
    refine ⟨_, (pss_cons (ps_if (pt_not (pt_val (pe_callB call_isi (by rfl) T.isi boot_isinstance (pa_cons (pv 0) (pa_cons (pe_bltn (v := .ty "str") (by rfl) T.str boot_str rfl) pa_nil))))) (pss_one (ps_raise (W := fun cls d _ H => E cls d H) rfl (takes_of rfl rfl rfl rfl) (pmk_oex Z.oex Z.iC Z.tI GI hrI bI .nil pass0 (by rfl) Z.gC (pa_cons pe_int pa_nil)))) pss_nil)
      (pss_cons (ps_set (i := 1) scRe.nd rfl (Or.inl rfl) (pe_call GA_ hrA_ (by rfl) mA_ kA_ bA_ .nil pass0 (pa_cons (pv 0) pa_nil)))
      (pss_cons (ps_asg (pe_callS GB_ hrB_ (by rfl) mB_ kB_ bB_ (fun σ => passAt (W := fun cls d _ H => E cls d H) (takes_of rfl rfl rfl rfl) σ) (pa_cons (pv 1) (pa_cons pe_int (pa_cons pe_int pa_nil)))) (pg_tup rfl (pgs_cons (pg_name (i := 2) scRe.nd rfl (.inl rfl)) (pgs_cons (pg_name (i := 3) scRe.nd rfl (.inl rfl)) pgs_nil))))
      (pss_cons (ps_expr (pe_callS GC_ hrC_ (by rfl) mC_ kC_ bC_ (fun σ => passAt (W := fun cls d _ H => E cls d H) (takes_of rfl rfl rfl rfl) σ) (pa_cons (pv 1) (pa_cons (pv 3) (pa_cons pe_str pa_nil)))))
      (pss_one (ps_ret (pv 2))))))), ?_⟩
    rcases k with ⟨t, ty, nt, k⟩ | ⟨l, rfl, tx, k1, k2⟩
    · refine ⟨_, rfl, v, .ty "str", _, _, _, rfl, .ty "str", ty.x, kit_str ty.mem, _, rfl, ?_⟩
      rw [show (t == "str") = false by simpa using nt]
      exact iteT ⟨by show 1 ≤ 1000; decide, tells_ofF k⟩
    · have ts : TyN H (.str (TS l)) "str" := .str _
      refine ⟨_, rfl, _, .ty "str", _, _, _, rfl, .ty "str", ts.x, kit_str ts.mem, _, rfl, iteF ?_⟩
      refine ⟨_, rfl, l, rfl, tx.len, fun P rs H1 s1 pc => ?_⟩
      have pc : PcsH H1 P rs (PF l 0) := pc
      have lr : (rd l 8 0).2 ≤ l.length → (rd l 8 0).2 = l.length ∨ (rd l 8 0).2 < l.length := fun h => by omega
      refine ⟨_, rfl, P, rs, l, 0, 0, 1, rfl, pc, List.drop_zero, Nat.zero_le _, tx, by omega, fun z r e b H2 s2 hr he db lb => ?_, fun z H2 s2 => ?_⟩
      · refine ⟨r, _, rfl, SqT.of hr, rfl, _, _, rfl, _, _, rfl, rfl, ?_⟩
        have em : PySem.Str.ofString "" = TS [] := by decide +kernel
        refine ⟨_, rfl, _, rfl, P, rs, l, b, (rd l 8 0).2, [], by rw [em] <;> rfl, pc.same s2, db, lb, fun hn => ?_, fun hn => ?_⟩
        · have ll := hd_nil.mp hn
          have q : reD l = rd l 8 0 := by unfold reD; rw [if_neg (by rw [z]; decide), if_neg (by omega)]
          rw [q] at k1
          exact ⟨_, rfl, k1 z e H2 (s1.trans s2) he⟩
        · have ll : (rd l 8 0).2 < l.length := by
            by_cases ll : (rd l 8 0).2 < l.length
            · exact ll
            · exact absurd (hd_nil.mpr (by omega)) hn
          have q : reD l = (.none, (rd l 8 0).2) := by unfold reD; rw [if_neg (by rw [z]; decide), if_pos ll]
          rw [q] at k2
          exact k2 rfl H2 (s1.trans s2)
      · have q : reD l = (.none, (rd l 8 0).2) := by unfold reD; rw [if_pos z]
        rw [q] at k2
        exact k2 rfl H2 (s1.trans s2)
end
theorem fn_noneX {CX : CXT} {f : Addr} {fd : FuncData} {ps : List Str} {k : Nat} : FnOk P w K mg base CX k f fd ps (spRoP C 0) := ⟨fun _ _ _ _ h => h.elim, fun _ _ _ _ _ _ _ _ _ _ _ _ _ h => h.elim⟩
theorem ok_RfN {fO fC fL : Addr} {fdO fdC fdL : FuncData} (F : Fun K "read_form" "read_form" sRf f fd) (FO : Fun K "read_operation" "read_operation" sRo fO fdO) (T : Bt mg) (OA : OpsA K w mg oA) (mP : mg "DEEPEST" = some (.int 8 u1)) (Z : ErF K mg "BadText" "position" C fI) (GI : FnOk P w K mg base CX0 1 fI fdI ["self", "position"] (spIni C "position")) (bI : Binds K fdI ["self", "position"] [])
    (GC : FnOk P w K mg base (L2.CX P w) 3 fC fdC ["pieces", "at", "wanted"] (spCp C)) (mC : mg "check_piece" = some (.ref fC)) (kC : PySem.W.keepIn K (.ref fC) = true) (bC : Binds K fdC ["pieces", "at", "wanted"] [])
    (GL : FnOk P w K mg base CX0 5 fL fdL ["token"] spRl) (mL : mg "read_leaf" = some (.ref fL)) (kL : PySem.W.keepIn K (.ref fL) = true) (bL : Binds K fdL ["token"] [])
    (mF : mg "read_form" = some (.ref f)) (kF : PySem.W.keepIn K (.ref f) = true) (bF : Binds K fd ["pieces", "at", "depth"] []) (mO : mg "read_operation" = some (.ref fO)) (kO : PySem.W.keepIn K (.ref fO) = true) (bO : Binds K fdO ["pieces", "at", "depth"] []) : ∀ n : Nat, FnOk P w K mg base (L2.CX P w) (5 + 2 * n + 1) f fd ["pieces", "at", "depth"] (spRf C n)
  | 0 => ok_Rf F T 0 mP Z GI bI (fn_noneX) mO kO bO GL mL kL bL
  | n + 1 => by
    have G := ok_RfN F FO T OA mP Z GI bI GC mC kC bC GL mL kL bL mF kF bF mO kO bO n
    have GO := ok_Ro FO T n OA Z GI bI GC mC kC bC G mF kF bF
    rw [show 5 + 2 * n + 1 + 1 = 5 + 2 * (n + 1) by omega] at GO
    exact ok_Rf F T (n + 1) mP Z GI bI GO mO kO bO GL mL kL bL
end
end K77
set_option Elab.async false
set_option linter.all false
set_option maxRecDepth 100000
set_option maxHeartbeats 4000000
namespace K77
open PySem PySem.Spec PyProof.Rows L2 Lc
/-! ## the law's own reading -/
theorem in_words {z : Str} : ∀ {ws : List Str}, inV (.str z) (ws.map V.str) = true → z ∈ ws
  | [], h => by cases h
  | x :: r, h => by
    have h : (eqV (.str x) (.str z) || inV (.str z) (r.map V.str)) = true := h
    rcases Bool.or_eq_true_iff.mp h with h | h
    · have h : (x == z) = true := h
      rw [beq_iff_eq] at h
      rw [h]; exact List.mem_cons_self
    · exact List.mem_cons_of_mem _ (in_words h)
abbrev w1 : List Str := ["not", "missing"]
abbrev w2 : List Str := ["plus", "minus", "times", "over", "less", "same", "both", "either"]
theorem ops_words (z : Str) : inV (.str z) (w1.map V.str) = decide (((opsV z).map List.length).getD 0 = 1) ∧ inV (.str z) (w2.map V.str) = decide (((opsV z).map List.length).getD 0 = 2) ∧ decide (V.str z = V.str "if") = decide (((opsV z).map List.length).getD 0 = 3) ∧ ((opsV z).map List.length).getD 0 ≤ 3 := by
  cases e : opsV z with
  | none =>
    have no : ∀ ws : List Str, (∀ x ∈ ws, (opsV x).isSome = true) → z ∉ ws := fun ws h m => by
      have := h z m
      rw [e] at this
      cases this
    have f1 : inV (.str z) (w1.map V.str) = false := by
      cases q : inV (.str z) (w1.map V.str) with
      | false => rfl
      | true => exact absurd (in_words q) (no w1 (by decide +kernel))
    have f2 : inV (.str z) (w2.map V.str) = false := by
      cases q : inV (.str z) (w2.map V.str) with
      | false => rfl
      | true => exact absurd (in_words q) (no w2 (by decide +kernel))
    have f3 : decide (V.str z = V.str "if") = false := decide_eq_false fun q => no ["if"] (by decide +kernel) (by injection q with q; rw [q]; exact List.mem_cons_self)
    exact ⟨f1, f2, f3, Nat.zero_le _⟩
  | some os =>
    show inV (.str z) (w1.map V.str) = decide (os.length = 1) ∧ inV (.str z) (w2.map V.str) = decide (os.length = 2) ∧ decide (V.str z = V.str "if") = decide (os.length = 3) ∧ os.length ≤ 3
    have key : ∀ z os, opsV z = some os → inV (.str z) (w1.map V.str) = decide (os.length = 1) ∧ inV (.str z) (w2.map V.str) = decide (os.length = 2) ∧ decide (V.str z = V.str "if") = decide (os.length = 3) ∧ os.length ≤ 3 := by
      refine opsV_all ?_ ?_ ?_ ?_ ?_ ?_ ?_ ?_ ?_ ?_ ?_ <;> decide +kernel
    exact key z os e
theorem nops_le (t : List Nat) : nops t ≤ 3 := (ops_words (TS t)).2.2.2
def spOps : Sp := fun vs H Q _ => ∃ (l : List Nat), vs = [.str (TS l)] ∧ ∀ H', Same H H' → Q (.int (nops l : Int)) H'
def spTok : Sp := fun vs H Q _ => ∃ (l : List Nat) (p : Nat), vs = [.str (TS l), .int (p : Int)] ∧ Tx l ∧ p ≤ l.length ∧ Q (.str (TS (tokL l p))) H
def spLr (n : Nat) : Sp := fun vs H Q _ => ∃ (l : List Nat) (p dp : Nat), vs = [.str (TS l), .int (p : Int), .int (dp : Int)] ∧ Tx l ∧ p ≤ l.length ∧ dp + n = 9 ∧ ∀ (r : Addr) (v : V) (H' : Hp), H r = none → Same H H' → H' r = some (.lst [v, .int ((rd l n p).2 : Int)]) → Dh H' v (rd l n p).1 → Q (.ref r) H'
def sgs2 : Str := " ()"
theorem sgs2_in (c : Nat) : decide (c ∈ (PySem.Str.ofString " ()").cps.toList) = decide (sgl c) := by
  have e : (PySem.Str.ofString " ()").cps.toList = [32, 40, 41] := by decide +kernel
  rw [e]
  exact decide_eq_decide.mpr (by simp [sgl]; omega)
theorem at_tx {l : List Nat} {p c : Nat} (h : l[p]? = some c) : atI (TS l).cps.toList ((p : Nat) : Int) = some c := atI_nat (by rw [show (TS l).cps.toList = l from cl_ts l]; exact h)
theorem cut_one {l : List Nat} {p : Nat} : cutS (TS l) (some (p : Int)) (some ((p : Int) + 1)) = TS ((l.drop p).take 1) := by
  rw [show ((p : Int) + 1) = ((p + 1 : Nat) : Int) by omega, cutG (Nat.le_succ p), show p.succ - p = 1 by omega]
theorem dec_at {l : List Nat} {p c : Nat} {z : Str} (e : CL z = [c]) : decide (V.str (TS ((l.drop p).take 1)) = V.str z) = decide (l[p]? = some c) := by
  rw [dec_take e, List.head?_drop]
theorem open_cl : CL (PySem.Str.ofString "(") = [40] := by decide +kernel
theorem close_cl : CL (PySem.Str.ofString ")") = [41] := by decide +kernel
theorem blank_cl : CL (PySem.Str.ofString " ") = [32] := by decide +kernel
section
variable {P : Program} {w : World} {K : PySem.W.Frag} {mg : Str → Option Value} {base : Heap} {f : Addr} {fd : FuncData}
abbrev sOps : Stmt := top 42
abbrev nOps : List Str := ["_law_word"]
abbrev pOps : List Str := ["_law_word"]
theorem scOps : FnScope nOps pOps (defScope sOps) := ⟨rfl, rfl, rfl, by decide +kernel, rfl, by decide +kernel, by decide +kernel⟩
section
theorem ok_Ops (F : Fun K "_law_operands" "_law_operands" sOps f fd) (T : Bt mg) : FnOk P w K mg base CX0 1 f fd pOps (spOps) := by
  refine F.ok scOps (fun vs H Q E h => ?_) (fun cdv A outer s H vs Q E hr h => ?_)
  · obtain ⟨l, rfl, _⟩ := h
    rfl
  · obtain ⟨l, rfl, k⟩ := h
    refine ⟨_, (pss_cons (ps_if (pt_cmpR op_in_seq (pv 0) (pe_lst (pa_cons pe_str (pa_cons pe_str pa_nil))) (by rfl)) (pss_one (ps_ret pe_int)) pss_nil)
      (pss_cons (ps_if (pt_cmpR op_in_seq (pv 0) (pe_lst (pa_cons pe_str (pa_cons pe_str (pa_cons pe_str (pa_cons pe_str (pa_cons pe_str (pa_cons pe_str (pa_cons pe_str (pa_cons pe_str pa_nil))))))))) (by rfl)) (pss_one (ps_ret pe_int)) pss_nil)
      (pss_one (ps_ret (pe_ifExp (pt_cmpR op_eq (pv 0) pe_str (nomark _)) pe_int pe_int))))), ?_⟩
    have two : 2 ≤ sizeLine := by decide
    have one : 1 ≤ sizeLine := by decide
    obtain ⟨h1, h2, h3, h4⟩ := ops_words (TS l)
    have k : ∀ n H', nops l = n → Same H H' → Q (.int (n : Int)) H' := fun n H' e s => by rw [← e]; exact k H' s
    refine ⟨_, rfl, two, fun p hp => ⟨p, _, rfl, .inl (SqL.of upd_same), rfl, rfl, _, rfl, ?_⟩⟩
    have zp := Same.upd (o := .lst [.str "not", .str "missing"]) hp
    show if inV (V.str (TS l)) (w1.map V.str) = true then _ else _
    rw [h1]
    generalize upd H p (.lst [.str "not", .str "missing"]) = H1 at zp ⊢
    by_cases n1 : ((opsV (TS l)).map List.length).getD 0 = 1
    · rw [decide_eq_true n1]
      exact iteT (k 1 _ n1 zp)
    rw [decide_eq_false n1]
    refine iteF ⟨_, rfl, by decide, fun q hq => ⟨q, _, rfl, .inl (SqL.of upd_same), rfl, rfl, _, rfl, ?_⟩⟩
    have zq := Same.upd (o := .lst [.str "plus", .str "minus", .str "times", .str "over", .str "less", .str "same", .str "both", .str "either"]) hq
    show if inV (V.str (TS l)) (w2.map V.str) = true then _ else _
    rw [h2]
    generalize upd H1 q (.lst [.str "plus", .str "minus", .str "times", .str "over", .str "less", .str "same", .str "both", .str "either"]) = H2 at zq ⊢
    by_cases n2 : ((opsV (TS l)).map List.length).getD 0 = 2
    · rw [decide_eq_true n2]
      exact iteT (k 2 _ n2 (zp.trans zq))
    rw [decide_eq_false n2]
    refine iteF ⟨_, rfl, rfl, _, rfl, ?_⟩
    rw [h3]
    by_cases n3 : ((opsV (TS l)).map List.length).getD 0 = 3
    · rw [decide_eq_true n3]
      exact iteT (k 3 _ n3 (zp.trans zq))
    · rw [decide_eq_false n3]
      exact iteF (k 0 _ (show ((opsV (TS l)).map List.length).getD 0 = 0 by omega) (zp.trans zq))
end
abbrev sTok : Stmt := top 47
abbrev nTok : List Str := ["_law_text", "_law_at", "_law_end"]
abbrev pTok : List Str := ["_law_text", "_law_at"]
theorem scTok : FnScope nTok pTok (defScope sTok) := ⟨rfl, rfl, rfl, by decide +kernel, rfl, by decide +kernel, by decide +kernel⟩
section
theorem ok_Tok (F : Fun K "_law_token" "_law_token" sTok f fd) (T : Bt mg) : FnOk P w K mg base CX0 1 f fd pTok (spTok) := by
  refine F.ok scTok (fun vs H Q E h => ?_) (fun cdv A outer s H vs Q E hr h => ?_)
  · obtain ⟨l, p, rfl, _⟩ := h
    rfl
  · obtain ⟨l, p, rfl, tx, lp, k⟩ := h
    refine ⟨_, (pss_cons (ps_set (i := 2) scTok.nd rfl (Or.inl rfl) (pv 1))
      (pss_cons (ps_while PassesOwn.never (PW.pt (pw_and (pt_cmpR op_lt (pv 2) (pe_callB call_len_str (by rfl) T.len PySem.boot_len (pa_cons (pv 0) pa_nil)) (nomark _)) (pw_and1 (pt_cmpR op_notIn_sign (pe_ix ix_str (pv 0) (pv 2) (fun _ _ => rfl)) pe_str (by rfl))))) (pss_one (ps_set (i := 2) scTok.nd rfl (Or.inl rfl) (pe_op op_add (pv 2) pe_int))))
      (pss_one (ps_ret (pe_slice sl_str (pv 0) (po_some (pv 1)) (po_some (pv 2))))))), ?_⟩
    obtain ⟨r, t1, t2, t3, t4⟩ := tok_split (l := l) (p := p)
    have tl := tok_len lp
    refine ⟨_, rfl, ?_⟩
    refine ⟨fun m σ H' => ∃ (e : Nat), σ = [some (.str (TS l)), some (.int (p : Int)), some (.int (e : Int))] ∧ p ≤ e ∧ e + m = p + (tokL l p).length ∧ H' = H, ⟨_, p, rfl, Nat.le_refl _, rfl, rfl⟩, ?_⟩
    rintro m σ H' ⟨e, rfl, pe, em, rfl⟩
    refine ⟨_, rfl, _, rfl, _, rfl, tx.line, _, _, rfl, rfl, _, rfl, ?_⟩
    rw [ts_len]
    have stop : m = 0 → l[e]? = none ∨ ∃ c, l[e]? = some c ∧ sgl c := fun m0 => by
      obtain rfl : e = p + (tokL l p).length := by omega
      have : l[p + (tokL l p).length]? = r.head? := by rw [← List.head?_drop, t2]
      rw [this]
      rcases t4 with rfl | ⟨d, r', rfl, hd⟩
      · exact .inl rfl
      · exact .inr ⟨d, rfl, hd⟩
    have go : m ≠ 0 → ∃ c, l[e]? = some c ∧ ¬ sgl c := fun m0 => by
      have lt : e - p < (tokL l p).length := by omega
      refine ⟨(tokL l p)[e - p], ?_, t3 _ (List.getElem_mem lt)⟩
      have q : l[e]? = (l.drop p)[e - p]? := by rw [List.getElem?_drop]; congr 1; omega
      rw [q, t1, List.getElem?_append_left lt, List.getElem?_eq_getElem lt]
    have fin : m = 0 → Q (.str (cutS (TS l) (some (p : Int)) (some (e : Int)))) H' := fun m0 => by
      rw [cutG pe, show e - p = (tokL l p).length by omega, t1, List.take_left]
      exact k
    by_cases m0 : m = 0
    · rcases stop m0 with h | ⟨c, h, s⟩
      · rw [decide_eq_false (by have := List.getElem?_eq_none_iff.mp h; omega)]
        exact iteF ⟨_, rfl, _, rfl, _, rfl, _, rfl, _, rfl, _, rfl, tx.line, fin m0⟩
      · rw [decide_eq_true (by have := (List.getElem?_eq_some_iff.mp h).1; omega)]
        refine iteT ⟨_, rfl, _, rfl, TS l, _, c, rfl, rfl, tx.line, at_tx h, c, _, rfl, rfl, _, rfl, ?_⟩
        show if (!decide (c ∈ (PySem.Str.ofString " ()").cps.toList)) = true then _ else _
        rw [sgs2_in, decide_eq_true s]
        exact iteF ⟨_, rfl, _, rfl, _, rfl, _, rfl, _, rfl, _, rfl, tx.line, fin m0⟩
    · obtain ⟨c, h, s⟩ := go m0
      rw [decide_eq_true (by have := (List.getElem?_eq_some_iff.mp h).1; omega)]
      refine iteT ⟨_, rfl, _, rfl, TS l, _, c, rfl, rfl, tx.line, at_tx h, c, _, rfl, rfl, _, rfl, ?_⟩
      show if (!decide (c ∈ (PySem.Str.ofString " ()").cps.toList)) = true then _ else _
      rw [sgs2_in, decide_eq_false s]
      refine iteT ⟨fun σ' H'' => σ' = [some (.str (TS l)), some (.int (p : Int)), some (.int ((e + 1 : Nat) : Int))] ∧ H'' = H', ?_, ?_⟩
      · rintro σ' H'' ⟨rfl, rfl⟩
        exact ⟨m - 1, by omega, e + 1, rfl, by omega, by omega, rfl⟩
      · exact ⟨_, rfl, _, _, rfl, rfl, by rw [show ((e + 1 : Nat) : Int) = (e : Int) + 1 by omega]; rfl, rfl⟩
end
end
end K77
set_option Elab.async false
set_option linter.all false
set_option maxRecDepth 100000
set_option maxHeartbeats 4000000
namespace K77
open PySem PySem.Spec PyProof.Rows L2 Lc
section
variable {P : Program} {w : World} {K : PySem.W.Frag} {mg : Str → Option Value} {base : Heap} {f : Addr} {fd : FuncData}
abbrev sLr : Stmt := top 48
abbrev nLr : List Str := ["_law_text", "_law_at", "_law_depth", "_law_found", "_law_word", "_law_turn", "_law_told_here"]
abbrev pLr : List Str := ["_law_text", "_law_at", "_law_depth"]
theorem scLr : FnScope nLr pLr (defScope sLr) := ⟨rfl, rfl, rfl, by decide +kernel, rfl, by decide +kernel, by decide +kernel⟩
section
variable {fA_ fB_ fC_ fD_ : Addr} {fdA_ fdB_ fdC_ fdD_ : FuncData}
theorem ok_Lr (F : Fun K "_law_read" "_law_read" sLr f fd) (T : Bt mg) (n : Nat)
    (GA_ : FnOk P w K mg base CX0 3 fA_ fdA_ ["_law_token_here"] (spRl)) (mA_ : mg "_law_leaf_of" = some (.ref fA_)) (kA_ : PySem.W.keepIn K (.ref fA_) = true) (bA_ : Binds K fdA_ ["_law_token_here"] [])
    (GB_ : FnOk P w K mg base CX0 1 fB_ fdB_ ["_law_text", "_law_at"] (spTok)) (mB_ : mg "_law_token" = some (.ref fB_)) (kB_ : PySem.W.keepIn K (.ref fB_) = true) (bB_ : Binds K fdB_ ["_law_text", "_law_at"] [])
    (GC_ : FnOk P w K mg base CX0 1 fC_ fdC_ ["_law_word"] (spOps)) (mC_ : mg "_law_operands" = some (.ref fC_)) (kC_ : PySem.W.keepIn K (.ref fC_) = true) (bC_ : Binds K fdC_ ["_law_word"] [])
    (GD_ : FnOk P w K mg base CX0 (4 + n) fD_ fdD_ ["_law_text", "_law_at", "_law_depth"] (spLr n)) (mD_ : mg "_law_read" = some (.ref fD_)) (kD_ : PySem.W.keepIn K (.ref fD_) = true) (bD_ : Binds K fdD_ ["_law_text", "_law_at", "_law_depth"] []) : FnOk P w K mg base CX0 (4 + n + 1) f fd pLr (spLr (n + 1)) := by
  refine F.ok scLr (fun vs H Q E h => ?_) (fun cdv A outer s H vs Q E hr h => ?_)
  · obtain ⟨l, p, dp, rfl, _⟩ := h
    rfl
  · obtain ⟨l, p, dp, rfl, tx, lp, ld, k⟩ := h
    have hrA_ : Room (3) _ := hr.mono (by first | decide | omega)
    have hrB_ : Room (1) _ := hr.mono (by first | decide | omega)
    have hrC_ : Room (1) _ := hr.mono (by first | decide | omega)
    have hrD_ : Room ((4 + n)) _ := hr.mono (by first | decide | omega)
    refine ⟨_, (pss_cons (ps_if (PW.pt (pw_or (pt_cmpR op_gt (pv 2) pe_int (nomark _)) (pw_or1 (pt_cmpR op_ge (pv 1) (pe_callB call_len_str (by rfl) T.len PySem.boot_len (pa_cons (pv 0) pa_nil)) (nomark _))))) (pss_one (ps_ret (pe_lst (pa_cons pe_non (pa_cons (pv 1) pa_nil))))) pss_nil)
      (pss_cons (ps_if (pt_cmpR op_ne (pe_ix ix_str (pv 0) (pv 1) (fun _ _ => rfl)) pe_str (nomark _)) (pss_cons (ps_set (i := 3) scLr.nd rfl (Or.inl rfl) (pe_call GA_ hrA_ (by rfl) mA_ kA_ bA_ .nil pass0 (pa_cons (pe_call GB_ hrB_ (by rfl) mB_ kB_ bB_ .nil pass0 (pa_cons (pv 0) (pa_cons (pv 1) pa_nil))) pa_nil)))
      (pss_one (ps_ret (pe_ifExp (pt_cmpR op_isN (pv 3) pe_non (nomark _)) (pe_lst (pa_cons pe_non (pa_cons (pv 1) pa_nil))) (pe_lst (pa_cons (pv 3) (pa_cons (pe_op op_add (pv 1) (pe_callB call_len_str (by rfl) T.len PySem.boot_len (pa_cons (pe_call GB_ hrB_ (by rfl) mB_ kB_ bB_ .nil pass0 (pa_cons (pv 0) (pa_cons (pv 1) pa_nil))) pa_nil))) pa_nil))))))) pss_nil)
      (pss_cons (ps_set (i := 4) scLr.nd rfl (Or.inl rfl) (pe_call GB_ hrB_ (by rfl) mB_ kB_ bB_ .nil pass0 (pa_cons (pv 0) (pa_cons (pe_op op_add (pv 1) pe_int) pa_nil))))
      (pss_cons (ps_if (pt_cmpR op_eq (pe_call GC_ hrC_ (by rfl) mC_ kC_ bC_ .nil pass0 (pa_cons (pv 4) pa_nil)) pe_int (nomark _)) (pss_one (ps_ret (pe_lst (pa_cons pe_non (pa_cons (pe_op op_add (pv 1) pe_int) pa_nil))))) pss_nil)
      (pss_cons (ps_set (i := 1) scLr.nd rfl (Or.inl rfl) (pe_op op_add (pe_op op_add (pv 1) pe_int) (pe_callB call_len_str (by rfl) T.len PySem.boot_len (pa_cons (pv 4) pa_nil))))
      (pss_cons (ps_set (i := 3) scLr.nd rfl (Or.inl rfl) (pe_lst (pa_cons (pv 4) pa_nil)))
      (pss_cons (ps_for PassesOwn.never rfl (pi_range1 (by rfl) T.range (pa_cons (pe_call GC_ hrC_ (by rfl) mC_ kC_ bC_ .nil pass0 (pa_cons (pv 4) pa_nil)) pa_nil)) (pg_name (i := 5) scLr.nd rfl (.inl rfl)) (pss_cons (ps_if (pt_cmpR op_ne (pe_slice sl_str (pv 0) (po_some (pv 1)) (po_some (pe_op op_add (pv 1) pe_int))) pe_str (nomark _)) (pss_one (ps_ret (pe_lst (pa_cons pe_non (pa_cons (pv 1) pa_nil))))) pss_nil)
      (pss_cons (ps_set (i := 6) scLr.nd rfl (Or.inl rfl) (pe_call GD_ hrD_ (by rfl) mD_ kD_ bD_ .nil pass0 (pa_cons (pv 0) (pa_cons (pe_op op_add (pv 1) pe_int) (pa_cons (pe_op op_add (pv 2) pe_int) pa_nil)))))
      (pss_cons (ps_if (pt_cmpR op_isN (pe_ix ix_list (pv 6) pe_int (fun _ _ => rfl)) pe_non (nomark _)) (pss_one (ps_ret (pv 6))) pss_nil)
      (pss_cons (ps_expr (pe_bm PySem.F.plainAttrs_list PySem.F.slot_list_append PySem.F.type_list_append mt_append (pv 3) (pa_cons (pe_ix ix_list (pv 6) pe_int (fun _ _ => rfl)) pa_nil)))
      (pss_one (ps_set (i := 1) scLr.nd rfl (Or.inl rfl) (pe_ix ix_list (pv 6) pe_int (fun _ _ => rfl)))))))))
      (pss_one (ps_ret (pe_ifExp (pt_cmpR op_eq (pe_slice sl_str (pv 0) (po_some (pv 1)) (po_some (pe_op op_add (pv 1) pe_int))) pe_str (nomark _)) (pe_lst (pa_cons (pe_callTy call_tuple_of (by rfl) T.tuple boot_tuple (pa_cons (pv 3) pa_nil)) (pa_cons (pe_op op_add (pv 1) pe_int) pa_nil))) (pe_lst (pa_cons pe_non (pa_cons (pv 1) pa_nil))))))))))))), ?_⟩
    have two : 2 ≤ sizeLine := by decide
    have one : 1 ≤ sizeLine := by decide
    have bad : ∀ {q : Nat} {H1 : Hp}, Same H H1 → rd l (n + 1) p = (.none, q) → ∀ r, H1 r = none → Q (.ref r) (upd H1 r (.lst [.non, .int (q : Int)])) := fun s1 e r hr => k r .non _ (free_of s1 hr) (s1.trans (Same.upd hr)) (by rw [upd_same, e]) (by rw [e]; exact .non)
    have rdS : rd l (n + 1) p = if l.length ≤ p then (.none, p) else if l[p]? = some 40 then rdo (rd l n) l (p + 1) else if isNo (leafD (tokL l p)) = true then (.none, p) else (leafD (tokL l p), p + (tokL l p).length) := by rw [rd]
    refine ⟨_, rfl, _, _, rfl, rfl, _, rfl, ?_⟩
    rw [decide_eq_false (by omega)]
    refine iteF ⟨_, rfl, _, rfl, _, rfl, tx.line, _, _, rfl, rfl, _, rfl, ?_⟩
    rw [ts_len]
    by_cases ge : l.length ≤ p
    · rw [decide_eq_true (by omega)]
      exact iteT ⟨_, rfl, two, bad (Same.refl H) (by rw [rdS, if_pos ge])⟩
    rw [decide_eq_false (by omega)]
    obtain ⟨c, hc⟩ : ∃ c, l[p]? = some c := ⟨_, List.getElem?_eq_getElem (by omega)⟩
    refine iteF ⟨_, rfl, _, rfl, TS l, _, c, rfl, rfl, tx.line, at_tx hc, rfl, _, rfl, ?_⟩
    show if (!decide (V.str ⟨#[c]⟩ = V.str (PySem.Str.ofString "("))) = true then _ else _
    rw [dec_one open_cl]
    have tks : ∀ q, Tx (tokL l q) := fun q => tx.sub ((List.takeWhile_sublist _).trans (List.drop_sublist _ _))
    by_cases op : c = 40
    · subst op
      rw [decide_eq_true rfl]
      rw [if_neg ge, if_pos hc] at rdS
      refine iteF ⟨_, rfl, _, rfl, _, _, rfl, rfl, l, p + 1, by rw [show ((p + 1 : Nat) : Int) = (p : Int) + 1 by omega] <;> rfl, tx, by omega, ?_⟩
      have lt2 := tok_len (show p + 1 ≤ l.length by omega)
      have tw := tks (p + 1)
      have q0 : rdo (rd l n) l (p + 1) = if nops (tokL l (p + 1)) = 0 then (.none, p + 1) else rds (rd l n) l (nops (tokL l (p + 1))) (p + 1 + (tokL l (p + 1)).length) [.str (TS (tokL l (p + 1)))] := rfl
      rw [q0] at rdS
      generalize tokL l (p + 1) = wd at *
      have n3 := nops_le wd
      refine ⟨_, rfl, wd, rfl, fun H1 s1 => ⟨rfl, _, rfl, ?_⟩⟩
      by_cases z : nops wd = 0
      · rw [decide_eq_true (show V.int (nops wd : Int) = V.int 0 by rw [z]; rfl)]
        rw [if_pos z] at rdS
        exact iteT ⟨_, rfl, _, _, rfl, rfl, two, fun r hr => by
          have := bad s1 rdS r hr
          rw [show ((p + 1 : Nat) : Int) = (p : Int) + 1 by omega] at this
          exact this⟩
      rw [decide_eq_false (show V.int (nops wd : Int) ≠ V.int 0 from fun q => z (by injection q with q; omega))]
      rw [if_neg z] at rdS
      refine iteF ⟨_, rfl, _, _, rfl, rfl, _, rfl, _, rfl, tw.line, _, _, rfl, rfl, ?_⟩
      refine ⟨_, rfl, one, fun Z hZ => ?_⟩
      have zZ := Same.upd (o := .lst [.str (TS wd)]) hZ
      have gZ : H Z = none := by
        cases q : H Z with
        | none => rfl
        | some o => rw [s1 _ _ q] at hZ; cases hZ
      rw [ts_len]
      refine ⟨_, rfl, wd, rfl, fun H2 s2 => ⟨(nops wd : Int), rfl, by omega, by omega, for_range (n := nops wd) (fun j σ H' => ∃ (us : List V) (acc : List PyData) (q : Nat) (x5 x6 : Option V), σ = [some (.str (TS l)), some (.int (q : Int)), some (.int (dp : Int)), some (.ref Z), some (.str (TS wd)), x5, x6] ∧ q ≤ l.length ∧ rds (rd l n) l (nops wd - j) q acc = rd l (n + 1) p ∧ H' Z = some (.lst us) ∧ DhAll H' us acc ∧ (∀ d ∈ acc, noL d = true) ∧ us.length = j + 1 ∧ Same H H') ⟨[.str (TS wd)], [.str (TS wd)], p + 1 + wd.length, none, none, by rw [show ((p + 1 + wd.length : Nat) : Int) = (p : Int) + 1 + (wd.length : Int) by omega]; rfl, lt2, rdS.symm, s2 _ _ upd_same, .cons (.str _) .nil, fun d hd => by rw [List.mem_singleton.mp hd]; rfl, rfl, s1.trans (zZ.trans s2)⟩ ?_ ?_⟩⟩
      · rintro j σ H1 lj ⟨us, acc, q, x5, x6, rfl, lq, er, hZ1, du, nl, lu, s1⟩
        rw [show nops wd - j = (nops wd - (j + 1)) + 1 by omega, rds] at er
        refine ⟨_, rfl, _, rfl, _, rfl, _, rfl, _, _, rfl, rfl, _, rfl, _, rfl, tx.line, rfl, _, rfl, ?_⟩
        show if (!decide (V.str (cutS (TS l) (some (q : Int)) (some ((q : Int) + 1))) = V.str (PySem.Str.ofString " "))) = true then _ else _
        rw [cut_one, dec_at blank_cl]
        by_cases e32 : l[q]? = some 32
        · rw [decide_eq_true e32]
          rw [if_pos e32] at er
          have ltq : q < l.length := (List.getElem?_eq_some_iff.mp e32).1
          refine iteF ⟨_, rfl, _, rfl, _, _, rfl, rfl, _, rfl, _, _, rfl, rfl, l, q + 1, dp + 1, by rw [show ((q + 1 : Nat) : Int) = (q : Int) + 1 by omega, show ((dp + 1 : Nat) : Int) = (dp : Int) + 1 by omega] <;> rfl, tx, ltq, by omega, fun r v H3 fr s3 hr hv => ?_⟩
          refine ⟨_, rfl, r, _, 0, v, rfl, rfl, SqL.of hr, rfl, rfl, _, rfl, ?_⟩
          rw [dh_non hv]
          cases z3 : isNo (rd l n (q + 1)).1 with
          | true =>
            rw [if_pos z3] at er
            exact iteT ⟨_, rfl, k r v H3 (free_of s1 fr) (s1.trans s3) (by rw [hr, ← er]) (by rw [← er]; rw [isNo_t z3] at hv; exact hv)⟩
          | false =>
            rw [if_neg (by rw [z3]; decide)] at er
            have hZ3 := s3 _ _ hZ1
            have nr : noL (rd l n (q + 1)).1 = true := rd_noL n _
            refine iteF ⟨_, rfl, .inl ⟨rfl, _, SqL.of hZ3⟩, _, rfl, r, _, 0, v, rfl, rfl, SqL.of hr, rfl, Z, _, _, rfl, rfl, hZ3, Nat.lt_of_le_of_lt (show _ ≤ 4 by omega) (by decide), ?_⟩
            have kt : SameT H3 (upd H3 Z (.lst (us ++ [v]))) := SameT.lst hZ3
            have nZr : r ≠ Z := fun q => by rw [q, hZ1] at fr; cases fr
            refine ⟨_, rfl, r, _, 1, _, rfl, rfl, SqL.of (by rw [upd_ne nZr]; exact hr), rfl, ?_⟩
            refine ⟨us ++ [v], _, _, _, _, rfl, rd_le n _ ltq, er, upd_same, DhAll.append (DhAll.t kt (DhAll.same s3 du) (noLs_all.mpr nl)) (.cons (hv.t kt nr) .nil), fun d hd => ?_, by rw [List.length_append, lu]; rfl, fun b' o' eb' => by rw [upd_ne (ne_of_none eb' gZ)]; exact s3 _ _ (s1 _ _ eb')⟩
            rcases List.mem_append.mp hd with hd | hd
            · exact nl d hd
            · rw [List.mem_singleton.mp hd]; exact nr
        · rw [decide_eq_false e32]
          rw [if_neg e32] at er
          exact iteT ⟨_, rfl, two, bad s1 er.symm⟩
      · rintro σ H1 ⟨us, acc, q, x5, x6, rfl, lq, er, hZ1, du, nl, lu, s1⟩
        rw [Nat.sub_self, rds] at er
        refine ⟨_, rfl, _, rfl, _, rfl, _, rfl, _, _, rfl, rfl, _, rfl, _, rfl, tx.line, rfl, _, rfl, ?_⟩
        rw [cut_one, dec_at close_cl]
        by_cases e41 : l[q]? = some 41
        · rw [decide_eq_true e41]
          rw [if_pos e41] at er
          refine iteT ⟨_, rfl, Z, _, rfl, .inl ⟨SqL.of hZ1, fun q' hq => ?_⟩⟩
          have zq := Same.upd (o := .tup us) hq
          refine ⟨_, rfl, _, _, rfl, rfl, two, fun u hu => ?_⟩
          have zu := Same.upd (o := .lst [.ref q', .int ((q : Int) + 1)]) hu
          exact k u (.ref q') _ (free_of (s1.trans zq) hu) ((s1.trans zq).trans zu) (by rw [upd_same, ← er]; rfl) (by rw [← er]; exact .tup (zu _ _ upd_same) (DhAll.same (zq.trans zu) du))
        · rw [decide_eq_false e41]
          rw [if_neg e41] at er
          exact iteF ⟨_, rfl, two, bad s1 er.symm⟩
    · rw [decide_eq_false op]
      rw [if_neg ge, if_neg (by rw [hc]; exact fun z => op (Option.some.inj z))] at rdS
      refine iteT ⟨_, rfl, _, rfl, l, p, rfl, tx, lp, tokL l p, rfl, tks p, fun v H1 s1 hv => ?_⟩
      refine ⟨_, rfl, rfl, _, rfl, ?_⟩
      rw [dh_non hv]
      cases z : isNo (leafD (tokL l p)) with
      | true =>
        rw [if_pos z] at rdS
        exact iteT ⟨_, rfl, two, bad s1 rdS⟩
      | false =>
        rw [if_neg (by rw [z]; decide)] at rdS
        refine iteF ⟨_, rfl, _, rfl, _, rfl, _, rfl, l, p, rfl, tx, lp, _, rfl, (tks p).line, _, _, rfl, rfl, two, fun r hr => ?_⟩
        have zr := Same.upd (o := .lst [v, .int ((p : Int) + ((TS (tokL l p)).length : Int))]) hr
        exact k r v _ (free_of s1 hr) (s1.trans zr) (by rw [upd_same, rdS, ts_len]; rfl) (by rw [rdS]; exact hv.same zr)
end
end
end K77
set_option Elab.async false
set_option linter.all false
set_option maxRecDepth 100000
set_option maxHeartbeats 4000000
namespace K77
open PySem PySem.Spec PyProof.Rows L2 Lc
/-! ## what is due, what is told -/
def outD (l : List Nat) : PyData := if isNo (reD l).1 = true then .list [.str "bad", .int ((reD l).2 : Int), .bool true] else .list [.str "read", (reD l).1]
def badZ : PyData := .list [.str "bad", .int 0, .bool true]
def spDue : Sp := fun vs H Q _ => ∃ (l : List Nat), vs = [.str (TS l)] ∧ Tx l ∧ ∀ v H', Same H H' → Dh H' v (outD l) → Q v H'
def spTold : Sp := fun vs H Q _ => ∃ (v : V), vs = [v] ∧ ((∃ t, TyN H v t ∧ t ≠ "str" ∧ ∀ u H', Same H H' → Dh H' u badZ → Q u H') ∨ ∃ (l : List Nat), v = .str (TS l) ∧ Tx l ∧ ∀ u H', Same H H' → Dh H' u (outD l) → Q u H')
/-- what the written part says of the class C where it is caught -/
structure ExB (K : PySem.W.Frag) (C : Addr) : Prop where
  xf : XfC K C
  xc : XisC K C
  cc : PySem.W.exmOne K (.ref C) (.ref C) = some true
  cv : PySem.W.kitOne K (.ref C) (.type "ValueError") = some true
def tsX (K : PySem.W.Frag) (C : Addr) : Addr → Value → Option Addr → L2.TS := fun a cls d => tRet (tLst (tCons (tC (.str "bad")) (tCons (tXf a cls d C "position" (tVar 1)) (tCons (tCB (rIsX K cls d C a) (tCons (tVar 1) (tCons (tC (.ty "ValueError")) tNil))) tNil))))
theorem tsX_go {K : PySem.W.Frag} {C a d : Addr} {D : Ends} {σ : L2.St} {H : Hp} {x : Int} (X : ExB K C) (hi : σ[1]? = some (some (.ref a))) (hx : H d = some (.xd [("position", .int x)])) (k : ∀ u H', Same H H' → Dh H' u (.list [.str "bad", .int x, .bool true]) → D.rt u H') : tsX K C a (.ref C) (some d) D σ H := by
  have dd : ∀ dd, some d = some dd → ∃ fs, H dd = some (.xd fs) := fun dd e => by cases e; exact ⟨_, hx⟩
  have three : 3 ≤ sizeLine := by decide
  refine ⟨_, hi, rfl, rfl, d, _, _, rfl, hx, by simp [List.lookup], _, hi, rfl, _, _, _, rfl, .ty "ValueError", dd, X.cv, three, fun r hr => k _ _ (Same.upd hr) (.lst upd_same (.cons (.str _) (.cons (.int _) (.cons (.bl _) .nil))))⟩
section
variable {P : Program} {w : World} {K : PySem.W.Frag} {mg : Str → Option Value} {base : Heap} {f : Addr} {fd : FuncData}
abbrev sLr0 : Stmt := top 48
abbrev nLr0 : List Str := ["_law_text", "_law_at", "_law_depth", "_law_found", "_law_word", "_law_turn", "_law_told_here"]
abbrev pLr0 : List Str := ["_law_text", "_law_at", "_law_depth"]
theorem scLr0 : FnScope nLr0 pLr0 (defScope sLr0) := ⟨rfl, rfl, rfl, by decide +kernel, rfl, by decide +kernel, by decide +kernel⟩
section
variable {fA_ fB_ fC_ fD_ : Addr} {fdA_ fdB_ fdC_ fdD_ : FuncData}
theorem ok_Lr0 (F : Fun K "_law_read" "_law_read" sLr0 f fd) (T : Bt mg)
    (GA_ : FnOk P w K mg base CX0 3 fA_ fdA_ ["_law_token_here"] (spRl)) (mA_ : mg "_law_leaf_of" = some (.ref fA_)) (kA_ : PySem.W.keepIn K (.ref fA_) = true) (bA_ : Binds K fdA_ ["_law_token_here"] [])
    (GB_ : FnOk P w K mg base CX0 1 fB_ fdB_ ["_law_text", "_law_at"] (spTok)) (mB_ : mg "_law_token" = some (.ref fB_)) (kB_ : PySem.W.keepIn K (.ref fB_) = true) (bB_ : Binds K fdB_ ["_law_text", "_law_at"] [])
    (GC_ : FnOk P w K mg base CX0 1 fC_ fdC_ ["_law_word"] (spOps)) (mC_ : mg "_law_operands" = some (.ref fC_)) (kC_ : PySem.W.keepIn K (.ref fC_) = true) (bC_ : Binds K fdC_ ["_law_word"] [])
    (GD_ : FnOk P w K mg base CX0 3 fD_ fdD_ ["_law_text", "_law_at", "_law_depth"] (fun _ _ _ _ => False)) (mD_ : mg "_law_read" = some (.ref fD_)) (kD_ : PySem.W.keepIn K (.ref fD_) = true) (bD_ : Binds K fdD_ ["_law_text", "_law_at", "_law_depth"] []) : FnOk P w K mg base CX0 4 f fd pLr0 (spLr 0) := by
  refine F.ok scLr0 (fun vs H Q E h => ?_) (fun cdv A outer s H vs Q E hr h => ?_)
  · obtain ⟨l, p, dp, rfl, _⟩ := h
    rfl
  · obtain ⟨l, p, dp, rfl, tx, lp, ld, k⟩ := h
    have hrA_ : Room (3) _ := hr.mono (by first | decide | omega)
    have hrB_ : Room (1) _ := hr.mono (by first | decide | omega)
    have hrC_ : Room (1) _ := hr.mono (by first | decide | omega)
    have hrD_ : Room (3) _ := hr.mono (by first | decide | omega)
    refine ⟨_, (pss_cons (ps_if (PW.pt (pw_or (pt_cmpR op_gt (pv 2) pe_int (nomark _)) (pw_or1 (pt_cmpR op_ge (pv 1) (pe_callB call_len_str (by rfl) T.len PySem.boot_len (pa_cons (pv 0) pa_nil)) (nomark _))))) (pss_one (ps_ret (pe_lst (pa_cons pe_non (pa_cons (pv 1) pa_nil))))) pss_nil)
      (pss_cons (ps_if (pt_cmpR op_ne (pe_ix ix_str (pv 0) (pv 1) (fun _ _ => rfl)) pe_str (nomark _)) (pss_cons (ps_set (i := 3) scLr0.nd rfl (Or.inl rfl) (pe_call GA_ hrA_ (by rfl) mA_ kA_ bA_ .nil pass0 (pa_cons (pe_call GB_ hrB_ (by rfl) mB_ kB_ bB_ .nil pass0 (pa_cons (pv 0) (pa_cons (pv 1) pa_nil))) pa_nil)))
      (pss_one (ps_ret (pe_ifExp (pt_cmpR op_isN (pv 3) pe_non (nomark _)) (pe_lst (pa_cons pe_non (pa_cons (pv 1) pa_nil))) (pe_lst (pa_cons (pv 3) (pa_cons (pe_op op_add (pv 1) (pe_callB call_len_str (by rfl) T.len PySem.boot_len (pa_cons (pe_call GB_ hrB_ (by rfl) mB_ kB_ bB_ .nil pass0 (pa_cons (pv 0) (pa_cons (pv 1) pa_nil))) pa_nil))) pa_nil))))))) pss_nil)
      (pss_cons (ps_set (i := 4) scLr0.nd rfl (Or.inl rfl) (pe_call GB_ hrB_ (by rfl) mB_ kB_ bB_ .nil pass0 (pa_cons (pv 0) (pa_cons (pe_op op_add (pv 1) pe_int) pa_nil))))
      (pss_cons (ps_if (pt_cmpR op_eq (pe_call GC_ hrC_ (by rfl) mC_ kC_ bC_ .nil pass0 (pa_cons (pv 4) pa_nil)) pe_int (nomark _)) (pss_one (ps_ret (pe_lst (pa_cons pe_non (pa_cons (pe_op op_add (pv 1) pe_int) pa_nil))))) pss_nil)
      (pss_cons (ps_set (i := 1) scLr0.nd rfl (Or.inl rfl) (pe_op op_add (pe_op op_add (pv 1) pe_int) (pe_callB call_len_str (by rfl) T.len PySem.boot_len (pa_cons (pv 4) pa_nil))))
      (pss_cons (ps_set (i := 3) scLr0.nd rfl (Or.inl rfl) (pe_lst (pa_cons (pv 4) pa_nil)))
      (pss_cons (ps_for PassesOwn.never rfl (pi_range1 (by rfl) T.range (pa_cons (pe_call GC_ hrC_ (by rfl) mC_ kC_ bC_ .nil pass0 (pa_cons (pv 4) pa_nil)) pa_nil)) (pg_name (i := 5) scLr0.nd rfl (.inl rfl)) (pss_cons (ps_if (pt_cmpR op_ne (pe_slice sl_str (pv 0) (po_some (pv 1)) (po_some (pe_op op_add (pv 1) pe_int))) pe_str (nomark _)) (pss_one (ps_ret (pe_lst (pa_cons pe_non (pa_cons (pv 1) pa_nil))))) pss_nil)
      (pss_cons (ps_set (i := 6) scLr0.nd rfl (Or.inl rfl) (pe_call GD_ hrD_ (by rfl) mD_ kD_ bD_ .nil pass0 (pa_cons (pv 0) (pa_cons (pe_op op_add (pv 1) pe_int) (pa_cons (pe_op op_add (pv 2) pe_int) pa_nil)))))
      (pss_cons (ps_if (pt_cmpR op_isN (pe_ix ix_list (pv 6) pe_int (fun _ _ => rfl)) pe_non (nomark _)) (pss_one (ps_ret (pv 6))) pss_nil)
      (pss_cons (ps_expr (pe_bm PySem.F.plainAttrs_list PySem.F.slot_list_append PySem.F.type_list_append mt_append (pv 3) (pa_cons (pe_ix ix_list (pv 6) pe_int (fun _ _ => rfl)) pa_nil)))
      (pss_one (ps_set (i := 1) scLr0.nd rfl (Or.inl rfl) (pe_ix ix_list (pv 6) pe_int (fun _ _ => rfl)))))))))
      (pss_one (ps_ret (pe_ifExp (pt_cmpR op_eq (pe_slice sl_str (pv 0) (po_some (pv 1)) (po_some (pe_op op_add (pv 1) pe_int))) pe_str (nomark _)) (pe_lst (pa_cons (pe_callTy call_tuple_of (by rfl) T.tuple boot_tuple (pa_cons (pv 3) pa_nil)) (pa_cons (pe_op op_add (pv 1) pe_int) pa_nil))) (pe_lst (pa_cons pe_non (pa_cons (pv 1) pa_nil))))))))))))), ?_⟩
    have two : 2 ≤ sizeLine := by decide
    have one : 1 ≤ sizeLine := by decide
    refine ⟨_, rfl, _, _, rfl, rfl, _, rfl, ?_⟩
    rw [decide_eq_true (by omega)]
    exact iteT ⟨_, rfl, two, fun r hr => k r .non _ hr (Same.upd hr) (by rw [upd_same]; rfl) .non⟩
end
theorem ok_LrN {fA_ fB_ fC_ : Addr} {fdA_ fdB_ fdC_ : FuncData} (F : Fun K "_law_read" "_law_read" sLr f fd) (T : Bt mg)
    (GA_ : FnOk P w K mg base CX0 3 fA_ fdA_ ["_law_token_here"] (spRl)) (mA_ : mg "_law_leaf_of" = some (.ref fA_)) (kA_ : PySem.W.keepIn K (.ref fA_) = true) (bA_ : Binds K fdA_ ["_law_token_here"] [])
    (GB_ : FnOk P w K mg base CX0 1 fB_ fdB_ ["_law_text", "_law_at"] (spTok)) (mB_ : mg "_law_token" = some (.ref fB_)) (kB_ : PySem.W.keepIn K (.ref fB_) = true) (bB_ : Binds K fdB_ ["_law_text", "_law_at"] [])
    (GC_ : FnOk P w K mg base CX0 1 fC_ fdC_ ["_law_word"] (spOps)) (mC_ : mg "_law_operands" = some (.ref fC_)) (kC_ : PySem.W.keepIn K (.ref fC_) = true) (bC_ : Binds K fdC_ ["_law_word"] [])
    (mX : mg "_law_read" = some (.ref f)) (kX : PySem.W.keepIn K (.ref f) = true) (bX : Binds K fd ["_law_text", "_law_at", "_law_depth"] []) : ∀ n : Nat, FnOk P w K mg base CX0 (4 + n) f fd ["_law_text", "_law_at", "_law_depth"] (spLr n)
  | 0 => ok_Lr0 F T GA_ mA_ kA_ bA_ GB_ mB_ kB_ bB_ GC_ mC_ kC_ bC_ fn_none mX kX bX
  | n + 1 => ok_Lr F T n GA_ mA_ kA_ bA_ GB_ mB_ kB_ bB_ GC_ mC_ kC_ bC_ (ok_LrN F T GA_ mA_ kA_ bA_ GB_ mB_ kB_ bB_ GC_ mC_ kC_ bC_ mX kX bX n) mX kX bX
abbrev sDue : Stmt := top 49
abbrev nDue : List Str := ["_law_text", "_law_told_here"]
abbrev pDue : List Str := ["_law_text"]
theorem scDue : FnScope nDue pDue (defScope sDue) := ⟨rfl, rfl, rfl, by decide +kernel, rfl, by decide +kernel, by decide +kernel⟩
section
variable {fA_ : Addr} {fdA_ : FuncData}
theorem ok_Due (F : Fun K "_law_due" "_law_due" sDue f fd) (T : Bt mg)
    (GA_ : FnOk P w K mg base CX0 12 fA_ fdA_ ["_law_text", "_law_at", "_law_depth"] (spLr 8)) (mA_ : mg "_law_read" = some (.ref fA_)) (kA_ : PySem.W.keepIn K (.ref fA_) = true) (bA_ : Binds K fdA_ ["_law_text", "_law_at", "_law_depth"] []) : FnOk P w K mg base CX0 13 f fd pDue (spDue) := by
  refine F.ok scDue (fun vs H Q E h => ?_) (fun cdv A outer s H vs Q E hr h => ?_)
  · obtain ⟨l, rfl, _⟩ := h
    rfl
  · obtain ⟨l, rfl, tx, k⟩ := h
    have hrA_ : Room (12) _ := hr.mono (by first | decide | omega)
    refine ⟨_, (pss_cons (ps_set (i := 1) scDue.nd rfl (Or.inl rfl) (pe_call GA_ hrA_ (by rfl) mA_ kA_ bA_ .nil pass0 (pa_cons (pv 0) (pa_cons pe_int (pa_cons pe_int pa_nil)))))
      (pss_cons (ps_if (PW.pt (pw_and (pt_cmpR op_notN (pe_ix ix_list (pv 1) pe_int (fun _ _ => rfl)) pe_non (nomark _)) (pw_and1 (pt_cmpR op_lt (pe_ix ix_list (pv 1) pe_int (fun _ _ => rfl)) (pe_callB call_len_str (by rfl) T.len PySem.boot_len (pa_cons (pv 0) pa_nil)) (nomark _))))) (pss_one (ps_ret (pe_lst (pa_cons pe_str (pa_cons (pe_ix ix_list (pv 1) pe_int (fun _ _ => rfl)) (pa_cons pe_bl pa_nil)))))) pss_nil)
      (pss_one (ps_ret (pe_ifExp (pt_cmpR op_isN (pe_ix ix_list (pv 1) pe_int (fun _ _ => rfl)) pe_non (nomark _)) (pe_lst (pa_cons pe_str (pa_cons (pe_ix ix_list (pv 1) pe_int (fun _ _ => rfl)) (pa_cons pe_bl pa_nil)))) (pe_lst (pa_cons pe_str (pa_cons (pe_ix ix_list (pv 1) pe_int (fun _ _ => rfl)) pa_nil)))))))), ?_⟩
    have two : 2 ≤ sizeLine := by decide
    have one : 1 ≤ sizeLine := by decide
    have three : 3 ≤ sizeLine := by decide
    refine ⟨_, rfl, l, 0, 1, rfl, tx, Nat.zero_le _, by omega, fun r v H1 _ s1 hr hv => ?_⟩
    have un : reD l = if isNo (rd l 8 0).1 = true then (.none, (rd l 8 0).2) else if (rd l 8 0).2 < l.length then (.none, (rd l 8 0).2) else rd l 8 0 := rfl
    refine ⟨_, rfl, r, _, 0, v, rfl, rfl, SqL.of hr, rfl, rfl, _, rfl, ?_⟩
    show if (!decide (v = V.non)) = true then _ else _
    rw [dh_non hv]
    have badr : isNo (reD l).1 = true → (reD l).2 = (rd l 8 0).2 → ∀ q, H1 q = none → Q (.ref q) (upd H1 q (.lst [.str "bad", .int ((rd l 8 0).2 : Int), .bl true])) := fun z e q hq => k _ _ (s1.trans (Same.upd hq)) (by
      unfold outD
      rw [if_pos z, e]
      exact .lst upd_same (.cons (.str _) (.cons (.int _) (.cons (.bl _) .nil))))
    cases z : isNo (rd l 8 0).1 with
    | true =>
      rw [if_pos z] at un
      refine iteF ⟨_, rfl, r, _, 0, v, rfl, rfl, SqL.of hr, rfl, rfl, _, rfl, ?_⟩
      rw [dh_non hv, z]
      exact iteT ⟨_, rfl, r, _, 1, _, rfl, rfl, SqL.of hr, rfl, three, badr (by rw [un]; rfl) (by rw [un])⟩
    | false =>
      rw [if_neg (by rw [z]; decide)] at un
      refine iteT ⟨_, rfl, r, _, 1, _, rfl, rfl, SqL.of hr, rfl, _, rfl, _, rfl, tx.line, _, _, rfl, rfl, _, rfl, ?_⟩
      rw [ts_len]
      by_cases ll : (rd l 8 0).2 < l.length
      · rw [decide_eq_true (by omega)]
        rw [if_pos ll] at un
        exact iteT ⟨_, rfl, r, _, 1, _, rfl, rfl, SqL.of hr, rfl, three, badr (by rw [un]; rfl) (by rw [un])⟩
      · rw [decide_eq_false (by omega)]
        rw [if_neg ll] at un
        refine iteF ⟨_, rfl, r, _, 0, v, rfl, rfl, SqL.of hr, rfl, rfl, _, rfl, ?_⟩
        rw [dh_non hv, z]
        refine iteF ⟨_, rfl, r, _, 0, v, rfl, rfl, SqL.of hr, rfl, two, fun q hq => k _ _ (s1.trans (Same.upd hq)) ?_⟩
        unfold outD
        rw [un, if_neg (by rw [z]; decide)]
        exact .lst upd_same (.cons (.str _) (.cons (hv.same (Same.upd hq)) .nil))
end
end
section
variable {P : Program} {w : World} {K : PySem.W.Frag} {mg : Str → Option Value} {base : Heap} {f C fI fC : Addr} {fd fdC : FuncData}
abbrev sTold : Stmt := top 50
theorem scTold : FnScope ["_law_text", "e"] ["_law_text"] (defScope sTold) := ⟨rfl, rfl, rfl, by decide +kernel, rfl, by decide +kernel, by decide +kernel⟩
theorem ok_Told (F : Fun K "_law_told" "_law_told" sTold f fd) (T : Bt mg) (R : ErF K mg "BadText" "position" C fI) (X : ExB K C)
    (GC : FnOk P w K mg base (L2.CX P w) 23 fC fdC ["text"] (spRe C)) (mC : mg "read_expression" = some (.ref fC)) (kC : PySem.W.keepIn K (.ref fC) = true) (bC : Binds K fdC ["text"] []) : FnOk P w K mg base CX0 24 f fd ["_law_text"] spTold := by
  refine F.ok scTold (fun vs H Q E h => ?_) (fun cdv A outer s H vs Q E hr h => ?_)
  · obtain ⟨v, rfl, _⟩ := h
    rfl
  · obtain ⟨v, rfl, k⟩ := h
    refine ⟨_, pss_one (ps_tryL (Wout := fun _ _ _ _ => False) (tb := fun W => tRet (tLst (tCons (tC (.str "read")) (tCons (tCallS (spRe C) (WE W) (tCons (tVar 0) tNil)) tNil)))) (l := [⟨.ref C, some 1, tsX K C⟩]) rfl rfl takes0
        (fun W pn xe tk _ => pss_one (ps_ret (pe_lst (pa_cons pe_str (pa_cons (pe_callS GC hr (by rfl) mC kC bC (fun σ => passAt tk σ) (pa_cons (pv 0) pa_nil)) pa_nil)))))
        (.named (i := 1) ⟨rfl, by decide, Or.inl R.gC⟩ rfl scTold.nd rfl rfl (fun a ob cls d pn hz hf => pss_one (ps_ret (pe_lst (pa_cons pe_str (pa_cons (pe_xf X.xf R.nG hz hf (pv 1)) (pa_cons
            (pe_callB (call_isX X.xc hz hf) (by rfl) T.isi boot_isinstance (pa_cons (pv 1) (pa_cons (pe_bltn (v := .ty "ValueError") (by rfl) T.ve PyProof.Rows.Boot.«ValueError» rfl) pa_nil))) pa_nil)))))) .nil)), ?_⟩
    have two : 2 ≤ sizeLine := by decide
    refine ⟨_, rfl, ?_⟩
    dsimp only [tNil]
    rcases k with ⟨t, ty, nt, k⟩ | ⟨l, rfl, tx, k⟩
    · refine ⟨v, rfl, .inl ⟨t, ty, nt, fun d H2 s2 hd2 hx => ?_⟩⟩
      refine ⟨true, X.cc, fun _ a ha => ?_, nofun⟩
      exact tsX_go X rfl hx fun u H' s hu => k u H' (s2.trans s) hu
    · refine ⟨_, rfl, .inr ⟨l, rfl, tx, fun z v H1 s1 hv => ?_, fun z H1 s1 d H2 s2 hd2 hx => ?_⟩⟩
      · refine ⟨two, fun r hr => k _ _ (s1.trans (Same.upd hr)) ?_⟩
        unfold outD
        rw [if_neg (by rw [z]; decide)]
        exact .lst upd_same (.cons (.str _) (.cons (hv.same (Same.upd hr)) .nil))
      · refine ⟨true, X.cc, fun _ a ha => ?_, nofun⟩
        refine tsX_go X rfl hx fun u H' s hu => k u H' (s1.trans (s2.trans s)) ?_
        unfold outD
        rw [if_pos z]
        exact hu
end
end K77
set_option Elab.async false
set_option linter.all false
set_option maxRecDepth 100000
set_option maxHeartbeats 4000000
namespace K77
open PySem PySem.Spec PyProof.Rows L2 Lc
/-! ## how long expressions are when they are shown -/
theorem tm_int {i : Int} (h : i.natAbs ≤ 10000000000000000000000000000000000000000) : Tm 0 2000 (.int i) := by
  have b : i.natAbs < 2 ^ 1000 := Nat.lt_of_le_of_lt h (Nat.lt_of_lt_of_le (show 10000000000000000000000000000000000000000 < 2 ^ 140 by decide) (Nat.pow_le_pow_right (by decide) (by decide)))
  obtain ⟨h1, h2⟩ := num_len b
  exact ⟨h1, rfl, Nat.le_refl _, Nat.le_trans h2 (by decide)⟩
theorem tm_txt {x : Str} (h : Sh 100 x) : Tm 0 2000 (.str x) := by
  refine ⟨rfl, rfl, Nat.le_refl _, ?_⟩
  show (reprText x).length ≤ 2000
  have := StrLaws.reprText_len x (fun c hc => Nat.lt_trans (h.ok c hc) (by decide))
  have e := lenL x
  have := h.len
  omega
theorem tm_nonB : Tm 0 2000 .none ∧ ∀ b : Bool, Tm 0 2000 (.bool b) := ⟨⟨rfl, rfl, Nat.le_refl _, by decide +kernel⟩, fun b => ⟨rfl, rfl, Nat.le_refl _, by cases b <;> decide +kernel⟩⟩
theorem Vk.tm {k : Str} {d : PyData} (h : Vk k d) : Tm 1 4100 d := by
  cases h with
  | non => exact tm_nonB.1.mono (by decide) (by decide)
  | flag b => exact (tm_nonB.2 b).mono (by decide) (by decide)
  | word h _ => exact (tm_txt (h.mono (by decide))).mono (by decide) (by decide)
  | @num n d _ h1 h2 =>
    exact (tm_tup (k := 0) (n := 2000) (fun x hx => by simp at hx; rcases hx with rfl | rfl; exact tm_int h1; exact tm_int h2)).mono (by decide) (by show 2000 * 2 + 2 * 2 + 4 ≤ 4100; decide)
/-- by the sum of the parts -/
theorem tm_tupS {k n : Nat} {ds : List PyData} (h : ∀ d ∈ ds, ∃ m, Tm k m d) (s : ((PyData.shownAll ds).map (·.length)).sum ≤ n) : Tm (k + 1) (n + 2 * ds.length + 4) (.tuple ds) := by
  have key : PyData.showableAll ds = true ∧ PyData.hasDictAll ds = false ∧ PyData.depthAll ds ≤ k ∧ (PyData.shownAll ds).length = ds.length := by
    clear s
    induction ds with
    | nil => exact ⟨rfl, rfl, Nat.zero_le _, rfl⟩
    | cons d ds ih =>
      obtain ⟨h1, h2, h3, h4⟩ := ih fun x hx => h x (List.mem_cons_of_mem _ hx)
      obtain ⟨m, hd⟩ := h d List.mem_cons_self
      refine ⟨by simp [PyData.showableAll, hd.sh, h1], by simp [PyData.hasDictAll, hd.nd, h2], ?_, by simp [PyData.shownAll, h4]⟩
      simp only [PyData.depthAll]
      have := hd.dz
      omega
  obtain ⟨h1, h2, h3, h4⟩ := key
  refine ⟨by simpa [PyData.showable] using h1, by simpa [PyData.hasDict] using h2, ?_, ?_⟩
  · simp only [PyData.depth]
    omega
  · have := tupleText_len_le (PyData.shownAll ds)
    simp only [PyData.shown]
    omega
theorem tm_word {w : Str} {os : List PyData} {k m : Nat} (hw : (PyData.str w).shown.length ≤ 20) (ho : ∀ o ∈ os, Tm k m o) : Tm (k + 1) (m * os.length + 2 * os.length + 26) (.tuple (.str w :: os)) := by
  have tw : Tm 0 20 (.str w) := ⟨rfl, rfl, Nat.le_refl _, hw⟩
  have a := (tm_all ho).2.2.2.1
  refine (tm_tupS (k := k) (n := 20 + m * os.length) (fun d hd => ?_) ?_).mono (Nat.le_refl _) (by rw [List.length_cons]; omega)
  · rcases List.mem_cons.mp hd with rfl | hd
    · exact ⟨20, tw.mono (Nat.zero_le _) (Nat.le_refl _)⟩
    · exact ⟨m, ho d hd⟩
  · simp only [PyData.shownAll, List.map_cons, List.sum_cons]
    have := tw.ln
    omega
def szX : Nat → Nat
  | 0 => 0
  | n + 1 => 3 * szX n + 4200
theorem opsV_len {w : Str} {ops : List V} (h : opsV w = some ops) : (PyData.str w).shown.length ≤ 20 := by
  have key : ∀ x os, opsV x = some os → (PyData.str x).shown.length ≤ 20 := by
    refine opsV_all ?_ ?_ ?_ ?_ ?_ ?_ ?_ ?_ ?_ ?_ ?_ <;> decide +kernel
  exact key w ops h
theorem xf_tm {n : Nat} {d : PyData} (h : Xf n d) : Tm (n + 1) (szX n) d := by
  induction h with
  | @col n z h hn =>
    have t := (tm_txt (h.mono (show 12 ≤ 100 by decide))).mono (show 0 ≤ 1 by decide) (show 2000 ≤ 4100 by decide)
    refine (tm_word (w := "column") (k := 1) (m := 4100) (by decide +kernel) (fun o ho => by rw [List.mem_singleton.mp ho]; exact t)).mono (by omega) ?_
    show 4100 * 1 + 2 * 1 + 26 ≤ 3 * szX n + 4200
    omega
  | @val n k d h _ =>
    refine (tm_word (w := "value") (k := 1) (m := 4100) (by decide +kernel) (fun o ho => by rw [List.mem_singleton.mp ho]; exact h.tm)).mono (by omega) ?_
    show 4100 * 1 + 2 * 1 + 26 ≤ 3 * szX n + 4200
    omega
  | @op n w os ops h l ho ih =>
    have l3 := (opsV_words h).2.2.2.1
    rw [l] at l3
    refine (tm_word (k := n + 1) (m := szX n) (opsV_len h) ih).mono (by omega) ?_
    show szX n * os.length + 2 * os.length + 26 ≤ 3 * szX n + 4200
    have : szX n * os.length ≤ szX n * 3 := Nat.mul_le_mul_left _ l3
    omega
theorem shw_xf {K : PySem.W.Frag} {H : Hp} {v : V} {d : PyData} (h : Dh H v d) (xf : Xf 8 d) : Shw K H v d.shown := by
  have t := xf_tm xf
  have e : szX 8 = 13776000 := by decide +kernel
  rw [e] at t
  exact h.shw t.sh t.nd (Nat.le_trans t.dz (by decide)) (Nat.le_trans t.ln (by decide))
theorem nm_sh {l : List Nat} (h : nmL l = true) : Sh 12 (TS l) ∧ nameB (.str (TS l)) = true := by
  obtain ⟨_, h2, h3, _⟩ := name_signs h
  rw [cl_ts] at h2 h3
  exact ⟨⟨by rw [show (TS l).cps.toList = l from cl_ts l]; exact h2, fun c hc => by rw [show (TS l).cps.toList = l from cl_ts l] at hc; have := h3 c hc; omega⟩, h⟩
theorem numF_vk {ng sl : Bool} {o1 o2 : Option Nat} (h : isNo (numF ng sl o1 o2) = false) : Vk "number" (numF ng sl o1 o2) := by
  cases o1 with
  | none => rw [numF_n1] at h; cases h
  | some s =>
    cases o2 with
    | none => rw [numF_n2] at h; cases h
    | some d =>
      rw [numF] at h ⊢
      split
      · rename_i q
        rw [if_pos q] at h
        cases h
      · rename_i q
        rw [if_neg q] at h
        split
        · rename_i nb
          have nb : (decide ((0 : Int) < d) && decide (gd (sgI ng s) d = 1) && (decide ((if sgI ng s < 0 then -sgI ng s else sgI ng s) ≤ lim) && decide ((d : Int) ≤ lim))) = true := nb
          simp only [Bool.and_eq_true, decide_eq_true_eq] at nb
          obtain ⟨⟨b1, b2⟩, b3, b4⟩ := nb
          unfold lim at b3 b4
          refine .num ⟨b1, b2⟩ ?_ (by omega)
          split at b3 <;> omega
        · rename_i nb
          rw [if_neg nb] at h
          cases h
theorem val_vk {l : List Nat} (h : isNo (valD l) = false) : ∃ k, Vk k (valD l) := by
  unfold valD at h ⊢
  split
  · exact ⟨_, .flag true⟩
  rename_i q1
  rw [if_neg q1] at h
  split
  · exact ⟨_, .flag false⟩
  rename_i q2
  rw [if_neg q2] at h
  split
  · rename_i q3
    rw [if_pos q3] at h
    split
    · rename_i q4
      obtain ⟨a, b⟩ := nm_sh q4
      exact ⟨_, .word a b⟩
    · rename_i q4
      rw [if_neg q4] at h
      cases h
  · rename_i q3
    rw [if_neg q3] at h
    unfold numD numAB at h ⊢
    split at h
    · exact ⟨_, numF_vk h⟩
    · exact ⟨_, numF_vk h⟩
theorem leaf_xf {t : List Nat} {n : Nat} (h : isNo (leafD t) = false) : Xf (n + 1) (leafD t) := by
  unfold leafD at h ⊢
  split
  · rename_i q
    obtain ⟨a, b⟩ := nm_sh q
    exact .col a b
  rename_i q
  rw [if_neg q] at h
  split
  · rename_i q2
    rw [if_pos q2] at h
    cases z : isNo (valD (t.drop 1)) with
    | true => rw [isNo_t z] at h; cases h
    | false =>
      rw [wrap_ne (isNo_f z)]
      obtain ⟨k, vk⟩ := val_vk z
      exact .val vk (isNo_f z)
  · rename_i q2
    rw [if_neg q2] at h
    cases h
theorem rds_xf {R : Nat → PyData × Nat} {l : List Nat} {n : Nat} {w : Str} {ops : List V} (ho : opsV w = some ops) (hR : ∀ p, isNo (R p).1 = false → Xf n (R p).1) : ∀ (k p : Nat) (os : List PyData), os.length + k = ops.length → (∀ o ∈ os, Xf n o) → isNo (rds R l k p (.str w :: os)).1 = false → Xf (n + 1) (rds R l k p (.str w :: os)).1
  | 0, p, os, e, hx, h => by
    unfold rds at h ⊢
    split
    · exact .op ho (by omega) hx
    · rename_i q
      rw [if_neg q] at h
      cases h
  | k + 1, p, os, e, hx, h => by
    rw [rds] at h ⊢
    by_cases q : l[p]? = some 32
    · rw [if_pos q] at h ⊢
      cases z : isNo (R (p + 1)).1 with
      | true => rw [if_pos z] at h; cases h
      | false =>
        rw [if_neg (by first | decide | (rw [z]; decide))] at h ⊢
        refine rds_xf ho hR k _ (os ++ [(R (p + 1)).1]) (by rw [List.length_append]; show os.length + 1 + k = _; omega) (fun o ho' => ?_) h
        rcases List.mem_append.mp ho' with ho' | ho'
        · exact hx o ho'
        · rw [List.mem_singleton.mp ho']; exact hR _ z
    · rw [if_neg q] at h
      cases h
theorem rd_xf {l : List Nat} : ∀ (n p : Nat), isNo (rd l n p).1 = false → Xf n (rd l n p).1
  | 0, p, h => by cases h
  | n + 1, p, h => by
    rw [rd] at h ⊢
    by_cases g1 : l.length ≤ p
    · rw [if_pos g1] at h; cases h
    rw [if_neg g1] at h ⊢
    by_cases g2 : l[p]? = some 40
    · rw [if_pos g2] at h ⊢
      unfold rdo at h ⊢
      by_cases g3 : nops (tokL l (p + 1)) = 0
      · rw [if_pos g3] at h; cases h
      rw [if_neg g3] at h ⊢
      cases e : opsV (TS (tokL l (p + 1))) with
      | none => exact absurd (nops_none e) g3
      | some ops => exact rds_xf e (rd_xf n) _ _ [] (by rw [nops_some e]; exact Nat.zero_add _) (fun o ho => by cases ho) h
    rw [if_neg g2] at h ⊢
    cases g3 : isNo (leafD (tokL l p)) with
    | true => rw [if_pos g3] at h; cases h
    | false =>
      rw [if_neg (by first | decide | (rw [g3]; decide))]
      exact leaf_xf g3
theorem re_xf {l : List Nat} (h : isNo (reD l).1 = false) : Xf 8 (reD l).1 := by
  unfold reD at h ⊢
  split
  · rename_i q
    rw [if_pos q] at h; cases h
  · rename_i q
    rw [if_neg q] at h
    split
    · rename_i q2
      rw [if_pos q2] at h; cases h
    · exact rd_xf _ _ (by simpa using q)
theorem re_le (l : List Nat) : (reD l).2 ≤ l.length := by
  have := rd_le (l := l) 8 0 (Nat.zero_le _)
  unfold reD
  split
  · exact this
  split <;> exact this
theorem tm_out {l : List Nat} (tx : Tx l) : Tm 11 14000000 (outD l) := by
  have w1 : Tm 0 20 (.str "bad") := ⟨rfl, rfl, Nat.le_refl _, by decide +kernel⟩
  have w2 : Tm 0 20 (.str "read") := ⟨rfl, rfl, Nat.le_refl _, by decide +kernel⟩
  unfold outD
  cases z : isNo (reD l).1 with
  | true =>
    rw [if_pos rfl]
    have ti : Tm 0 2000 (.int ((reD l).2 : Int)) := tm_int (by have := re_le l; have := tx.len; omega)
    refine (tm_lst (k := 0) (n := 2000) fun d hd => ?_).mono (by decide) (by show 2000 * 3 + 2 * 3 + 4 ≤ 14000000; decide)
    simp only [List.mem_cons, List.not_mem_nil, or_false] at hd
    rcases hd with rfl | rfl | rfl
    · exact w1.mono (Nat.le_refl _) (by decide)
    · exact ti
    · exact tm_nonB.2 _
  | false =>
    rw [if_neg (by decide)]
    have tx := xf_tm (re_xf z)
    have e : szX 8 = 13776000 := by decide +kernel
    rw [e] at tx
    refine ⟨?_, ?_, ?_, ?_⟩
    · have := tx.sh
      simp [PyData.showable, PyData.showableAll, this]
    · have := tx.nd
      simp [PyData.hasDict, PyData.hasDictAll, this]
    · have := tx.dz
      simp only [PyData.depth, PyData.depthAll]
      omega
    · have := tx.ln
      have h2 := w2.ln
      have key := listText_len_le (PyData.shownAll [.str "read", (reD l).1])
      simp only [PyData.shownAll, List.map_cons, List.map_nil, List.sum_cons, List.sum_nil, List.length_cons, List.length_nil] at key
      have q : (PyData.list [.str "read", (reD l).1]).shown = listText (PyData.shownAll [.str "read", (reD l).1]) := by rw [PyData.shown]
      rw [q]
      simp only [PyData.shownAll]
      omega
theorem shw_out {K : PySem.W.Frag} {H : Hp} {v : V} {l : List Nat} (h : Dh H v (outD l)) (tx : Tx l) : Shw K H v (outD l).shown := by
  have t := tm_out tx
  exact h.shw t.sh t.nd (Nat.le_trans t.dz (by decide)) (Nat.le_trans t.ln (by decide))
end K77
set_option Elab.async false
set_option linter.all false
set_option maxRecDepth 100000
set_option maxHeartbeats 4000000
namespace K77
open PySem PySem.Spec PyProof.Rows L2 Lc
/-! ## texts made and bent -/
theorem cutT {l : List Nat} {a : Nat} : cutS (TS l) none (some (a : Int)) = TS (l.take a) := by
  refine ts_of ?_
  show (cutS (TS l) none (some (a : Int))).cps.toList = _
  have e0 : HT.sIx (TS l).length 0 none = 0 := rfl
  unfold cutS
  rw [HT.sIx_nat, e0, ts_len]
  show List.take (min a l.length - 0) (List.drop 0 (CL (TS l))) = _
  rw [cl_ts, List.drop_zero, Nat.sub_zero]
  by_cases h : a ≤ l.length
  · rw [Nat.min_eq_left h]
  · rw [Nat.min_eq_right (by omega), List.take_of_length_le (Nat.le_refl _), List.take_of_length_le (by omega)]
theorem big20 {z : Int} (h1 : 0 ≤ z) (h2 : z ≤ 1000000) : z.natAbs < 2 ^ 4000 := Nat.lt_of_lt_of_le (show z.natAbs < 2 ^ 20 by omega) (Nat.pow_le_pow_right (by decide) (by decide))
def bents : Str := " ()=#'/-0129az\nA"
theorem bents_len : (PySem.Str.ofString " ()=#'/-0129az\nA").cps.toList.length = 16 := by decide +kernel
theorem bents_ok : ∀ c ∈ (PySem.Str.ofString " ()=#'/-0129az\nA").cps.toList, c < 128 := by decide +kernel
def spBent : Sp := fun vs H Q _ => ∃ (t c : Addr) (l : List Nat), vs = [.ref t, .str (TS l)] ∧ TapeL c H t ∧ Tx l ∧ l.length ≤ 399000 ∧ ∀ (m : List Nat) (H' : Hp), Tx m → m.length ≤ l.length + 1 → TapeL c H' t → SameB t H H' → Q (.str (TS m)) H'
section
variable {P : Program} {w : World} {K : PySem.W.Frag} {mg : Str → Option Value} {base : Heap} {f : Addr} {fd : FuncData}
abbrev sBent : Stmt := top 51
abbrev nBent : List Str := ["_law_tape_here", "_law_text", "_law_at", "_law_sign", "_law_ahead", "_law_rest"]
abbrev pBent : List Str := ["_law_tape_here", "_law_text"]
theorem scBent : FnScope nBent pBent (defScope sBent) := ⟨rfl, rfl, rfl, by decide +kernel, rfl, by decide +kernel, by decide +kernel⟩
section
variable {fA_ : Addr} {fdA_ : FuncData}
theorem ok_Bent (F : Fun K "_law_bent" "_law_bent" sBent f fd) (T : Bt mg)
    (GA_ : FnOk P w K mg base CX0 1 fA_ fdA_ ["_law_tape_here", "_law_many"] (spDrawL)) (mA_ : mg "_law_draw" = some (.ref fA_)) (kA_ : PySem.W.keepIn K (.ref fA_) = true) (bA_ : Binds K fdA_ ["_law_tape_here", "_law_many"] []) : FnOk P w K mg base CX0 2 f fd pBent (spBent) := by
  refine F.ok scBent (fun vs H Q E h => ?_) (fun cdv A outer s H vs Q E hr h => ?_)
  · obtain ⟨t, c, l, rfl, _⟩ := h
    rfl
  · obtain ⟨t, c, l, rfl, hT, tx, ln, k⟩ := h
    have hrA_ : Room (1) _ := hr.mono (by first | decide | omega)
    refine ⟨_, (pss_cons (ps_set (i := 2) scBent.nd rfl (Or.inl rfl) (pe_call GA_ hrA_ (by rfl) mA_ kA_ bA_ .nil pass0 (pa_cons (pv 0) (pa_cons (pe_op op_add (pe_callB call_len_str (by rfl) T.len PySem.boot_len (pa_cons (pv 1) pa_nil)) pe_int) pa_nil))))
      (pss_cons (ps_set (i := 3) scBent.nd rfl (Or.inl rfl) (pe_ix ix_str pe_str (pe_call GA_ hrA_ (by rfl) mA_ kA_ bA_ .nil pass0 (pa_cons (pv 0) (pa_cons pe_int pa_nil))) (fun _ _ => rfl)))
      (pss_cons (ps_par (i := 4) (j := 5) (by rfl) scBent.nd rfl rfl (by decide) rfl rfl (pa_cons (pe_slice sl_str (pv 1) po_none (po_some (pv 2))) (pa_cons (pe_slice sl_str (pv 1) (po_some (pe_op op_add (pv 2) pe_int)) po_none) pa_nil)) (by rfl))
      (pss_one (ps_ret (pe_ix ix_list (pe_lst (pa_cons (pe_op op_add_str (pe_op op_add_str (pv 4) (pv 3)) (pe_slice sl_str (pv 1) (po_some (pv 2)) po_none)) (pa_cons (pe_op op_add_str (pv 4) (pv 5)) (pa_cons (pe_op op_add_str (pe_op op_add_str (pv 4) (pv 3)) (pv 5)) (pa_cons (pv 4) pa_nil))))) (pe_call GA_ hrA_ (by rfl) mA_ kA_ bA_ .nil pass0 (pa_cons (pv 0) (pa_cons pe_int pa_nil))) (fun _ _ => rfl))))))), ?_⟩
    have two : 2 ≤ sizeLine := by decide
    have four : 4 ≤ sizeLine := by decide
    have big : (800004 : Nat) ≤ sizeLine := by decide
    refine ⟨_, rfl, _, rfl, _, rfl, tx.line, _, _, rfl, rfl, t, c, _, rfl, hT, by omega, big20 (by omega) (by rw [ts_len]; omega), fun k1 H1 u1 v1 T1 S1 => ?_⟩
    rw [ts_len] at v1
    obtain ⟨n, rfl⟩ : ∃ n : Nat, k1 = (n : Int) := ⟨k1.toNat, by omega⟩
    refine ⟨_, rfl, t, c, _, rfl, T1, by decide, big20 (by decide) (by decide), fun k2 H2 u2 v2 T2 S2 => ?_⟩
    obtain ⟨d, hd, hd2⟩ : ∃ d, (PySem.Str.ofString " ()=#'/-0129az\nA").cps.toList[k2.toNat]? = some d ∧ d < 128 := by
      have lt : k2.toNat < (PySem.Str.ofString " ()=#'/-0129az\nA").cps.toList.length := by rw [bents_len]; omega
      exact ⟨_, List.getElem?_eq_getElem lt, bents_ok _ (List.getElem_mem lt)⟩
    have hat : atI (PySem.Str.ofString " ()=#'/-0129az\nA").cps.toList k2 = some d := by
      obtain ⟨m, rfl⟩ : ∃ m : Nat, k2 = (m : Int) := ⟨k2.toNat, by omega⟩
      exact atI_nat (by simpa using hd)
    refine ⟨_, _, d, rfl, rfl, by decide +kernel, hat, ?_⟩
    refine ⟨_, rfl, _, rfl, (n : Int), rfl, _, rfl, tx.line, _, rfl, _, rfl, _, _, rfl, rfl, ((n : Int) + 1), rfl, _, rfl, tx.line, ?_⟩
    rw [cutT, show ((n : Int) + 1) = ((n + 1 : Nat) : Int) by omega, cutE]
    have T3 := T2
    have S3 := S1.trans S2
    have l1 : (l.take n).length ≤ l.length := by rw [List.length_take]; omega
    have l2 : (l.drop n).length ≤ l.length := by rw [List.length_drop]; omega
    have l3 : (l.drop (n + 1)).length ≤ l.length := by rw [List.length_drop]; omega
    have e1 : (⟨#[d]⟩ : Str) = TS [d] := rfl
    have lt : ∀ m : List Nat, (TS m).length = m.length := ts_len
    have a1 : (TS (l.take n) ++ (⟨#[d]⟩ : Str)) = TS (l.take n ++ [d]) := by rw [e1, ts_app]
    have ln1 : (l.take n ++ [d]).length ≤ l.length + 1 := by rw [List.length_append]; show _ + 1 ≤ _; omega
    refine ⟨_, _, rfl, _, rfl, _, rfl, _, _, rfl, rfl, by rw [e1, lt, lt]; show _ + 1 ≤ _; omega, _, rfl, _, rfl, (n : Int), rfl, _, rfl, tx.line, ?_⟩
    rw [cutE, a1]
    refine ⟨_, _, rfl, rfl, by rw [lt, lt]; omega, _, rfl, _, rfl, _, _, rfl, rfl, by rw [lt, lt]; omega, _, rfl, _, rfl, _, _, rfl, rfl, by rw [e1, lt, lt]; show _ + 1 ≤ _; omega, _, rfl, ?_⟩
    rw [a1, ts_app, ts_app]
    refine ⟨_, _, rfl, rfl, by rw [lt, lt]; omega, _, rfl, four, fun r hr => ?_⟩
    rw [ts_app]
    have zr := Same.upd (o := .lst [.str (TS (l.take n ++ [d] ++ l.drop n)), .str (TS (l.take n ++ l.drop (n + 1))), .str (TS (l.take n ++ [d] ++ l.drop (n + 1))), .str (TS (l.take n))]) hr
    have T4 := T3.same zr
    have S4 := S3.trans (Same.b t zr)
    have nr := T3.tape.ne hr
    refine ⟨_, rfl, t, c, _, rfl, T4, by decide, big20 (by decide) (by decide), fun k3 H5 u3 v3 T5 S5 => ?_⟩
    have S6 := S4.trans S5
    have o1 : ∀ x ∈ l.take n, x < 128 := fun x hx => tx.ok x (List.mem_of_mem_take hx)
    have o2 : ∀ m, ∀ x ∈ l.drop m, x < 128 := fun m x hx => tx.ok x (List.mem_of_mem_drop hx)
    have oa : ∀ {a b : List Nat}, (∀ x ∈ a, x < 128) → (∀ x ∈ b, x < 128) → ∀ x ∈ a ++ b, x < 128 := fun ha hb x hx => by
      rcases List.mem_append.mp hx with hx | hx
      · exact ha x hx
      · exact hb x hx
    have od : ∀ x ∈ [d], x < 128 := fun x hx => by rw [List.mem_singleton.mp hx]; exact hd2
    have key : ∀ m : List Nat, (∀ x ∈ m, x < 128) → m.length ≤ l.length + 1 → Q (.str (TS m)) H5 := fun m ho hl => k m H5 ⟨by omega, ho⟩ hl T5 S6
    have fin : ∃ m : List Nat, ([.str (TS (l.take n ++ [d] ++ l.drop n)), .str (TS (l.take n ++ l.drop (n + 1))), .str (TS (l.take n ++ [d] ++ l.drop (n + 1))), .str (TS (l.take n))] : List V)[k3.toNat]? = some (.str (TS m)) ∧ (∀ x ∈ m, x < 128) ∧ m.length ≤ l.length + 1 := by
      have : k3.toNat = 0 ∨ k3.toNat = 1 ∨ k3.toNat = 2 ∨ k3.toNat = 3 := by omega
      rcases this with e | e | e | e <;> rw [e]
      · exact ⟨_, rfl, oa (oa o1 od) (o2 _), by rw [List.length_append, List.length_append, List.length_take, List.length_drop]; show _ + 1 + _ ≤ _; omega⟩
      · exact ⟨_, rfl, oa o1 (o2 _), by rw [List.length_append, List.length_take, List.length_drop]; omega⟩
      · exact ⟨_, rfl, oa (oa o1 od) (o2 _), by rw [List.length_append, List.length_append, List.length_take, List.length_drop]; show _ + 1 + _ ≤ _; omega⟩
      · exact ⟨_, rfl, o1, by omega⟩
    obtain ⟨m, f1, f2, f3⟩ := fin
    exact ⟨r, _, _, _, rfl, rfl, SqL.of (S5 _ _ nr upd_same), at_of (j := k3.toNat) (by omega) f1, key m f2 f3⟩
end
end
end K77
set_option Elab.async false
set_option linter.all false
set_option maxRecDepth 100000
set_option maxHeartbeats 4000000
namespace K77
open PySem PySem.Spec PyProof.Rows L2 Lc
/-! ## the law -/
def spLaw (K : PySem.W.Frag) : Sp := fun vs H Q _ => ∃ (a : Addr) (ns : List Int), vs = [.ref a] ∧ SqL K H a (ns.map V.int) ∧ ∀ H', Q (.bl true) H'
def AzV (v : V) : Prop := ∃ l : List Nat, v = .str (TS l) ∧ Tx l
structure Az (n : Nat) (z : Str) : Prop where
  len : (CL z).length ≤ n
  ok : ∀ c ∈ CL z, c < 128
theorem Az.v {n : Nat} {z : Str} (h : Az n z) (l : n ≤ 400000) : AzV (.str z) := ⟨CL z, by rw [ts_cl], Nat.le_trans h.len l, h.ok⟩
theorem Az.ln {n : Nat} {z : Str} (h : Az n z) : z.length ≤ n := by rw [lenL]; exact h.len
def azB (n : Nat) (z : Str) : Bool := decide ((CL z).length ≤ n) && (CL z).all fun c => decide (c < 128)
theorem az_of {n : Nat} {z : Str} (h : azB n z = true) : Az n z := by
  unfold azB at h
  simp only [Bool.and_eq_true, decide_eq_true_eq, List.all_eq_true] at h
  exact ⟨h.1, h.2⟩
def azVB : V → Bool
  | .str z => azB 20 z
  | _ => false
theorem azs_of {xs : List V} (h : xs.all azVB = true) : ∀ x ∈ xs, AzV x := fun x hx => by
  have := List.all_eq_true.mp h x hx
  cases x with
  | str z => exact (az_of (n := 20) this).v (by decide)
  | _ => cases this
theorem az_app {n m : Nat} {x y : Str} (h : Az n x) (g : Az m y) : Az (n + m) (x ++ y) := by
  have e : CL (x ++ y) = CL x ++ CL y := appL x y
  refine ⟨?_, fun c hc => ?_⟩
  · rw [e, List.length_append]
    exact Nat.add_le_add h.len g.len
  · rw [e] at hc
    rcases List.mem_append.mp hc with hc | hc
    · exact h.ok c hc
    · exact g.ok c hc
theorem az_mul {x : Str} {n k : Nat} {i : Int} (h : Az n x) (hi : i.toNat * n ≤ k) (hk : n ≤ k) : Az k (Txt.mul x i) := by
  unfold Txt.mul
  by_cases h1 : i < 1
  · rw [if_pos h1]
    exact ⟨Nat.zero_le _, fun c hc => by cases (by simpa [Str.empty] using hc : c ∈ ([] : List Nat))⟩
  · rw [if_neg h1]
    by_cases h2 : (i == 1 || x.length == 0) = true
    · rw [if_pos h2]
      exact ⟨Nat.le_trans h.len hk, h.ok⟩
    · rw [if_neg h2]
      have e : ((List.replicate i.toNat x.cps).foldl (· ++ ·) #[]).toList = (List.replicate i.toNat x.cps.toList).flatten := by
        rw [foldl_app]
        simp
      refine ⟨?_, fun c hc => ?_⟩
      · show ((List.replicate i.toNat x.cps).foldl (· ++ ·) #[]).toList.length ≤ k
        rw [e, List.length_flatten]
        have key : ∀ m : Nat, ((List.replicate m x.cps.toList).map List.length).sum ≤ m * n := by
          intro m
          induction m with
          | zero => simp
          | succ m ih =>
            rw [List.replicate_succ, List.map_cons, List.sum_cons, Nat.succ_mul]
            have : x.cps.toList.length ≤ n := h.len
            omega
        exact Nat.le_trans (key _) hi
      · have hc : c ∈ ((List.replicate i.toNat x.cps).foldl (· ++ ·) #[]).toList := hc
        rw [e] at hc
        obtain ⟨l, hl, hcl⟩ := List.mem_flatten.mp hc
        rw [List.eq_of_mem_replicate hl] at hcl
        exact h.ok c hcl
theorem mul_okG {x : Str} {n : Nat} {i : Int} (h : Az n x) (h1 : 0 < i) (h2 : i ≤ 100000) (hn : n ≤ 20) : MulOk x i := by
  have hx : x.length ≤ 20 := Nat.le_trans h.ln hn
  have hm : x.length * i.toNat ≤ 20 * 100000 := Nat.mul_le_mul hx (by omega)
  refine ⟨by simp; omega, fun _ _ => ?_, fun _ _ => ?_⟩
  · have : (2 ^ 63 - 1 : Int) / i ≥ 20 := by
      have : (20 : Int) * i ≤ 2 ^ 63 - 1 := by omega
      exact (Int.le_ediv_iff_mul_le (by omega)).mpr this
    omega
  · unfold Builtin.Str.tooLong
    have : ¬ (x.length * i.toNat > sizeLine) := by
      have : (2000000 : Nat) ≤ sizeLine := by decide
      omega
    simpa using this
/-- the list of texts -/
structure LS (t c Z : Addr) (H1 H : Hp) (xs : List V) : Prop where
  at_ : H Z = some (.lst xs)
  az : ∀ x ∈ xs, AzV x
  ln : xs.length ≤ 100
  tp : TapeL c H t
  sm : SameB t H1 H
theorem LS.same {t c Z : Addr} {H1 H H' : Hp} {xs : List V} (h : LS t c Z H1 H xs) (s : Same H H') : LS t c Z H1 H' xs := ⟨s _ _ h.at_, h.az, h.ln, h.tp.same s, h.sm.trans (Same.b t s)⟩
theorem LS.more {t c Z M N : Addr} {H1 H : Hp} {xs zs : List V} (h : LS t c Z H1 H xs) (hM : H M = none) (hN : upd H M (.lst zs) N = none) (az : ∀ x ∈ zs, AzV x) (l : xs.length + zs.length ≤ 100) : LS t c N H1 (upd (upd H M (.lst zs)) N (.lst (xs ++ zs))) (xs ++ zs) := by
  have s := (Same.upd (o := .lst zs) hM).trans (Same.upd (o := .lst (xs ++ zs)) hN)
  refine ⟨upd_same, fun x hx => ?_, by rw [List.length_append]; exact l, h.tp.same s, h.sm.trans (Same.b t s)⟩
  rcases List.mem_append.mp hx with hx | hx
  · exact h.az x hx
  · exact az x hx
theorem xf_ascii {n : Nat} {d : PyData} (h : Xf n d) : ∀ c ∈ shL d, c < 128 := by
  have e : ∀ m, ∀ c ∈ intL m, c < 128 := fun m c hc => by rcases (int_signs m).2 c hc with h | h <;> omega
  induction h with
  | col h hn => rw [sh_col]; exact fun c hc => by have := (name_signs hn).2.2.1 c hc; omega
  | @val n k d h nn =>
    rw [sh_val]
    intro c hc
    rcases List.mem_cons.mp hc with rfl | hc
    · omega
    cases h with
    | non => exact absurd rfl nn
    | @num a b _ _ _ =>
      have : c ∈ ratL a b := by simpa [valL] using hc
      have := (rat_signs a b).2 c this
      omega
    | flag b =>
      cases b
      · have key : ∀ c ∈ valL (.bool false), c < 128 := by decide +kernel
        exact key c hc
      · have key : ∀ c ∈ valL (.bool true), c < 128 := by decide +kernel
        exact key c hc
    | @word x hs hn =>
      have : c ∈ 39 :: CL x := by simpa [valL] using hc
      rcases List.mem_cons.mp this with rfl | this
      · omega
      · have := (name_signs hn).2.2.1 c this; omega
  | @op n w os ops ho l hos ih =>
    obtain ⟨_, _, _, _, nw⟩ := opsV_words ho
    rw [sh_op nw]
    have wk : ∀ x os, opsV x = some os → ∀ c ∈ CL x, c < 128 := by
      refine opsV_all ?_ ?_ ?_ ?_ ?_ ?_ ?_ ?_ ?_ ?_ ?_ <;> decide +kernel
    have ls : ∀ {os : List PyData}, (∀ o ∈ os, ∀ c ∈ shL o, c < 128) → ∀ c ∈ shLs os, c < 128 := by
      intro os
      induction os with
      | nil => intro _ c hc; rw [shLs] at hc; cases hc
      | cons o r ih2 =>
        intro hh c hc
        rw [shLs] at hc
        simp only [List.mem_cons, List.mem_append] at hc
        rcases hc with (rfl | hc) | hc
        · omega
        · exact hh o List.mem_cons_self c hc
        · exact ih2 (fun o ho => hh o (List.mem_cons_of_mem _ ho)) c hc
    intro c hc
    simp only [List.mem_cons, List.mem_append, List.not_mem_nil, or_false] at hc
    rcases hc with ((rfl | hc) | hc) | rfl
    · omega
    · exact wk w ops ho c hc
    · exact ls ih c hc
    · omega
theorem xf_tx {d : PyData} (h : Xf 8 d) : Tx (shL d) ∧ (shL d).length ≤ 330000 := by
  have ln := Nat.le_trans (xf_len h) (szT_le (Nat.le_refl 8))
  exact ⟨⟨by omega, xf_ascii h⟩, ln⟩
theorem dh_ne {H : Hp} {v : V} {d e : PyData} (h : Dh H v d) : True := True.intro
section
variable {P : Program} {w : World} {K : PySem.W.Frag} {mg : Str → Option Value} {base : Heap} {f : Addr} {fd : FuncData}
abbrev sLaw : Stmt := top 52
abbrev nLaw : List Str := ["_law_script", "_law_tape_here", "_law_columns_here", "_law_some", "_law_text", "_law_odd", "_law_turn", "_law_kind", "_law_once", "_law_one"]
abbrev pLaw : List Str := ["_law_script"]
theorem scLaw : FnScope nLaw pLaw (defScope sLaw) := ⟨rfl, rfl, rfl, by decide +kernel, rfl, by decide +kernel, by decide +kernel⟩
section
variable {fA_ fB_ fC_ fD_ fE_ fF_ fG_ fH_ : Addr} {fdA_ fdB_ fdC_ fdD_ fdE_ fdF_ fdG_ fdH_ : FuncData}
theorem ok_Law (F : Fun K "law" "law" sLaw f fd) (T : Bt mg)
    (GA_ : FnOk P w K mg base CX0 1 fA_ fdA_ ["_law_script"] (spTape K)) (mA_ : mg "_law_tape" = some (.ref fA_)) (kA_ : PySem.W.keepIn K (.ref fA_) = true) (bA_ : Binds K fdA_ ["_law_script"] [])
    (GB_ : FnOk P w K mg base CX0 4 fB_ fdB_ ["_law_tape_here", "_law_lead", "_law_many", "_law_taken"] (spCls)) (mB_ : mg "_law_columns" = some (.ref fB_)) (kB_ : PySem.W.keepIn K (.ref fB_) = true) (bB_ : Binds K fdB_ ["_law_tape_here", "_law_lead", "_law_many", "_law_taken"] [])
    (GC_ : FnOk P w K mg base CX0 24 fC_ fdC_ ["_law_text"] (spTold)) (mC_ : mg "_law_told" = some (.ref fC_)) (kC_ : PySem.W.keepIn K (.ref fC_) = true) (bC_ : Binds K fdC_ ["_law_text"] [])
    (GD_ : FnOk P w K mg base CX0 13 fD_ fdD_ ["_law_text"] (spDue)) (mD_ : mg "_law_due" = some (.ref fD_)) (kD_ : PySem.W.keepIn K (.ref fD_) = true) (bD_ : Binds K fdD_ ["_law_text"] [])
    (GE_ : FnOk P w K mg base CX0 1 fE_ fdE_ ["_law_tape_here", "_law_many"] (spDrawL)) (mE_ : mg "_law_draw" = some (.ref fE_)) (kE_ : PySem.W.keepIn K (.ref fE_) = true) (bE_ : Binds K fdE_ ["_law_tape_here", "_law_many"] [])
    (GF_ : FnOk P w K mg base CX0 10 fF_ fdF_ ["expression"] (spSh 8)) (mF_ : mg "show_expression" = some (.ref fF_)) (kF_ : PySem.W.keepIn K (.ref fF_) = true) (bF_ : Binds K fdF_ ["expression"] [])
    (GG_ : FnOk P w K mg base CX0 8 fG_ fdG_ ["_law_tape_here", "_law_columns_here", "_law_kind", "_law_depth"] (spXp 5)) (mG_ : mg "_law_expression" = some (.ref fG_)) (kG_ : PySem.W.keepIn K (.ref fG_) = true) (bG_ : Binds K fdG_ ["_law_tape_here", "_law_columns_here", "_law_kind", "_law_depth"] [])
    (GH_ : FnOk P w K mg base CX0 2 fH_ fdH_ ["_law_tape_here", "_law_text"] (spBent)) (mH_ : mg "_law_bent" = some (.ref fH_)) (kH_ : PySem.W.keepIn K (.ref fH_) = true) (bH_ : Binds K fdH_ ["_law_tape_here", "_law_text"] []) : FnG P w K mg base 25 f fd pLaw (spLaw K) := by
  refine Lc.Fun.okG F scLaw (fun vs H Q E h => ?_) (fun cdv A outer s H vs Q E hg hr h => ?_)
  · obtain ⟨a0, ns, rfl, _⟩ := h
    rfl
  · obtain ⟨a0, ns, rfl, hS, k⟩ := h
    have hrA_ : Room (1) _ := hr.mono (by first | decide | omega)
    have hrB_ : Room (4) _ := hr.mono (by first | decide | omega)
    have hrC_ : Room (24) _ := hr.mono (by first | decide | omega)
    have hrD_ : Room (13) _ := hr.mono (by first | decide | omega)
    have hrE_ : Room (1) _ := hr.mono (by first | decide | omega)
    have hrF_ : Room (10) _ := hr.mono (by first | decide | omega)
    have hrG_ : Room (8) _ := hr.mono (by first | decide | omega)
    have hrH_ : Room (2) _ := hr.mono (by first | decide | omega)
    refine ⟨_, (pss_cons (ps_set (i := 1) scLaw.nd rfl (Or.inl rfl) (pe_call GA_ hrA_ (by rfl) mA_ kA_ bA_ .nil pass0 (pa_cons (pv 0) pa_nil)))
      (pss_cons (ps_set (i := 2) scLaw.nd rfl (Or.inl rfl) (pe_call GB_ hrB_ (by rfl) mB_ kB_ bB_ .nil pass0 (pa_cons (pv 1) (pa_cons (pe_tup (pa_cons pe_str pa_nil)) (pa_cons pe_int (pa_cons (pe_tup pa_nil) pa_nil))))))
      (Evl.pss_cut (ps_set (i := 3) scLaw.nd rfl (Or.inl rfl) (pe_lst (pa_cons pe_str (pa_cons pe_str (pa_cons pe_str (pa_cons pe_str (pa_cons pe_str (pa_cons pe_str (pa_cons pe_str (pa_cons pe_str (pa_cons pe_str (pa_cons pe_str (pa_cons pe_str pa_nil)))))))))))))
      (Evl.pss_cut (ps_set (i := 3) scLaw.nd rfl (Or.inl rfl) (pe_op op_cat (pv 3) (pe_lst (pa_cons pe_str (pa_cons pe_str (pa_cons pe_str (pa_cons pe_str (pa_cons pe_str (pa_cons pe_str (pa_cons pe_str (pa_cons pe_str (pa_cons pe_str (pa_cons pe_str (pa_cons pe_str pa_nil))))))))))))))
      (Evl.pss_cut (ps_set (i := 3) scLaw.nd rfl (Or.inl rfl) (pe_op op_cat (pv 3) (pe_lst (pa_cons pe_str (pa_cons pe_str (pa_cons pe_str (pa_cons pe_str (pa_cons pe_str (pa_cons pe_str (pa_cons (pe_op op_add_str pe_str (pe_op op_mulS pe_str pe_int)) (pa_cons (pe_op op_add_str pe_str (pe_op op_mulS pe_str pe_int)) pa_nil)))))))))))
      (Evl.pss_cut (ps_set (i := 3) scLaw.nd rfl (Or.inl rfl) (pe_op op_cat (pv 3) (pe_lst (pa_cons (pe_op op_add_str pe_str (pe_op op_mulS pe_str pe_int)) (pa_cons (pe_op op_mulS pe_str pe_int) (pa_cons (pe_op op_add_str pe_str (pe_op op_mulS pe_str pe_int)) (pa_cons (pe_op op_mulS pe_str pe_int) (pa_cons (pe_op op_add_str (pe_op op_add_str (pe_op op_mulS pe_str pe_int) pe_str) (pe_op op_mulS pe_str pe_int)) pa_nil))))))))
      (Evl.pss_cut (ps_set (i := 3) scLaw.nd rfl (Or.inl rfl) (pe_op op_cat (pv 3) (pe_lst (pa_cons (pe_op op_add_str (pe_op op_add_str (pe_op op_mulS pe_str pe_int) pe_str) (pe_op op_mulS pe_str pe_int)) (pa_cons pe_str (pa_cons pe_str (pa_cons pe_str pa_nil)))))))
      (Evl.pss_cut (ps_for PassesOwn.never rfl (pi_list (pv 3)) (pg_name (i := 4) scLaw.nd rfl (.inl rfl)) (pss_one (ps_if (pt_cmpR op_ne (pe_callB (call_reprV hg hr.units) (by rfl) T.repr boot_repr (pa_cons (pe_call GC_ hrC_ (by rfl) mC_ kC_ bC_ .nil pass0 (pa_cons (pv 4) pa_nil)) pa_nil)) (pe_callB (call_reprV hg hr.units) (by rfl) T.repr boot_repr (pa_cons (pe_call GD_ hrD_ (by rfl) mD_ kD_ bD_ .nil pass0 (pa_cons (pv 4) pa_nil)) pa_nil)) (nomark _)) (pss_one (ps_ret pe_bl)) pss_nil)))
      (Evl.pss_cut (ps_for PassesOwn.never rfl (pi_list (pe_lst (pa_cons pe_non (pa_cons pe_int (pa_cons (pe_lst (pa_cons pe_str pa_nil)) (pa_cons (pe_tup (pa_cons pe_str pa_nil)) (pa_cons pe_bl pa_nil))))))) (pg_name (i := 5) scLaw.nd rfl (.inl rfl)) (pss_one (ps_if (pt_cmpR (op_neD hr.units) (pe_call GC_ hrC_ (by rfl) mC_ kC_ bC_ .nil pass0 (pa_cons (pv 5) pa_nil)) (pe_lst (pa_cons pe_str (pa_cons pe_int (pa_cons pe_bl pa_nil)))) (nomark _)) (pss_one (ps_ret pe_bl)) pss_nil)))
      (Evl.pss_cut (ps_for PassesOwn.never rfl (pi_range1 (by rfl) T.range (pa_cons pe_int pa_nil)) (pg_name (i := 6) scLaw.nd rfl (.inl rfl)) (pss_cons (ps_set (i := 7) scLaw.nd rfl (Or.inl rfl) (pe_ix ix_list (pe_lst (pa_cons pe_str (pa_cons pe_str (pa_cons pe_str pa_nil)))) (pe_call GE_ hrE_ (by rfl) mE_ kE_ bE_ .nil pass0 (pa_cons (pv 1) (pa_cons pe_int pa_nil))) (fun _ _ => rfl)))
      (pss_cons (ps_set (i := 4) scLaw.nd rfl (Or.inl rfl) (pe_call GF_ hrF_ (by rfl) mF_ kF_ bF_ .nil pass0 (pa_cons (pe_call GG_ hrG_ (by rfl) mG_ kG_ bG_ .nil pass0 (pa_cons (pv 1) (pa_cons (pv 2) (pa_cons (pv 7) (pa_cons pe_int pa_nil))))) pa_nil)))
      (pss_cons (ps_set (i := 8) scLaw.nd rfl (Or.inl rfl) (pe_call GH_ hrH_ (by rfl) mH_ kH_ bH_ .nil pass0 (pa_cons (pv 1) (pa_cons (pv 4) pa_nil))))
      (pss_one (ps_for PassesOwn.never rfl (pi_list (pe_lst (pa_cons (pv 8) (pa_cons (pe_call GH_ hrH_ (by rfl) mH_ kH_ bH_ .nil pass0 (pa_cons (pv 1) (pa_cons (pv 8) pa_nil))) pa_nil)))) (pg_name (i := 9) scLaw.nd rfl (.inl rfl)) (pss_one (ps_if (pt_cmpR op_ne (pe_callB (call_reprV hg hr.units) (by rfl) T.repr boot_repr (pa_cons (pe_call GC_ hrC_ (by rfl) mC_ kC_ bC_ .nil pass0 (pa_cons (pv 9) pa_nil)) pa_nil)) (pe_callB (call_reprV hg hr.units) (by rfl) T.repr boot_repr (pa_cons (pe_call GD_ hrD_ (by rfl) mD_ kD_ bD_ .nil pass0 (pa_cons (pv 9) pa_nil)) pa_nil)) (nomark _)) (pss_one (ps_ret pe_bl)) pss_nil))))))))
      (pss_one (ps_ret pe_bl)))))))))))), ?_⟩
    have one : 1 ≤ sizeLine := by decide
    have two : 2 ≤ sizeLine := by decide
    have three : 3 ≤ sizeLine := by decide
    have hun : 100 ≤ sizeLine := by decide
    refine ⟨_, rfl, a0, ns, rfl, hS, fun t H0 e0 ht hT0 => ?_⟩
    obtain ⟨c, hT0⟩ := hT0
    have hT0 : TapeL c H0 t := hT0
    refine ⟨_, rfl, one, fun p1 hp1 => ?_⟩
    have z1 := Same.upd (o := .tup [.str "number"]) hp1
    refine ⟨by show 0 ≤ sizeLine; decide, fun p2 hp2 => ?_⟩
    have z2 := Same.upd (o := .tup []) hp2
    refine ⟨t, c, p1, p2, 5, ["number"], rfl, hT0.same (z1.trans z2), z2 _ _ upd_same, upd_same, by decide, by decide, by decide, by decide, fun k hk => by rw [List.mem_singleton.mp hk]; exact .inl rfl, fun L xs ps H1 hL hc ho nd l1 l6 T1 S1 => ?_⟩
    have l8 : ps.length ≤ 8 := Nat.le_trans l6 (by decide)
    have hn : ∀ p ∈ ps, Sh 12 p.1 ∧ nameB (.str p.1) = true := fun p hp => ⟨(ho p hp).1, (ho p hp).2.1⟩
    clear S1 z1 z2 hT0
    let SG : Option V → L2.St → Prop := fun x3 σ => σ = [some (.ref a0), some (.ref t), some (.ref L), x3, none, none, none, none, none, none]
    -- the texts
    refine ⟨fun σ H' => ∃ (Z : Addr) (zs : List V), SG (some (.ref Z)) σ ∧ LS t c Z H1 H' zs ∧ zs.length = 11, ?_, ?_⟩
    · exact ⟨by show 11 ≤ sizeLine; decide, fun p hp => ⟨p, _, rfl, ⟨upd_same, azs_of (by decide +kernel), by decide, T1.same (Same.upd hp), Same.b t (Same.upd hp)⟩, rfl⟩⟩
    rintro σ H2 ⟨Z, zs, rfl, ls, ln⟩
    refine ⟨fun σ H' => ∃ (Z : Addr) (zs : List V), SG (some (.ref Z)) σ ∧ LS t c Z H1 H' zs ∧ zs.length = 22, ?_, ?_⟩
    · exact ⟨_, rfl, by show 11 ≤ sizeLine; decide, fun p hp => ⟨Z, p, _, _, rfl, rfl, Same.upd hp _ _ ls.at_, upd_same, by rw [ln]; show 22 ≤ sizeLine; decide, fun N hN => ⟨N, _, rfl, ls.more hp hN (azs_of (by decide +kernel)) (by rw [ln]; decide), by rw [List.length_append, ln]; rfl⟩⟩⟩
    clear ls ln
    rintro σ H2 ⟨Z, zs, rfl, ls, ln⟩
    refine ⟨fun σ H' => ∃ (Z : Addr) (zs : List V), SG (some (.ref Z)) σ ∧ LS t c Z H1 H' zs ∧ zs.length = 30, ?_, ?_⟩
    · have m1 : Az 1 (PySem.Str.ofString "9") := az_of (by decide +kernel)
      have m2 : Az 41 (Txt.mul (PySem.Str.ofString "9") 41) := az_mul m1 (by decide) (by decide)
      have b1 : Az 1 (PySem.Str.ofString "=") := az_of (by decide +kernel)
      have b2 : Az 3 (PySem.Str.ofString "=1/") := az_of (by decide +kernel)
      refine ⟨_, rfl, _, _, rfl, rfl, mul_okG m1 (by decide) (by decide) (by decide), _, _, rfl, rfl, Nat.le_trans (Nat.add_le_add b1.ln m2.ln) (by decide), _, _, rfl, rfl, mul_okG m1 (by decide) (by decide) (by decide), _, _, rfl, rfl, Nat.le_trans (Nat.add_le_add b2.ln m2.ln) (by decide), by show 8 ≤ sizeLine; decide, fun p hp => ⟨Z, p, _, _, rfl, rfl, Same.upd hp _ _ ls.at_, upd_same, by rw [ln]; show 30 ≤ sizeLine; decide, fun N hN => ⟨N, _, rfl, ls.more hp hN (fun x hx => ?_) (by rw [ln]; decide), by rw [List.length_append, ln]; rfl⟩⟩⟩
      have hx : x ∈ ([.str "=5/1", .str "=-0", .str "=00", .str "=1/2/3", .str "=1/-2", .str "=+1"] : List V) ++ [.str (PySem.Str.ofString "=" ++ Txt.mul (PySem.Str.ofString "9") 41), .str (PySem.Str.ofString "=1/" ++ Txt.mul (PySem.Str.ofString "9") 41)] := hx
      rcases List.mem_append.mp hx with hx | hx
      · exact azs_of (xs := [.str "=5/1", .str "=-0", .str "=00", .str "=1/2/3", .str "=1/-2", .str "=+1"]) (by decide +kernel) x hx
      · simp only [List.mem_cons, List.not_mem_nil, or_false] at hx
        rcases hx with rfl | rfl
        · exact (az_app b1 m2).v (by decide)
        · exact (az_app b2 m2).v (by decide)
    clear ls ln
    rintro σ H2 ⟨Z, zs, rfl, ls, ln⟩
    have nt : Az 5 (PySem.Str.ofString "(not ") := az_of (by decide +kernel)
    have ga : Az 1 (PySem.Str.ofString "a") := az_of (by decide +kernel)
    have cp : Az 1 (PySem.Str.ofString ")") := az_of (by decide +kernel)
    refine ⟨fun σ H' => ∃ (Z : Addr) (zs : List V), SG (some (.ref Z)) σ ∧ LS t c Z H1 H' zs ∧ zs.length = 35, ?_, ?_⟩
    · have b1 : Az 1 (PySem.Str.ofString "=") := az_of (by decide +kernel)
      have b2 : Az 2 (PySem.Str.ofString "=1") := az_of (by decide +kernel)
      have g1 : Az 1 (PySem.Str.ofString "1") := az_of (by decide +kernel)
      have g0 : Az 1 (PySem.Str.ofString "0") := az_of (by decide +kernel)
      have op : Az 1 (PySem.Str.ofString "(") := az_of (by decide +kernel)
      have m1 : Az 5000 (Txt.mul (PySem.Str.ofString "1") 5000) := az_mul g1 (by decide) (by decide)
      have m2 : Az 13 (Txt.mul (PySem.Str.ofString "a") 13) := az_mul ga (by decide) (by decide)
      have m3 : Az 40 (Txt.mul (PySem.Str.ofString "0") 40) := az_mul g0 (by decide) (by decide)
      have m4 : Az 3 (Txt.mul (PySem.Str.ofString "(") 3) := az_mul op (by decide) (by decide)
      have m5 : Az 35 (Txt.mul (PySem.Str.ofString "(not ") 7) := az_mul nt (by decide) (by decide)
      have m6 : Az 7 (Txt.mul (PySem.Str.ofString ")") 7) := az_mul cp (by decide) (by decide)
      have m7 := az_app m5 ga
      refine ⟨_, rfl, _, _, rfl, rfl, mul_okG g1 (by decide) (by decide) (by decide), _, _, rfl, rfl, Nat.le_trans (Nat.add_le_add b1.ln m1.ln) (by decide), _, _, rfl, rfl, mul_okG ga (by decide) (by decide) (by decide), _, _, rfl, rfl, mul_okG g0 (by decide) (by decide) (by decide), _, _, rfl, rfl, Nat.le_trans (Nat.add_le_add b2.ln m3.ln) (by decide), _, _, rfl, rfl, mul_okG op (by decide) (by decide) (by decide),
        _, _, rfl, rfl, mul_okG nt (by decide) (by decide) (by decide), _, _, rfl, rfl, Nat.le_trans (Nat.add_le_add m5.ln ga.ln) (by decide), _, _, rfl, rfl, mul_okG cp (by decide) (by decide) (by decide), _, _, rfl, rfl, Nat.le_trans (Nat.add_le_add m7.ln m6.ln) (by decide), by show 5 ≤ sizeLine; decide, fun p hp => ⟨Z, p, _, _, rfl, rfl, Same.upd hp _ _ ls.at_, upd_same, by rw [ln]; show 35 ≤ sizeLine; decide, fun N hN => ⟨N, _, rfl, ls.more hp hN (fun x hx => ?_) (by rw [ln]; decide), by rw [List.length_append, ln]; rfl⟩⟩⟩
      simp only [List.mem_cons, List.not_mem_nil, or_false] at hx
      rcases hx with rfl | rfl | rfl | rfl | rfl
      · exact (az_app b1 m1).v (by decide)
      · exact m2.v (by decide)
      · exact (az_app b2 m3).v (by decide)
      · exact m4.v (by decide)
      · exact (az_app m7 m6).v (by decide)
    clear ls ln
    rintro σ H2 ⟨Z, zs, rfl, ls, ln⟩
    refine ⟨fun σ H' => ∃ (Z : Addr) (zs : List V), SG (some (.ref Z)) σ ∧ LS t c Z H1 H' zs ∧ zs.length = 39, ?_, ?_⟩
    · have m5 : Az 40 (Txt.mul (PySem.Str.ofString "(not ") 8) := az_mul nt (by decide) (by decide)
      have m6 : Az 8 (Txt.mul (PySem.Str.ofString ")") 8) := az_mul cp (by decide) (by decide)
      have m7 := az_app m5 ga
      refine ⟨_, rfl, _, _, rfl, rfl, mul_okG nt (by decide) (by decide) (by decide), _, _, rfl, rfl, Nat.le_trans (Nat.add_le_add m5.ln ga.ln) (by decide), _, _, rfl, rfl, mul_okG cp (by decide) (by decide) (by decide), _, _, rfl, rfl, Nat.le_trans (Nat.add_le_add m7.ln m6.ln) (by decide), by show 4 ≤ sizeLine; decide, fun p hp => ⟨Z, p, _, _, rfl, rfl, Same.upd hp _ _ ls.at_, upd_same, by rw [ln]; show 39 ≤ sizeLine; decide, fun N hN => ⟨N, _, rfl, ls.more hp hN (fun x hx => ?_) (by rw [ln]; decide), by rw [List.length_append, ln]; rfl⟩⟩⟩
      have hx : x ∈ V.str (Txt.mul (PySem.Str.ofString "(not ") 8 ++ PySem.Str.ofString "a" ++ Txt.mul (PySem.Str.ofString ")") 8) :: [.str "=#yesno", .str "A", .str "=1/"] := hx
      rcases List.mem_cons.mp hx with rfl | hx
      · exact (az_app m7 m6).v (by decide)
      · exact azs_of (xs := [.str "=#yesno", .str "A", .str "=1/"]) (by decide +kernel) x hx
    clear ls ln
    rintro σ H2 ⟨Z, zs, rfl, ls, ln⟩
    -- told and due of a text are shown alike
    have alike : ∀ {u u2 : V} {l : List Nat} {Ha Hb : Hp}, Tx l → Dh Ha u (outD l) → Dh Hb u2 (outD l) → Shw K Ha u (outD l).shown ∧ Shw K Hb u2 (outD l).shown := fun tx h1 h2 => ⟨shw_out h1 tx, shw_out h2 tx⟩
    refine ⟨fun σ H' => ∃ (x4 : Option V), σ = [some (.ref a0), some (.ref t), some (.ref L), some (.ref Z), x4, none, none, none, none, none] ∧ LS t c Z H1 H' zs, ?_, ?_⟩
    · refine ⟨_, rfl, Z, rfl, ⟨_, SqL.of ls.at_⟩, for_list (K := K) (a := Z) (xs := zs) (fun j σ H' => ∃ (x4 : Option V), σ = [some (.ref a0), some (.ref t), some (.ref L), some (.ref Z), x4, none, none, none, none, none] ∧ LS t c Z H1 H' zs) ⟨_, rfl, ls⟩ (fun j σ H' _ pr => by obtain ⟨_, _, e⟩ := pr; exact SqL.of e.at_) ?_ (fun σ H' pr => pr)⟩
      rintro j x σ H3 hj ⟨x4, rfl, ls3⟩
      obtain ⟨l, rfl, tx⟩ := ls.az x (List.mem_of_getElem? hj)
      refine ⟨_, rfl, _, rfl, .inr ⟨l, rfl, tx, fun u H4 s4 hu => ⟨u, _, rfl, shw_out hu tx, _, rfl, l, rfl, tx, fun u2 H5 s5 hu2 => ⟨u2, _, rfl, shw_out hu2 tx, rfl, _, rfl, ?_⟩⟩⟩⟩
      rw [decide_eq_true rfl]
      exact iteF ⟨_, rfl, (ls3.same s4).same s5⟩
    rintro σ H3 ⟨x4, rfl, ls3⟩
    clear ls
    refine ⟨fun σ H' => ∃ (x4 x5 : Option V), σ = [some (.ref a0), some (.ref t), some (.ref L), some (.ref Z), x4, x5, none, none, none, none] ∧ LS t c Z H1 H' zs, ?_, ?_⟩
    · refine ⟨one, fun q1 hq1 => ⟨one, fun q2 hq2 => ⟨by show 5 ≤ sizeLine; decide, fun M hM => ⟨M, rfl, ⟨_, SqL.of upd_same⟩, ?_⟩⟩⟩⟩
      have y1 := Same.upd (o := .lst [.str "a"]) hq1
      have y2 := Same.upd (o := .tup [.str "a"]) hq2
      have y3 := Same.upd (o := .lst [.non, .int 5, .ref q1, .ref q2, .bl true]) hM
      have f1 := y3 _ _ (y2 _ _ upd_same)
      have f2 := y3 q2 (.tup [.str "a"]) upd_same
      have f3 : upd (upd (upd H3 q1 (.lst [.str "a"])) q2 (.tup [.str "a"])) M (.lst [.non, .int 5, .ref q1, .ref q2, .bl true]) M = some (.lst [.non, .int 5, .ref q1, .ref q2, .bl true]) := upd_same
      have ls4 := ls3.same (y1.trans (y2.trans y3))
      generalize upd (upd (upd H3 q1 (.lst [.str "a"])) q2 (.tup [.str "a"])) M (.lst [.non, .int 5, .ref q1, .ref q2, .bl true]) = H4 at f1 f2 f3 ls4 ⊢
      refine for_list (K := K) (a := M) (xs := [.non, .int 5, .ref q1, .ref q2, .bl true]) (fun j σ H' => (∃ (x5 : Option V), σ = [some (.ref a0), some (.ref t), some (.ref L), some (.ref Z), x4, x5, none, none, none, none]) ∧ LS t c Z H1 H' zs ∧ Same H4 H') ⟨⟨_, rfl⟩, ls4, Same.refl _⟩ (fun j σ H' _ pr => SqL.of (pr.2.2 _ _ f3)) ?_ (fun σ H' pr => by obtain ⟨⟨x5, e⟩, h, _⟩ := pr; exact ⟨_, x5, e, h⟩)
      rintro j x σ H5 hj ⟨⟨x5, rfl⟩, ls5, s5⟩
      have ty : ∃ ty, TyN H5 x ty ∧ ty ≠ "str" := by
        have := List.mem_of_getElem? hj
        simp only [List.mem_cons, List.not_mem_nil, or_false] at this
        rcases this with rfl | rfl | rfl | rfl | rfl
        · exact ⟨_, .non, by decide⟩
        · exact ⟨_, .int 5, by decide⟩
        · exact ⟨_, .lst (s5 _ _ f1), by decide⟩
        · exact ⟨_, .tup (s5 _ _ f2), by decide⟩
        · exact ⟨_, .bl true, by decide⟩
      obtain ⟨ty, h1, h2⟩ := ty
      refine ⟨_, rfl, x, rfl, .inl ⟨ty, h1, h2, fun u H6 s6 hu => ⟨three, fun r hr => ?_⟩⟩⟩
      have zr := Same.upd (o := .lst [.str "bad", .int 0, .bl true]) hr
      have hb : Dh (upd H6 r (.lst [.str "bad", .int 0, .bl true])) (.ref r) badZ := .lst upd_same (.cons (.str _) (.cons (.int _) (.cons (.bl _) .nil)))
      refine ⟨_, _, (hu.same zr).dp rfl, hb.dp rfl, by decide +kernel, by decide +kernel, _, rfl, ?_⟩
      rw [show PyData.eqv badZ badZ = true by decide +kernel]
      exact iteF ⟨⟨_, rfl⟩, (ls5.same s6).same zr, s5.trans (s6.trans zr)⟩
    clear ls3
    rintro σ H4 ⟨x4, x5, rfl, ls4⟩
    refine ⟨fun σ H' => True, ?_, fun σ H' _ => k H'⟩
    refine ⟨16, rfl, by decide, by decide, for_range (n := 16) (fun i σ H' => (∃ (x4 x6 x7 x8 x9 : Option V), σ = [some (.ref a0), some (.ref t), some (.ref L), some (.ref Z), x4, x5, x6, x7, x8, x9]) ∧ TapeL c H' t ∧ SameB t H1 H') ⟨⟨_, _, _, _, _, rfl⟩, ls4.tp, ls4.sm⟩ ?_ (fun _ _ _ => True.intro)⟩
    clear ls4
    rintro i σ H5 hi ⟨⟨x4, x6, x7, x8, x9, rfl⟩, T5, S5⟩
    refine ⟨three, fun q hq => ?_⟩
    have zq := Same.upd (o := .lst [.str "number", .str "word", .str "flag"]) hq
    have nq := T5.tape.ne hq
    refine ⟨_, rfl, t, c, _, rfl, T5.same zq, by decide, big20 (by decide) (by decide), fun k3 H6 u3 w3 T6 S6 => ?_⟩
    obtain ⟨kk, hkk, skk⟩ : ∃ kk : Str, ([.str "number", .str "word", .str "flag"] : List V)[k3.toNat]? = some (.str kk) ∧ KindS kk := by
      have : k3.toNat = 0 ∨ k3.toNat = 1 ∨ k3.toNat = 2 := by omega
      rcases this with e | e | e <;> rw [e]
      · exact ⟨_, rfl, .inl rfl⟩
      · exact ⟨_, rfl, .inr (.inl rfl)⟩
      · exact ⟨_, rfl, .inr (.inr rfl)⟩
    have S7 : SameB t H1 H6 := (S5.trans (Same.b t zq)).trans S6
    have st4 := SameT.b T1.tape S7
    refine ⟨q, _, _, _, rfl, rfl, SqL.of (S6 _ _ nq upd_same), at_of (j := k3.toNat) (by omega) hkk, ?_⟩
    refine ⟨_, rfl, _, rfl, _, rfl, t, c, L, kk, xs, ps, rfl, skk, T6, st4 _ _ hL, hc.t st4, l8, fun v d H7 df xp T7 S8 => ?_⟩
    have xf : Xf 8 d := (xp_xf hn xp).mono (by decide)
    obtain ⟨tx, tl⟩ := xf_tx xf
    refine ⟨v, d, rfl, df.now, xf, by decide, fun H8 s8 => ?_⟩
    have T8 := T7.same s8
    have S9 := (S7.trans S8).trans (Same.b t s8)
    generalize shL d = l0 at tx tl ⊢
    refine ⟨_, rfl, _, rfl, t, c, l0, rfl, T8, tx, by omega, fun m1 H9 tx1 ln1 T9 S10 => ?_⟩
    have S11 := S9.trans S10
    refine ⟨_, rfl, _, rfl, _, rfl, t, c, m1, rfl, T9, tx1, by omega, fun m2 H10 tx2 ln2 T10 S12 => ⟨two, fun M hM => ⟨M, rfl, ⟨_, SqL.of upd_same⟩, ?_⟩⟩⟩
    have zM := Same.upd (o := .lst [.str (TS m1), .str (TS m2)]) hM
    have hM2 : upd H10 M (.lst [.str (TS m1), .str (TS m2)]) M = some (.lst [.str (TS m1), .str (TS m2)]) := upd_same
    have T11 := T10.same zM
    have S13 := (S11.trans S12).trans (Same.b t zM)
    generalize upd H10 M (.lst [.str (TS m1), .str (TS m2)]) = H11 at hM2 T11 S13 ⊢
    refine for_list (K := K) (a := M) (xs := [.str (TS m1), .str (TS m2)]) (fun j σ H' => (∃ (x9 : Option V), σ = [some (.ref a0), some (.ref t), some (.ref L), some (.ref Z), some (.str (TS l0)), x5, some (.int (0 + (i : Int))), some (.str kk), some (.str (TS m1)), x9]) ∧ Same H11 H') ⟨⟨_, rfl⟩, Same.refl _⟩ (fun j σ H' _ pr => SqL.of (pr.2 _ _ hM2)) ?_ (fun σ H' pr => by obtain ⟨⟨x9, e⟩, h⟩ := pr; exact ⟨⟨_, _, _, _, _, e⟩, T11.same h, S13.trans (Same.b t h)⟩)
    rintro j x σ H12 hj ⟨⟨x9, rfl⟩, s12⟩
    obtain ⟨l, rfl, tx⟩ : AzV x := by
      have := List.mem_of_getElem? hj
      simp only [List.mem_cons, List.not_mem_nil, or_false] at this
      rcases this with rfl | rfl
      · exact ⟨m1, rfl, tx1⟩
      · exact ⟨m2, rfl, tx2⟩
    refine ⟨_, rfl, _, rfl, .inr ⟨l, rfl, tx, fun u H4 s4 hu => ⟨u, _, rfl, shw_out hu tx, _, rfl, l, rfl, tx, fun u2 H5 s5 hu2 => ⟨u2, _, rfl, shw_out hu2 tx, rfl, _, rfl, ?_⟩⟩⟩⟩
    rw [decide_eq_true rfl]
    exact iteF ⟨⟨_, rfl⟩, s12.trans (s4.trans s5)⟩
end
end
end K77
set_option Elab.async false
set_option linter.all false
set_option maxRecDepth 100000
set_option maxHeartbeats 4000000
namespace Lc
open PySem PySem.Spec PyProof.Rows L2 He
/-! ## The head's facts, with one more Bool -/
abbrev AlE : Type := AlD × Bool
def obsE (n : Nat) (fa : List Fa) (fn : List DefD) (ex : PySem.W.Frag → Bool) (g : Addr → Option Obj) : AlE := (obsD fa fn (frG g (asD g n)), ex (frG g (asD g n)))
def hookE (n : Nat) (fa : List Fa) (fn : List DefD) (ex : PySem.W.Frag → Bool) : PySem.W.Hook where
  α := AlE
  obs := fun s => obsE n fa fn ex s.heap.get?
  val := fun _ => (valD fn, true)
  says := fun _ h => ∃ K : PySem.W.Frag, K.In h ∧ SaysD fa fn K ∧ ex K = true
  of := fun _ _ e => ⟨_, frG_in, congrArg (fun z : AlE => z.1) e, congrArg (fun z : AlE => z.2) e⟩
  keeps := fun _ _ _ ⟨K, hK, c⟩ k => ⟨K, PySem.W.Frag.In.keeps hK k, c⟩
theorem obsE_eq {n : Nat} {fa : List Fa} {fn : List DefD} {ex : PySem.W.Frag → Bool} {g : Addr → Option Obj} {s : Shared} (h : ∀ a, g a = s.heap.get? a) : obsE n fa fn ex g = (hookE n fa fn ex).obs s := by
  have e : g = s.heap.get? := funext h
  rw [e] <;> rfl
/-! ## What is asked of the error classes -/
def optB (a b : Option Bool) : Bool := decide (a = b)
def optV (a b : Option Value) : Bool := decide (a = b)
def oexB (K : PySem.W.Frag) (C : Addr) : Bool := (match K.lookup C with
  | some ⟨.type "type", _, .cls cd, sl⟩ => (match cd.mro, sl.toList with
    | .ref C' :: bm, [_, _, _, _, some (.builtin n), _] => C' == C && n == "ValueError.__new__" && !cd.hasDel && cd.hasDict && PySem.HandSPX.refsVE bm
    | _, _ => false)
  | _ => false) && (eqO (PySem.W.findIn K (.ref C) "__setattr__") (some (some (.builtin "object.__setattr__"))) && (optB (PySem.W.subIn K (.ref C) (.type "BaseException")) (some true) && (optV (PySem.W.typeIn K (.ref C)) (some (.type "type")) && PySem.W.keepIn K (.ref C))))
theorem oexB_ok {K : PySem.W.Frag} {C : Addr} (h : oexB K C = true) : OexC K C := by
  obtain ⟨q, h⟩ := ba h
  obtain ⟨h1, h⟩ := ba h
  obtain ⟨h2, h⟩ := ba h
  obtain ⟨h3, h4⟩ := ba h
  refine ⟨?_, eqO_ok h1, of_decide_eq_true h2, of_decide_eq_true h3, h4⟩
  split at q
  · rename_i dd cd sl ho
    split at q
    · rename_i C' bm k0 k1 k2 k3 n k5 hm hs
      simp only [Bool.and_eq_true, beq_iff_eq, Bool.not_eq_true'] at q
      obtain ⟨⟨⟨⟨rfl, rfl⟩, hdel⟩, hdi⟩, ht⟩ := q
      obtain ⟨nm, bs, mro, ns, qn, hd, sn, sub, ab, col, del⟩ := cd
      dsimp only at hm hdel hdi
      subst hm hdel hdi
      have hsl : sl = #[k0, k1, k2, k3, some (.builtin "ValueError.__new__"), k5] := by
        obtain ⟨l⟩ := sl
        simp only at hs
        rw [hs]
      subst hsl
      exact ⟨nm, qn, ns, bs, bm, sn, sub, ab, col, dd, k0, k1, k2, k3, k5, ho, ht⟩
    · cases q
  · cases q
def xisB (K : PySem.W.Frag) (C : Addr) : Bool := (PySem.W.clsIn K C).isSome && (eqO (PySem.W.findIn K (.ref C) "__getattribute__") (some (some (.builtin "BaseException.__getattribute__"))) && (eqO (PySem.W.findIn K (.ref C) "__getattr__") (some none) &&
  (optB (PySem.W.subIn K (.ref C) (.type "BaseException")) (some true) && (eqO (PySem.W.findIn K (.ref C) "__class__") (some (some (.builtin "object.__class__"))) && (eqO (PySem.W.specialIn K (.builtin "object.__class__") "__get__") (some (some (.builtin "getset_descriptor.__get__"))) &&
  (optB (PySem.W.takesIn K (.builtin "object.__class__")) (some true) && optB (PySem.W.mroIn K C (.type "object")) (some true)))))))
theorem xisB_ok {K : PySem.W.Frag} {C : Addr} (h : xisB K C = true) : XisC K C := by
  obtain ⟨h1, h⟩ := ba h
  obtain ⟨h2, h⟩ := ba h
  obtain ⟨h3, h⟩ := ba h
  obtain ⟨h4, h⟩ := ba h
  obtain ⟨h5, h⟩ := ba h
  obtain ⟨h6, h⟩ := ba h
  obtain ⟨h7, h8⟩ := ba h
  exact ⟨h1, eqO_ok h2, eqO_ok h3, of_decide_eq_true h4, eqO_ok h5, eqO_ok h6, of_decide_eq_true h7, of_decide_eq_true h8⟩
/-- a def without defaults -/
theorem fun_of {K : PySem.W.Frag} {x qual : Str} {st : Stmt} {f : Addr} {fd : FuncData} (F : FunD K x qual (defArgs st) (defBody st) (defScope st) [] [] f fd) : Fun K x qual st f fd := by
  obtain ⟨oc, od, dV, kV, doc, pm, an, cdv, ct, osl, rfl, lk, hcd, hD, hK⟩ := F.ex
  rcases hD with ⟨_, rfl⟩ | ⟨e, _⟩
  · exact ⟨⟨oc, od, kV, doc, pm, an, cdv, ct, osl, rfl, lk, hcd⟩, F.kp⟩
  · exact absurd rfl e
/-! ## The end of a law whose defs are promised where no repr is under way -/
theorem walk_GE {l : PySem.W.OpenLaw} {n k : Nat} {q : Program} {loose : List Str} {XP : (Str → Option Value) → Heap → Prop} {YP : World → Heap → Prop} {d : DefRec} {x : Str}
    (hn : l.most = some n) (hn2 : n ≤ sizeLine) (hdf : d.params.defaults = []) (hr : Room k callerA)
    (F : ∀ (w : World) (mg : Str → Option Value) (fa : Addr) (h : Heap), YP w h → h.Ns mainGlobals mg → mg d.name = some (.ref fa) →
      ∃ (K : PySem.W.Frag) (fd : FuncData) (sp : Sp), K.In h ∧ (∀ (s : Shared) (u : Value), BindsTo s fd ⟨[u], []⟩ [(x, u)]) ∧
        (∀ (H : Hp) (a : Addr) (ns : List Int), ns.length ≤ n → SqL K H a (ns.map V.int) → sp [.ref a] H (fun v _ => v = .bl true) fun _ _ _ => False) ∧
        ∀ base : Heap, K.In base → base.Ns mainGlobals mg → FnG l.prog w K mg base k fa fd [x] sp) :
    PySem.W.WalkO q loose XP YP l.row.toRowW d [] (fun f vs => PySem.call f vs) := by
  refine Att.attach_call hn hdf fun w _ s mg mb fa _ _ _ _ a vs ns G Y _ _ _ hmg hobj hints hlen hg => ?_
  obtain ⟨K, fd, sp, KX, hb, hsp, hF⟩ := F w mg fa _ Y G.T.g hmg
  exact law_callG KX G.T.g G.T.b G.T.builtins G.T.nolimit hg hobj hints (Nat.le_trans hlen hn2) hr hF hb fun H hS => hsp H a ns hlen hS
end Lc
namespace Lc
theorem all_at {l : List Bool} (h : l.all id = true) (i : Nat) {b : Bool} (e : l[i]? = some b := by rfl) : b = true := List.all_eq_true.mp h b (List.mem_of_getElem? e)
end Lc
set_option Elab.async false
set_option linter.all false
set_option maxRecDepth 100000
set_option maxHeartbeats 4000000
namespace Lc
open PySem PySem.Spec PyProof.Rows L2 He
/-! ## The head's facts, with dicts of the module that have text keys -/
abbrev AlF : Type := AlE × List (Option (List (Option (Str × Int))))
def obsF (n : Nat) (fa : List Fa) (fn : List DefD) (ex : PySem.W.Frag → Bool) (ts : List Tab) (g : Addr → Option Obj) : AlF := (obsE n fa fn ex g, ts.map fun t => dicW (frG g (asD g n)) (t.1 (frG g (asD g n))))
def TabsOk (ts : List Tab) (w : World) (K : PySem.W.Frag) : Prop := ∀ (i : Nat) (t : Tab), ts[i]? = some t → ∃ es n, KDict K w (t.1 K) es n
theorem tabs_of {ts : List Tab} {w : World} {K : PySem.W.Frag} (e : ts.map (fun t => dicW K (t.1 K)) = ts.map fun t => some (keysIn w.params t.2)) : TabsOk ts w K := by
  intro i t h
  have e2 : (ts.map fun t => dicW K (t.1 K))[i]? = (ts.map fun t => some (keysIn w.params t.2))[i]? := congrArg (fun l => l[i]?) e
  rw [List.getElem?_map, h, List.getElem?_map, h] at e2
  exact dicW_ok (Option.some.inj e2)
def hookF (n : Nat) (fa : List Fa) (fn : List DefD) (ex : PySem.W.Frag → Bool) (ts : List Tab) : PySem.W.Hook where
  α := AlF
  obs := fun s => obsF n fa fn ex ts s.heap.get?
  val := fun w => ((valD fn, true), ts.map fun t : Tab => some (keysIn w.params t.2))
  says := fun w h => ∃ K : PySem.W.Frag, K.In h ∧ SaysD fa fn K ∧ ex K = true ∧ TabsOk ts w K
  of := fun _ _ e => ⟨_, frG_in, congrArg (fun z : AlF => z.1.1) e, congrArg (fun z : AlF => z.1.2) e, tabs_of (show _ = _ from congrArg (fun z : AlF => z.2) e)⟩
  keeps := fun _ _ _ ⟨K, hK, c⟩ k => ⟨K, PySem.W.Frag.In.keeps hK k, c⟩
theorem obsF_eq {n : Nat} {fa : List Fa} {fn : List DefD} {ex : PySem.W.Frag → Bool} {ts : List Tab} {g : Addr → Option Obj} {s : Shared} (h : ∀ a, g a = s.heap.get? a) : obsF n fa fn ex ts g = (hookF n fa fn ex ts).obs s := by
  have e : g = s.heap.get? := funext h
  rw [e] <;> rfl
/-! ## what stands in such a dict -/
def atD (K : PySem.W.Frag) (d : Addr) (x : Str) : Addr := match PySem.W.nsIn K d x with
  | some (some (.ref a)) => a
  | _ => 0
def tupA (K : PySem.W.Frag) (a : Addr) (vs : List Dv) : Bool := match K.lookup a with
  | some ⟨.type c, _, .seq its _, _⟩ => decide (c = "tuple") && (decide (its.size ≤ sizeLine) && relAll (vs.map (Dv.v K)) its.toList)
  | _ => false
theorem tupA_ok {K : PySem.W.Frag} {a : Addr} {vs : List Dv} (h : tupA K a vs = true) (H : Hp) : SqT K H a (vs.map (Dv.v K)) := by
  unfold tupA at h
  split at h
  · rename_i c od its n osl q
    obtain ⟨h1, h2⟩ := ba h
    obtain ⟨h3, h4⟩ := ba h2
    exact .inr ⟨_, its, n, q, congrArg Value.type (of_decide_eq_true h1), rfl, of_decide_eq_true h3, relAll_ok h4⟩
  · cases h
/-- at the key x a tuple of these -/
def dtB (K : PySem.W.Frag) (d : Addr) (x : Str) (vs : List Dv) : Bool := eqO (PySem.W.nsIn K d x) (some (some (.ref (atD K d x)))) && tupA K (atD K d x) vs
theorem kdct_of {K : PySem.W.Frag} {w : World} {d a : Addr} {x : Str} (D : ∃ es n, KDict K w d es n) (h : PySem.W.nsIn K d x = some (some (.ref a))) : KDct K w d x (.ref a) := by
  obtain ⟨es, n, D⟩ := D
  exact ⟨es, n, _, D.at_, D.lit, h, rfl⟩
theorem dt_ok {K : PySem.W.Frag} {w : World} {d : Addr} {x : Str} {vs : List Dv} (D : ∃ es n, KDict K w d es n) (h : dtB K d x vs = true) : ∃ a, KDct K w d x (.ref a) ∧ PySem.W.nsIn K d x = some (some (.ref a)) ∧ ∀ H, SqT K H a (vs.map (Dv.v K)) := by
  obtain ⟨h1, h2⟩ := ba h
  exact ⟨_, kdct_of D (eqO_ok h1), eqO_ok h1, fun H => tupA_ok h2 H⟩
/-- at the key x the def y -/
def dfB (K : PySem.W.Frag) (d : Addr) (x y : Str) : Bool := eqO (PySem.W.nsIn K d x) (some (some (.ref (ga K y))))
def dnB (K : PySem.W.Frag) (d : Addr) (x : Str) : Bool := eqO (PySem.W.nsIn K d x) (some none)
end Lc
set_option Elab.async false
set_option linter.all false
set_option maxRecDepth 100000
set_option maxHeartbeats 4000000
namespace Lc
open PySem PySem.Spec PyProof.Rows L2 He
/-! ## what does not stand in a dict of the module with text keys -/
def keysB (K : PySem.W.Frag) (d : Addr) (ks : List Str) : Bool := match K.lookup d with
  | some ⟨_, _, .dict es _, _⟩ => es.toList.all fun e => match e.key with
    | .str x _ => ks.contains x
    | _ => false
  | _ => false
theorem keys_no {K : PySem.W.Frag} {d : Addr} {ks : List Str} (h : keysB K d ks = true) {x : Str} (hx : x ∉ ks) : PySem.W.nsIn K d x = some none := by
  unfold keysB at h
  unfold PySem.W.nsIn
  split at h
  · rename_i ty o es n sl q
    rw [q]
    have key := List.all_eq_true.mp h
    have f : es.toList.find? (·.key.isStr x) = none := List.find?_eq_none.mpr fun e he hs => by
      have k := key e he
      split at k
      · rename_i y t qk
        rw [qk] at hs
        have e1 : y = x := by simpa [Value.isStr] using hs
        rw [e1] at k
        exact hx (by simpa using k)
      · cases k
    have g : es.toList.any (·.refKey) = false := by
      rw [List.any_eq_false]
      intro e he hs
      have k := key e he
      unfold DictEntry.refKey at hs
      split at k
      · rename_i y t qk
        rw [qk] at hs
        cases hs
      · cases k
    dsimp only
    rw [f, g]
    rfl
  · cases h
end Lc
set_option Elab.async false
set_option linter.all false
set_option maxRecDepth 100000
set_option maxHeartbeats 8000000
namespace K77
open PySem PySem.Spec PyProof.Rows L2 Lc He
/-! ## the head -/
def dOf (x : Str) (st : Stmt) : DefD := ⟨(x, none), x, x, defArgs st, defBody st, defScope st, [], []⟩
def dMt (c m q : Str) (st : Stmt) : DefD := ⟨(c, some m), m, q, defArgs st, defBody st, defScope st, [], []⟩
def dKw (x : Str) (st : Stmt) (kw : List (Str × Dv)) : DefD := ⟨(x, none), x, x, defArgs st, defBody st, defScope st, [], kw⟩
def dDf (x : Str) (st : Stmt) (df : List Dv) : DefD := ⟨(x, none), x, x, defArgs st, defBody st, defScope st, df, []⟩
def dMd (c m q : Str) (st : Stmt) (df : List Dv) : DefD := ⟨(c, some m), m, q, defArgs st, defBody st, defScope st, df, []⟩
def fn : List DefD := [dMt "BadText" "__init__" "BadText.__init__" sIni, dOf "show_rational" sShr, dOf "show_value" sShv, dOf "show_expression" sShe, dOf "is_whole" sWhole, dOf "common_divisor" sCd, dOf "is_rational" sIsR, dOf "is_name" sName, dOf "within_limit" sWithin, dOf "read_whole" sRw, dOf "read_rational" sRr, dOf "read_value" sRv, dOf "read_leaf" sRl, dOf "pieces_of" sPo, dOf "check_piece" sCp, dOf "read_form" sRf, dOf "read_operation" sRo, dOf "read_expression" sRe, dOf "_law_tape" sTape, dOf "_law_draw" sDraw, dOf "_law_lowest" sLst, dOf "_law_rational" sRat, dOf "_law_name" sLnm, dOf "_law_fresh" sFr, dOf "_law_columns" sCls, dOf "_law_leaf" sLf, dOf "_law_expression" sXp, dOf "_law_operands" sOps, dOf "_law_digits" sDg, dOf "_law_is_name" sLin, dOf "_law_number" sLno, dOf "_law_leaf_of" sLlo, dOf "_law_token" sTok, dOf "_law_read" sLr, dOf "_law_due" sDue, dOf "_law_told" sTold, dOf "_law_bent" sBent, dOf "law" sLaw]
def gl : List Str := (["BadText", "OPERANDS", "show_rational", "show_value", "show_expression", "is_whole", "common_divisor", "is_rational", "is_name", "within_limit", "read_whole", "read_rational", "read_value", "read_leaf", "pieces_of", "check_piece", "read_form", "read_operation", "read_expression", "_law_tape"] : List Str) ++ (["_law_draw", "_law_lowest", "_law_rational", "_law_name", "_law_fresh", "_law_columns", "_law_leaf", "_law_expression", "_law_operands", "_law_digits", "_law_is_name", "_law_number", "_law_leaf_of", "_law_token", "_law_read", "_law_due", "_law_told", "_law_bent"] : List Str)
def loose : List Str := gl ++ (["LETTERS", "NAME_SIGNS", "LONGEST_NAME", "LIMIT", "DEEPEST", "DIGITS", "MOST_DIGITS", "SINGLE_SIGNS"] : List Str)
def fa : List Fa := (.glo "law") :: gl.map Fa.glo ++ (btNames ++ ([] : List Str)).map Fa.free ++ [.str "LETTERS" letters, .str "NAME_SIGNS" signs, .int "LONGEST_NAME" 12, .int "LIMIT" lim, .int "DEEPEST" 8, .str "DIGITS" ten10, .int "MOST_DIGITS" 41, .str "SINGLE_SIGNS" sgs]
def exL (K : PySem.W.Frag) : List Bool := [oexB K (ga K "BadText"), eqO (PySem.W.findIn K (.ref (ga K "BadText")) "__init__") (some (some (.ref (ma K (ga K "BadText") "__init__")))), Lc.optV (PySem.W.typeIn K (.ref (ma K (ga K "BadText") "__init__"))) (some (.type "function")), eqO (PySem.W.findIn K (.ref (ga K "BadText")) "position") (some none), xfB K (ga K "BadText"), xisB K (ga K "BadText"), optB (PySem.W.exmOne K (.ref (ga K "BadText")) (.ref (ga K "BadText"))) (some true), optB (PySem.W.kitOne K (.ref (ga K "BadText")) (.type "ValueError")) (some true), keysB K (ga K "OPERANDS") ["plus", "minus", "times", "over", "less", "same", "both", "either", "not", "missing", "if"], keysB K (ga K "OPERANDS") ["plus", "minus", "times", "over", "less", "same", "both", "either", "not", "missing", "if"], dtB K (ga K "OPERANDS") "plus" [.str "number", .str "number"], dtB K (ga K "OPERANDS") "minus" [.str "number", .str "number"], dtB K (ga K "OPERANDS") "times" [.str "number", .str "number"], dtB K (ga K "OPERANDS") "over" [.str "number", .str "number"], dtB K (ga K "OPERANDS") "less" [.str "number", .str "number"], dtB K (ga K "OPERANDS") "same" [.non, .non], dtB K (ga K "OPERANDS") "both" [.str "flag", .str "flag"], dtB K (ga K "OPERANDS") "either" [.str "flag", .str "flag"], dtB K (ga K "OPERANDS") "not" [.str "flag"], dtB K (ga K "OPERANDS") "missing" [.non], dtB K (ga K "OPERANDS") "if" [.str "flag", .non, .non]]
def ex (K : PySem.W.Frag) : Bool := (exL K).all id
def ts : List Tab := [((fun K => ga K "OPERANDS"), ["plus", "minus", "times", "over", "less", "same", "both", "either", "not", "missing", "if"])]
abbrev R : PySem.W.OpenRow := PySem.W.OpenLaw.row PySem.Challenge.rw_liveclaims_k77_forms_that_are_not_read
abbrev hk : PySem.W.Hook := hookF 5 fa fn ex ts
def ob (s : PySem.W.SharedT) : AlF := obsF 5 fa fn ex ts (HandSHeadRun.getT s)
theorem ob_eq (s : PySem.W.SharedT) : ob s = hk.obs s.abs := obsF_eq (HandSHeadRun.getT_eq s)
theorem run_false (w : World) : HandSHeadRun.RunEq R (PySem.W.view R.prog [52]) hk ob 4000 loose (w.withFollow "special-get-raises" false) := by
  intro os
  kernel_rfl
theorem run_true (w : World) : HandSHeadRun.RunEq R (PySem.W.view R.prog [52]) hk ob 4000 loose (w.withFollow "special-get-raises" true) := by
  intro os
  kernel_rfl
theorem run (w : World) : HandSHeadRun.RunEq R (PySem.W.view R.prog [52]) hk ob 4000 loose w := PySem.W.byRow2 "special-get-raises" (P := fun w => HandSHeadRun.RunEq R (PySem.W.view R.prog [52]) hk ob 4000 loose w) run_false run_true w
theorem facts {P : Program} {w : World} {K : PySem.W.Frag} {h : Heap} {mg : Str → Option Value} {f : Addr} (X : K.In h) (G : h.Ns mainGlobals mg) (hfa : mg ("law" : Str) = some (.ref f)) (c : SaysD fa fn K) (e : ex K = true) (tb : TabsOk ts w K) :
    ∃ fd : FuncData, (∀ (s : Shared) (v : Value), BindsTo s fd ⟨[v], []⟩ [("_law_script", v)]) ∧ ∀ base : Heap, K.In base → base.Ns mainGlobals mg → FnG P w K mg base 25 f fd ["_law_script"] (spLaw K) := by
  obtain ⟨fd0, D0⟩ := c.def_ 0 (d := dMt "BadText" "__init__" "BadText.__init__" sIni) rfl
  obtain ⟨fd1, D1⟩ := c.def_ 1 (d := dOf "show_rational" sShr) rfl
  obtain ⟨fd2, D2⟩ := c.def_ 2 (d := dOf "show_value" sShv) rfl
  obtain ⟨fd3, D3⟩ := c.def_ 3 (d := dOf "show_expression" sShe) rfl
  obtain ⟨fd4, D4⟩ := c.def_ 4 (d := dOf "is_whole" sWhole) rfl
  obtain ⟨fd5, D5⟩ := c.def_ 5 (d := dOf "common_divisor" sCd) rfl
  obtain ⟨fd6, D6⟩ := c.def_ 6 (d := dOf "is_rational" sIsR) rfl
  obtain ⟨fd7, D7⟩ := c.def_ 7 (d := dOf "is_name" sName) rfl
  obtain ⟨fd8, D8⟩ := c.def_ 8 (d := dOf "within_limit" sWithin) rfl
  obtain ⟨fd9, D9⟩ := c.def_ 9 (d := dOf "read_whole" sRw) rfl
  obtain ⟨fd10, D10⟩ := c.def_ 10 (d := dOf "read_rational" sRr) rfl
  obtain ⟨fd11, D11⟩ := c.def_ 11 (d := dOf "read_value" sRv) rfl
  obtain ⟨fd12, D12⟩ := c.def_ 12 (d := dOf "read_leaf" sRl) rfl
  obtain ⟨fd13, D13⟩ := c.def_ 13 (d := dOf "pieces_of" sPo) rfl
  obtain ⟨fd14, D14⟩ := c.def_ 14 (d := dOf "check_piece" sCp) rfl
  obtain ⟨fd15, D15⟩ := c.def_ 15 (d := dOf "read_form" sRf) rfl
  obtain ⟨fd16, D16⟩ := c.def_ 16 (d := dOf "read_operation" sRo) rfl
  obtain ⟨fd17, D17⟩ := c.def_ 17 (d := dOf "read_expression" sRe) rfl
  obtain ⟨fd18, D18⟩ := c.def_ 18 (d := dOf "_law_tape" sTape) rfl
  obtain ⟨fd19, D19⟩ := c.def_ 19 (d := dOf "_law_draw" sDraw) rfl
  obtain ⟨fd20, D20⟩ := c.def_ 20 (d := dOf "_law_lowest" sLst) rfl
  obtain ⟨fd21, D21⟩ := c.def_ 21 (d := dOf "_law_rational" sRat) rfl
  obtain ⟨fd22, D22⟩ := c.def_ 22 (d := dOf "_law_name" sLnm) rfl
  obtain ⟨fd23, D23⟩ := c.def_ 23 (d := dOf "_law_fresh" sFr) rfl
  obtain ⟨fd24, D24⟩ := c.def_ 24 (d := dOf "_law_columns" sCls) rfl
  obtain ⟨fd25, D25⟩ := c.def_ 25 (d := dOf "_law_leaf" sLf) rfl
  obtain ⟨fd26, D26⟩ := c.def_ 26 (d := dOf "_law_expression" sXp) rfl
  obtain ⟨fd27, D27⟩ := c.def_ 27 (d := dOf "_law_operands" sOps) rfl
  obtain ⟨fd28, D28⟩ := c.def_ 28 (d := dOf "_law_digits" sDg) rfl
  obtain ⟨fd29, D29⟩ := c.def_ 29 (d := dOf "_law_is_name" sLin) rfl
  obtain ⟨fd30, D30⟩ := c.def_ 30 (d := dOf "_law_number" sLno) rfl
  obtain ⟨fd31, D31⟩ := c.def_ 31 (d := dOf "_law_leaf_of" sLlo) rfl
  obtain ⟨fd32, D32⟩ := c.def_ 32 (d := dOf "_law_token" sTok) rfl
  obtain ⟨fd33, D33⟩ := c.def_ 33 (d := dOf "_law_read" sLr) rfl
  obtain ⟨fd34, D34⟩ := c.def_ 34 (d := dOf "_law_due" sDue) rfl
  obtain ⟨fd35, D35⟩ := c.def_ 35 (d := dOf "_law_told" sTold) rfl
  obtain ⟨fd36, D36⟩ := c.def_ 36 (d := dOf "_law_bent" sBent) rfl
  obtain ⟨fd37, D37⟩ := c.def_ 37 (d := dOf "law" sLaw) rfl
  have ef := hfa.symm.trans (glo_ok X G (c.fact 0 (f := .glo "law") rfl))
  cases ef
  have g : ∀ (i : Nat) (x : Str), fa[i]? = some (.glo x) → mg x = some (.ref (ga K x)) := fun i x z => glo_ok X G (c.fact i (f := .glo x) z)
  have z : ∀ (i : Nat) (x : Str), fa[i]? = some (.free x) → mg x = none := fun i x z => free_ok X G (c.fact i (f := .free x) z)
  have T : Bt mg := ⟨z 39 _ rfl, z 40 _ rfl, z 41 _ rfl, z 42 _ rfl, z 43 _ rfl, z 44 _ rfl, z 45 _ rfl, z 46 _ rfl, z 47 _ rfl, z 48 _ rfl, z 49 _ rfl, z 50 _ rfl, z 51 _ rfl, z 52 _ rfl, z 53 _ rfl, z 54 _ rfl, z 55 _ rfl, z 56 _ rfl⟩
  obtain ⟨uc0, mc0⟩ := str_ok X G (c.fact 57 (f := .str "LETTERS" letters) rfl)
  obtain ⟨uc1, mc1⟩ := str_ok X G (c.fact 58 (f := .str "NAME_SIGNS" signs) rfl)
  obtain ⟨uc2, mc2⟩ := int_ok X G (c.fact 59 (f := .int "LONGEST_NAME" 12) rfl)
  obtain ⟨uc3, mc3⟩ := int_ok X G (c.fact 60 (f := .int "LIMIT" lim) rfl)
  obtain ⟨uc4, mc4⟩ := int_ok X G (c.fact 61 (f := .int "DEEPEST" 8) rfl)
  obtain ⟨uc5, mc5⟩ := str_ok X G (c.fact 62 (f := .str "DIGITS" ten10) rfl)
  obtain ⟨uc6, mc6⟩ := int_ok X G (c.fact 63 (f := .int "MOST_DIGITS" 41) rfl)
  obtain ⟨uc7, mc7⟩ := str_ok X G (c.fact 64 (f := .str "SINGLE_SIGNS" sgs) rfl)
  have a : ∀ (i : Nat) {b : Bool}, (exL K)[i]? = some b → b = true := fun i _ z => all_at e i z
  have b0 : Binds K fd0 ["self", "position"] [] := D0.bindsN fun _ _ _ _ _ _ us hl => match us, hl with | [_, _], _ => rfl
  have b1 : Binds K fd1 ["number"] [] := D1.bindsN fun _ _ _ _ _ _ us hl => match us, hl with | [_], _ => rfl
  have b2 : Binds K fd2 ["value"] [] := D2.bindsN fun _ _ _ _ _ _ us hl => match us, hl with | [_], _ => rfl
  have b3 : Binds K fd3 ["expression"] [] := D3.bindsN fun _ _ _ _ _ _ us hl => match us, hl with | [_], _ => rfl
  have b4 : Binds K fd4 ["value"] [] := D4.bindsN fun _ _ _ _ _ _ us hl => match us, hl with | [_], _ => rfl
  have b5 : Binds K fd5 ["a", "b"] [] := D5.bindsN fun _ _ _ _ _ _ us hl => match us, hl with | [_, _], _ => rfl
  have b6 : Binds K fd6 ["value"] [] := D6.bindsN fun _ _ _ _ _ _ us hl => match us, hl with | [_], _ => rfl
  have b7 : Binds K fd7 ["value"] [] := D7.bindsN fun _ _ _ _ _ _ us hl => match us, hl with | [_], _ => rfl
  have b8 : Binds K fd8 ["number"] [] := D8.bindsN fun _ _ _ _ _ _ us hl => match us, hl with | [_], _ => rfl
  have b9 : Binds K fd9 ["text"] [] := D9.bindsN fun _ _ _ _ _ _ us hl => match us, hl with | [_], _ => rfl
  have b10 : Binds K fd10 ["text"] [] := D10.bindsN fun _ _ _ _ _ _ us hl => match us, hl with | [_], _ => rfl
  have b11 : Binds K fd11 ["text"] [] := D11.bindsN fun _ _ _ _ _ _ us hl => match us, hl with | [_], _ => rfl
  have b12 : Binds K fd12 ["token"] [] := D12.bindsN fun _ _ _ _ _ _ us hl => match us, hl with | [_], _ => rfl
  have b13 : Binds K fd13 ["text"] [] := D13.bindsN fun _ _ _ _ _ _ us hl => match us, hl with | [_], _ => rfl
  have b14 : Binds K fd14 ["pieces", "at", "wanted"] [] := D14.bindsN fun _ _ _ _ _ _ us hl => match us, hl with | [_, _, _], _ => rfl
  have b15 : Binds K fd15 ["pieces", "at", "depth"] [] := D15.bindsN fun _ _ _ _ _ _ us hl => match us, hl with | [_, _, _], _ => rfl
  have b16 : Binds K fd16 ["pieces", "at", "depth"] [] := D16.bindsN fun _ _ _ _ _ _ us hl => match us, hl with | [_, _, _], _ => rfl
  have b17 : Binds K fd17 ["text"] [] := D17.bindsN fun _ _ _ _ _ _ us hl => match us, hl with | [_], _ => rfl
  have b18 : Binds K fd18 ["_law_script"] [] := D18.bindsN fun _ _ _ _ _ _ us hl => match us, hl with | [_], _ => rfl
  have b19 : Binds K fd19 ["_law_tape_here", "_law_many"] [] := D19.bindsN fun _ _ _ _ _ _ us hl => match us, hl with | [_, _], _ => rfl
  have b20 : Binds K fd20 ["_law_n", "_law_d"] [] := D20.bindsN fun _ _ _ _ _ _ us hl => match us, hl with | [_, _], _ => rfl
  have b21 : Binds K fd21 ["_law_tape_here", "_law_wide"] [] := D21.bindsN fun _ _ _ _ _ _ us hl => match us, hl with | [_, _], _ => rfl
  have b22 : Binds K fd22 ["_law_tape_here"] [] := D22.bindsN fun _ _ _ _ _ _ us hl => match us, hl with | [_], _ => rfl
  have b23 : Binds K fd23 ["_law_tape_here", "_law_taken"] [] := D23.bindsN fun _ _ _ _ _ _ us hl => match us, hl with | [_, _], _ => rfl
  have b24 : Binds K fd24 ["_law_tape_here", "_law_lead", "_law_many", "_law_taken"] [] := D24.bindsN fun _ _ _ _ _ _ us hl => match us, hl with | [_, _, _, _], _ => rfl
  have b25 : Binds K fd25 ["_law_tape_here", "_law_columns_here", "_law_kind"] [] := D25.bindsN fun _ _ _ _ _ _ us hl => match us, hl with | [_, _, _], _ => rfl
  have b26 : Binds K fd26 ["_law_tape_here", "_law_columns_here", "_law_kind", "_law_depth"] [] := D26.bindsN fun _ _ _ _ _ _ us hl => match us, hl with | [_, _, _, _], _ => rfl
  have b27 : Binds K fd27 ["_law_word"] [] := D27.bindsN fun _ _ _ _ _ _ us hl => match us, hl with | [_], _ => rfl
  have b28 : Binds K fd28 ["_law_text"] [] := D28.bindsN fun _ _ _ _ _ _ us hl => match us, hl with | [_], _ => rfl
  have b29 : Binds K fd29 ["_law_text"] [] := D29.bindsN fun _ _ _ _ _ _ us hl => match us, hl with | [_], _ => rfl
  have b30 : Binds K fd30 ["_law_text"] [] := D30.bindsN fun _ _ _ _ _ _ us hl => match us, hl with | [_], _ => rfl
  have b31 : Binds K fd31 ["_law_token_here"] [] := D31.bindsN fun _ _ _ _ _ _ us hl => match us, hl with | [_], _ => rfl
  have b32 : Binds K fd32 ["_law_text", "_law_at"] [] := D32.bindsN fun _ _ _ _ _ _ us hl => match us, hl with | [_, _], _ => rfl
  have b33 : Binds K fd33 ["_law_text", "_law_at", "_law_depth"] [] := D33.bindsN fun _ _ _ _ _ _ us hl => match us, hl with | [_, _, _], _ => rfl
  have b34 : Binds K fd34 ["_law_text"] [] := D34.bindsN fun _ _ _ _ _ _ us hl => match us, hl with | [_], _ => rfl
  have b35 : Binds K fd35 ["_law_text"] [] := D35.bindsN fun _ _ _ _ _ _ us hl => match us, hl with | [_], _ => rfl
  have b36 : Binds K fd36 ["_law_tape_here", "_law_text"] [] := D36.bindsN fun _ _ _ _ _ _ us hl => match us, hl with | [_, _], _ => rfl
  have bl := FunD.bindsA (ps := ["_law_script"]) D37 fun _ _ _ _ _ _ us hl => match us, hl with | [_], _ => rfl
  refine ⟨fd37, fun s v => bl s [v] rfl, fun base _ _ => ?_⟩
  have m_BadText : mg "BadText" = some (.ref (ga K "BadText")) := g 1 _ rfl
  have m_OPERANDS : mg "OPERANDS" = some (.ref (ga K "OPERANDS")) := g 2 _ rfl
  have m_show_rational : mg "show_rational" = some (.ref (ga K "show_rational")) := g 3 _ rfl
  have m_show_value : mg "show_value" = some (.ref (ga K "show_value")) := g 4 _ rfl
  have m_show_expression : mg "show_expression" = some (.ref (ga K "show_expression")) := g 5 _ rfl
  have m_is_whole : mg "is_whole" = some (.ref (ga K "is_whole")) := g 6 _ rfl
  have m_common_divisor : mg "common_divisor" = some (.ref (ga K "common_divisor")) := g 7 _ rfl
  have m_is_rational : mg "is_rational" = some (.ref (ga K "is_rational")) := g 8 _ rfl
  have m_is_name : mg "is_name" = some (.ref (ga K "is_name")) := g 9 _ rfl
  have m_within_limit : mg "within_limit" = some (.ref (ga K "within_limit")) := g 10 _ rfl
  have m_read_whole : mg "read_whole" = some (.ref (ga K "read_whole")) := g 11 _ rfl
  have m_read_rational : mg "read_rational" = some (.ref (ga K "read_rational")) := g 12 _ rfl
  have m_read_value : mg "read_value" = some (.ref (ga K "read_value")) := g 13 _ rfl
  have m_read_leaf : mg "read_leaf" = some (.ref (ga K "read_leaf")) := g 14 _ rfl
  have m_pieces_of : mg "pieces_of" = some (.ref (ga K "pieces_of")) := g 15 _ rfl
  have m_check_piece : mg "check_piece" = some (.ref (ga K "check_piece")) := g 16 _ rfl
  have m_read_form : mg "read_form" = some (.ref (ga K "read_form")) := g 17 _ rfl
  have m_read_operation : mg "read_operation" = some (.ref (ga K "read_operation")) := g 18 _ rfl
  have m_read_expression : mg "read_expression" = some (.ref (ga K "read_expression")) := g 19 _ rfl
  have m__law_tape : mg "_law_tape" = some (.ref (ga K "_law_tape")) := g 20 _ rfl
  have m__law_draw : mg "_law_draw" = some (.ref (ga K "_law_draw")) := g 21 _ rfl
  have m__law_lowest : mg "_law_lowest" = some (.ref (ga K "_law_lowest")) := g 22 _ rfl
  have m__law_rational : mg "_law_rational" = some (.ref (ga K "_law_rational")) := g 23 _ rfl
  have m__law_name : mg "_law_name" = some (.ref (ga K "_law_name")) := g 24 _ rfl
  have m__law_fresh : mg "_law_fresh" = some (.ref (ga K "_law_fresh")) := g 25 _ rfl
  have m__law_columns : mg "_law_columns" = some (.ref (ga K "_law_columns")) := g 26 _ rfl
  have m__law_leaf : mg "_law_leaf" = some (.ref (ga K "_law_leaf")) := g 27 _ rfl
  have m__law_expression : mg "_law_expression" = some (.ref (ga K "_law_expression")) := g 28 _ rfl
  have m__law_operands : mg "_law_operands" = some (.ref (ga K "_law_operands")) := g 29 _ rfl
  have m__law_digits : mg "_law_digits" = some (.ref (ga K "_law_digits")) := g 30 _ rfl
  have m__law_is_name : mg "_law_is_name" = some (.ref (ga K "_law_is_name")) := g 31 _ rfl
  have m__law_number : mg "_law_number" = some (.ref (ga K "_law_number")) := g 32 _ rfl
  have m__law_leaf_of : mg "_law_leaf_of" = some (.ref (ga K "_law_leaf_of")) := g 33 _ rfl
  have m__law_token : mg "_law_token" = some (.ref (ga K "_law_token")) := g 34 _ rfl
  have m__law_read : mg "_law_read" = some (.ref (ga K "_law_read")) := g 35 _ rfl
  have m__law_due : mg "_law_due" = some (.ref (ga K "_law_due")) := g 36 _ rfl
  have m__law_told : mg "_law_told" = some (.ref (ga K "_law_told")) := g 37 _ rfl
  have m__law_bent : mg "_law_bent" = some (.ref (ga K "_law_bent")) := g 38 _ rfl
  have x1 : ErF K mg "BadText" "position" (ga K "BadText") _ := ⟨oexB_ok (a 0 rfl), eqO_ok (a 1 rfl), of_decide_eq_true (a 2 rfl), eqO_ok (a 3 rfl), m_BadText⟩
  have x2 : ExB K (ga K "BadText") := ⟨xfB_ok (a 4 rfl), xisB_ok (a 5 rfl), of_decide_eq_true (a 6 rfl), of_decide_eq_true (a 7 rfl)⟩
  have G0 : FnOk P w K mg base CX0 (1) _ fd0 ["self", "position"] (spIni (ga K "BadText") "position") := ok_ini (fun_of D0) x1
  have G1 : FnOk P w K mg base CX0 (1) _ fd1 ["number"] (spShr) := ok_Shr (fun_of D1) T
  have G2 : FnOk P w K mg base CX0 (2) _ fd2 ["value"] (spShv) := ok_Shv (fun_of D2) T G1 m_show_rational D1.kp b1
  have G3 : FnOk P w K mg base CX0 (2 + 8) _ fd3 ["expression"] (spSh 8) := ok_SheN (fun_of D3) T m_show_expression D3.kp b3 G2 m_show_value D2.kp b2 8
  have G4 : FnOk P w K mg base CX0 (1) _ fd4 ["value"] (spWhole) := ok_whole (fun_of D4) T
  have G5 : FnOk P w K mg base CX0 (1) _ fd5 ["a", "b"] (spCd) := ok_cd (fun_of D5)
  have G6 : FnOk P w K mg base CX0 (2) _ fd6 ["value"] (spIsR) := ok_isr (fun_of D6) T G4 m_is_whole D4.kp b4 G5 m_common_divisor D5.kp b5
  have G7 : FnOk P w K mg base CX0 (1) _ fd7 ["value"] (spName) := ok_name (fun_of D7) T mc0 mc1 mc2
  have G8 : FnOk P w K mg base CX0 (1) _ fd8 ["number"] (spWithin) := ok_within (fun_of D8) T mc3
  have G9 : FnOk P w K mg base CX0 (1) _ fd9 ["text"] (spDg) := ok_Rw (fun_of D9) T mc5 mc6
  have G10 : FnOk P w K mg base CX0 (3) _ fd10 ["text"] (spNm) := ok_Rr (fun_of D10) T G9 m_read_whole D9.kp b9 G6 m_is_rational D6.kp b6 G8 m_within_limit D8.kp b8
  have G11 : FnOk P w K mg base CX0 (4) _ fd11 ["text"] (spRv) := ok_Rv (fun_of D11) T G7 m_is_name D7.kp b7 G10 m_read_rational D10.kp b10
  have G12 : FnOk P w K mg base CX0 (5) _ fd12 ["token"] (spRl) := ok_Rl (fun_of D12) T G7 m_is_name D7.kp b7 G11 m_read_value D11.kp b11
  have G13 : FnOk P w K mg base CX0 (1) _ fd13 ["text"] (spPo) := ok_Po (fun_of D13) T mc7
  have G14 : FnOk P w K mg base (L2.CX P w) (3) _ fd14 ["pieces", "at", "wanted"] (spCp (ga K "BadText")) := ok_Cp (fun_of D14) T x1 G0 b0
  have tO := tb 0 _ rfl
  have ops_key : ∀ {x : Str}, opsV x = none → x ∈ (["plus", "minus", "times", "over", "less", "same", "both", "either", "not", "missing", "if"] : List Str) → False := fun {x} hx hm => by
    have key : ∀ x ∈ (["plus", "minus", "times", "over", "less", "same", "both", "either", "not", "missing", "if"] : List Str), (opsV x).isSome = true := by decide +kernel
    have := key x hm
    rw [hx] at this
    cases this
  have OA : OpsA K w mg (ga K "OPERANDS") := ⟨m_OPERANDS, tO, opsV_all (dt_ok tO (a 10 rfl)) (dt_ok tO (a 11 rfl)) (dt_ok tO (a 12 rfl)) (dt_ok tO (a 13 rfl)) (dt_ok tO (a 14 rfl)) (dt_ok tO (a 15 rfl)) (dt_ok tO (a 16 rfl)) (dt_ok tO (a 17 rfl)) (dt_ok tO (a 18 rfl)) (dt_ok tO (a 19 rfl)) (dt_ok tO (a 20 rfl)), fun x hx => keys_no (ks := ["plus", "minus", "times", "over", "less", "same", "both", "either", "not", "missing", "if"]) (a 9 rfl) fun hm => ops_key hx hm⟩
  have G15 : FnOk P w K mg base (L2.CX P w) (5 + 2 * 8 + 1) _ fd15 ["pieces", "at", "depth"] (spRf (ga K "BadText") 8) := ok_RfN (fun_of D15) (fun_of D16) T OA mc4 x1 G0 b0 G14 m_check_piece D14.kp b14 G12 m_read_leaf D12.kp b12 m_read_form D15.kp b15 m_read_operation D16.kp b16 8
  have G17 : FnOk P w K mg base (L2.CX P w) (23) _ fd17 ["text"] (spRe (ga K "BadText")) := ok_Re (fun_of D17) T x1 G0 b0 G13 m_pieces_of D13.kp b13 G15 m_read_form D15.kp b15 G14 m_check_piece D14.kp b14
  have G18 : FnOk P w K mg base CX0 (1) _ fd18 ["_law_script"] (spTape K) := ok_tape (fun_of D18) T
  have G19 : FnOk P w K mg base CX0 (1) _ fd19 ["_law_tape_here", "_law_many"] (spDrawL) := ok_draw (fun_of D19) T
  have G20 : FnOk P w K mg base CX0 (1) _ fd20 ["_law_n", "_law_d"] (spLowest) := ok_lst (fun_of D20) T
  have G21 : FnOk P w K mg base CX0 (2) _ fd21 ["_law_tape_here", "_law_wide"] (spRatL) := ok_rat (fun_of D21) T G19 m__law_draw D19.kp b19 G20 m__law_lowest D20.kp b20
  have G22 : FnOk P w K mg base CX0 (2) _ fd22 ["_law_tape_here"] (spLNm) := ok_lnm (fun_of D22) T G19 m__law_draw D19.kp b19
  have G23 : FnOk P w K mg base CX0 (3) _ fd23 ["_law_tape_here", "_law_taken"] (spFr) := ok_fr (fun_of D23) G22 m__law_name D22.kp b22
  have G24 : FnOk P w K mg base CX0 (4) _ fd24 ["_law_tape_here", "_law_lead", "_law_many", "_law_taken"] (spCls) := ok_cls (fun_of D24) T G19 m__law_draw D19.kp b19 G23 m__law_fresh D23.kp b23
  have G25 : FnOk P w K mg base CX0 (3) _ fd25 ["_law_tape_here", "_law_columns_here", "_law_kind"] (spLf) := ok_lf (fun_of D25) T G19 m__law_draw D19.kp b19 G21 m__law_rational D21.kp b21
  have G26 : FnOk P w K mg base CX0 (3 + 5) _ fd26 ["_law_tape_here", "_law_columns_here", "_law_kind", "_law_depth"] (spXp 5) := ok_xp (fun_of D26) G19 m__law_draw D19.kp b19 G25 m__law_leaf D25.kp b25 m__law_expression D26.kp b26 5
  have G27 : FnOk P w K mg base CX0 (1) _ fd27 ["_law_word"] (spOps) := ok_Ops (fun_of D27) T
  have G28 : FnOk P w K mg base CX0 (1) _ fd28 ["_law_text"] (spDg) := ok_Dg (fun_of D28) T
  have G29 : FnOk P w K mg base CX0 (1) _ fd29 ["_law_text"] (spLin) := ok_Lin (fun_of D29) T
  have G30 : FnOk P w K mg base CX0 (2) _ fd30 ["_law_text"] (spNm) := ok_Lno (fun_of D30) T G28 m__law_digits D28.kp b28 G20 m__law_lowest D20.kp b20
  have G31 : FnOk P w K mg base CX0 (3) _ fd31 ["_law_token_here"] (spRl) := ok_Llo (fun_of D31) T G29 m__law_is_name D29.kp b29 G30 m__law_number D30.kp b30
  have G32 : FnOk P w K mg base CX0 (1) _ fd32 ["_law_text", "_law_at"] (spTok) := ok_Tok (fun_of D32) T
  have G33 : FnOk P w K mg base CX0 (4 + 8) _ fd33 ["_law_text", "_law_at", "_law_depth"] (spLr 8) := ok_LrN (fun_of D33) T G31 m__law_leaf_of D31.kp b31 G32 m__law_token D32.kp b32 G27 m__law_operands D27.kp b27 m__law_read D33.kp b33 8
  have G34 : FnOk P w K mg base CX0 (13) _ fd34 ["_law_text"] (spDue) := ok_Due (fun_of D34) T G33 m__law_read D33.kp b33
  have G35 : FnOk P w K mg base CX0 (24) _ fd35 ["_law_text"] (spTold) := ok_Told (fun_of D35) T x1 x2 G17 m_read_expression D17.kp b17
  have G36 : FnOk P w K mg base CX0 (2) _ fd36 ["_law_tape_here", "_law_text"] (spBent) := ok_Bent (fun_of D36) T G19 m__law_draw D19.kp b19
  exact ok_Law (fun_of D37) T G18 m__law_tape D18.kp b18 G24 m__law_columns D24.kp b24 G35 m__law_told D35.kp b35 G34 m__law_due D34.kp b34 G19 m__law_draw D19.kp b19 G3 m_show_expression D3.kp b3 G26 m__law_expression D26.kp b26 G36 m__law_bent D36.kp b36
end K77
open PySem PySem.W PySem.Calls PyProof.Rows
theorem PySem.Challenge.cw_liveclaims_k77_forms_that_are_not_read_holds : PySem.Challenge.rw_liveclaims_k77_forms_that_are_not_read.Holds := by
  w_on; o_law
  refine HandSHeadRun.head_any (r := OpenLaw.row PySem.Challenge.rw_liveclaims_k77_forms_that_are_not_read) (q := view (OpenLaw.row PySem.Challenge.rw_liveclaims_k77_forms_that_are_not_read).prog [52]) (H := K77.hk) (ob := K77.ob) (M := 4000) (loose := K77.loose) (d := HandSHeadRun.topDef (OpenLaw.row PySem.Challenge.rw_liveclaims_k77_forms_that_are_not_read).prog 52) (kwd := []) K77.ob_eq
    (by kernel_rfl) (fun s => by kernel_rfl) K77.run (by kernel_rfl) (by kernel_rfl) (by kernel_rfl) (by rfl) (by first | assumption | decide +kernel) (by decide +kernel) ⟨rfl, rfl, rfl, rfl, rfl, by decide +kernel⟩ ?hw ?hc
  case hw => w_witness2
  case hc =>
    refine Lc.walk_GE (l := PySem.Challenge.rw_liveclaims_k77_forms_that_are_not_read) (n := 63) (k := 25) (x := "_law_script") rfl (by decide) (by kernel_rfl) ⟨rfl, by decide, by decide⟩ ?F
    intro w mg fa h Y G hmg0
    obtain ⟨K, KX, c, e, tb⟩ := Y
    have hmg : mg ("law" : PySem.Str) = some (.ref fa) := by
      have e : (HandSHeadRun.topDef (OpenLaw.row PySem.Challenge.rw_liveclaims_k77_forms_that_are_not_read).prog 52).name = ("law" : PySem.Str) := by kernel_rfl
      rw [← e]
      exact hmg0
    obtain ⟨fd, hb, hF⟩ := K77.facts (P := (PySem.Challenge.rw_liveclaims_k77_forms_that_are_not_read).prog) (w := w) KX G hmg c e tb
    exact ⟨K, fd, K77.spLaw K, KX, hb, fun H a ns hl hS => ⟨a, ns, rfl, hS, fun _ => rfl⟩, hF⟩
