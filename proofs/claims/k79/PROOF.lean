import PyProof.Rows.All
import Wide.All
import OpenK.AllK
import Wide.FinOn
import HandS.ForMost
import HandS.ForExc
import HandS.Wide
import HandS.Flow
import HandS.IsInst
import HandS.ExcInit
import HandS.ExcField
import HandS.ExcIs
import HandS.TryMany
import HandS.CallLocal
import HandS.RaiseMore
import HandS.CallSlots
import KE.KExcIs
import PyProof.ReprRoads
import PyProof.ReprText
import HandS.Evl
import HandS.Walk
import HandS.Style
import PyProof.StrBlock2
import PyProof.StrLawsRepr
import PyProof.ReprLen
import KE.GoesEnum
import HandS.Iter
import HandS.TupMul
import HandS.ListItems
import HandS.OwnIter
import HandS.More
import PyProof.InstSpecial
import HandS.Defaults
import HandS.DictComp
import HandS.Zip
import KE.KIntText
import PyProof.StrLawsTight
import PyProof.StrLawsChain
import HandS.StrMore
import HandS.Replace
import HandS.TupSets
import HandS.Strs
import HandS.FStr
import PyProof.StrLawsAffix
import PyProof.StrLawsIn
import KE.IntTextLaws
import HandS.WrittenGet
import HandS.TryOnly
import HandS.Head0
import HandS.Head1
import HandS.Head2
import HandS.HeadHook1
import HandS.HeadHook2
import KE.KStateDown
import HandS.HeadHook3
import PySem.Challenge.RW_liveclaims_k79_lines_that_are_not_read
set_option maxRecDepth 100000
set_option maxHeartbeats 4000000
set_option linter.all false
namespace Lc
/-! ## Greatest common divisors and lowest terms -/
def gd (a b : Int) : Int := (Int.gcd a b : Int)
theorem gd_nonneg (a b : Int) : 0 ≤ gd a b := Int.natCast_nonneg _
theorem gd_pos {a b : Int} (h : b ≠ 0) : 0 < gd a b := by
  have : 0 < Int.gcd a b := Int.gcd_pos_of_ne_zero_right a h
  unfold gd
  omega
theorem gd_zero {a : Int} (h : 0 ≤ a) : gd a 0 = a := by
  unfold gd
  rw [Int.gcd_zero_right]
  omega
theorem gd_step {a b : Int} (ha : 0 ≤ a) (hb : 0 < b) : gd b (a % b) = gd a b := by
  unfold gd Int.gcd
  have e1 : (a % b).natAbs = a.natAbs % b.natAbs := by
    have h0 : 0 ≤ a % b := Int.emod_nonneg a (by omega)
    have : ((a % b).natAbs : Int) = ((a.natAbs % b.natAbs : Nat) : Int) := by
      rw [Int.natCast_emod, Int.natAbs_of_nonneg h0, Int.natAbs_of_nonneg ha, Int.natAbs_of_nonneg (by omega : 0 ≤ b)]
    exact Int.ofNat.inj this
  rw [e1, Nat.gcd_comm b.natAbs, ← Nat.gcd_rec, Nat.gcd_comm]
theorem gd_abs (a b : Int) : gd (if a < 0 then -a else a) b = gd a b := by
  unfold gd
  split
  · rw [Int.neg_gcd]
  · rfl
theorem gd_abs2 (a b : Int) : gd a (if b < 0 then -b else b) = gd a b := by
  unfold gd
  split
  · rw [Int.gcd_neg]
  · rfl
theorem gd_dvd1 (a b : Int) : gd a b ∣ a := Int.gcd_dvd_left a b
theorem gd_dvd2 (a b : Int) : gd a b ∣ b := Int.gcd_dvd_right a b
theorem gd_natAbs_le {a b : Int} (h : b ≠ 0) : (gd a b).natAbs ≤ b.natAbs := by
  have h1 : Int.gcd a b ≤ b.natAbs := Nat.le_of_dvd (by omega) (Int.gcd_dvd_natAbs_right a b)
  unfold gd
  rw [Int.natAbs_natCast]
  exact h1
def lowN (n d : Int) : Int := n / gd n d
def lowD (n d : Int) : Int := d / gd n d
structure Rt (n d : Int) : Prop where
  pos : 0 < d
  cop : gd n d = 1
theorem low_mul {n d : Int} (h : d ≠ 0) : lowN n d * gd n d = n ∧ lowD n d * gd n d = d := ⟨Int.ediv_mul_cancel (gd_dvd1 n d), Int.ediv_mul_cancel (gd_dvd2 n d)⟩
theorem lowD_pos {n d : Int} (h : 0 < d) : 0 < lowD n d := Int.ediv_pos_of_pos_of_dvd h (gd_nonneg n d) (gd_dvd2 n d)
theorem low_rt {n d : Int} (h : 0 < d) : Rt (lowN n d) (lowD n d) := by
  refine ⟨lowD_pos h, ?_⟩
  have hg : 0 < Int.gcd n d := Int.gcd_pos_of_ne_zero_right n (by omega)
  unfold lowN lowD gd
  rw [Int.gcd_ediv_gcd_ediv_gcd hg]
  rfl
theorem dvd_cop {k m n : Int} (h : k ∣ n * m) (g : Int.gcd m k = 1) : k ∣ n := by
  have h1 : k.natAbs ∣ m.natAbs * n.natAbs := by
    rw [← Int.natAbs_mul, Int.mul_comm]
    exact Int.natAbs_dvd_natAbs.mpr h
  have c : Nat.Coprime k.natAbs m.natAbs := by
    show Nat.gcd k.natAbs m.natAbs = 1
    rw [Nat.gcd_comm]
    exact g
  exact Int.natAbs_dvd_natAbs.mp (c.dvd_of_dvd_mul_left h1)
/-- lowest terms are one pair alone -/
theorem rt_unique {a b c d : Int} (h1 : Rt a b) (h2 : Rt c d) (e : a * d = c * b) : a = c ∧ b = d := by
  have g1 : Int.gcd a b = 1 := by have := h1.cop; unfold gd at this; omega
  have g2 : Int.gcd c d = 1 := by have := h2.cop; unfold gd at this; omega
  have db : b ∣ d := by
    have : b ∣ d * a := ⟨c, by rw [Int.mul_comm d a, e, Int.mul_comm]⟩
    exact dvd_cop this g1
  have dd : d ∣ b := by
    have : d ∣ b * c := ⟨a, by rw [Int.mul_comm b c, ← e, Int.mul_comm]⟩
    exact dvd_cop this g2
  have hb := h1.pos
  have hd := h2.pos
  have ebd : b = d := Int.le_antisymm (Int.le_of_dvd hd db) (Int.le_of_dvd hb dd)
  subst ebd
  exact ⟨Int.eq_of_mul_eq_mul_right (by omega) e, rfl⟩
theorem low_is {n d a b : Int} (hd : 0 < d) (h : Rt a b) (e : n * b = a * d) : lowN n d = a ∧ lowD n d = b := by
  have m := low_mul (n := n) (d := d) (by omega)
  have g := gd_pos (a := n) (b := d) (by omega)
  refine rt_unique (low_rt hd) h ?_
  have e2 : (lowN n d * b) * gd n d = (a * lowD n d) * gd n d := by
    rw [Int.mul_right_comm, m.1, Int.mul_assoc, m.2, e]
  exact Int.eq_of_mul_eq_mul_right (by omega) e2
theorem fdiv_neg_dvd {a g : Int} (hg : 0 < g) (h : g ∣ a) : a.fdiv (-g) = (-a) / g := by
  obtain ⟨m, rfl⟩ := h
  have e1 : g * m = (-g) * (-m) := by rw [Int.neg_mul_neg]
  have e2 : -(g * m) = g * (-m) := by rw [Int.mul_neg]
  rw [e2, Int.mul_ediv_cancel_left _ (by omega), e1, Int.mul_fdiv_cancel_left _ (by omega)]
/-- the sums and products of the law -/
theorem sub_add {an ad bn bd p q : Int} (had : 0 < ad) (hbd : 0 < bd) (hq : 0 < q) (h : p * (ad * bd) = (an * bd + bn * ad) * q) : (p * bd - bn * q) * ad = an * (q * bd) := by
  have e1 : (p * bd - bn * q) * ad = p * (ad * bd) - bn * q * ad := by
    rw [Int.sub_mul, Int.mul_assoc p bd ad, Int.mul_comm bd ad]
  have e2 : (an * bd + bn * ad) * q = an * (q * bd) + bn * q * ad := by
    rw [Int.add_mul, Int.mul_assoc an bd q, Int.mul_comm bd q, Int.mul_assoc bn ad q, Int.mul_comm ad q, Int.mul_assoc bn q ad]
  rw [e1, h, e2]
  omega
theorem mul_div {an ad bn bd p q : Int} (h : p * (ad * bn) = (an * bd) * q) (hbn : bn ≠ 0) : (p * bn) * ad = an * (q * bd) := by
  rw [Int.mul_assoc p bn ad, Int.mul_comm bn ad, h, Int.mul_assoc an bd q, Int.mul_comm bd q]
end Lc
namespace Lc
theorem low_le {n d : Int} (h : d ≠ 0) : (lowN n d).natAbs ≤ n.natAbs ∧ (lowD n d).natAbs ≤ d.natAbs := by
  have m := low_mul (n := n) (d := d) h
  have g := gd_pos (a := n) (b := d) h
  have e1 : n.natAbs = (lowN n d).natAbs * (gd n d).natAbs := by rw [← Int.natAbs_mul, m.1]
  have e2 : d.natAbs = (lowD n d).natAbs * (gd n d).natAbs := by rw [← Int.natAbs_mul, m.2]
  have gp : 0 < (gd n d).natAbs := by omega
  exact ⟨by rw [e1]; exact Nat.le_mul_of_pos_right _ gp, by rw [e2]; exact Nat.le_mul_of_pos_right _ gp⟩
theorem rt_one (n : Int) : Rt n 1 := ⟨by decide, by unfold gd; rw [Int.gcd_one]; rfl⟩
theorem rt_inv {d : Int} (h : 0 < d) : Rt 1 d := ⟨h, by unfold gd; rw [Int.one_gcd]; rfl⟩
theorem rt_ninv {d : Int} (h : 0 < d) : Rt (-1) d := ⟨h, by unfold gd; rw [Int.neg_gcd, Int.one_gcd]; rfl⟩
end Lc
set_option Elab.async false
set_option linter.all false
set_option maxRecDepth 100000
set_option maxHeartbeats 4000000
namespace Lc
open PySem PySem.Spec PyProof.Rows L2
/-! ## A try with clauses of both forms, «except X:» and «except X as n:» -/
structure Cl where
  c : Value
  slot : Option Nat
  ts : Addr → Value → Option Addr → TS
def putS : Option Nat → Option V → L2.St → L2.St
  | none, _, σ => σ
  | some i, v, σ => σ.set i v
def endS (q : Option Nat) (D : Ends) : Ends := ⟨fun σ H => D.nx (putS q none σ) H, D.rt, fun σ H => D.bk (putS q none σ) H, fun σ H => D.ct (putS q none σ) H⟩
def wCl (K : PySem.W.Frag) (Wout : WX) (D : Ends) : List Cl → WX
  | [] => Wout
  | q :: r => fun cls d σ H => ∃ b, PySem.W.exmOne K cls q.c = some b ∧ (b = true → ∀ a, H a = none → q.ts a cls d (endS q.slot D) (putS q.slot (some (.ref a)) σ) H) ∧
      (b = false → wCl K Wout D r cls d σ H)
abbrev SuiteOk (X : Cx) (st : List Stmt) (ts : Addr → Value → Option Addr → TS) : Prop :=
  ∀ (a : Addr) (ob : Obj) (cls : Value) (d : Option Addr) (pn : List (Addr × Obj)), Zc cls d ob → (∃ vs, ob.data = .fields vs) → PSs (X.suite a ((a, ob) :: pn)) st (ts a cls d)
inductive ClsOk (X : Cx) : List ExceptHandler → List Cl → Prop
  | nil : ClsOk X [] []
  | bare {x : Str} {q : Cl} {st : Stmt} {sts : List Stmt} {p1 p2 : Pos} {hds : List ExceptHandler} {l : List Cl} (hc : Names X x q.c) (hq : q.slot = none) (su : SuiteOk X (st :: sts) q.ts) (r : ClsOk X hds l) :
      ClsOk X (.ExceptHandler (some (.Name x p1)) none (st :: sts) p2 :: hds) (q :: l)
  | named {x n : Str} {q : Cl} {i : Nat} {st : Stmt} {sts : List Stmt} {p1 p2 : Pos} {hds : List ExceptHandler} {l : List Cl} (hc : Names X x q.c) (hq : q.slot = some i) (hN : X.N.Nodup) (hi : X.N[i]? = some n) (hn : X.env.kindOf n = some .local)
      (su : SuiteOk X (st :: sts) q.ts) (r : ClsOk X hds l) : ClsOk X (.ExceptHandler (some (.Name x p1)) (some n) (st :: sts) p2 :: hds) (q :: l)
section
variable {X : Cx}
theorem clauses_go {Wout : WX} {D : Ends} {pins : List (Addr × Obj)} {σ : L2.St} {H : Hp} {cls : Value} {d : Option Addr} {a : Addr} {B : Heap} {sI s' : Shared} {h3 : Heap}
    (hs : X.stack = X.env :: X.outer) (hf : X.env.frame = some X.env.locals) (tk : Takes X Wout) (J : Inv X pins σ H sI)
    (nb : ∀ b o, sI.heap.get? b = some o → b ∉ frs X.stack → B.get? b = some o) (na : H a = none) (os : s'.os = sI.os) (ag : AllBare s'.gens)
    (up : sI.heap.UpToSlots h3) (fl : HandSPX.FlyingZ B (X.env :: X.outer) a (Zc cls d) h3) :
    ∀ {hds : List ExceptHandler} {l : List Cl}, ClsOk X hds l → wCl X.K Wout D l cls d σ H → wpAny (model X.prog X.w) X.A (handleBy (.ref a) X.env hds) (SP X pins D) X.xe { s' with heap := h3 } := by
  have ok := J.ok
  have land : ∀ {h4 : Heap}, HandSPX.FlyingZ B (X.env :: X.outer) a (Zc cls d) h4 → sI.heap.UpToSlots h4 → Inv X pins σ H { s' with heap := h4 } ∧ ∃ ob vs, Zc cls d ob ∧ ob.data = .fields vs ∧ h4.get? a = some ob ∧
      Inv (X.suite a ((a, ob) :: (X.pn ++ pins))) [] σ H { s' with heap := h4 } := by
    intro h4 f4 u4
    have J4 : Inv X pins σ H { s' with heap := h4 } := J.landed nb f4.1 u4 os ag
    obtain ⟨ob, vs, hob, hz, hd⟩ := f4.there
    have nfr : a ∉ frs (X.env :: X.outer) := fun hm => by
      obtain ⟨_, ox, ex, nf⟩ := f4.2.2.1.mem hm
      rw [hob] at ex
      cases ex
      exact nf _ hd
    have nL : a ≠ X.env.locals := fun z => nfr (List.mem_filterMap.mpr ⟨X.env, List.mem_cons_self, by rw [hf, z]⟩)
    have nF : a ∉ X.fs := fun hm => by
      obtain ⟨en, hen, qq⟩ := List.mem_filterMap.mp hm
      exact nfr (List.mem_filterMap.mpr ⟨en, List.mem_cons_of_mem _ hen, qq⟩)
    exact ⟨J4, ob, vs, hz, hd, hob, J4.suite hob hd na nL nF⟩
  obtain ⟨J3, o3, vs3, hz3, hd3, ho3, S3⟩ := land fl up
  have ty : PySem.W.Looks (model X.prog X.w) h3 (typeOf (.ref a)) cls := fun _ _ _ _ kk qq => wpAny_typeOf_ref (kk _ _ ho3) (by rw [hz3.1]; exact qq)
  have tst : ∀ {x : Str} {c : Value} {p1 : Pos} {Q : Value → Shared → Prop} {E : Value → Shared → Prop}, Names X x c → Q c { s' with heap := h3 } →
      wpAny (model X.prog X.w) (X.A.mark (some (.ref a))) (eval (.Name x p1) X.env) Q E { s' with heap := h3 } := by
    intro x c p1 Q E hc hq
    rcases hc with ⟨hg, hdb, hm | ⟨hm, hv, hne⟩⟩
    · exact ld_glob (X := X.suite a ((a, o3) :: (X.pn ++ pins))) S3 hg hm hq hdb
    · exact ld_blt (X := X.suite a ((a, o3) :: (X.pn ++ pins))) S3 hg hm hv hq hne hdb
  intro hds l hk
  induction hk with
  | nil =>
    intro wi
    refine wpAny_handleBy_nil ?_
    obtain ⟨_, _, _, ox, vx, T, _, _, hox, _, hdx, h1, _⟩ := id fl
    have out : wpAny (model X.prog X.w) X.A (setFlight (.ref a) X.env.frame) (fun _ s4 => wpAny (model X.prog X.w) X.A (throw (.ref a) : Sem Flow) (SP X pins D) X.xe s4) X.xe { s' with heap := h3 } := by
      rw [hf]
      exact HandSPX.setFlight_upZ fl fun h4 f4 u4 => wpAny_throw (tk _ _ ⟨a, B, sI, pins, σ, H, cls, d, rfl, J, nb, up.trans u4, .inr (.inr (by rw [hs]; exact f4)), na, os, ag, wi⟩)
    unfold PySem.passOn
    refine wpAny_bind (wpAny_field hox hdx h1 ?_)
    rw [if_neg (by simp : ¬ ((Value.ref T == Value.none) = true))]
    first
      | exact wpAny_bind out
      | exact wpAny_bind (wpAny_pure (wpAny_bind out))
  | @bare x q st sts p1 p2 hds2 l2 hc hq su r ih =>
    intro wi
    obtain ⟨b, hb, yes, no⟩ := wi
    refine wpAny_handleBy_cons (codeAny_handlers_test (tst hc ((PySem.W.exm_one (M := model X.prog X.w) J3.kIn ty hb).here ?_))) (by intro z; cases z)
    cases b with
    | false => exact ih (no rfl)
    | true =>
      refine codeAny_handlers_suite (HandSPX.lands_againZ fl fun h4 f4 u4 => ?_)
      obtain ⟨J4, o4, vs4, hz4, hd4, ho4, S4⟩ := land f4 (up.trans u4)
      have yy := yes rfl a na
      rw [hq] at yy
      refine wpAny_mono ((su a o4 cls d (X.pn ++ pins) hz4 ⟨_, hd4⟩).run [] _ _ H _ S4 yy) (fun f s6 hsp => ?_) (fun _ _ z => z.elim)
      cases f with
      | ret u =>
        obtain ⟨v6, σ6, H6, S6, r6, q6⟩ := hsp
        exact ⟨v6, σ6, H6, S6.unsuite ok, r6, q6⟩
      | next => obtain ⟨σ6, H6, S6, q6⟩ := hsp; exact ⟨σ6, H6, S6.unsuite ok, q6⟩
      | brk => obtain ⟨σ6, H6, S6, q6⟩ := hsp; exact ⟨σ6, H6, S6.unsuite ok, q6⟩
      | cont => obtain ⟨σ6, H6, S6, q6⟩ := hsp; exact ⟨σ6, H6, S6.unsuite ok, q6⟩
  | @named x n q i st sts p1 p2 hds2 l2 hc hq hN hi hn su r ih =>
    intro wi
    obtain ⟨b, hb, yes, no⟩ := wi
    refine wpAny_handleBy_cons (codeAny_handlers_test (tst hc ((PySem.W.exm_one (M := model X.prog X.w) J3.kIn ty hb).here ?_))) (by intro z; cases z)
    cases b with
    | false => exact ih (no rfl)
    | true =>
      refine codeAny_handlers_suite_as (HandSPX.lands_againZ fl fun h4 f4 u4 => ?_)
      obtain ⟨J4, o4, vs4, hz4, hd4, ho4, S4⟩ := land f4 (up.trans u4)
      have yy := yes rfl a na
      rw [hq] at yy
      refine store_ok (X := X.suite a ((a, o4) :: (X.pn ++ pins))) (v := .ref a) S4 hN hi (.inl hn) rfl (fun s5 S5 => ?_) (.inr hn)
      refine wpAny_mono ((su a o4 cls d (X.pn ++ pins) hz4 ⟨_, hd4⟩).run [] s5 _ H _ S5 yy) (fun f s6 hsp => ?_) (fun _ _ z => z.elim)
      have fin : ∀ {σ6 : L2.St} {H6 : Hp} {Q : Shared → Prop}, Inv (X.suite a ((a, o4) :: (X.pn ++ pins))) [] σ6 H6 s6 → (∀ s7, Inv X pins (σ6.set i none) H6 s7 → Q s7) →
          wpAny (model X.prog X.w) X.A (do bindName X.env n .none; unbindBehindTheSuite X.env n p2) (fun _ s7 => Q s7) X.xe s6 := fun S6 k => gone_ok (S6.unsuite ok) hN hi hn k
      cases f with
      | ret u =>
        obtain ⟨v6, σ6, H6, S6, r6, q6⟩ := hsp
        exact fin S6 fun s7 J7 => ⟨_, _, _, J7, r6, q6⟩
      | next => obtain ⟨σ6, H6, S6, q6⟩ := hsp; exact fin S6 fun s7 J7 => ⟨_, _, J7, q6⟩
      | brk => obtain ⟨σ6, H6, S6, q6⟩ := hsp; exact fin S6 fun s7 J7 => ⟨_, _, J7, q6⟩
      | cont => obtain ⟨σ6, H6, S6, q6⟩ := hsp; exact fin S6 fun s7 J7 => ⟨_, _, J7, q6⟩
theorem ps_tryL {body : List Stmt} {h₀ : ExceptHandler} {hds : List ExceptHandler} {l : List Cl} {pos : Pos} {tb : WX → TS} {Wout : WX} (hs : X.stack = X.env :: X.outer) (hf : X.env.frame = some X.env.locals) (tk : Takes X Wout)
    (hb : ∀ (W : WX) (pn : List (Addr × Obj)) (xe : Value → Shared → Prop), Takes (X.tr pn xe) W → PassesOwn (model X.prog X.w) X.A X.env xe → PSs (X.tr pn xe) body (tb W)) (hh : ClsOk X (h₀ :: hds) l) :
    PS X (.Try body (h₀ :: hds) [] [] pos) (fun D σ H => tb (wCl X.K Wout D l) D σ H) := by
  refine ⟨fun pins s σ H D I h => ?_⟩
  have ok := I.ok
  have fr : X.A.frames = some (X.env :: X.outer) := ok.frames.trans (congrArg some hs)
  refine wpAny_Try_except (wpAny_mono ((hb (wCl X.K Wout D l) (X.pn ++ pins) (fun e s₁ => wpAny (model X.prog X.w) X.A (noteFrame e X.env) (fun _ s₂ => wpAny (model X.prog X.w) X.A (setFlight e none)
    (fun _ s₃ => wpAny (model X.prog X.w) X.A (handleBy e X.env (h₀ :: hds)) (SP X pins D) X.xe s₃) X.xe s₂) X.xe s₁) (fun u s' xx => ?_) PassesOwn.looking).run [] s σ H D (I.toTry _) h) (fun f s1 hsp => ?_) (fun _ _ he => he))
  · obtain ⟨a, B, sI, _, σ1, H1, cls, d, rfl, J', nb, up, sky, na, os, ag, wi⟩ := xx
    rw [hs] at sky
    exact Sky.land Zc.steady fr hf sky fun h3 f3 u3 => clauses_go hs hf tk (J'.ofTry ok) nb na os ag (up.trans u3) f3 hh wi
  · cases f with
    | ret u =>
      obtain ⟨v1, σ1, H1, J1, r1, q1⟩ := hsp
      exact ⟨v1, σ1, H1, J1.ofTry ok, r1, q1⟩
    | next => obtain ⟨σ1, H1, J1, q1⟩ := hsp; exact wpAny_execs_nil ⟨σ1, H1, J1.ofTry ok, q1⟩
    | brk => obtain ⟨σ1, H1, J1, q1⟩ := hsp; exact ⟨σ1, H1, J1.ofTry ok, q1⟩
    | cont => obtain ⟨σ1, H1, J1, q1⟩ := hsp; exact ⟨σ1, H1, J1.ofTry ok, q1⟩
end
/-! ## isinstance of the caught error, whether it has a dict or not -/
structure XisC (K : PySem.W.Frag) (C : Addr) : Prop where
  hc : (PySem.W.clsIn K C).isSome = true
  ga : PySem.W.findIn K (.ref C) "__getattribute__" = some (some (.builtin "BaseException.__getattribute__"))
  gt : PySem.W.findIn K (.ref C) "__getattr__" = some none
  sb : PySem.W.subIn K (.ref C) (.type "BaseException") = some true
  cl : PySem.W.findIn K (.ref C) "__class__" = some (some (.builtin "object.__class__"))
  sp : PySem.W.specialIn K (.builtin "object.__class__") "__get__" = some (some (.builtin "getset_descriptor.__get__"))
  tk : PySem.W.takesIn K (.builtin "object.__class__") = some true
  mo : PySem.W.mroIn K C (.type "object") = some true
def rIsX (K : PySem.W.Frag) (cls : Value) (d : Option Addr) (C a : Addr) : List V → Hp → VK → Prop := fun xs H Q => cls = .ref C ∧ ∃ (c : V) (cv : Value) (b : Bool), xs = [.ref a, c] ∧ ClsV c cv ∧ (∀ dd, d = some dd → ∃ fs, H dd = some (.xd fs)) ∧
  PySem.W.kitOne K (.ref C) cv = some b ∧ Q (.bl b) H
section
variable {X : Cx}
theorem call_isX {a C : Addr} {ob : Obj} {cls : Value} {d : Option Addr} {pn : List (Addr × Obj)} (T : XisC X.K C) (hz : Zc cls d ob) (hf : ∃ vs, ob.data = .fields vs) : CallR (X.suite a ((a, ob) :: pn)) (.builtin "isinstance") (rIsX X.K cls d C a) := by
  intro pins s σ H xs us Q I r h
  obtain ⟨ec, c, cv, b, rfl, hcv, hd, e, q⟩ := h
  obtain ⟨u1, u2, rfl, r1, r2⟩ := vals2 r
  have e2 := hcv.eq r2
  subst e2 ec
  obtain rfl : u1 = Value.ref a := r1
  obtain ⟨vs, hv⟩ := hf
  obtain ⟨hget, _⟩ := I.pin (a, ob) (List.mem_append_left _ List.mem_cons_self)
  have nc : PySem.W.notCls ob = true := by unfold PySem.W.notCls; rw [hv]
  have key : ∃ od, PySem.W.InstAt s.heap a ob C od := by
    cases d with
    | none => exact ⟨none, hget, hz.1, nc, by rw [hz.2]; trivial⟩
    | some dd =>
      obtain ⟨fs, hfs⟩ := hd dd rfl
      obtain ⟨mA, ⟨o, _, _, ho, _⟩, _⟩ := (show ObjOk X.prog X.w H s.heap dd (.xd fs) from I.hok dd _ hfs)
      exact ⟨some o, hget, hz.1, nc, by rw [hz.2]; exact ho⟩
  obtain ⟨od, J⟩ := key
  exact PySem.W.kia_one (PySem.W.kitx_exc T.hc T.ga T.gt T.sb T.cl T.sp T.tk T.mo) I.kIn J e (fun z => nomatch z) fun tk => ⟨.bl b, H, I.kept (t' := tk) fun _ _ z => z, rfl, q⟩
/-! ## f(e, ..), f a local name that holds a def which may raise -/
def tCallLS (i : Nat) (f : Addr) (sp : Sp) (E : L2.St → XK) (t : TA) : TE := fun σ H Q => σ[i]? = some (some (.ref f)) ∧ t σ H fun vs H1 => sp vs H1 Q (E σ)
theorem pe_callLS {CX : CXT} {k i : Nat} {f : Addr} {fd : FuncData} {ps : List Str} {sp : Sp} {E : L2.St → XK} {x : Str} {p pos : Pos} {e : Expr} {es : List Expr} {t : TA}
    (F : FnOk X.prog X.w X.K X.mg X.base CX k f fd ps sp) (hr : Room k X.A) (hN : X.N[i]? = some x) (hv : Vis X.env.scope x) (hk : PySem.W.keepIn X.K (.ref f) = true) (hb : Binds X.K fd ps []) (hx : ∀ σ, PassesAt CX X σ (E σ)) (ha : PA X (e :: es) t)
    (hdb : (x == ("__debug__" : Str)) = false := by decide) (hcd : (x == ("__classdict__" : Str)) = false := by decide)
    (he : starEach (e :: es) X.env = (false, eval e X.env) :: starEach es X.env := by rfl) (hpl : (backTo pos (starEach es X.env)).any (·.1) = false := by rfl) : PE X (.Call (.Name x p) (e :: es) [] pos) (tCallLS i f sp E t) := by
  refine ⟨fun pins s σ H Q I ⟨hs, ht⟩ => wpAny_Call_Name_kw (thn ((pe_var (pos := p) hN hv hdb hcd).run pins s σ H (fun v H1 => v = .ref f ∧ H1 = H) I ⟨.ref f, hs, rfl, rfl⟩) fun u s1 ⟨v, H1, I1, r1, e1, e2⟩ => ?_)⟩
  subst e1 e2
  obtain rfl : u = Value.ref f := r1
  exact PySem.W.callWith_K (h₀ := X.base) I.ok.mod.kin hk (thn (ha.run pos pins s1 σ _ _ I1 ht) fun us s2 ⟨vs, H2, I2, r, q⟩ => ⟨I2.kIn, run_fnS F hr hb (hx σ) I2 r q⟩) he hpl
/-! ## C(), an own error class without an __init__ -/
theorem pmk_own0 {C : Addr} {bmB : List Value} {B newId initId : String} {x : Str} {p pos : Pos} (F : ExcBaseFacts B newId initId bmB) (q : PySem.W.excIn X.K C bmB newId = true) (gC : X.mg x = some (.ref C)) (kC : PySem.W.keepIn X.K (.ref C) = true)
    (r : Raises X (.ref C)) (hg : Gl X x) (hdb : (x == ("__debug__" : Str)) = false := by decide) : PMk X (.Call (.Name x p) [] [] pos) (fun _ H Q => Q (.ref C) none H) := by
  intro pins s σ H Q I h
  refine wpAny_Call_Name_kw (ld_glob I hg gC (PySem.W.callWith_K0 I.kIn kC ?_) hdb)
  obtain ⟨_, _, _, _, _, _, _, _, _, _, _, _, _, _, _, _, _, hC, hN, hni, T⟩ := exc_obj I.kIn q
  exact wpAny_call_exc_subT F T hC hN hni (fun h' e hm => mk_of I hm r h (I.hok.gone hm.new)) (by show 0 ≤ sizeLine; omega)
/-! ## // by any great number but 0 -/
theorem op_fdivZ : OpR X (binaryOp .FloorDiv) (rI (fun _ j => j ≠ 0 ∧ j.natAbs.log2 < 9000) fun i j => .int (i.fdiv j)) := opI fun _ _ _ _ _ _ _ hc q => floordiv_int hc.1 q (.inl (PyProof.noPylong_of_log2 hc.2))
/-! ## repr of data -/
def rReprD (K : PySem.W.Frag) : List V → Hp → VK → Prop := fun xs H Q => ∃ (a : Addr) (d : PyData), xs = [.ref a] ∧ Dp K H (.ref a) d ∧ d.showable = true ∧ d.hasDict = false ∧ d.depth ≤ 60 ∧ d.shown.length ≤ sizeLine ∧ Q (.str d.shown) H
theorem call_reprD (hu : X.A.units + 64 < cLine) (hg : X.A.guards = some []) : CallR X (.builtin "repr") (rReprD X.K) := by
  intro pins s σ H xs us Q I r h
  obtain ⟨a, d, rfl, hd, hs, hn, hde, hl, q⟩ := h
  obtain ⟨u, rfl, ru⟩ := vals1 r
  obtain rfl : u = Value.ref a := ru
  obtain ⟨as, rd⟩ := Dp.reads I d _ _ hd rfl
  exact repr_of_reads' rd hs (fun z => by rw [hn] at z; cases z) hg (by omega) (fun _ _ e => e) (fun h' u tk hk => ⟨.str d.shown, H, I.kept (t' := tk) hk, ⟨u, rfl⟩, q⟩) hl
end
end Lc
set_option Elab.async false
set_option linter.all false
set_option maxRecDepth 100000
set_option maxHeartbeats 4000000
namespace Lc
open PySem PySem.Spec PyProof.Rows L2
/-! ## Promises of defs that are called where no repr is under way -/
structure FnG (P : Program) (w : World) (K : PySem.W.Frag) (mg : Str → Option Value) (base : Heap) (k : Nat) (f : Addr) (fd : FuncData) (ps : List Str) (sp : Sp) : Prop where
  len : ∀ vs H Q E, sp vs H Q E → vs.length = ps.length
  run : ∀ (A : Around) (outer : List Env) (s : Shared) (H : Hp) (args : Args) (us : List Value) (vs : List V) (Q : VK) (E : XK), A.guards = some [] → Room k A → Env0 P w K mg base A outer s H → BindsTo s fd args (ps.zip us) → Vals vs us → sp vs H Q E →
    codeAny (model P w) A (.call (.ref f) args) (CR CX0 outer P w H s Q E) s
section
variable {P : Program} {w : World} {K : PySem.W.Frag} {mg : Str → Option Value} {base : Heap}
theorem Fun.okG {x qual : Str} {st : Stmt} {f : Addr} {fd : FuncData} {N ps : List Str} {k : Nat} {sp : Sp} (F : Fun K x qual st f fd) (S : FnScope N ps (defScope st)) (len : ∀ vs H Q E, sp vs H Q E → vs.length = ps.length)
    (go : ∀ (cdv : Value) (A : Around) (outer : List Env) (s : Shared) (H : Hp) (vs : List V) (Q : VK) (E : XK), A.guards = some [] → Room k (A.deeper (envOfC qual (defScope st) s.heap.objs.size f cdv)) → sp vs H Q E →
      ∃ t, PSs (cxOf CX0 P w K mg base N qual (defScope st) f cdv A outer s H E).nox (defBody st) t ∧ t { nx := fun _ H' => Q .non H', rt := Q } (start N vs) H) : FnG P w K mg base (k + 1) f fd ps sp := by
  obtain ⟨oc, od, kV, doc, pm, an, cdv, ct, osl, rfl, lk, hcd⟩ := F.ex
  refine ⟨len, fun A outer s H args us vs Q E hg hr e0 hb r hsp => ?_⟩
  have up : ∀ b o, base.get? b = some o → s.heap.get? b = some o := fun b o z => (e0.bs b o z).1
  have KX := e0.mod.kin.keeps up
  refine codeAny_call_function hr.depth (KX _ _ lk) rfl S.co S.gen rfl (PySem.W.codeRec_of KX hcd) (hb _ _ _ _ ?_)
  refine wpAny_newFunctionEnv_cells S.kind (fun y hy => ?_) fun env he s1 x => ?_
  · rcases S.par y.1 (List.of_mem_zip (a := y.1) (b := y.2) hy).1 with z | z
    · exact .inl z
    · exact .inr ⟨z, PySem.W.cellsFrom_some _ _ _ (.inl z)⟩
  subst he
  obtain ⟨t, ht, hq⟩ := go cdv A outer s H vs Q E hg (hr.deeper _) hsp
  have I : Inv (cxOf CX0 P w K mg base N qual (defScope st) f cdv A outer s H E) [] (start N vs) H s1 := inv_start S hr.hd e0 (len _ _ _ _ hsp) r x
  refine ⟨(e0.mod.nolimit.keeps up).keeps x.toInCall.keep, codeAny_func (wpAny_mono (ht.nox.run [] s1 (start N vs) H _ I hq) (fun fl s' hs => ?_) fun _ _ z => z)⟩
  cases fl with
  | ret u => obtain ⟨v, _, H', J, rv, q⟩ := hs; exact ⟨v, H', J.os, J.bare, J.base, J.hok, rv, q⟩
  | next => obtain ⟨_, H', J, q⟩ := hs; exact ⟨V.non, H', J.os, J.bare, J.base, J.hok, rfl, q⟩
  | brk => obtain ⟨_, _, _, q⟩ := hs; exact q.elim
  | cont => obtain ⟨_, _, _, q⟩ := hs; exact q.elim
end
section
variable {X : Cx} {k : Nat} {f : Addr} {fd : FuncData} {ps : List Str} {sp : Sp} {x : Str} {p pos : Pos} {e : Expr} {es : List Expr} {t : TA}
/-- f(e, ..), f kept under FnG -/
theorem pe_callG (F : FnG X.prog X.w X.K X.mg X.base k f fd ps sp) (gg : X.A.guards = some []) (hr : Room k X.A) (hg : Gl X x) (hm : X.mg x = some (.ref f)) (hk : PySem.W.keepIn X.K (.ref f) = true) (hb : Binds X.K fd ps [])
    (ha : PA X (e :: es) t) (hdb : (x == ("__debug__" : Str)) = false := by decide) (he : starEach (e :: es) X.env = (false, eval e X.env) :: starEach es X.env := by rfl) (hpl : (backTo pos (starEach es X.env)).any (·.1) = false := by rfl) :
    PE X (.Call (.Name x p) (e :: es) [] pos) (tCall sp [] E0 t) := by
  refine ⟨fun pins s σ H Q I h => wpAny_Call_Name_kw (ld_glob I hg hm ?_ hdb)⟩
  refine PySem.W.callWith_K (h₀ := X.base) I.ok.mod.kin hk (thn (ha.run pos pins s σ H _ I h) fun us s1 ⟨vs, H1, I1, r, q⟩ => ⟨I1.kIn, ?_⟩) he hpl
  replace q : sp vs H1 Q E0 := by
    have z : sp (vs ++ []) H1 Q E0 := q
    rw [List.append_nil] at z
    exact z
  have hl : us.length = ps.length := by rw [← r.length]; exact F.len _ _ _ _ q
  have b := hb s1 us I1.kIn (by rw [List.append_nil]; exact hl)
  rw [List.append_nil] at b
  refine wpAny_call (codeAny_mono (F.run X.A X.stack s1 H1 ⟨us, []⟩ us vs Q E0 gg hr I1.env0 b r q) fun rr s' hq => ?_)
  cases rr with
  | error er => exact False.elim hq
  | ok fl =>
    cases fl with
    | ret u => exact I1.after hq
    | next => exact False.elim hq
    | brk => exact False.elim hq
    | cont => exact False.elim hq
end
/-! ## The law itself -/
section
variable {P : Program} {w : World} {K : PySem.W.Frag} {mg mb : Str → Option Value} {k : Nat} {fa a : Addr} {fd : FuncData} {x : Str} {sp : Sp} {s : Shared} {vs : List Value} {ns : List Int}
theorem env_of {H : Hp} (KX : K.In s.heap) (hns : s.heap.Ns mainGlobals mg) (hb : s.heap.Ns builtinsNs mb) (hbb : ∀ x : Str, x ≠ "__name__" → mb x = bootBuiltins x) (hlim : s.heap.NoLimit) (hg : s.gens = #[])
    (ha : s.heap.get? a = some { cls := .type "list", data := .seq vs.toArray }) (hok : HOk P w H s.heap) (one : ∀ b, b ≠ a → H b = none) (nk : H a = none ∨ K.lookup a = none) :
    K.In (hidT s.heap H) ∧ (hidT s.heap H).Ns mainGlobals mg ∧ Env0 P w K mg (hidT s.heap H) callerA [] s H := by
  have keepN : ∀ {b : Addr} {m : Str → Option Value}, s.heap.Ns b m → (hidT s.heap H).Ns b m := by
    rintro b m ⟨o, es, ep, e, d, r⟩
    have nb : b ≠ a := fun z => by
      rw [z, ha] at e
      cases e
      exact nomatch (show Data.seq vs.toArray _ = Data.dict es ep from d)
    exact ⟨o, es, ep, hidT_get e (one b nb), d, r⟩
  have kin : K.In (hidT s.heap H) := fun b o e => hidT_get (KX b o e) (by
    by_cases z : b = a
    · rcases nk with q | q
      · rw [z]; exact q
      · rw [z, q] at e; cases e
    · exact one b z)
  obtain ⟨mc, l1, l2⟩ := hlim
  exact ⟨kin, keepN hns, rfl, ⟨kin, keepN hns, ⟨mb, keepN hb, hbb⟩, ⟨mc, keepN l1, l2⟩⟩, fun b o e => of_hidT e, Nat.le_of_eq (hidT_size _ _), trivial, fun b z => absurd (show b ∈ ([] : List Addr) from z) (by simp), hok, .of_eq hg⟩
theorem law_callG (KX : K.In s.heap) (hns : s.heap.Ns mainGlobals mg) (hb : s.heap.Ns builtinsNs mb) (hbb : ∀ x : Str, x ≠ "__name__" → mb x = bootBuiltins x) (hlim : s.heap.NoLimit) (hg : s.gens = #[])
    (ha : s.heap.get? a = some { cls := .type "list", data := .seq vs.toArray }) (hi : IntsAre vs ns) (hl : ns.length ≤ sizeLine) (hr : Room k callerA)
    (F : ∀ base : Heap, K.In base → base.Ns mainGlobals mg → FnG P w K mg base k fa fd [x] sp) (hbind : ∀ (s : Shared) (u : Value), BindsTo s fd ⟨[u], []⟩ [(x, u)])
    (hsp : ∀ H : Hp, SqL K H a (ns.map V.int) → sp [.ref a] H (fun v _ => v = .bl true) fun _ _ _ => False) :
    codeAny (model P w) callerA (.call (.ref fa) ⟨[.ref a], []⟩) (fun r s' => r = .ok (.ret (.bool true)) ∧ OldK s.heap s'.heap ∧ s'.os = s.os ∧ AllBare s'.gens) s := by
  have rv := vals_ints hi
  have go : ∀ H : Hp, SqL K H a (ns.map V.int) → HOk P w H s.heap → (∀ b, b ≠ a → H b = none) → (H a = none ∨ K.lookup a = none) → (∀ o, H a = some o → ∃ ob u, o = .frz ob u) →
      codeAny (model P w) callerA (.call (.ref fa) ⟨[.ref a], []⟩) (fun r s' => r = .ok (.ret (.bool true)) ∧ OldK s.heap s'.heap ∧ s'.os = s.os ∧ AllBare s'.gens) s := by
    intro H hS hok one nk fz
    obtain ⟨k1, k2, e0⟩ := env_of KX hns hb hbb hlim hg ha hok one nk
    refine codeAny_mono ((F _ k1 k2).run callerA [] s H ⟨[.ref a], []⟩ [.ref a] [.ref a] _ _ rfl hr e0 (hbind s (.ref a)) (.cons rfl .nil) (hsp H hS)) fun r s' h => ?_
    cases r with
    | error _ => exact False.elim h
    | ok fl =>
      cases fl with
      | next => exact False.elim h
      | brk => exact False.elim h
      | cont => exact False.elim h
      | ret u =>
        obtain ⟨v, H', os, bare, un, hok', ru, ev⟩ := h
        subst ev
        obtain rfl : u = Value.bool true := ru
        refine ⟨rfl, OldK.of_keep fun b o e => ?_, os, bare⟩
        cases q : H b with
        | none => exact un.keep b o e q (fun z => absurd (show b ∈ ([] : List Addr) from z) (by simp)) (by simp)
        | some oo =>
          have zb : b = a := Classical.byContradiction fun z => by rw [one b z] at q; cases q
          subst zb
          obtain ⟨ob, u, rfl⟩ := fz oo q
          obtain ⟨e1, _⟩ := hok b _ q
          obtain ⟨e2, _⟩ := hok' b _ (un.frzs b ob u q)
          rw [e] at e1
          cases e1
          exact e2
  cases hk : K.lookup a with
  | some o =>
    have e := KX a o hk
    rw [ha] at e
    cases e
    exact go (fun _ => none) (.inr ⟨_, vs.toArray, _, hk, rfl, rfl, rfl, by rw [List.size_toArray, hi.length]; exact hl, by simpa using rv⟩) (fun b u z => nomatch z) (fun _ _ => rfl) (.inl rfl) (fun o z => nomatch z)
  | none =>
    let ob : Obj := { cls := .type "list", data := .seq vs.toArray }
    refine go (upd (fun _ => none) a (.frz ob (.lst (ns.map V.int)))) (.inl (.inr ⟨ob, upd_same⟩)) (fun b u z => ?_) (fun b z => upd_ne z) (.inr hk) (fun o z => ?_)
    · by_cases q : b = a
      · subst q
        rw [upd_same] at z
        cases z
        exact ⟨ha, by rw [List.length_map]; exact hl, vs, _, rv, ha⟩
      · rw [upd_ne q] at z
        cases z
    · rw [upd_same] at z
      cases z
      exact ⟨_, _, rfl⟩
end
theorem walk_G {l : PySem.W.OpenLaw} {n k : Nat} {q : Program} {loose : List Str} {XP : (Str → Option Value) → Heap → Prop} {YP : World → Heap → Prop} {d : DefRec} {K : Params → PySem.W.Frag} {sp : PySem.W.Frag → Sp} {x : Str}
    (hn : l.most = some n) (hn2 : n ≤ sizeLine) (hdf : d.params.defaults = []) (hr : Room k callerA) (hY : ∀ (w : World) (h : Heap), YP w h → (K w.params).In h)
    (F : ∀ (w : World) (mg : Str → Option Value) (fa : Addr) (h : Heap), (K w.params).In h → h.Ns mainGlobals mg → mg d.name = some (.ref fa) →
      ∃ fd : FuncData, (∀ (s : Shared) (u : Value), BindsTo s fd ⟨[u], []⟩ [(x, u)]) ∧ ∀ base : Heap, (K w.params).In base → base.Ns mainGlobals mg → FnG l.prog w (K w.params) mg base k fa fd [x] (sp (K w.params)))
    (hsp : ∀ (K : PySem.W.Frag) (H : Hp) (a : Addr) (ns : List Int), ns.length ≤ n → SqL K H a (ns.map V.int) → sp K [.ref a] H (fun v _ => v = .bl true) fun _ _ _ => False) :
    PySem.W.WalkO q loose XP YP l.row.toRowW d [] (fun f vs => PySem.call f vs) := by
  refine Att.attach_call hn hdf fun w _ s mg mb fa _ _ _ _ a vs ns G Y _ _ _ hmg hobj hints hlen hg => ?_
  obtain ⟨fd, hb, hF⟩ := F w mg fa _ (hY w _ Y) G.T.g hmg
  exact law_callG (hY w _ Y) G.T.g G.T.b G.T.builtins G.T.nolimit hg hobj hints (Nat.le_trans hlen hn2) hr hF hb fun H hS => hsp _ H a ns hlen hS
end Lc
set_option Elab.async false
set_option linter.all false
set_option maxRecDepth 100000
set_option maxHeartbeats 4000000
namespace Lc
open PySem PySem.Spec PyProof.Rows L2
/-! ## Kinds of values -/
inductive TyN (H : Hp) : V → String → Prop
  | non : TyN H .non "NoneType"
  | bl (b : Bool) : TyN H (.bl b) "bool"
  | int (i : Int) : TyN H (.int i) "int"
  | str (x : Str) : TyN H (.str x) "str"
  | tup {a : Addr} {xs : List V} (e : H a = some (.tup xs)) : TyN H (.ref a) "tuple"
  | lst {a : Addr} {xs : List V} (e : H a = some (.lst xs)) : TyN H (.ref a) "list"
  | dct {a : Addr} {kvs : List (Key × V)} (e : H a = some (.dK kvs)) : TyN H (.ref a) "dict"
theorem TyN.x {K : PySem.W.Frag} {H : Hp} {v : V} {t : String} (h : TyN H v t) : TyX K H v (.type t) := by
  cases h with
  | non => exact .base .non
  | bl b => exact .base (.bl b)
  | int i => exact .base (.int i)
  | str x => exact .base (.str x)
  | tup e => exact .base (.tup e)
  | lst e => exact .base (.lst e)
  | dct e => exact .base (.dK e)
theorem TyN.same {H H' : Hp} {v : V} {t : String} (h : TyN H v t) (s : Same H H') : TyN H' v t := by
  cases h with
  | non => exact .non
  | bl b => exact .bl b
  | int i => exact .int i
  | str x => exact .str x
  | tup e => exact .tup (s _ _ e)
  | lst e => exact .lst (s _ _ e)
  | dct e => exact .dct (s _ _ e)
theorem TyN.isInt {H : Hp} {v : V} {t : String} (h : TyN H v t) (e : t = "int") : ∃ i, v = .int i := by
  cases h <;> first | exact ⟨_, rfl⟩ | exact absurd e (by decide)
theorem TyN.isStr {H : Hp} {v : V} {t : String} (h : TyN H v t) (e : t = "str") : ∃ x, v = .str x := by
  cases h <;> first | exact ⟨_, rfl⟩ | exact absurd e (by decide)
theorem TyN.isTup {H : Hp} {v : V} {t : String} (h : TyN H v t) (e : t = "tuple") : ∃ a xs, v = .ref a ∧ H a = some (.tup xs) := by
  cases h <;> first | exact ⟨_, _, rfl, by assumption⟩ | exact absurd e (by decide)
def tyNames : List String := ["NoneType", "bool", "int", "str", "tuple", "list", "dict"]
theorem TyN.mem {H : Hp} {v : V} {t : String} (h : TyN H v t) : t ∈ tyNames := by
  cases h <;> simp [tyNames]
theorem kit_int {K : PySem.W.Frag} {t : String} (h : t ∈ tyNames) : PySem.W.kitOne K (.type t) (.type "int") = some (t == "int" || t == "bool") := by
  have : ∀ t ∈ tyNames, kitB t "int" = some (t == "int" || t == "bool") := by decide +kernel
  exact kit_ty (this t h)
theorem kit_bool {K : PySem.W.Frag} {t : String} (h : t ∈ tyNames) : PySem.W.kitOne K (.type t) (.type "bool") = some (t == "bool") := by
  have : ∀ t ∈ tyNames, kitB t "bool" = some (t == "bool") := by decide +kernel
  exact kit_ty (this t h)
theorem kit_tuple {K : PySem.W.Frag} {t : String} (h : t ∈ tyNames) : PySem.W.kitOne K (.type t) (.type "tuple") = some (t == "tuple") := by
  have : ∀ t ∈ tyNames, kitB t "tuple" = some (t == "tuple") := by decide +kernel
  exact kit_ty (this t h)
theorem kit_str {K : PySem.W.Frag} {t : String} (h : t ∈ tyNames) : PySem.W.kitOne K (.type t) (.type "str") = some (t == "str") := by
  have : ∀ t ∈ tyNames, kitB t "str" = some (t == "str") := by decide +kernel
  exact kit_ty (this t h)
/-! ## What is a rational -/
def ratB : V → V → Bool
  | .int n, .int d => decide (0 < d) && decide (gd n d = 1)
  | _, _ => false
inductive Rk (H : Hp) : V → Bool → Prop
  | other {v : V} {t : String} (h : TyN H v t) (n : t ≠ "tuple") : Rk H v false
  | len {a : Addr} {xs : List V} (e : H a = some (.tup xs)) (n : xs.length ≠ 2) : Rk H (.ref a) false
  | pair {a : Addr} {x y : V} {tx ty : String} (e : H a = some (.tup [x, y])) (hx : TyN H x tx) (hy : TyN H y ty) : Rk H (.ref a) (ratB x y)
theorem Rk.same {H H' : Hp} {v : V} {b : Bool} (h : Rk H v b) (s : Same H H') : Rk H' v b := by
  cases h with
  | other h n => exact .other (h.same s) n
  | len e n => exact .len (s _ _ e) n
  | pair e hx hy => exact .pair (s _ _ e) (hx.same s) (hy.same s)
theorem Rk.of {H : Hp} {a : Addr} {n d : Int} (e : H a = some (.tup [.int n, .int d])) (r : Rt n d) : Rk H (.ref a) true := by
  have z : ratB (.int n) (.int d) = true := by
    show (decide (0 < d) && decide (gd n d = 1)) = true
    rw [decide_eq_true r.pos, decide_eq_true r.cop]
    rfl
  rw [← z]
  exact .pair e (.int n) (.int d)
/-! ## repr -/
inductive Shw (K : PySem.W.Frag) (H : Hp) : V → Str → Prop
  | data {v : V} {d : PyData} (h : Dp K H v d) (h1 : d.showable = true) (h2 : d.hasDict = false) (h3 : d.depth ≤ 60) (h4 : d.shown.length ≤ sizeLine) : Shw K H v d.shown
  | empty {a : Addr} (e : H a = some (.dK [])) : Shw K H (.ref a) (PyData.dict []).shown
def rReprV (K : PySem.W.Frag) : List V → Hp → VK → Prop := fun xs H Q => ∃ (v : V) (z : Str), xs = [v] ∧ Shw K H v z ∧ Q (.str z) H
theorem call_reprV {X : Cx} (hg : X.A.guards = some []) (hu : X.A.units + 64 < cLine) : CallR X (.builtin "repr") (rReprV X.K) := by
  intro pins s σ H xs us Q I r h
  obtain ⟨v, z, rfl, hd, q⟩ := h
  obtain ⟨u, rfl, ru⟩ := vals1 r
  cases hd with
  | @data _ d hd h1 h2 h3 h4 =>
    obtain ⟨as, rd⟩ := Dp.reads I d _ _ hd ru
    cases hd with
    | non =>
      obtain rfl : u = Value.none := ru
      exact P.repr_of_none ⟨.str _, H, I.tok _, ⟨_, rfl⟩, q⟩
    | bl b =>
      obtain rfl : u = Value.bool b := ru
      exact P.repr_of_bool ⟨.str _, H, I.tok _, ⟨_, rfl⟩, q⟩
    | int i =>
      obtain ⟨t, rfl⟩ := (show ∃ t, u = Value.int i t from ru)
      exact P.repr_of_int (of_decide_eq_true (by simpa [PyData.showable] using h1)) ⟨.str _, H, I.tok _, ⟨_, rfl⟩, q⟩
    | str x =>
      obtain ⟨t, rfl⟩ := (show ∃ t, u = Value.str x t from ru)
      exact P.repr_of_str ⟨.str _, H, I.tok _, ⟨_, rfl⟩, q⟩ h4
    | @lst a xs ds e1 e2 =>
      obtain rfl : u = Value.ref a := ru
      exact repr_of_reads' rd h1 (PyData.noDict_hsm h2) hg (by omega) (fun _ _ e => e) (fun h' u tk hk => ⟨.str _, H, I.kept (t' := tk) hk, ⟨u, rfl⟩, q⟩) h4
    | @tup a xs ds e1 e2 =>
      obtain rfl : u = Value.ref a := ru
      exact repr_of_reads' rd h1 (PyData.noDict_hsm h2) hg (by omega) (fun _ _ e => e) (fun h' u tk hk => ⟨.str _, H, I.kept (t' := tk) hk, ⟨u, rfl⟩, q⟩) h4
  | @empty a e =>
    obtain rfl : u = Value.ref a := ru
    obtain ⟨_, ns, vs, kv, o, es, ep, h1, h2, h3, h4⟩ := (show ObjOk X.prog X.w H s.heap a (.dK []) from I.hok a _ e)
    cases kv
    have es0 : es.toList = [] := by
      obtain ⟨_, hp, _⟩ := h4
      generalize es.toList = l at hp
      cases hp
      rfl
    have rd : Reads s.heap (.ref a) (.dict []) (a :: [] ++ []) := Reads.dict h1 h2.1 h3 (by rw [es0]; exact .nil) (by rw [es0]; exact .nil)
    exact repr_of_reads' rd (by decide) (fun _ hm => by
      have : sysModules = a := by simpa using hm
      rw [this] at ns
      simp at ns) hg (by show X.A.units + (PyData.depth (.dict []) + 1) < cLine; have : PyData.depth (.dict []) ≤ 60 := by decide +kernel
                         omega) (fun _ _ e => e) (fun h' u tk hk => ⟨.str _, H, I.kept (t' := tk) hk, ⟨u, rfl⟩, q⟩) (by decide +kernel)
theorem dp_same {K : PySem.W.Frag} {H H' : Hp} (s : Same H H') : ∀ {v : V} {d : PyData}, Dp K H v d → Dp K H' v d := by
  have sq : ∀ {a xs}, SqT K H a xs → SqT K H' a xs := by
    intro a xs h
    rcases h with (h | ⟨o, h⟩) | h
    · exact .inl (.inl (s _ _ h))
    · exact .inl (.inr ⟨o, s _ _ h⟩)
    · exact .inr h
  intro v d h
  induction h using Dp.rec (motive_2 := fun vs ds _ => DpAll K H' vs ds) with
  | non => exact .non
  | bl b => exact .bl b
  | int i => exact .int i
  | str x => exact .str x
  | lst h1 _ ih => exact .lst (s.seq h1) ih
  | tup h1 _ ih => exact .tup (sq h1) ih
  | nil => exact .nil
  | cons _ _ i1 i2 => exact .cons i1 i2
theorem Shw.same {K : PySem.W.Frag} {H H' : Hp} (s : Same H H') {v : V} {z : Str} (h : Shw K H v z) : Shw K H' v z := by
  cases h with
  | data h h1 h2 h3 h4 => exact .data (dp_same s h) h1 h2 h3 h4
  | empty e => exact .empty (s _ _ e)
theorem Same.upd {H : Hp} {p : Addr} {o : HO} (h : H p = none) : Same H (upd H p o) := fun b u e => by rw [upd_ne (ne_of_none e h)]; exact e
end Lc
set_option Elab.async false
set_option linter.all false
set_option maxRecDepth 100000
set_option maxHeartbeats 4000000
namespace Lc
open PySem PySem.Spec PyProof.Rows L2
/-! ## The law's tape -/
def Tape (H : Hp) (t : Addr) : Prop := ∃ (l : Addr) (ns : List Int) (pos rest mix : Int), H t = some (.lst [.ref l, .int pos, .int rest, .int mix]) ∧ H l = some (.lst (ns.map V.int)) ∧ 0 ≤ pos ∧ 0 ≤ rest ∧ 0 ≤ mix ∧ mix < 2147483647
/-- all but what stands at t is as it was -/
def SameB (t : Addr) (H H' : Hp) : Prop := ∀ b o, b ≠ t → H b = some o → H' b = some o
theorem SameB.refl (t : Addr) (H : Hp) : SameB t H H := fun _ _ _ e => e
theorem SameB.trans {t : Addr} {H H1 H2 : Hp} (a : SameB t H H1) (b : SameB t H1 H2) : SameB t H H2 := fun c o n e => b c o n (a c o n e)
theorem Same.b {H H' : Hp} (t : Addr) (s : Same H H') : SameB t H H' := fun b o _ e => s b o e
theorem SameB.upd {t : Addr} {H : Hp} {o : HO} : SameB t H (upd H t o) := fun b u n e => by rw [upd_ne n]; exact e
theorem tape_ne {l t : Addr} {H : Hp} {ns : List Int} {vs : List V} (h1 : H t = some (.lst (.ref l :: vs))) (h2 : H l = some (.lst (ns.map V.int))) : l ≠ t := by
  refine ne_of h2 h1 fun z => ?_
  cases ns with
  | nil => injection z with z; cases z
  | cons n ns => injection z with z; injection z with z; cases z
theorem Tape.same {H H' : Hp} {t : Addr} (h : Tape H t) (s : Same H H') : Tape H' t := by
  obtain ⟨l, ns, pos, rest, mix, h1, h2, h3⟩ := h
  exact ⟨l, ns, pos, rest, mix, s _ _ h1, s _ _ h2, h3⟩
theorem cut_ints (ns : List Int) (lo hi : Option Int) : ∃ ms : List Int, cutV (ns.map V.int) lo hi = ms.map V.int := by
  unfold cutV
  rw [← List.map_drop, ← List.map_take]
  exact ⟨_, rfl⟩
def spTape (K : PySem.W.Frag) : Sp := fun vs H Q _ => ∃ (a : Addr) (ns : List Int), vs = [.ref a] ∧ SqL K H a (ns.map V.int) ∧ ∀ (t : Addr) (H' : Hp), Same H H' → H t = none → Tape H' t → Q (.ref t) H'
def spDraw : Sp := fun vs H Q _ => ∃ (t : Addr) (many : Int), vs = [.ref t, .int many] ∧ Tape H t ∧ 0 < many ∧ many.natAbs < 2 ^ 4000 ∧ ∀ (k : Int) (H' : Hp), 0 ≤ k → k < many → Tape H' t → SameB t H H' → Q (.int k) H'
def New2' (H : Hp) (Q : VK) (n d : Int) : Prop := ∀ p, H p = none → Q (.ref p) (upd H p (.tup [.int n, .int d]))
def spLowest : Sp := fun vs H Q _ => ∃ n d : Int, vs = [.int n, .int d] ∧ 0 < d ∧ d.natAbs < 2 ^ 4000 ∧ New2' H Q (lowN n d) (lowD n d)
def spRational : Sp := fun vs H Q _ => ∃ (t : Addr) (b : Bool), vs = [.ref t, .bl b] ∧ Tape H t ∧ ∀ (p : Addr) (n d : Int) (H' : Hp), Rt n d → n.natAbs < 2 ^ 140 → d.natAbs < 2 ^ 140 → H' p = some (.tup [.int n, .int d]) → H p = none → Tape H' t → SameB t H H' → Q (.ref p) H'
theorem log_lt' {n : Int} (h : n.natAbs < 2 ^ 4000) : n.natAbs.log2 < 9000 := by
  by_cases z : n.natAbs = 0
  · rw [z]
    decide
  · exact Nat.lt_of_lt_of_le ((Nat.log2_lt z).mpr h) (by decide)
end Lc
namespace Lc
open PySem PySem.Spec PyProof.Rows L2
theorem SameB.free {t p : Addr} {H H' : Hp} (s : SameB t H H') (h : Tape H' t) (e : H' p = none) : H p = none := by
  cases q : H p with
  | none => rfl
  | some o =>
    by_cases z : p = t
    · subst z
      obtain ⟨_, _, _, _, _, h1, _⟩ := h
      rw [h1] at e
      cases e
    · rw [s p o z q] at e
      cases e
theorem Tape.ne {t p : Addr} {H : Hp} (h : Tape H t) (e : H p = none) : p ≠ t := by
  intro z
  subst z
  obtain ⟨_, _, _, _, _, h1, _⟩ := h
  rw [h1] at e
  cases e
theorem Tape.neT {t p : Addr} {H : Hp} {xs : List V} (h : Tape H t) (e : H p = some (.tup xs)) : p ≠ t := by
  intro z
  subst z
  obtain ⟨_, _, _, _, _, h1, _⟩ := h
  rw [h1] at e
  cases e
theorem p18 : (10 : Int) ^ (18 : Int).toNat = 1000000000000000000 := by decide
theorem p40 : (10 : Int) ^ (40 : Int).toNat = 10000000000000000000000000000000000000000 := by decide
end Lc
namespace Lc
open PySem PySem.Spec PyProof.Rows L2
/-- the tape, its list at l -/
def TapeL (l : Addr) (H : Hp) (t : Addr) : Prop := ∃ (ns : List Int) (pos rest mix : Int), H t = some (.lst [.ref l, .int pos, .int rest, .int mix]) ∧ H l = some (.lst (ns.map V.int)) ∧ 0 ≤ pos ∧ 0 ≤ rest ∧ 0 ≤ mix ∧ mix < 2147483647
theorem TapeL.tape {l : Addr} {H : Hp} {t : Addr} (h : TapeL l H t) : Tape H t := ⟨l, h⟩
theorem TapeL.same {l : Addr} {H H' : Hp} {t : Addr} (h : TapeL l H t) (s : Same H H') : TapeL l H' t := by
  obtain ⟨ns, pos, rest, mix, h1, h2, h3⟩ := h
  exact ⟨ns, pos, rest, mix, s _ _ h1, s _ _ h2, h3⟩
theorem TapeL.list {l : Addr} {H : Hp} {t : Addr} (h : TapeL l H t) : ∃ xs, H l = some (.lst xs) := by
  obtain ⟨ns, pos, rest, mix, h1, h2, h3⟩ := h
  exact ⟨_, h2⟩
/-- another object is written -/
theorem TapeL.upd {l : Addr} {H : Hp} {t a : Addr} {o : HO} (h : TapeL l H t) (n1 : a ≠ t) (n2 : a ≠ l) : TapeL l (upd H a o) t := by
  obtain ⟨ns, pos, rest, mix, h1, h2, h3⟩ := h
  exact ⟨ns, pos, rest, mix, by rw [upd_ne (Ne.symm n1)]; exact h1, by rw [upd_ne (Ne.symm n2)]; exact h2, h3⟩
def spDrawL : Sp := fun vs H Q _ => ∃ (t l : Addr) (many : Int), vs = [.ref t, .int many] ∧ TapeL l H t ∧ 0 < many ∧ many.natAbs < 2 ^ 4000 ∧ ∀ (k : Int) (H' : Hp), 0 ≤ k → k < many → TapeL l H' t → SameB t H H' → Q (.int k) H'
theorem fn_weak {P : Program} {w : World} {K : PySem.W.Frag} {mg : Str → Option Value} {base : Heap} {CX : CXT} {k : Nat} {f : Addr} {fd : FuncData} {ps : List Str} {sp sp' : Sp} (h : ∀ vs H Q E, sp vs H Q E → sp' vs H Q E) (F : FnOk P w K mg base CX k f fd ps sp') : FnOk P w K mg base CX k f fd ps sp :=
  ⟨fun vs H Q E z => F.len vs H Q E (h vs H Q E z), fun A outer s H args us vs Q E a b c d z => F.run A outer s H args us vs Q E a b c d (h vs H Q E z)⟩
theorem draw_weak {vs : List V} {H : Hp} {Q : VK} {E : XK} (h : spDraw vs H Q E) : spDrawL vs H Q E := by
  obtain ⟨t, m, e, ⟨l, hT⟩, h1, h2, k⟩ := h
  exact ⟨t, l, m, e, hT, h1, h2, fun k1 H' a b c d => k k1 H' a b c.tape d⟩
end Lc
set_option Elab.async false
set_option linter.all false
set_option maxRecDepth 100000
set_option maxHeartbeats 4000000
namespace Lc
open PySem PySem.Spec PyProof.Rows L2
/-- names of built-ins that no text binds -/
structure Bt (mg : Str → Option Value) : Prop where
  isi : mg "isinstance" = none
  int : mg "int" = none
  bool : mg "bool" = none
  str : mg "str" = none
  tuple : mg "tuple" = none
  list : mg "list" = none
  dict : mg "dict" = none
  len : mg "len" = none
  abs : mg "abs" = none
  min : mg "min" = none
  all : mg "all" = none
  repr : mg "repr" = none
  range : mg "range" = none
  enum : mg "enumerate" = none
  ve : mg "ValueError" = none
  zd : mg "ZeroDivisionError" = none
  ie : mg "IndexError" = none
  oe : mg "OverflowError" = none
def btNames : List Str := ["isinstance", "int", "bool", "str", "tuple", "list", "dict", "len", "abs", "min", "all", "repr", "range", "enumerate", "ValueError", "ZeroDivisionError", "IndexError", "OverflowError"]
/-! ## x is True, x any value -/
def rIsBA : R2 := fun x y H Q => ∃ b : Bool, y = .bl b ∧ Q (.bl (decide (x = .bl b))) H
theorem op_isBA {X : Cx} : OpR X (compareOp .Is) rIsBA := by
  intro pins s σ H x y v u Q I rx ry h
  obtain ⟨b, rfl, q⟩ := h
  cases (show u = Value.bool b from ry)
  have key : plainIs v (.bool b) = true ∧ (v == Value.bool b) = decide (x = .bl b) := by
    cases x with
    | non => cases (show v = Value.none from rx); exact ⟨rfl, by cases b <;> rfl⟩
    | bl c => cases (show v = Value.bool c from rx); exact ⟨rfl, by cases b <;> cases c <;> rfl⟩
    | int i => obtain ⟨t, rfl⟩ := (show ∃ t, v = Value.int i t from rx); exact ⟨rfl, by cases b <;> rfl⟩
    | str i => obtain ⟨t, rfl⟩ := (show ∃ t, v = Value.str i t from rx); exact ⟨rfl, by cases b <;> rfl⟩
    | byt i => obtain ⟨t, rfl⟩ := (show ∃ t, v = Value.bytes i t from rx); exact ⟨rfl, by cases b <;> rfl⟩
    | flt i => obtain ⟨t, rfl⟩ := (show ∃ t, v = Value.float i t from rx); exact ⟨rfl, by cases b <;> rfl⟩
    | ref a => cases (show v = Value.ref a from rx); exact ⟨rfl, by cases b <;> rfl⟩
    | ty n => cases (show v = Value.type n from rx); exact ⟨rfl, by cases b <;> rfl⟩
  refine wpAny_is_plain key.1 ?_
  rw [key.2]
  exact ⟨.bl _, H, I, rfl, q⟩
/-! ## Texts of few signs -/
structure Sh (n : Nat) (x : Str) : Prop where
  len : x.cps.toList.length ≤ n
  ok : ∀ c ∈ x.cps.toList, c < 1114112
theorem Sh.mono {n m : Nat} {x : Str} (h : Sh n x) (l : n ≤ m) : Sh m x := ⟨Nat.le_trans h.len l, h.ok⟩
theorem Sh.line {n : Nat} {x : Str} (h : Sh n x) (l : n ≤ 1000) : x.length ≤ sizeLine := by
  have : x.length = x.cps.toList.length := by show x.cps.size = _; simp
  rw [this]
  exact Nat.le_trans h.len (Nat.le_trans l (by decide))
theorem sh_app {n m : Nat} {x y : Str} (h : Sh n x) (g : Sh m y) : Sh (n + m) (x ++ y) := by
  have e : (x ++ y).cps.toList = x.cps.toList ++ y.cps.toList := by
    show (x.cps ++ y.cps).toList = _
    simp
  refine ⟨?_, fun c hc => ?_⟩
  · rw [e, List.length_append]
    exact Nat.add_le_add h.len g.len
  · rw [e] at hc
    rcases List.mem_append.mp hc with hc | hc
    · exact h.ok c hc
    · exact g.ok c hc
theorem sh_one {c : Nat} (h : c < 1114112) : Sh 1 ⟨#[c]⟩ := ⟨Nat.le_refl _, fun d hd => by
  have : d = c := by simpa using hd
  rw [this]
  exact h⟩
theorem sh_sub {n : Nat} {x : Str} {l : List Nat} (h : Sh n x) (s : l.Sublist x.cps.toList) : Sh n ⟨l.toArray⟩ := by
  refine ⟨?_, fun c hc => ?_⟩
  · show l.toArray.toList.length ≤ n
    exact Nat.le_trans s.length_le h.len
  · exact h.ok c (s.subset (by simpa using hc))
theorem sh_cut {n : Nat} {x : Str} (lo hi : Option Int) (h : Sh n x) : Sh n (cutS x lo hi) := sh_sub h ((List.take_sublist _ _).trans (List.drop_sublist _ _))
theorem foldl_app : ∀ (l : List (Array Nat)) (a : Array Nat), (l.foldl (· ++ ·) a).toList = a.toList ++ (l.map Array.toList).flatten
  | [], a => by simp
  | b :: l, a => by
    show ((l.foldl (· ++ ·) (a ++ b))).toList = _
    rw [foldl_app l (a ++ b)]
    simp [List.append_assoc]
theorem sh_mul {x : Str} {n k : Nat} {i : Int} (h : Sh n x) (hi : i.toNat ≤ k) (hn : n ≤ 1) : Sh k (Txt.mul x i) := by
  unfold Txt.mul
  by_cases h1 : i < 1
  · rw [if_pos h1]
    exact ⟨Nat.zero_le _, fun c hc => by cases (by simpa [Str.empty] using hc : c ∈ ([] : List Nat))⟩
  · rw [if_neg h1]
    by_cases h2 : (i == 1 || x.length == 0) = true
    · rw [if_pos h2]
      exact h.mono (by omega)
    · rw [if_neg h2]
      have e : ((List.replicate i.toNat x.cps).foldl (· ++ ·) #[]).toList = (List.replicate i.toNat x.cps.toList).flatten := by
        rw [foldl_app]
        simp
      refine ⟨?_, fun c hc => ?_⟩
      · show ((List.replicate i.toNat x.cps).foldl (· ++ ·) #[]).toList.length ≤ k
        rw [e, List.length_flatten]
        have : ((List.replicate i.toNat x.cps.toList).map List.length).sum ≤ i.toNat * 1 := by
          have key : ∀ m : Nat, ((List.replicate m x.cps.toList).map List.length).sum ≤ m * 1 := by
            intro m
            induction m with
            | zero => simp
            | succ m ih =>
              rw [List.replicate_succ, List.map_cons, List.sum_cons]
              have := Nat.le_trans h.len hn
              omega
          exact key _
        omega
      · have hc : c ∈ ((List.replicate i.toNat x.cps).foldl (· ++ ·) #[]).toList := hc
        rw [e] at hc
        obtain ⟨l, hl, hcl⟩ := List.mem_flatten.mp hc
        rw [List.eq_of_mem_replicate hl] at hcl
        exact h.ok c hcl
theorem mul_ok {x : Str} {i : Int} (h : x.cps.size ≤ 1) (h2 : i < 1000) (h3 : -1000 < i) : MulOk x i := by
  have hx : x.length ≤ 1 := h
  refine ⟨by simp; omega, fun h1 _ => ?_, fun h1 _ => ?_⟩
  · have : (2 ^ 63 - 1 : Int) / i ≥ 1 := by
      have : (1 : Int) * i ≤ 2 ^ 63 - 1 := by omega
      exact (Int.le_ediv_iff_mul_le (by omega)).mpr this
    omega
  · unfold Builtin.Str.tooLong
    have : x.length * i.toNat ≤ 1000 := by
      have : x.length * i.toNat ≤ 1 * i.toNat := Nat.mul_le_mul_right _ hx
      omega
    have : ¬ (x.length * i.toNat > sizeLine) := by
      have : (1000 : Nat) ≤ sizeLine := by decide
      omega
    simpa using this
def rMulS : R2 := fun x y H Q => ∃ (z : Str) (i : Int), x = .str z ∧ y = .int i ∧ MulOk z i ∧ Q (.str (Txt.mul z i)) H
theorem op_mulS {X : Cx} : OpR X (binaryOp .Mult) rMulS := by
  intro pins s σ H x y v u Q I rx ry h
  obtain ⟨z, i, rfl, rfl, ok, q⟩ := h
  obtain ⟨t, rfl⟩ := (show ∃ t, v = Value.str z t from rx)
  obtain ⟨t2, rfl⟩ := (show ∃ t, u = Value.int i t from ry)
  exact SB.mul ok fun t' k => ⟨.str _, H, I.tok _, ⟨_, rfl⟩, q⟩
theorem glued_sh : ∀ (ys : List Str), (∀ y ∈ ys, Sh 1 y) → Sh ys.length (Str.join Str.empty ys)
  | [], _ => ⟨Nat.le_refl _, fun c hc => by cases (by simpa [Str.join, Str.empty] using hc : c ∈ ([] : List Nat))⟩
  | [x], h => h x List.mem_cons_self
  | x :: y :: r, h => by
    have ih := glued_sh (y :: r) fun z hz => h z (List.mem_cons_of_mem _ hz)
    have e : Str.join Str.empty (x :: y :: r) = x ++ Str.empty ++ Str.join Str.empty (y :: r) := rfl
    rw [e]
    have s0 : Sh 0 Str.empty := ⟨Nat.le_refl _, fun c hc => by cases (by simpa [Str.empty] using hc : c ∈ ([] : List Nat))⟩
    exact (sh_app (sh_app (h x List.mem_cons_self) s0) ih).mono (by simp; omega)
/-! ## repr of a short text, of a bounded number -/
theorem shw_text {K : PySem.W.Frag} {H : Hp} {n : Nat} {x : Str} (h : Sh n x) (l : n ≤ 1000) : Shw K H (.str x) (PyData.str x).shown := by
  refine .data (.str x) rfl rfl (by simp [PyData.depth]) ?_
  show (reprText x).length ≤ sizeLine
  have := StrLaws.reprText_len x (fun c hc => Nat.lt_trans (h.ok c hc) (by decide))
  have e : x.length = x.cps.toList.length := by show x.cps.size = _; simp
  have := h.len
  have : (10002 : Nat) ≤ sizeLine := by decide
  omega
theorem num_len {i : Int} (h : i.natAbs < 2 ^ 1000) : (PyData.int i).showable = true ∧ (PyData.int i).shown.length ≤ 1921 := by
  have l : i.natAbs.log2 < 1920 := by
    by_cases z : i.natAbs = 0
    · rw [z]
      decide
    · exact Nat.lt_of_lt_of_le ((Nat.log2_lt z).mpr h) (by decide)
  exact ⟨decide_eq_true l, int_text_len_1921 l⟩
end Lc
namespace Lc
open PySem PySem.Spec PyProof.Rows L2
/-! ## Names -/
def letters : Str := "abcdefghijklmnopqrstuvwxyz"
def signs : Str := "abcdefghijklmnopqrstuvwxyz0123456789"
def inS (c : Nat) : Bool := decide (c ∈ signs.cps.toList)
def inL (c : Nat) : Bool := decide (c ∈ letters.cps.toList)
def nameL : List Nat → Bool
  | [] => false
  | c :: r => decide ((c :: r).length ≤ 12) && (inL c && (c :: r).all inS)
def nameB : V → Bool
  | .str x => nameL x.cps.toList
  | _ => false
abbrev rInS : R2 := fun x y H Q => ∃ (c : Nat) (z : Str), x = .str ⟨#[c]⟩ ∧ y = .str z ∧ Q (.bl (decide (c ∈ z.cps.toList))) H
def spName : Sp := fun vs H Q _ => ∃ (v : V) (t : String), vs = [v] ∧ TyN H v t ∧ (∀ x, v = .str x → x.length ≤ sizeLine) ∧ ∀ H', Same H H' → Q (.bl (nameB v)) H'
def spLName : Sp := fun vs H Q _ => ∃ t : Addr, vs = [.ref t] ∧ Tape H t ∧ ∀ (x : Str) (H' : Hp), Sh 12 x → Tape H' t → SameB t H H' → Q (.str x) H'
theorem lenL (x : Str) : x.length = x.cps.toList.length := by show x.cps.size = _; simp
theorem nil_of {x : Str} (h : x.cps.toList = []) : x = ⟨#[]⟩ := by
  obtain ⟨⟨l⟩⟩ := x
  have : l = [] := h
  rw [this]
theorem dec_empty (x : Str) : decide (V.str x = V.str "") = decide (x.cps.toList = []) := by
  rw [Bool.eq_iff_iff, decide_eq_true_iff, decide_eq_true_iff]
  constructor
  · intro h
    injection h with h
    rw [h]
    rfl
  · intro h
    rw [nil_of h]
    rfl
theorem name_nil {x : Str} (h : x.cps.toList = []) : nameB (.str x) = false := by
  show nameL x.cps.toList = false
  rw [h]
  rfl
theorem name_long {x : Str} (h : ¬ x.cps.toList.length ≤ 12) : nameB (.str x) = false := by
  show nameL x.cps.toList = false
  cases e : x.cps.toList with
  | nil => rfl
  | cons c r =>
    rw [e] at h
    show (decide ((c :: r).length ≤ 12) && _) = false
    rw [decide_eq_false h]
    rfl
theorem name_is {x : Str} {c : Nat} {r : List Nat} (e : x.cps.toList = c :: r) (h : x.cps.toList.length ≤ 12) : nameB (.str x) = (inL c && (c :: r).all inS) := by
  show nameL x.cps.toList = _
  rw [e] at h ⊢
  show (decide ((c :: r).length ≤ 12) && _) = _
  rw [decide_eq_true h]
  rfl
/-- the list of a comprehension over a text's signs, as it grows -/
theorem grow {x : Str} {i : Nat} {c : Nat} (h : x.cps[i]? = some c) (p : Nat → Bool) : (x.cps.toList.take i).map (fun c => V.bl (p c)) ++ [V.bl (p c)] = (x.cps.toList.take (i + 1)).map fun c => V.bl (p c) := by
  have h2 : x.cps.toList[i]? = some c := by rw [Array.getElem?_toList]; exact h
  rw [List.take_succ, h2, List.map_append]
  rfl
end Lc
namespace Lc
open PySem PySem.Spec PyProof.Rows L2
theorem cut26 : cutS signs none (some 26) = letters := by decide +kernel
theorem signs_ok : ∀ c ∈ signs.cps.toList, c < 1114112 := by decide +kernel
theorem signs_len : signs.cps.toList.length = 36 := by decide +kernel
theorem at_text {l : List Nat} {i : Int} (h0 : 0 ≤ i) (h1 : i < (l.length : Int)) : ∃ c, atI l i = some c ∧ c ∈ l := by
  obtain ⟨n, rfl⟩ : ∃ n : Nat, i = (n : Int) := ⟨i.toNat, by omega⟩
  have h : n < l.length := by omega
  exact ⟨l[n], atI_nat (List.getElem?_eq_getElem h), List.getElem_mem h⟩
theorem big1000 {z : Int} (h1 : 0 ≤ z) (h2 : z ≤ 1000) : z.natAbs < 2 ^ 4000 := by
  have e : (2 : Nat) ^ 10 = 1024 := by decide
  exact Nat.lt_of_lt_of_le (show z.natAbs < 2 ^ 10 by omega) (Nat.pow_le_pow_right (by decide) (by decide))
theorem sh_a : Sh 1 (PySem.Str.ofString "a") := ⟨by decide +kernel, by decide +kernel⟩
theorem a_size : (PySem.Str.ofString "a").cps.size ≤ 1 := by decide +kernel
theorem sh_len {n : Nat} {x : Str} (h : Sh n x) : x.length ≤ n := by rw [lenL]; exact h.len
end Lc
namespace Lc
open PySem PySem.Spec PyProof.Rows L2
theorem join_sh (ys : List Str) (h : ∀ y ∈ ys, Sh 1 y) : Sh ys.length (Txt.join (PySem.Str.ofString "") ys) := by
  have e : Txt.join (PySem.Str.ofString "") ys = Str.join Str.empty ys := by
    exact (StrLaws.glued_eq_join (PySem.Str.ofString "") ys).trans rfl
  rw [e]
  exact glued_sh ys h
end Lc
set_option Elab.async false
set_option linter.all false
set_option maxRecDepth 100000
set_option maxHeartbeats 4000000
namespace Lc
open PySem PySem.Spec PyProof.Rows L2
/-! ## Flat values and what they are shown as -/
structure Fl (v : V) (d : PyData) (s : String) : Prop where
  dp : ∀ (K : PySem.W.Frag) (H : Hp), Dp K H v d
  ty : ∀ H : Hp, TyN H v s
  sh : d.showable = true
  nd : d.hasDict = false
  dz : d.depth = 0
  ln : d.shown.length ≤ 20000
theorem fl_non : Fl .non .none "NoneType" := ⟨fun _ _ => .non, fun _ => .non, rfl, rfl, rfl, by decide +kernel⟩
theorem fl_bl (b : Bool) : Fl (.bl b) (.bool b) "bool" := ⟨fun _ _ => .bl b, fun _ => .bl b, rfl, rfl, rfl, by cases b <;> decide +kernel⟩
theorem fl_int {i : Int} (h : i.natAbs < 2 ^ 1000) : Fl (.int i) (.int i) "int" := ⟨fun _ _ => .int i, fun _ => .int i, (num_len h).1, rfl, rfl, Nat.le_trans (num_len h).2 (by decide)⟩
theorem fl_str {x : Str} {n : Nat} (h : Sh n x) (l : n ≤ 1930) : Fl (.str x) (.str x) "str" := by
  refine ⟨fun _ _ => .str x, fun _ => .str x, rfl, rfl, rfl, ?_⟩
  show (reprText x).length ≤ 20000
  have := StrLaws.reprText_len x (fun c hc => Nat.lt_trans (h.ok c hc) (by decide))
  have e := lenL x
  have := h.len
  omega
theorem sh_string (s : String) : ∀ c ∈ (PySem.Str.ofString s).cps.toList, c < 1114112 := by
  intro c hc
  rw [Str.ofString_eq_toList] at hc
  have hc : c ∈ s.toList.map Char.toNat := by simpa using hc
  obtain ⟨ch, _, rfl⟩ := List.mem_map.mp hc
  have := ch.valid
  rcases this with h | ⟨_, h⟩
  · exact Nat.lt_trans h (by decide)
  · exact h
theorem sh_num {i : Int} (h : i.natAbs < 2 ^ 1000) : Sh 1921 (PySem.Str.ofString (toString i)) := ⟨by rw [← lenL]; exact (num_len h).2, sh_string _⟩
/-! ## Things: is it a number within the limit, how is it shown -/
def lim : Int := 10000000000000000000000000000000000000000
def limB : V → V → Bool
  | .int n, .int d => decide ((if n < 0 then -n else n) ≤ lim) && decide (d ≤ lim)
  | _, _ => false
def numB (x y : V) : Bool := ratB x y && limB x y
inductive Thing (H : Hp) : V → Bool → Prop
  | other {v : V} {t : String} (h : TyN H v t) (n : t ≠ "tuple") (l : ∀ x, v = .str x → x.length ≤ sizeLine) : Thing H v false
  | len {a : Addr} {xs : List V} (e : H a = some (.tup xs)) (n : xs.length ≠ 2) : Thing H (.ref a) false
  | pair {a : Addr} {x y : V} {tx ty : String} (e : H a = some (.tup [x, y])) (hx : TyN H x tx) (hy : TyN H y ty) : Thing H (.ref a) (numB x y)
theorem Thing.same {H H' : Hp} {v : V} {b : Bool} (h : Thing H v b) (s : Same H H') : Thing H' v b := by
  cases h with
  | other h n l => exact .other (h.same s) n l
  | len e n => exact .len (s _ _ e) n
  | pair e hx hy => exact .pair (s _ _ e) (hx.same s) (hy.same s)
theorem Thing.ty {H : Hp} {v : V} {b : Bool} (h : Thing H v b) : ∃ t, TyN H v t ∧ ∀ x, v = .str x → x.length ≤ sizeLine := by
  cases h with
  | other h n l => exact ⟨_, h, l⟩
  | len e n => exact ⟨_, .tup e, fun x z => nomatch z⟩
  | pair e hx hy => exact ⟨_, .tup e, fun x z => nomatch z⟩
/-- whatever is done to the tape at t -/
def Thg (K : PySem.W.Frag) (t : Addr) (H : Hp) (v : V) : Prop := ∃ (b : Bool) (z : Str), ∀ H', SameB t H H' → Thing H' v b ∧ Shw K H' v z
theorem thg_flat {K : PySem.W.Frag} {t : Addr} {H : Hp} {v : V} {d : PyData} {s : String} (h : Fl v d s) (n : s ≠ "tuple") (l : ∀ x, v = .str x → x.length ≤ sizeLine) : Thg K t H v :=
  ⟨false, d.shown, fun H' _ => ⟨.other (h.ty H') n l, .data (h.dp K H') h.sh h.nd (by rw [h.dz]; decide) (Nat.le_trans h.ln (by decide))⟩⟩
/-- the items of a display -/
inductive Fls : List V → List PyData → Prop
  | nil : Fls [] []
  | cons {v : V} {d : PyData} {s : String} {vs : List V} {ds : List PyData} (h : Fl v d s) (r : Fls vs ds) : Fls (v :: vs) (d :: ds)
theorem Fls.dps {K : PySem.W.Frag} {H : Hp} : ∀ {vs : List V} {ds : List PyData}, Fls vs ds → DpAll K H vs ds
  | _, _, .nil => .nil
  | _, _, .cons h r => .cons (h.dp K H) r.dps
theorem Fls.facts : ∀ {vs : List V} {ds : List PyData}, Fls vs ds → PyData.showableAll ds = true ∧ PyData.hasDictAll ds = false ∧ PyData.depthAll ds = 0 ∧ ((PyData.shownAll ds).map (·.length)).sum ≤ 20000 * ds.length ∧ (PyData.shownAll ds).length = ds.length ∧ ds.length = vs.length
  | _, _, .nil => ⟨rfl, rfl, rfl, by simp [PyData.shownAll], rfl, rfl⟩
  | _, _, .cons (d := d) (ds := ds) h r => by
    obtain ⟨h1, h2, h3, h4, h5, h6⟩ := r.facts
    refine ⟨?_, ?_, ?_, ?_, ?_, ?_⟩
    · simp [PyData.showableAll, h.sh, h1]
    · simp [PyData.hasDictAll, h.nd, h2]
    · simp [PyData.depthAll, h.dz, h3]
    · simp only [PyData.shownAll, List.map_cons, List.sum_cons, List.length_cons]
      have := h.ln
      omega
    · simp [PyData.shownAll, h5]
    · simp [h6]
theorem shw_tup {K : PySem.W.Frag} {H : Hp} {a : Addr} {vs : List V} {ds : List PyData} (e : H a = some (.tup vs)) (h : Fls vs ds) (l : vs.length ≤ 100) : Shw K H (.ref a) (PyData.tuple ds).shown := by
  obtain ⟨h1, h2, h3, h4, h5, h6⟩ := h.facts
  refine .data (.tup (SqT.of e) h.dps) (by simpa [PyData.showable] using h1) (by simpa [PyData.hasDict] using h2) (by simp [PyData.depth, h3]) ?_
  have := tupleText_len_le (PyData.shownAll ds)
  have s : (3000000 : Nat) ≤ sizeLine := by decide
  simp only [PyData.shown]
  omega
theorem shw_lst {K : PySem.W.Frag} {H : Hp} {a : Addr} {vs : List V} {ds : List PyData} (e : H a = some (.lst vs)) (h : Fls vs ds) (l : vs.length ≤ 100) : Shw K H (.ref a) (PyData.list ds).shown := by
  obtain ⟨h1, h2, h3, h4, h5, h6⟩ := h.facts
  refine .data (.lst (SqL.of e) h.dps) (by simpa [PyData.showable] using h1) (by simpa [PyData.hasDict] using h2) (by simp [PyData.depth, h3]) ?_
  have := listText_len_le (PyData.shownAll ds)
  have s : (3000000 : Nat) ≤ sizeLine := by decide
  simp only [PyData.shown]
  omega
theorem thg_tup {K : PySem.W.Frag} {t a : Addr} {H : Hp} {vs : List V} {ds : List PyData} (n : a ≠ t) (e : H a = some (.tup vs)) (h : Fls vs ds) (l : vs.length ≤ 100) : Thg K t H (.ref a) := by
  by_cases z : vs.length = 2
  · match vs, h, z with
    | [x, y], .cons h1 (.cons h2 .nil), _ => exact ⟨numB x y, _, fun H' s => ⟨.pair (s _ _ n e) (h1.ty H') (h2.ty H'), shw_tup (s _ _ n e) (.cons h1 (.cons h2 .nil)) (by show 2 ≤ 100; decide)⟩⟩
  · exact ⟨false, _, fun H' s => ⟨.len (s _ _ n e) z, shw_tup (s _ _ n e) h l⟩⟩
theorem thg_lst {K : PySem.W.Frag} {t a : Addr} {H : Hp} {vs : List V} {ds : List PyData} (n : a ≠ t) (e : H a = some (.lst vs)) (h : Fls vs ds) (l : vs.length ≤ 100) : Thg K t H (.ref a) :=
  ⟨false, _, fun H' s => ⟨.other (.lst (s _ _ n e)) (by decide) (fun x z => nomatch z), shw_lst (s _ _ n e) h l⟩⟩
theorem thg_dct {K : PySem.W.Frag} {t a : Addr} {H : Hp} (n : a ≠ t) (e : H a = some (.dK [])) : Thg K t H (.ref a) :=
  ⟨false, _, fun H' s => ⟨.other (.dct (s _ _ n e)) (by decide) (fun x z => nomatch z), .empty (s _ _ n e)⟩⟩
theorem Thg.sameB {K : PySem.W.Frag} {t : Addr} {H H' : Hp} {v : V} (h : Thg K t H v) (s : SameB t H H') : Thg K t H' v := by
  obtain ⟨b, z, k⟩ := h
  exact ⟨b, z, fun H2 s2 => k H2 (s.trans s2)⟩
theorem thg_str {K : PySem.W.Frag} {t : Addr} {H : Hp} {n : Nat} {x : Str} (h : Sh n x) (l : n ≤ 1930) : Thg K t H (.str x) :=
  thg_flat (fl_str h l) (by decide) fun y e => by
    injection e with e
    subst e
    rw [lenL]
    exact Nat.le_trans h.len (Nat.le_trans l (by decide))
end Lc
namespace Lc
open PySem PySem.Spec PyProof.Rows L2
theorem ratB_ints {x y : V} (h : ratB x y = true) : ∃ n d : Int, x = .int n ∧ y = .int d ∧ 0 < d ∧ gd n d = 1 := by
  cases x with
  | int n =>
    cases y with
    | int d =>
      have h' : (decide (0 < d) && decide (gd n d = 1)) = true := h
      obtain ⟨h1, h2⟩ := Bool.and_eq_true_iff.mp h'
      exact ⟨n, d, rfl, rfl, of_decide_eq_true h1, of_decide_eq_true h2⟩
    | _ => cases h
  | _ => cases y <;> cases h
end Lc
namespace Lc
open PySem PySem.Spec PyProof.Rows L2
/-! ## A word behind an expression: what follows is shown once -/
def tMid (te : TE) : TE := fun σ H Q => ∃ M : V → Hp → Prop, te σ H M ∧ ∀ v H', M v H' → Q v H'
theorem pe_mid {X : Cx} {e : Expr} {te : TE} (h : PE X e te) : PE X e (tMid te) := by
  refine ⟨fun pins s σ H Q I hq => ?_⟩
  obtain ⟨M, h1, h2⟩ := hq
  exact thn (h.run pins s σ H M I h1) fun u s1 ⟨v, H1, I1, r, q⟩ => ⟨v, H1, I1, r, h2 v H1 q⟩
end Lc
set_option Elab.async false
set_option linter.all false
set_option maxRecDepth 100000
set_option maxHeartbeats 4000000
namespace Lc
open PySem PySem.Spec PyProof.Rows L2
/-! ## enumerate(v), v whatever begins; for .., .. in enumerate(tuple) -/
def itB (h : Heap) (o : Obj) : Heap := (h.push o).push { cls := .type "enumerate", data := .fields #[.none, .bool false, .ref h.objs.size, rawInt 0, .none, .none] }
theorem meets_enum1 {v : Value} {o : Obj} {H : Heap → Prop} (B : Begins v o H) :
    Meets (Builtin.«enumerate.__new__» ⟨[.type "enumerate", v], []⟩) (fun _ R s => H s.heap ∧ R (.ok (.ret (.ref (s.heap.push o).objs.size))) { s with heap := itB s.heap o }) :=
  .of_wp fun prog w A R s h => by
    obtain ⟨hp, g, d, tk, os⟩ := s
    obtain ⟨h1, h⟩ := h
    have hsub := sub_enumerate
    have it1 : ∀ {A' : Around} {E : Value → Shared → Prop} {Q : Value → Shared → Prop}, Q (.ref hp.objs.size) ⟨hp.push o, g, d, tk, os⟩ → wpAny (model prog w) A' (pyIter v) Q E ⟨hp, g, d, tk, os⟩ := fun q => B.iter prog w _ _ ⟨hp, g, d, tk, os⟩ _ h1 q
    wp_walk using it1
    refine wpAny_stack_any fun st => wpAny_pure ?_
    split
    · rename_i c _ _ _ _ _
      cases (c == Value.type "enumerate") <;> (wp_walk using it1; exact ⟨_, rfl, h⟩)
    · wp_walk using it1
      exact ⟨_, rfl, h⟩
theorem call_enum1 {prog : Program} {w : World} {A : Around} {E : Value → Shared → Prop} {s : Shared} {v : Value} {o : Obj} {H : Heap → Prop} {Q : Value → Shared → Prop} (B : Begins v o H) (h1 : H s.heap)
    (h : IsEnum (itB s.heap o) (s.heap.objs.size + 1) s.heap.objs.size 0 .none → (itB s.heap o).get? s.heap.objs.size = some o → (∀ b u, s.heap.get? b = some u → (itB s.heap o).get? b = some u) → Q (.ref (s.heap.objs.size + 1)) { s with heap := itB s.heap o }) :
    wpAny (model prog w) A (call (.type "enumerate") [v]) Q E s := by
  have sz : (s.heap.push o).objs.size = s.heap.objs.size + 1 := Heap.size_push ..
  have en : IsEnum (itB s.heap o) (s.heap.objs.size + 1) s.heap.objs.size 0 .none := by
    have z := Heap.get?_push_size (s.heap.push o) (o := { cls := .type "enumerate", data := .fields #[.none, .bool false, .ref s.heap.objs.size, rawInt 0, .none, .none] }) rfl
    rw [sz] at z
    exact z
  refine callType_new F.called_enumerate (by decide) (F.typeCall_enumerate_1 _) (F.newCall_enumerate_1 _) (fun obj => F.args_object_init_2 obj _) F.entry_enumerate_new (meets_enum1 B) ⟨h1, ?_⟩
  show _ ∧ _
  rw [sz]
  exact ⟨⟨_, en, rfl⟩, h en (Heap.get?_push_of_some _ (Heap.get?_push_size _ B.free)) fun b u e => Heap.get?_push_of_some _ (Heap.get?_push_of_some _ e)⟩
/-- the tuple at a, each item in a new pair with its number -/
def IteT (K : PySem.W.Frag) (a : Addr) : It where
  go := fun i H => ∃ (xs : List V) (x : V), SqT K H a xs ∧ xs[i]? = some x
  yld := fun i H v H' => ∃ (q : Addr) (x : V), v = .ref q ∧ H q = none ∧ H' = upd H q (.tup [.int (i : Nat), x]) ∧ ∀ xs, SqT K H a xs → xs[i]? = some x
  stop := fun i H => ∃ xs : List V, SqT K H a xs ∧ xs.length = i
structure EnT (e it a : Addr) (i : Nat) (h : Heap) : Prop where
  en : ∃ old, IsEnum h e it ((i : Nat) : Int) old
  ti : h.IsTupleIter it a i
  n1 : e ≠ it
  n2 : a ≠ it
  n3 : a ≠ e
theorem turn_enT {P : Program} {w : World} {K : PySem.W.Frag} {elts : List Expr} {kk : Nat} {tpos : Pos} (a e it : Addr) : Turn P w K (.Tuple elts kk tpos) (IteT K a) [e, it] e (EnT e it a) where
  mem := List.mem_cons_self
  obj := fun i h st b hb => by
    rcases List.mem_cons.mp hb with rfl | hb
    · obtain ⟨old, he⟩ := st.en
      exact ⟨_, he, fun v q => nomatch q⟩
    · obtain rfl := List.mem_singleton.mp hb
      obtain ⟨o, ho, _, hd⟩ := st.ti
      exact ⟨o, ho, fun v q => by rw [hd] at q; cases q⟩
  keep := fun i h h' st k => by
    obtain ⟨old, he⟩ := st.en
    obtain ⟨o, ho, r⟩ := st.ti
    exact ⟨⟨old, k e List.mem_cons_self _ he⟩, ⟨o, k it (by simp) o ho, r⟩, st.n1, st.n2, st.n3⟩
  item := by
    intro X hP hw hK hc i pins s σ H E I hf st hg
    subst hP hw hK
    obtain ⟨xs, x, hq, hx⟩ := hg
    obtain ⟨its, rv, tp, _⟩ := I.tuple hq
    obtain ⟨u, hu, ru⟩ := rv.get hx
    obtain ⟨old, he⟩ := st.en
    have hu' : its.toArray[i]? = some u := by simpa using hu
    have li : i < its.toArray.size := (Array.getElem?_eq_some_iff.mp hu').1
    refine wpAny_pyNext_enum_itemD (Draws.tuple (A := X.A.in1) (I.ok.hd hc) it a st.n2 its.toArray) he ⟨st.ti, tp⟩ li st.n1 (by simp [st.n1, Ne.symm st.n3]) fun y h' tk hy ho hs hT hz hk => ?_
    obtain rfl : u = y := Option.some.inj (hu'.symm.trans hy)
    have le : e < s.heap.objs.size := Heap.lt_size he
    have lt : it < s.heap.objs.size := by obtain ⟨_, q, _⟩ := st.ti; exact Heap.lt_size q
    refine ⟨_, rfl, wpAny_letOwnedTupleGo_enum (s := { s with heap := h', toks := tk + 1 }) ho fun h2 he2 sb => ?_⟩
    have pair : h2.get? s.heap.objs.size = some { cls := .type "tuple", data := .seq #[.int i tk, u] } := (sb.2 _ (Nat.ne_of_gt le)).trans hT
    have I2 : Inv X pins σ (upd H s.heap.objs.size (.tup [.int (i : Nat), x])) { s with heap := h2, toks := tk + 1 } := by
      refine I.turnedNew (ch := [e, it]) (fun b ob hb q => ?_) hf (Nat.le_refl _) ⟨by show 2 ≤ sizeLine; decide, [.int i tk, u], .cons ⟨_, rfl⟩ (.cons ru .nil), ⟨_, pair, rfl, _, rfl⟩⟩
      have nb : b ≠ e ∧ b ≠ it := by simpa using hb
      exact (sb.2 b nb.1).trans (hk b ob nb.1 nb.2 q)
    refine ⟨.ref s.heap.objs.size, _, I2, rfl, ⟨_, x, rfl, I.hok.fresh (Nat.le_refl _), rfl, fun ys hy => by rw [I.tuple_inj hy hq]; exact hx⟩, ⟨⟨u, ?_⟩, ?_, st.n1, st.n2, st.n3⟩, fun b hb => ?_⟩
    · rw [show ((i + 1 : Nat) : Int) = (i : Int) + 1 by omega]
      exact he2
    · obtain ⟨o, q, r⟩ := hs.1
      exact ⟨o, (sb.2 it (Ne.symm st.n1)).trans q, r⟩
    · have lb : b < s.heap.objs.size := by
        rcases List.mem_cons.mp hb with rfl | hb
        · exact le
        · rw [List.mem_singleton.mp hb]; exact lt
      rw [upd_ne (Nat.ne_of_lt lb)]
      exact (hf b hb).1
  done := by
    intro X hP hw hK hc i pins s σ H E I hf st hg
    subst hP hw hK
    obtain ⟨xs, hq, hx⟩ := hg
    obtain ⟨its, rv, tp, _⟩ := I.tuple hq
    obtain ⟨old, he⟩ := st.en
    have hl : i = its.toArray.size := by rw [List.size_toArray, ← rv.length]; exact hx.symm
    obtain ⟨f0, f1, _, f3, f4, f5⟩ := hf it (by simp)
    subst hl
    exact wpAny_pyNext_enum_endD (Draws.tuple (A := X.A.in1) (I.ok.hd hc) it a st.n2 its.toArray) he ⟨st.ti, tp⟩ fun h' eb => ⟨rfl, I.turned (t' := s.toks) (fun b o hb q => eb b o hb q) f0 f1 f3 f4 f5⟩
  self := fun A i s Q E st h => by
    obtain ⟨old, he⟩ := st.en
    exact wpAny_pyIter_enum he h
def iEnT (K : PySem.W.Frag) (ta : TA) : TI := fun σ H R => ta σ H fun vs H1 => ∃ a xs, vs = [.ref a] ∧ SqT K H1 a xs ∧ R (IteT K a) H1
theorem pi_enT {X : Cx} {e : Expr} {ta : TA} {p pos tpos : Pos} {elts : List Expr} {kk : Nat} (hg : Gl X "enumerate") (hm : X.mg "enumerate" = none) (ha : PA X [e] ta) (hs : starEach [e] X.env = [(false, eval e X.env)] := by rfl) :
    PI X (.Tuple elts kk tpos) (.Call (.Name "enumerate" p) [e] [] pos) (iEnT X.K ta) := by
  refine ⟨fun pins s σ H R I h => Call_ (ld_blt I hg hm boot_enumerate (PyProof.Rows.callWith_type1 (thn (ha.run pos pins s σ H _ I h) fun us s1 ⟨vs, H1, I1, r1, q1⟩ => ?_) hs rfl))⟩
  obtain ⟨a, xs, rfl, hq, q⟩ := q1
  obtain ⟨u, rfl, ru⟩ := vals1 r1
  cases ru
  obtain ⟨its, rv, tp, _⟩ := I1.tuple hq
  have la : a < s1.heap.objs.size := by obtain ⟨_, z, _⟩ := tp; exact Heap.lt_size z
  refine call_enum1 (begins_tuple a its.toArray) tp fun en ito kp => wpAny_pyIter_enum en ?_
  refine ⟨_, [s1.heap.objs.size + 1, s1.heap.objs.size], _, _, H1, rfl, I1.kept (t' := s1.toks) kp, turn_enT a (s1.heap.objs.size + 1) s1.heap.objs.size, ⟨⟨.none, en⟩, ⟨_, ito, rfl, rfl⟩, Nat.succ_ne_self _, Nat.ne_of_lt la, Nat.ne_of_lt (Nat.lt_succ_of_lt la)⟩, fun b hb => ?_, q⟩
  have le : s1.heap.objs.size ≤ b := by
    rcases List.mem_cons.mp hb with rfl | hb
    · exact Nat.le_add_right _ _
    · rw [List.mem_singleton.mp hb]; exact Nat.le_refl _
  exact I1.fpOk le (I1.hok.fresh le)
theorem walk_enT {K : PySem.W.Frag} {a : Addr} {xs : List V} : Walk (IteT K a) xs.length (fun H => SqT K H a xs) (YPair (fun i => some (.int (i : Nat))) (fun i => xs[i]?)) := by
  refine ⟨fun i _ hi q => ⟨xs, xs[i], q, by simp [hi]⟩, fun _ q => ⟨xs, q, rfl⟩, fun i H v H' _ q y => ?_⟩
  obtain ⟨c, x, h1, h2, h3, h4⟩ := y
  exact ⟨c, .int (i : Nat), x, h1, h2, h3, rfl, h4 xs q⟩
end Lc
set_option Elab.async false
set_option linter.all false
set_option maxRecDepth 100000
set_option maxHeartbeats 4000000
namespace Lc
open PySem PySem.Spec PyProof.Rows L2
/-! ## for .., .. in enumerate(text) -/
def IteS (x : Str) : It where
  go := fun i _ => i < x.cps.size
  yld := fun i H v H' => ∃ (q : Addr) (c : Nat), v = .ref q ∧ H q = none ∧ H' = upd H q (.tup [.int (i : Nat), .str ⟨#[c]⟩]) ∧ x.cps[i]? = some c
  stop := fun i _ => x.cps.size = i
structure EnS (e it : Addr) (x : Str) (t : Tok) (i : Nat) (h : Heap) : Prop where
  en : ∃ old, IsEnum h e it ((i : Nat) : Int) old
  ti : h.IsStrIter it (strIterType x) x t i
  n1 : e ≠ it
theorem turn_enS {P : Program} {w : World} {K : PySem.W.Frag} {elts : List Expr} {kk : Nat} {tpos : Pos} (x : Str) (t : Tok) (e it : Addr) : Turn P w K (.Tuple elts kk tpos) (IteS x) [e, it] e (EnS e it x t) where
  mem := List.mem_cons_self
  obj := fun i h st b hb => by
    rcases List.mem_cons.mp hb with rfl | hb
    · obtain ⟨old, he⟩ := st.en
      exact ⟨_, he, fun v q => nomatch q⟩
    · obtain rfl := List.mem_singleton.mp hb
      obtain ⟨o, ho, _, hd⟩ := st.ti
      exact ⟨o, ho, fun v q => by rw [hd] at q; cases q⟩
  keep := fun i h h' st k => by
    obtain ⟨old, he⟩ := st.en
    obtain ⟨o, ho, r⟩ := st.ti
    exact ⟨⟨old, k e List.mem_cons_self _ he⟩, ⟨o, k it (by simp) o ho, r⟩, st.n1⟩
  item := by
    intro X hP hw hK hc i pins s σ H E I hf st hg
    subst hP hw hK
    obtain ⟨old, he⟩ := st.en
    refine wpAny_pyNext_enum_itemD (Draws.text (A := X.A.in1) (I.ok.hd hc) it x t) he st.ti hg st.n1 (by simp [st.n1]) fun y h' tk hy ho hs hT hz hk => ?_
    obtain ⟨c, u, hcx, rfl⟩ := hy
    have le : e < s.heap.objs.size := Heap.lt_size he
    have lt : it < s.heap.objs.size := by obtain ⟨_, q, _⟩ := st.ti; exact Heap.lt_size q
    refine ⟨_, rfl, wpAny_letOwnedTupleGo_enum (s := { s with heap := h', toks := tk + 1 }) ho fun h2 he2 sb => ?_⟩
    have pair : h2.get? s.heap.objs.size = some { cls := .type "tuple", data := .seq #[.int i tk, .str ⟨#[c]⟩ u] } := (sb.2 _ (Nat.ne_of_gt le)).trans hT
    have I2 : Inv X pins σ (upd H s.heap.objs.size (.tup [.int (i : Nat), .str ⟨#[c]⟩])) { s with heap := h2, toks := tk + 1 } := by
      refine I.turnedNew (ch := [e, it]) (fun b ob hb q => ?_) hf (Nat.le_refl _) ⟨by show 2 ≤ sizeLine; decide, [.int i tk, .str ⟨#[c]⟩ u], .cons ⟨_, rfl⟩ (.cons ⟨_, rfl⟩ .nil), ⟨_, pair, rfl, _, rfl⟩⟩
      have nb : b ≠ e ∧ b ≠ it := by simpa using hb
      exact (sb.2 b nb.1).trans (hk b ob nb.1 (by simpa using nb.2) q)
    refine ⟨.ref s.heap.objs.size, _, I2, rfl, ⟨_, c, rfl, I.hok.fresh (Nat.le_refl _), rfl, hcx⟩, ⟨⟨.str ⟨#[c]⟩ u, ?_⟩, ?_, st.n1⟩, fun b hb => ?_⟩
    · rw [show ((i + 1 : Nat) : Int) = (i : Int) + 1 by omega]
      exact he2
    · obtain ⟨o, q, r⟩ := hs
      exact ⟨o, (sb.2 it (Ne.symm st.n1)).trans q, r⟩
    · have lb : b < s.heap.objs.size := by
        rcases List.mem_cons.mp hb with rfl | hb
        · exact le
        · rw [List.mem_singleton.mp hb]; exact lt
      rw [upd_ne (Nat.ne_of_lt lb)]
      exact (hf b hb).1
  done := by
    intro X hP hw hK hc i pins s σ H E I hf st hg
    subst hP hw hK
    obtain ⟨old, he⟩ := st.en
    obtain ⟨f0, f1, _, f3, f4, f5⟩ := hf it (by simp)
    have hg : x.cps.size = i := hg
    subst hg
    exact wpAny_pyNext_enum_endD (Draws.text (A := X.A.in1) (I.ok.hd hc) it x t) he st.ti fun h' eb => ⟨rfl, I.turned (t' := s.toks) (fun b o hb q => eb b o hb q) f0 f1 f3 f4 f5⟩
  self := fun A i s Q E st h => by
    obtain ⟨old, he⟩ := st.en
    exact wpAny_pyIter_enum he h
def iEnS (ta : TA) : TI := fun σ H R => ta σ H fun vs H1 => ∃ x, vs = [.str x] ∧ R (IteS x) H1
theorem pi_enS {X : Cx} {e : Expr} {ta : TA} {p pos tpos : Pos} {elts : List Expr} {kk : Nat} (hg : Gl X "enumerate") (hm : X.mg "enumerate" = none) (ha : PA X [e] ta) (hs : starEach [e] X.env = [(false, eval e X.env)] := by rfl) :
    PI X (.Tuple elts kk tpos) (.Call (.Name "enumerate" p) [e] [] pos) (iEnS ta) := by
  refine ⟨fun pins s σ H R I h => Call_ (ld_blt I hg hm boot_enumerate (PyProof.Rows.callWith_type1 (thn (ha.run pos pins s σ H _ I h) fun us s1 ⟨vs, H1, I1, r1, q1⟩ => ?_) hs rfl))⟩
  obtain ⟨x, rfl, q⟩ := q1
  obtain ⟨u, rfl, ru⟩ := vals1 r1
  obtain ⟨t, rfl⟩ := (show ∃ t, u = Value.str x t from ru)
  refine call_enum1 (begins_text x t) trivial fun en ito kp => wpAny_pyIter_enum en ?_
  refine ⟨_, [s1.heap.objs.size + 1, s1.heap.objs.size], _, _, H1, rfl, I1.kept (t' := s1.toks) kp, turn_enS x t (s1.heap.objs.size + 1) s1.heap.objs.size, ⟨⟨.none, en⟩, ⟨_, ito, rfl, rfl⟩, Nat.succ_ne_self _⟩, fun b hb => ?_, q⟩
  have le : s1.heap.objs.size ≤ b := by
    rcases List.mem_cons.mp hb with rfl | hb
    · exact Nat.le_add_right _ _
    · rw [List.mem_singleton.mp hb]; exact Nat.le_refl _
  exact I1.fpOk le (I1.hok.fresh le)
theorem walk_enS {x : Str} : Walk (IteS x) x.cps.size (fun _ => True) (YPair (fun i => some (.int (i : Nat))) (fun i => (x.cps[i]?).map fun c => V.str ⟨#[c]⟩)) := by
  refine ⟨fun i _ hi _ => hi, fun _ _ => rfl, fun i H v H' _ _ y => ?_⟩
  obtain ⟨q, c, h1, h2, h3, h4⟩ := y
  exact ⟨q, .int (i : Nat), .str ⟨#[c]⟩, h1, h2, h3, rfl, by show Option.map _ _ = _; rw [h4]; rfl⟩
end Lc
set_option Elab.async false
set_option linter.all false
set_option maxRecDepth 100000
set_option maxHeartbeats 4000000
namespace Lc
open PySem PySem.Spec PyProof.Rows L2
/-! ## Deep data that stands in the abstract heap -/
mutual
inductive Dh (H : Hp) : V → PyData → Prop
  | non : Dh H .non .none
  | bl (b : Bool) : Dh H (.bl b) (.bool b)
  | int (i : Int) : Dh H (.int i) (.int i)
  | str (x : Str) : Dh H (.str x) (.str x)
  | tup {a : Addr} {xs : List V} {ds : List PyData} (e : H a = some (.tup xs)) (h : DhAll H xs ds) : Dh H (.ref a) (.tuple ds)
  | lst {a : Addr} {xs : List V} {ds : List PyData} (e : H a = some (.lst xs)) (h : DhAll H xs ds) : Dh H (.ref a) (.list ds)
  | dct {a : Addr} (e : H a = some (.dK [])) : Dh H (.ref a) (.dict [])
inductive DhAll (H : Hp) : List V → List PyData → Prop
  | nil : DhAll H [] []
  | cons {v : V} {vs : List V} {d : PyData} {ds : List PyData} (h : Dh H v d) (r : DhAll H vs ds) : DhAll H (v :: vs) (d :: ds)
end
mutual
theorem Dh.same {H H' : Hp} (s : Same H H') : ∀ {v : V} {d : PyData}, Dh H v d → Dh H' v d
  | _, _, .non => .non
  | _, _, .bl b => .bl b
  | _, _, .int i => .int i
  | _, _, .str x => .str x
  | _, _, .tup e h => .tup (s _ _ e) (DhAll.same s h)
  | _, _, .lst e h => .lst (s _ _ e) (DhAll.same s h)
  | _, _, .dct e => .dct (s _ _ e)
theorem DhAll.same {H H' : Hp} (s : Same H H') : ∀ {vs : List V} {ds : List PyData}, DhAll H vs ds → DhAll H' vs ds
  | _, _, .nil => .nil
  | _, _, .cons h r => .cons (Dh.same s h) (DhAll.same s r)
end
def tyD : PyData → String
  | .none => "NoneType"
  | .bool _ => "bool"
  | .int _ => "int"
  | .str _ => "str"
  | .tuple _ => "tuple"
  | .list _ => "list"
  | .dict _ => "dict"
theorem Dh.ty {H : Hp} {v : V} {d : PyData} (h : Dh H v d) : TyN H v (tyD d) := by
  cases h with
  | non => exact .non
  | bl b => exact .bl b
  | int i => exact .int i
  | str x => exact .str x
  | tup e _ => exact .tup e
  | lst e _ => exact .lst e
  | dct e => exact .dct e
theorem DhAll.len {H : Hp} {vs : List V} {ds : List PyData} (h : DhAll H vs ds) : vs.length = ds.length := by
  match h with
  | .nil => rfl
  | .cons _ r => rw [List.length_cons, List.length_cons, DhAll.len r]
theorem DhAll.get {H : Hp} : ∀ {vs : List V} {ds : List PyData}, DhAll H vs ds → ∀ (i : Nat) (v : V), vs[i]? = some v → ∃ d, ds[i]? = some d ∧ Dh H v d
  | _, _, .nil, i, v, e => by simp at e
  | _, _, .cons h r, 0, v, e => by
    obtain rfl := Option.some.inj e
    exact ⟨_, rfl, h⟩
  | _, _, .cons h r, i + 1, v, e => by
    obtain ⟨d, e1, e2⟩ := DhAll.get r i v (by simpa using e)
    exact ⟨d, by simpa using e1, e2⟩
theorem DhAll.append {H : Hp} : ∀ {vs : List V} {ds : List PyData} {us : List V} {es : List PyData}, DhAll H vs ds → DhAll H us es → DhAll H (vs ++ us) (ds ++ es)
  | _, _, _, _, .nil, r => r
  | _, _, _, _, .cons h t, r => .cons h (DhAll.append t r)
mutual
theorem Dh.dp {K : PySem.W.Frag} {H : Hp} : ∀ {v : V} {d : PyData}, Dh H v d → d.hasDict = false → Dp K H v d
  | _, _, .non, _ => .non
  | _, _, .bl b, _ => .bl b
  | _, _, .int i, _ => .int i
  | _, _, .str x, _ => .str x
  | _, _, .tup e h, n => .tup (SqT.of e) (DhAll.dp h (by simpa [PyData.hasDict] using n))
  | _, _, .lst e h, n => .lst (SqL.of e) (DhAll.dp h (by simpa [PyData.hasDict] using n))
  | _, _, .dct e, n => by simp [PyData.hasDict] at n
theorem DhAll.dp {K : PySem.W.Frag} {H : Hp} : ∀ {vs : List V} {ds : List PyData}, DhAll H vs ds → PyData.hasDictAll ds = false → DpAll K H vs ds
  | _, _, .nil, _ => .nil
  | _, _, .cons h r, n => by
    rw [PyData.hasDictAll, Bool.or_eq_false_iff] at n
    exact .cons (Dh.dp h n.1) (DhAll.dp r n.2)
end
theorem Dh.shw {K : PySem.W.Frag} {H : Hp} {v : V} {d : PyData} (h : Dh H v d) (h1 : d.showable = true) (h2 : d.hasDict = false) (h3 : d.depth ≤ 60) (h4 : d.shown.length ≤ sizeLine) : Shw K H v d.shown := .data (h.dp h2) h1 h2 h3 h4
/-! ## How large it is when it is shown -/
structure Tm (k n : Nat) (d : PyData) : Prop where
  sh : d.showable = true
  nd : d.hasDict = false
  dz : d.depth ≤ k
  ln : d.shown.length ≤ n
theorem Tm.mono {k n k' n' : Nat} {d : PyData} (h : Tm k n d) (a : k ≤ k') (b : n ≤ n') : Tm k' n' d := ⟨h.sh, h.nd, Nat.le_trans h.dz a, Nat.le_trans h.ln b⟩
theorem tm_fl {v : V} {d : PyData} {s : String} (h : Fl v d s) : Tm 0 20000 d := ⟨h.sh, h.nd, Nat.le_of_eq h.dz, h.ln⟩
theorem tm_all {k n : Nat} : ∀ {ds : List PyData}, (∀ d ∈ ds, Tm k n d) → PyData.showableAll ds = true ∧ PyData.hasDictAll ds = false ∧ PyData.depthAll ds ≤ k ∧ ((PyData.shownAll ds).map (·.length)).sum ≤ n * ds.length ∧ (PyData.shownAll ds).length = ds.length
  | [], _ => ⟨rfl, rfl, Nat.zero_le _, by simp [PyData.shownAll], rfl⟩
  | d :: ds, h => by
    obtain ⟨h1, h2, h3, h4, h5⟩ := tm_all (ds := ds) fun x hx => h x (List.mem_cons_of_mem _ hx)
    have hd := h d List.mem_cons_self
    refine ⟨?_, ?_, ?_, ?_, ?_⟩
    · simp [PyData.showableAll, hd.sh, h1]
    · simp [PyData.hasDictAll, hd.nd, h2]
    · simp only [PyData.depthAll]
      have := hd.dz
      omega
    · simp only [PyData.shownAll, List.map_cons, List.sum_cons, List.length_cons]
      have := hd.ln
      rw [Nat.mul_succ]
      omega
    · simp [PyData.shownAll, h5]
theorem tm_tup {k n : Nat} {ds : List PyData} (h : ∀ d ∈ ds, Tm k n d) : Tm (k + 1) (n * ds.length + 2 * ds.length + 4) (.tuple ds) := by
  obtain ⟨h1, h2, h3, h4, h5⟩ := tm_all h
  refine ⟨by simpa [PyData.showable] using h1, by simpa [PyData.hasDict] using h2, ?_, ?_⟩
  · simp only [PyData.depth]
    omega
  · have := tupleText_len_le (PyData.shownAll ds)
    simp only [PyData.shown]
    omega
theorem tm_lst {k n : Nat} {ds : List PyData} (h : ∀ d ∈ ds, Tm k n d) : Tm (k + 1) (n * ds.length + 2 * ds.length + 4) (.list ds) := by
  obtain ⟨h1, h2, h3, h4, h5⟩ := tm_all h
  refine ⟨by simpa [PyData.showable] using h1, by simpa [PyData.hasDict] using h2, ?_, ?_⟩
  · simp only [PyData.depth]
    omega
  · have := listText_len_le (PyData.shownAll ds)
    simp only [PyData.shown]
    omega
theorem Dh.shwT {K : PySem.W.Frag} {H : Hp} {v : V} {d : PyData} {k n : Nat} (h : Dh H v d) (t : Tm k n d) (a : k ≤ 60) (b : n ≤ 3000000) : Shw K H v d.shown := h.shw t.sh t.nd (Nat.le_trans t.dz a) (Nat.le_trans t.ln (Nat.le_trans b (by decide)))
end Lc
set_option Elab.async false
set_option linter.all false
set_option maxRecDepth 100000
set_option maxHeartbeats 4000000
namespace Lc
open PySem PySem.Spec PyProof.Rows L2
/-! ## (x, y) * 0, (x, y) * 1 -/
theorem tuple_mul1 (l : Addr) (items : Array Value) (n : Nat) (dd : Option Addr) (sl : Array (Option Value)) (u : Tok) :
    Meets (Builtin.«tuple.__mul__» ⟨[.ref l, .int 1 u], []⟩) (fun _ R s => s.heap.get? l = some { cls := .type "tuple", dict := dd, data := .seq items n, slots := sl } ∧ R (.ok (.ret (Value.ref l))) s) :=
  .of_wp fun prog w A R s h => by
    obtain ⟨hp, g, d, tk, os⟩ := s
    obtain ⟨hl, h⟩ := h
    have f1 := AutoSeq1.idx_int
    have c0 : (decide ((1 : Int) < -(2 ^ 63)) || decide ((1 : Int) ≥ 2 ^ 63)) = false := by decide
    have c1 : (items.isEmpty || (1 : Int) == 1) = true := by simp
    wp_walk using wpAny_loadPart' hl
    repeat (first
      | (refine wpAny_ite_false (decide_eq_false (by rw [c0]; exact Bool.false_ne_true)) ?_; wp_walk using wpAny_loadPart' hl)
      | (refine wpAny_ite_true (decide_eq_true c1) ?_; wp_walk using wpAny_loadPart' hl))
    exact ⟨_, rfl, h⟩
theorem tuple_mul0 (l : Addr) (items : Array Value) (n : Nat) (dd : Option Addr) (sl : Array (Option Value)) (u : Tok) (hne : items.isEmpty = false) :
    Meets (Builtin.«tuple.__mul__» ⟨[.ref l, .int 0 u], []⟩) (fun _ R s => s.heap.get? l = some { cls := .type "tuple", dict := dd, data := .seq items n, slots := sl } ∧
      R (.ok (.ret (Value.ref s.heap.objs.size))) { s with heap := s.heap.push { cls := Value.type "tuple", data := Data.seq #[] } }) :=
  .of_wp fun prog w A R s h => by
    obtain ⟨hp, g, d, tk, os⟩ := s
    obtain ⟨hl, h⟩ := h
    have f1 := AutoSeq1.idx_int
    have c0 : (decide ((0 : Int) < -(2 ^ 63)) || decide ((0 : Int) ≥ 2 ^ 63)) = false := by decide
    have c1 : (items.isEmpty || (0 : Int) == 1) = false := by rw [hne]; rfl
    have c2 : (decide ((0 : Int) ≤ 0) || items.isEmpty) = true := by simp
    wp_walk using wpAny_loadPart' hl
    repeat (first
      | (refine wpAny_ite_false (decide_eq_false (by rw [c0]; exact Bool.false_ne_true)) ?_; wp_walk using wpAny_loadPart' hl)
      | (refine wpAny_ite_false (decide_eq_false (by rw [c1]; exact Bool.false_ne_true)) ?_; wp_walk using wpAny_loadPart' hl)
      | (refine wpAny_ite_true (decide_eq_true c2) ?_; wp_walk using wpAny_loadPart' hl))
    exact ⟨_, rfl, h⟩
def rRep01 (K : PySem.W.Frag) : R2 := fun x y H Q => ∃ l k xs, x = .ref l ∧ y = .int k ∧ SqT K H l xs ∧ xs ≠ [] ∧ ((k = 1 ∧ Q (.ref l) H) ∨ (k = 0 ∧ ∀ p, H p = none → Q (.ref p) (upd H p (.tup []))))
section
variable {X : Cx}
theorem op_rep01 : OpR X (binaryOp .Mult) (rRep01 X.K) := by
  intro pins s σ H x y v u Q I rx ry h
  obtain ⟨l, k, xs, rfl, rfl, hT, hne, h⟩ := h
  cases rx
  obtain ⟨t, rfl⟩ := ry
  obtain ⟨its, r, ⟨⟨cls, dd, data, sl⟩, ho, hc, n, hd⟩, hs⟩ := I.tuple hT
  simp only at hc hd
  subst hc hd
  have hle : its.length = xs.length := r.length.symm
  have hn : its ≠ [] := fun e => hne (by
    rw [e] at hle
    exact List.eq_nil_of_length_eq_zero hle.symm)
  have hi : its.toArray.isEmpty = false := by
    cases its with
    | nil => exact absurd rfl hn
    | cons a b => rfl
  rcases h with ⟨rfl, q⟩ | ⟨rfl, q⟩
  · exact wpAny_binaryOp_repeat_ref (T := "tuple") (U := "int") (by decide) ⟨_, ho, rfl⟩ (fun s' => typeIs_int s' 1 t) noFill_tuple_mul F.fills_int_mul F.slot_int_rmul repeat_tuple F.slot_int_index.lookup
      (call_meets F.slot_int_rmul (typeIs_int s 1 t) F.entry_int_rmul (F.args_int_rmul_2 _ _) (int_rmul_tuple 1 t l its.toArray n dd sl)
        ⟨ho, rfl, ⟨_, ho, rfl⟩, call_meets F.slot_tuple_mul ⟨_, ho, rfl⟩ F.entry_tuple_mul (F.args_tuple_mul_2 _ _) (tuple_mul1 l its.toArray n dd sl t) ⟨ho, .ref l, H, I, rfl, q⟩⟩)
  · refine wpAny_binaryOp_repeat_ref (T := "tuple") (U := "int") (by decide) ⟨_, ho, rfl⟩ (fun s' => typeIs_int s' 0 t) noFill_tuple_mul F.fills_int_mul F.slot_int_rmul repeat_tuple F.slot_int_index.lookup
      (call_meets F.slot_int_rmul (typeIs_int s 0 t) F.entry_int_rmul (F.args_int_rmul_2 _ _) (int_rmul_tuple 0 t l its.toArray n dd sl)
        ⟨ho, rfl, ⟨_, ho, rfl⟩, call_meets F.slot_tuple_mul ⟨_, ho, rfl⟩ F.entry_tuple_mul (F.args_tuple_mul_2 _ _) (tuple_mul0 l its.toArray n dd sl t hi) ⟨ho, ?_⟩⟩)
    refine ⟨.ref s.heap.objs.size, _, I.laid (t' := s.toks) (o := .tup []) (fun b ob q => Heap.get?_push_of_some _ q) (Nat.le_refl _) ?_, rfl, q _ (I.hok.fresh (Nat.le_refl _))⟩
    exact ⟨Nat.zero_le _, [], .nil, IsTup.new _ _⟩
/-! ## What is never reached -/
theorem pss_dead {b : List Stmt} : PSs X b (fun _ _ _ => False) := ⟨fun _ _ _ _ _ _ h => h.elim⟩
theorem pg_dead {e : Expr} : PG X e (fun _ _ _ _ => False) := ⟨fun _ _ _ _ _ _ _ _ _ h => h.elim⟩
/-! ## C(e, ..) in a try -/
def tMakeS (C : Addr) (sp : Sp) (E : L2.St → XK) (t : TA) : TE := fun σ H Q => t σ H fun vs H1 => ∀ x dx, H1 x = none → H1 dx = none → dx ≠ x →
  sp (.ref x :: vs) (upd (upd H1 dx (.own x)) x (.ins C dx [])) (fun v H2 => v = .non ∧ Q (.ref x) H2) (E σ)
theorem pe_makeS {CX : CXT} {k : Nat} {C f : Addr} {fd : FuncData} {ps : List Str} {sp : Sp} {E : L2.St → XK} {x : Str} {p pos : Pos} {e : Expr} {es : List Expr} {t : TA}
    (M : Mk X.K C f) (F : FnOk X.prog X.w X.K X.mg X.base CX k f fd ps sp) (hr : Room (k + 1) X.A) (hg : Gl X x) (hm : X.mg x = some (.ref C)) (hb : Binds X.K fd ps []) (hx : ∀ σ, PassesAt CX X σ (E σ))
    (ha : PA X (e :: es) t) (hdb : (x == ("__debug__" : Str)) = false := by decide) (he : starEach (e :: es) X.env = (false, eval e X.env) :: starEach es X.env := by rfl) (hpl : (backTo pos (starEach es X.env)).any (·.1) = false := by rfl) :
    PE X (.Call (.Name x p) (e :: es) [] pos) (tMakeS C sp E t) := by
  refine ⟨fun pins s0 σ H0 Q I0 h0 => ?_⟩
  refine wpAny_Call_Name_kw (ld_glob I0 hg hm ?_ hdb)
  refine PySem.W.callWith_K (h₀ := X.base) I0.ok.mod.kin M.kp (thn (ha.run pos pins s0 σ H0 _ I0 h0) fun us s ⟨vs, H, I, r, h⟩ => ⟨I.kIn, ?_⟩) he hpl
  have hq := h (s.heap.objs.size + 1) s.heap.objs.size (I.hok.fresh (Nat.le_succ _)) (I.hok.fresh (Nat.le_refl _)) (Nat.ne_of_lt (Nat.lt_succ_self _))
  have I2 := Inv.made (C := C) I
  have r2 : Vals (V.ref (s.heap.objs.size + 1) :: vs) (Value.ref (s.heap.objs.size + 1) :: us) := .cons rfl r
  have hl : (Value.ref (s.heap.objs.size + 1) :: us).length = ps.length := by
    have e := r2.length
    rw [F.len _ _ _ _ hq] at e
    exact e.symm
  refine wpAny_call (make_map (f := f) I.kIn M.makes M.init (beq_iff_eq.mp M.fn) (codeAny_mono (F.run _ X.stack _ _ ⟨Value.ref (s.heap.objs.size + 1) :: us, []⟩ (Value.ref (s.heap.objs.size + 1) :: us) _ _ (E σ) (hr.make C us [])
    (I2.env0.make C us []) (by
      have z := hb _ (Value.ref (s.heap.objs.size + 1) :: us) I2.kIn (by rw [List.append_nil]; exact hl)
      rw [List.append_nil] at z
      exact z) r2 hq) fun r s' hq' => ?_))
  cases r with
  | error e => exact hx σ pins _ _ e s' I2 hq'
  | ok fl =>
    cases fl with
    | ret u =>
      obtain ⟨v, H', I3, rv, ev, q3⟩ := I2.after hq'
      subst ev
      exact ⟨rv, ⟨V.ref (s.heap.objs.size + 1), H', I3, rfl, q3⟩⟩
    | next => exact False.elim hq'
    | brk => exact False.elim hq'
    | cont => exact False.elim hq'
/-! ## len(o), o of an own class -/
structure LenC (K : PySem.W.Frag) (C f : Addr) : Prop where
  at_ : PySem.W.findIn K (.ref C) "__len__" = some (some (.ref f))
  fn : PySem.W.isFn K (.ref f) = true
def rLenI (C : Addr) (sp : Sp) : List V → Hp → VK → Prop := fun xs H Q => ∃ a dx fs, xs = [.ref a] ∧ H a = some (.ins C dx fs) ∧ sp [.ref a] H (fun v H' => ∃ n : Int, v = .int n ∧ 0 ≤ n ∧ n < 2 ^ 63 ∧ Q (.int n) H') E0
theorem call_lenI {k : Nat} {C f : Addr} {fd : FuncData} {ps : List Str} {sp : Sp} (c : LenC X.K C f) (F : FnOk X.prog X.w X.K X.mg X.base CX0 k f fd ps sp) (hr : Room (k + 1) X.A) (hb : Binds X.K fd ps []) : CallR X (.builtin "len") (rLenI C sp) := by
  intro pins s σ H xs us Q I rv h
  obtain ⟨a, dx, fs, rfl, ha, hsp⟩ := h
  obtain ⟨u, rfl, ru⟩ := vals1 rv
  cases ru
  obtain ⟨mA, J, _⟩ := ins_get I.hok ha
  obtain ⟨od, J, _⟩ := J.look
  refine Calls.call_function_entry kind_len plain_len entry_len (args_len1 _) ?_
  unfold Builtin.«len»
  refine wpAny_bind (m := oneArg "len" _) (wpAny_pure ?_)
  refine wpAny_bind (m := callSpecial? (.ref a) (Str.ofString "__len__")) (PySem.W.special_fn I.kIn J c.at_ (beq_iff_eq.mp c.fn) ?_)
  have e0 : Env0 X.prog X.w X.K X.mg X.base X.A.in1 X.stack s H := by
    have e := I.env0
    exact ⟨e.frames, e.mod, e.bs, e.bsz, e.funs, e.frf, e.hok, e.bare⟩
  have hl := F.len _ _ _ _ hsp
  have r2 : Vals [V.ref a] [Value.ref a] := .cons rfl .nil
  refine wpAny_call (codeAny_mono (F.run X.A.in1 X.stack s H ⟨[.ref a], []⟩ [.ref a] [.ref a] _ _ hr.in1 e0 (by
    have := hb s [.ref a] I.kIn (by simpa using hl)
    simpa using this) r2 hsp) fun r s' hq => ?_)
  cases r with
  | error e => exact hq.elim
  | ok fl =>
    cases fl with
    | ret u =>
      obtain ⟨v, H', I3, rv, n, rfl, h0, h1, q3⟩ := I.after hq
      obtain ⟨t, rfl⟩ := rv
      refine wpAny_bind (wpAny_holding (wpAny_pure ?_))
      refine wpAny_bind (wpAny_letGo ?_)
      show wpAny _ _ (if n < 0 then _ else _) _ _ _
      rw [if_neg (by omega)]
      show wpAny _ _ (if n ≥ 2 ^ 63 then _ else _) _ _ _
      rw [if_neg (by omega)]
      exact wpAny_bind (wpAny_mkInt (wpAny_pure ⟨_, rfl, .int n, H', I3.tok _, ⟨_, rfl⟩, q3⟩))
    | next => exact False.elim hq
    | brk => exact False.elim hq
    | cont => exact False.elim hq
end
end Lc
set_option Elab.async false
set_option linter.all false
set_option maxRecDepth 100000
set_option maxHeartbeats 4000000
namespace Lc
open PySem PySem.Spec PyProof.Rows L2
/-! ## Names that are drawn are names -/
theorem name_of {l : List Nat} {x : Str} (e : x.cps.toList = l) (ne : l ≠ []) (ln : l.length ≤ 12) (h1 : ∀ c r, l = c :: r → inL c = true) (h2 : ∀ c ∈ l, inS c = true) : nameB (.str x) = true := by
  show nameL x.cps.toList = true
  rw [e]
  cases l with
  | nil => exact absurd rfl ne
  | cons c r =>
    show (decide ((c :: r).length ≤ 12) && (inL c && (c :: r).all inS)) = true
    rw [decide_eq_true ln, h1 c r rfl, List.all_eq_true.mpr h2]
    rfl
theorem name_has {x : Str} (h : nameB (.str x) = true) : x.cps.toList ≠ [] ∧ x.cps.toList.length ≤ 12 ∧ (∀ c r, x.cps.toList = c :: r → inL c = true) ∧ ∀ c ∈ x.cps.toList, inS c = true := by
  have h : nameL x.cps.toList = true := h
  generalize x.cps.toList = l at h
  cases l with
  | nil => cases h
  | cons c r =>
    have h : (decide ((c :: r).length ≤ 12) && (inL c && (c :: r).all inS)) = true := h
    obtain ⟨a, h⟩ := Bool.and_eq_true_iff.mp h
    obtain ⟨b, h⟩ := Bool.and_eq_true_iff.mp h
    exact ⟨List.cons_ne_nil _ _, of_decide_eq_true a, fun c' r' e => by cases e; exact b, List.all_eq_true.mp h⟩
theorem app_list (x y : Str) : (x ++ y).cps.toList = x.cps.toList ++ y.cps.toList := by
  show (x.cps ++ y.cps).toList = _
  simp
theorem mul_list (i : Int) : (Txt.mul (PySem.Str.ofString "a") i).cps.toList = List.replicate i.toNat 97 := by
  have ea : (PySem.Str.ofString "a").cps.toList = [97] := by decide +kernel
  have el : ((PySem.Str.ofString "a").length == 0) = false := by decide +kernel
  unfold Txt.mul
  by_cases h1 : i < 1
  · rw [if_pos h1, show i.toNat = 0 by omega]
    rfl
  · rw [if_neg h1, el, Bool.or_false]
    by_cases h2 : (i == 1) = true
    · rw [if_pos h2, ea, show i.toNat = 1 by have := beq_iff_eq.mp h2; omega]
      rfl
    · rw [if_neg h2]
      show ((List.replicate i.toNat (PySem.Str.ofString "a").cps).foldl (· ++ ·) #[]).toList = _
      rw [foldl_app]
      simp only [List.map_replicate, ea]
      generalize i.toNat = n
      induction n with
      | zero => rfl
      | succ n ih =>
        rw [List.replicate_succ, List.replicate_succ]
        simpa using ih
theorem sgn_at {i : Int} (h0 : 0 ≤ i) (h1 : i < 36) : ∃ c, atI signs.cps.toList i = some c ∧ c ∈ signs.cps.toList ∧ inS c = true ∧ (i < 26 → inL c = true) := by
  obtain ⟨n, rfl⟩ : ∃ n : Nat, i = (n : Int) := ⟨i.toNat, by omega⟩
  have h : n < signs.cps.toList.length := by rw [signs_len]; omega
  have m := List.getElem_mem h
  refine ⟨signs.cps.toList[n], atI_nat (List.getElem?_eq_getElem h), m, decide_eq_true m, fun l => ?_⟩
  have all : ∀ k : Fin 26, (signs.cps.toList[k.1]?).all inL = true := by decide +kernel
  have z := all ⟨n, by omega⟩
  rw [List.getElem?_eq_getElem h] at z
  exact z
theorem in97 : inL 97 = true ∧ inS 97 = true := by decide +kernel
theorem name_one {k m : Int} {c : Nat} (h0 : 0 ≤ k) (hm : 0 ≤ m) (l : k + m ≤ 11) (hs : inS c = true) (hl : k = 0 → inL c = true) : nameB (.str (Txt.mul (PySem.Str.ofString "a") k ++ ⟨#[c]⟩ ++ Txt.mul (PySem.Str.ofString "a") m)) = true := by
  have e : (Txt.mul (PySem.Str.ofString "a") k ++ (⟨#[c]⟩ : Str) ++ Txt.mul (PySem.Str.ofString "a") m).cps.toList = List.replicate k.toNat 97 ++ [c] ++ List.replicate m.toNat 97 := by
    rw [app_list, app_list, mul_list, mul_list]
  refine name_of e (by simp) (by simp; omega) (fun c' r' q => ?_) (fun c' q => ?_)
  · by_cases z : k = 0
    · subst z
      have q : c :: List.replicate m.toNat 97 = c' :: r' := q
      cases q
      exact hl rfl
    · obtain ⟨n, hn⟩ : ∃ n, k.toNat = n + 1 := ⟨k.toNat - 1, by omega⟩
      rw [hn, List.replicate_succ] at q
      cases q
      exact in97.1
  · rcases List.mem_append.mp q with q | q
    · rcases List.mem_append.mp q with q | q
      · rw [List.eq_of_mem_replicate q]; exact in97.2
      · rw [List.mem_singleton.mp q]; exact hs
    · rw [List.eq_of_mem_replicate q]; exact in97.2
theorem glued_list : ∀ (cs : List Nat), (Str.join Str.empty (cs.map fun c => (⟨#[c]⟩ : Str))).cps.toList = cs
  | [] => rfl
  | [c] => rfl
  | c :: d :: r => by
    have ih := glued_list (d :: r)
    have e : Str.join Str.empty ((c :: d :: r).map fun c => (⟨#[c]⟩ : Str)) = (⟨#[c]⟩ : Str) ++ Str.empty ++ Str.join Str.empty ((d :: r).map fun c => (⟨#[c]⟩ : Str)) := rfl
    rw [e, app_list, app_list, ih]
    rfl
theorem name_join {cs : List Nat} (ne : cs ≠ []) (ln : cs.length ≤ 12) (h1 : ∀ c r, cs = c :: r → inL c = true) (h2 : ∀ c ∈ cs, inS c = true) : nameB (.str (Txt.join (PySem.Str.ofString "") (cs.map fun c => (⟨#[c]⟩ : Str)))) = true := by
  have e : Txt.join (PySem.Str.ofString "") (cs.map fun c => (⟨#[c]⟩ : Str)) = Str.join Str.empty (cs.map fun c => (⟨#[c]⟩ : Str)) := (StrLaws.glued_eq_join (PySem.Str.ofString "") _).trans rfl
  rw [e]
  exact name_of (glued_list cs) ne ln h1 h2
theorem cut_list (x : Str) : (cutS x none (some 11)).cps.toList = x.cps.toList.take 11 := by
  unfold cutS
  rw [lenL]
  simp [HT.sIx]
theorem name_cut {x : Str} {c : Nat} (h : nameB (.str x) = true) (hc : inS c = true) : nameB (.str (cutS x none (some 11) ++ ⟨#[c]⟩)) = true := by
  obtain ⟨a1, a2, a3, a4⟩ := name_has h
  have e : (cutS x none (some 11) ++ (⟨#[c]⟩ : Str)).cps.toList = x.cps.toList.take 11 ++ [c] := by rw [app_list, cut_list]
  refine name_of e (by simp) (by simp; omega) (fun c' r' q => ?_) (fun c' q => ?_)
  · cases z : x.cps.toList with
    | nil => exact absurd z a1
    | cons d r =>
      rw [z] at q
      have q : d :: (r.take 10 ++ [c]) = c' :: r' := q
      injection q with q1 _
      rw [← q1]
      exact a3 d r z
  · rcases List.mem_append.mp q with q | q
    · exact a4 c' (List.mem_of_mem_take q)
    · rw [List.mem_singleton.mp q]; exact hc
/-! ## Some letter is free -/
theorem pigeon {α : Type} [DecidableEq α] : ∀ {l m : List α}, l.Nodup → (∀ x ∈ l, x ∈ m) → l.length ≤ m.length
  | [], _, _, _ => Nat.zero_le _
  | x :: l, m, n, h => by
    obtain ⟨n1, n2⟩ := List.nodup_cons.mp n
    have hx := h x List.mem_cons_self
    have := pigeon (l := l) (m := m.erase x) n2 fun y hy => (List.mem_erase_of_ne (fun e => n1 (by rw [← e]; exact hy))).mpr (h y (List.mem_cons_of_mem _ hy))
    rw [List.length_erase_of_mem hx] at this
    have := List.length_pos_of_mem hx
    rw [List.length_cons]
    omega
theorem in_strs {z : Str} {ss : List Str} : inV (.str z) (ss.map V.str) = decide (z ∈ ss) := by
  rw [Bool.eq_iff_iff, decide_eq_true_iff]
  unfold inV
  rw [List.any_eq_true]
  constructor
  · rintro ⟨y, hy, e⟩
    obtain ⟨s, hs, rfl⟩ := List.mem_map.mp hy
    have : s = z := by simpa [eqV] using e
    rw [← this]; exact hs
  · intro h
    exact ⟨.str z, List.mem_map.mpr ⟨z, h, rfl⟩, by simp [eqV]⟩
theorem free_letter {x : Str} {ss : List Str} (l : ss.length < 36) (h : ∀ c ∈ signs.cps.toList, cutS x none (some 11) ++ (⟨#[c]⟩ : Str) ∈ ss) : False := by
  have inj : ∀ c d : Nat, cutS x none (some 11) ++ (⟨#[c]⟩ : Str) = cutS x none (some 11) ++ (⟨#[d]⟩ : Str) → c = d := fun c d e => by
    have e := congrArg (fun s : Str => s.cps.toList) e
    simp only [app_list] at e
    have := List.append_cancel_left e
    simpa using this
  have nd : signs.cps.toList.Nodup := by decide +kernel
  have := pigeon (l := signs.cps.toList.map fun c => cutS x none (some 11) ++ (⟨#[c]⟩ : Str)) (m := ss) (List.Pairwise.map _ (fun a b n e => n (inj a b e)) nd) fun y hy => by
    obtain ⟨c, hc, rfl⟩ := List.mem_map.mp hy
    exact h c hc
  rw [List.length_map, signs_len] at this
  omega
end Lc
set_option Elab.async false
set_option linter.all false
set_option maxRecDepth 100000
set_option maxHeartbeats 4000000
namespace Lc
open PySem PySem.Spec PyProof.Rows L2
/-! ## o.m(e, .., k = v, ..) -/
def tMethK (C : Addr) (m : Str) (n l : Nat) (sp : Sp) (gV : List V → List V → List V) (E : XK) (ta : TE) (t tk : TA) : TE := fun σ H Q => ta σ H fun x H1 => ∃ a dx fs, x = .ref a ∧ H1 a = some (.ins C dx fs) ∧ fs.lookup m = none ∧
  t σ H1 fun vs H2 => tk σ H2 fun zs H3 => vs.length = n ∧ zs.length = l ∧ sp (gV (x :: vs) zs) H3 Q E
section
variable {X : Cx} {CX : CXT} {k n : Nat} {f C : Addr} {fd : FuncData} {ps ks : List Str} {sp : Sp} {E : XK} {m : Str} {pos apos : Pos} {e o : Expr} {es : List Expr} {kws : List Keyword} {ta : TE} {t tk : TA} {g : List Value → List Value → List Value} {gV : List V → List V → List V}
theorem pe_methK {pl : Sem Bool} (he : PE X o ta) (c : Cls X.K C) (hm : Meth X.K C m f) (F : FnOk X.prog X.w X.K X.mg X.base CX k f fd ps sp) (hr : Room k X.A) (hb : KBn X.K fd ps (n + 1) ks g gV) (hx : Passes CX X E) (ha : PA X (e :: es) t) (hkw : PK X kws tk)
    (hall : (backToKw pos (keywordEach kws X.env)).all (·.1.isSome) = true := by rfl) (hks : (backToKw pos (keywordEach kws X.env)).filterMap (·.1) = ks := by rfl) (hst : starEach (e :: es) X.env = (false, eval e X.env) :: starEach es X.env := by rfl)
    (hpl : ((backTo pos (starEach (e :: es) X.env)).any (·.1) || (backToKw pos (keywordEach kws X.env)).any (·.1.isNone)) = false := by rfl)
    (ht : eval (.Call (.Attribute o m apos) (e :: es) kws pos) X.env = (do
      let ov ← eval o X.env
      standAt apos.atName
      let (f, first) ← holding [ov] (getMethod ov m pl)
      callWith pos f first (backTo pos (starEach (e :: es) X.env)) (backToKw pos (keywordEach kws X.env))) := by rfl) :
    PE X (.Call (.Attribute o m apos) (e :: es) kws pos) (tMethK C m n ks.length sp gV E ta t tk) := by
  refine ⟨fun pins s σ H Q I h => ?_⟩
  refine PySem.W.methodCall_KW (pl := pl) (thn (he.run pins s σ H _ I h) fun u s1 ⟨x, H1, I1, rx, a, dx, fs, ex, ea, l, q⟩ => ?_) ht
  subst ex
  obtain rfl : u = Value.ref a := rx
  refine getmeth_ok I1 ea c hm l ?_
  refine PySem.W.callWith_KW (first := [.ref a]) (h₀ := X.base) I.ok.mod.kin hm.kp hall (thn (ha.run pos pins s1 σ H1 _ I1 q) fun us s2 ⟨vs, H2, I2, r, q2⟩ => ?_) hpl hst
  refine thn (hkw.run pos pins s2 σ H2 _ I2 q2) fun ws s3 ⟨zs, H3, I3, rz, l1, l2, q3⟩ => ⟨I3.kIn, ?_⟩
  rw [hks]
  exact run_fnN (us := .ref a :: us) (vs := .ref a :: vs) F hr hb hx I3 (.cons rfl r) rz (by rw [List.length_cons, l1]) l2 q3
end
theorem kbN {K : PySem.W.Frag} {x qual : Str} {params : Arguments} {body : List Stmt} {scope : Scope} {kws : List (Str × V)} {f : Addr} {fd : FuncData} {ps ks : List Str} {n : Nat} (F : FunD K x qual params body scope [] kws f fd)
    (h : ∀ (kV doc pm : Value) (an : Option Addr) (cdv ct : Value) (us ws : List Value), us.length = n → ws.length = ks.length → bindArgs (PySem.W.fnOf x qual params body scope .none kV doc pm an cdv ct) ⟨us, ks.zip ws⟩ = pure (ps.zip (us ++ ws))) : KBn K fd ps n ks (fun us ws => us ++ ws) (fun vs zs => vs ++ zs) := by
  obtain ⟨oc, od, dV, kV, doc, pm, an, cdv, ct, osl, rfl, lk, hcd, hD, hK⟩ := F.ex
  rcases hD with ⟨_, rfl⟩ | ⟨e, _⟩
  · exact ⟨fun s us ws X l1 l2 => .of_eq (h kV doc pm an cdv ct us ws l1 l2), fun r1 r2 => r1.append r2⟩
  · exact absurd rfl e
/-! ## Data without lists: it stands as long as the tuples stand -/
def SameT (H H' : Hp) : Prop := ∀ b xs, H b = some (.tup xs) → H' b = some (.tup xs)
theorem SameT.refl (H : Hp) : SameT H H := fun _ _ e => e
theorem SameT.trans {H H1 H2 : Hp} (a : SameT H H1) (b : SameT H1 H2) : SameT H H2 := fun c xs e => b c xs (a c xs e)
theorem SameT.of {H H' : Hp} (s : Same H H') : SameT H H' := fun b xs e => s _ _ e
theorem SameT.b {t : Addr} {H H' : Hp} (T : Tape H t) (s : SameB t H H') : SameT H H' := fun b xs e => s _ _ (T.neT e) e
theorem SameT.at {a : Addr} {H H' : Hp} {o : HO} (h : H a = some o) (n : ∀ xs, o ≠ .tup xs) (s : SameB a H H') : SameT H H' := fun b xs e => s _ _ (fun z => by rw [z, h] at e; exact n xs (Option.some.inj e)) e
theorem SameT.lst {H : Hp} {a : Addr} {ys : List V} {o : HO} (h : H a = some (.lst ys)) : SameT H (upd H a o) := fun b xs e => by rw [upd_ne (ne_of e h nofun)]; exact e
mutual
def noL : PyData → Bool
  | .list _ => false
  | .dict _ => false
  | .tuple ds => noLs ds
  | _ => true
def noLs : List PyData → Bool
  | [] => true
  | d :: ds => noL d && noLs ds
end
mutual
theorem Dh.t {H H' : Hp} (s : SameT H H') : ∀ {v : V} {d : PyData}, Dh H v d → noL d = true → Dh H' v d
  | _, _, .non, _ => .non
  | _, _, .bl b, _ => .bl b
  | _, _, .int i, _ => .int i
  | _, _, .str x, _ => .str x
  | _, _, .tup e h, n => .tup (s _ _ e) (DhAll.t s h (by simpa [noL] using n))
  | _, _, .lst e h, n => by simp [noL] at n
  | _, _, .dct e, n => by simp [noL] at n
theorem DhAll.t {H H' : Hp} (s : SameT H H') : ∀ {vs : List V} {ds : List PyData}, DhAll H vs ds → noLs ds = true → DhAll H' vs ds
  | _, _, .nil, _ => .nil
  | _, _, .cons h r, n => by
    rw [noLs, Bool.and_eq_true_iff] at n
    exact .cons (Dh.t s h n.1) (DhAll.t s r n.2)
end
theorem noLs_app {a b : List PyData} : noLs (a ++ b) = (noLs a && noLs b) := by
  induction a with
  | nil => rfl
  | cons x a ih => rw [List.cons_append, noLs, noLs, ih, Bool.and_assoc]
theorem noLs_all {a : List PyData} : noLs a = true ↔ ∀ d ∈ a, noL d = true := by
  induction a with
  | nil => exact ⟨fun _ => nofun, fun _ => rfl⟩
  | cons x a ih =>
    rw [noLs, Bool.and_eq_true_iff, ih]
    constructor
    · rintro ⟨h1, h2⟩ d hd
      rcases List.mem_cons.mp hd with rfl | hd
      · exact h1
      · exact h2 d hd
    · exact fun h => ⟨h x List.mem_cons_self, fun d hd => h d (List.mem_cons_of_mem _ hd)⟩
end Lc
set_option Elab.async false
set_option linter.all false
set_option maxRecDepth 100000
set_option maxHeartbeats 4000000
namespace Lc
open PySem PySem.Spec PyProof.Rows L2
/-! ## a dict comprehension that is stored in a local name -/
section
variable {X : Cx}
theorem sw_dict {e1 e2 : Expr} {cs : List Comprehension} {sc : Scope} {p1 p2 : Pos} {nm : Str} {ln : Nat} {en : Env} (h1 : en.scope.kind = .function) (h2 : en.scope.names.lookup nm = some .local) (h3 : (p2.line == p1.line) = true)
    (h4 : (sc.names.any fun (a, b) => a == nm && (b == .local || b == .cell)) = false) : swapsWith (.DictComp e1 e2 cs sc p1) (some (.Name nm p2)) ln en = pure true := by
  have k1 : en.kindOf nm = some .local := h2
  have k2 : en.blockKind = .function := by
    unfold Env.blockKind
    rw [h1]
    rfl
  unfold swapsWith
  simp only [k2, k1, h4, Expr.pos, h3]
  rfl
theorem ps_setDc {i : Nat} {nm : Str} {p2 p1 p3 : Pos} {kx vx tg it : Expr} {ifs : List Expr} {sc : Scope} {own : List (Str × Nat)} {wi : TI} {g : TG} {tt : TT} {tk tv : TE} (calm : X.calm = true) (nd : X.N.Nodup) (at_ : X.N[i]? = some nm) (loc : X.env.scope.names.lookup nm = some .local)
    (sw : swapsWith (.DictComp kx vx [⟨tg, it, ifs, 0⟩] sc p1) (some (.Name nm p2)) p3.line X.env = pure true) (hi : PI X tg it wi) (ok : BlkOk X.N X.env.scope sc own)
    (hg : ∀ (s : Shared) (H : Hp) (C : Addr) (cl : List (Str × Addr)) (fp : List Addr), PG (X.blk s H sc (compEnvC sc cl C X.env) fp) tg g) (ht : ∀ (s : Shared) (H : Hp) (C : Addr) (cl : List (Str × Addr)) (fp : List Addr), PTs (X.blk s H sc (compEnvC sc cl C X.env) fp) ifs tt)
    (hk : ∀ (s : Shared) (H : Hp) (C : Addr) (cl : List (Str × Addr)) (fp : List Addr), PE (X.blk s H sc (compEnvC sc cl C X.env) fp) kx tk) (hv : ∀ (s : Shared) (H : Hp) (C : Addr) (cl : List (Str × Addr)) (fp : List Addr), PE (X.blk s H sc (compEnvC sc cl C X.env) fp) vx tv) (hs : ∀ x, foldedSetIterable it X.env x = pure x := by intro _; rfl) :
    PS X (.Assign [.Name nm p2] (.DictComp kx vx [⟨tg, it, ifs, 0⟩] sc p1) p3) (tAsg (tDc wi g tt tk tv (own.map (·.2))) (gName i)) := by
  refine ⟨fun pins st σ H D I q0 => ?_⟩
  rw [exec_Assign_Name_used _ _ _ _ sw]
  refine wpAny_bind (wpAny_standAt (wpAny_bind ?_))
  show wpAny _ X.A (do let _ ← comprehension (.DictComp kx vx [⟨tg, it, ifs, 0⟩] sc p1) sc X.env (firstIterPos [⟨tg, it, ifs, 0⟩] p1) newDict false (eval it X.env) (some (assign (.Name nm p2) X.env))) _ _ st
  have q1 : tDc wi g tt tk tv (own.map (·.2)) σ H (fun x H1 => gName i x σ H1 D.nx) := q0
  refine wpAny_bind (thn (dc_core (Qf := fun _ s' => SP X pins D .next s') calm nd I hi ok hg ht hk hv hs q1 fun L C s' mm H' I' qq hn fr => ?_) fun _ s' z => wpAny_pure (wpAny_pure z))
  show wpAny _ _ (assign (.Name nm p2) X.env (.ref L)) _ _ _
  refine wpAny_assign_Name (store_ok2 (v := V.ref L) I' nd at_ (.inl loc) rfl (fun s2 I2 ⟨a, sb, ha⟩ => ?_) (.inr loc))
  obtain ⟨g0, g1, _, g3, g4, g5⟩ := fr
  have ne : C ≠ a := by
    rcases ha with z | z
    · exact z ▸ g1
    · exact fun e => g4 nm a z e.symm
  refine ⟨mm, hn.sameBut sb ne, fun h3 sb3 => ?_⟩
  refine ⟨_, H', I2.turned (t' := s2.toks) (fun b o hb e => ?_) g0 g1 g3 g4 g5, qq⟩
  exact (sb3.2 b hb).trans e
end
/-- a dict comprehension over zip of two tuples of one length -/
theorem dc_zip {K : PySem.W.Frag} {a b : Addr} {xs ys : List V} {g : TG} {tt : TT} {tk tv : TE} {vs : List Nat} {σ : L2.St} {H1 : Hp} {D : Addr} {Qd : Hp → Prop} (hl : xs.length = ys.length) (Pv : Nat → Hp → Prop) (h0 : Pv 0 (upd H1 D (.dK []))) (hq : ∀ i H, Pv i H → SqT K H a xs ∧ SqT K H b ys)
    (hs : ∀ (i : Nat) (x y : V) (T : Addr) (H : Hp), xs[i]? = some x → ys[i]? = some y → Pv i H → H T = none → g (.ref T) (wipe σ vs) (upd H T (.tup [x, y])) fun σ2 H2 => wipe σ2 vs = wipe σ vs ∧ tt σ2 H2 fun c H3 =>
      if c = true then tk σ2 H3 fun k H4 => tv σ2 H4 fun z H5 => ∃ kvs kk, k = kV kk ∧ H5 D = some (.dK kvs) ∧ kvs.length < sizeLine ∧ Pv (i + 1) (upd H5 D (.dK (putK kvs kk z))) else Pv (i + 1) H3) (hd : ∀ H, Pv xs.length H → Qd H) :
    ∃ W : Nat → Nat → Hp → Prop, (∃ m, W 0 m (upd H1 D (.dK []))) ∧ ∀ i m H, W i m H →
      ((RZ.ItzT K a b).stop i H ∧ Qd H) ∨ ((RZ.ItzT K a b).go i H ∧ ∃ N : Hp → Prop, (∀ H', N H' → ∃ m', m' < m ∧ W (i + 1) m' H') ∧ ∀ v H', (RZ.ItzT K a b).yld i H v H' → g v (wipe σ vs) H' fun σ2 H2 => wipe σ2 vs = wipe σ vs ∧ tt σ2 H2 fun c H3 =>
        if c = true then tk σ2 H3 fun k H4 => tv σ2 H4 fun z H5 => ∃ kvs kk, k = kV kk ∧ H5 D = some (.dK kvs) ∧ kvs.length < sizeLine ∧ N (upd H5 D (.dK (putK kvs kk z))) else N H3) := by
  refine ⟨fun i m H => i + m = xs.length ∧ Pv i H, ⟨xs.length, Nat.zero_add _, h0⟩, ?_⟩
  rintro i m H ⟨em, pv⟩
  obtain ⟨q1, q2⟩ := hq i H pv
  cases m with
  | zero =>
    obtain rfl : i = xs.length := by omega
    exact .inl ⟨⟨xs, ys, q1, q2, .inl (Nat.le_refl _)⟩, hd H pv⟩
  | succ m =>
    have l1 : i < xs.length := by omega
    have l2 : i < ys.length := by omega
    refine .inr ⟨⟨xs, ys, _, _, q1, q2, List.getElem?_eq_getElem l1, List.getElem?_eq_getElem l2⟩, Pv (i + 1), fun H' p' => ⟨m, by omega, by omega, p'⟩, fun v H' yl => ?_⟩
    obtain ⟨T, x', y', rfl, hT, rfl, f1, f2⟩ := yl
    exact hs i x' y' T H (f1 xs q1) (f2 ys q2) pv hT
section
variable {X : Cx} {k : Nat} {f : Addr} {fd : FuncData} {ps : List Str} {sp : Sp} {x : Str} {p pos : Pos}
/-- f(), f kept under FnG -/
theorem pe_callG0 (F : FnG X.prog X.w X.K X.mg X.base k f fd ps sp) (gg : X.A.guards = some []) (hr : Room k X.A) (hg : Gl X x) (hm : X.mg x = some (.ref f)) (hk : PySem.W.keepIn X.K (.ref f) = true) (hb : Binds X.K fd ps []) (hdb : (x == ("__debug__" : Str)) = false := by decide) :
    PE X (.Call (.Name x p) [] [] pos) (tCall sp [] E0 tNil) := by
  refine ⟨fun pins s σ H Q I h => wpAny_Call_Name_kw (ld_glob I hg hm ?_ hdb)⟩
  refine PySem.W.callWith_K0 I.kIn hk ?_
  have q : sp [] H Q E0 := h
  have hl : ([] : List V).length = ps.length := F.len _ _ _ _ q
  have b := hb s [] I.kIn hl
  refine wpAny_call (codeAny_mono (F.run X.A X.stack s H ⟨[], []⟩ [] [] Q E0 gg hr I.env0 b .nil q) fun rr s' hq => ?_)
  cases rr with
  | error er => exact hq.elim
  | ok fl =>
    cases fl with
    | ret u => exact I.after hq
    | next => exact hq.elim
    | brk => exact hq.elim
    | cont => exact hq.elim
end
/-- a list comprehension over zip of two tuples of one length -/
theorem lc_zip {K : PySem.W.Frag} {a b : Addr} {xs ys : List V} {g : TG} {tt : TT} {te : TE} {vs : List Nat} {σ : L2.St} {H1 : Hp} {D : Addr} {Qd : Hp → Prop} (hl : xs.length = ys.length) (Pv : Nat → Hp → Prop) (h0 : Pv 0 (upd H1 D (.lst []))) (hq : ∀ i H, Pv i H → SqT K H a xs ∧ SqT K H b ys)
    (hs : ∀ (i : Nat) (x y : V) (T : Addr) (H : Hp), xs[i]? = some x → ys[i]? = some y → Pv i H → H T = none → g (.ref T) (wipe σ vs) (upd H T (.tup [x, y])) fun σ2 H2 => wipe σ2 vs = wipe σ vs ∧ tt σ2 H2 fun c H3 =>
      if c = true then te σ2 H3 fun z H4 => ∃ acc, H4 D = some (.lst acc) ∧ acc.length < sizeLine ∧ Pv (i + 1) (upd H4 D (.lst (acc ++ [z]))) else Pv (i + 1) H3) (hd : ∀ H, Pv xs.length H → Qd H) :
    ∃ W : Nat → Nat → Hp → Prop, (∃ m, W 0 m (upd H1 D (.lst []))) ∧ ∀ i m H, W i m H →
      ((RZ.ItzT K a b).stop i H ∧ Qd H) ∨ ((RZ.ItzT K a b).go i H ∧ ∃ N : Hp → Prop, (∀ H', N H' → ∃ m', m' < m ∧ W (i + 1) m' H') ∧ ∀ v H', (RZ.ItzT K a b).yld i H v H' → g v (wipe σ vs) H' fun σ2 H2 => wipe σ2 vs = wipe σ vs ∧ tt σ2 H2 fun c H3 =>
        if c = true then te σ2 H3 fun z H4 => ∃ acc, H4 D = some (.lst acc) ∧ acc.length < sizeLine ∧ N (upd H4 D (.lst (acc ++ [z]))) else N H3) := by
  refine ⟨fun i m H => i + m = xs.length ∧ Pv i H, ⟨xs.length, Nat.zero_add _, h0⟩, ?_⟩
  rintro i m H ⟨em, pv⟩
  obtain ⟨q1, q2⟩ := hq i H pv
  cases m with
  | zero =>
    obtain rfl : i = xs.length := by omega
    exact .inl ⟨⟨xs, ys, q1, q2, .inl (Nat.le_refl _)⟩, hd H pv⟩
  | succ m =>
    have l1 : i < xs.length := by omega
    have l2 : i < ys.length := by omega
    refine .inr ⟨⟨xs, ys, _, _, q1, q2, List.getElem?_eq_getElem l1, List.getElem?_eq_getElem l2⟩, Pv (i + 1), fun H' p' => ⟨m, by omega, by omega, p'⟩, fun v H' yl => ?_⟩
    obtain ⟨T, x', y', rfl, hT, rfl, f1, f2⟩ := yl
    exact hs i x' y' T H (f1 xs q1) (f2 ys q2) pv hT
theorem paired_snoc {α β : Type} {R : α → β → Prop} {a : α} {b : β} (h : R a b) : ∀ {l : List α} {m : List β}, Paired R l m → Paired R (l ++ [a]) (m ++ [b])
  | _, _, .nil => .cons h .nil
  | _, _, .cons g r => .cons g (paired_snoc h r)
theorem paired_imp {α β : Type} {R S : α → β → Prop} (h : ∀ a b, R a b → S a b) : ∀ {l : List α} {m : List β}, Paired R l m → Paired S l m
  | _, _, .nil => .nil
  | _, _, .cons g r => .cons (h _ _ g) (paired_imp h r)
end Lc
set_option Elab.async false
set_option linter.all false
set_option maxRecDepth 100000
set_option maxHeartbeats 4000000
namespace Lc
open PySem PySem.Spec PyProof.Rows L2 PySem.NumText
/-! ## Digits -/
def digs (m : Nat) : List Nat := (Nat.toDigits 10 m).map Char.toNat
theorem digs_small {m : Nat} (h : m < 10) : digs m = [48 + m] := by
  unfold digs
  rw [Nat.toDigits_of_lt_base h]
  have : ∀ k < 10, (Nat.digitChar k).toNat = 48 + k := by decide
  show [(Nat.digitChar m).toNat] = _
  rw [this m h]
theorem digs_big {m : Nat} (h : 10 ≤ m) : digs m = digs (m / 10) ++ [48 + m % 10] := by
  have hm : m % 10 < 10 := Nat.mod_lt m (by decide)
  have t : Nat.toDigits 10 (m / 10) ++ Nat.toDigits 10 (m % 10) = Nat.toDigits 10 (10 * (m / 10) + m % 10) := Nat.toDigits_append_toDigits (by decide) (by omega) hm
  rw [Nat.div_add_mod] at t
  have e := digs_small hm
  unfold digs at e ⊢
  rw [← t, List.map_append, e]
theorem digs_val (m : Nat) : digitsVal (digs m) = m := W.KIN.val_back m
theorem digs_all : ∀ m, AllDigits (digs m) := by
  intro m
  induction m using Nat.strongRecOn with
  | _ m ih =>
    by_cases h : m < 10
    · rw [digs_small h]
      intro c hc
      have : c = 48 + m := by simpa using hc
      omega
    · rw [digs_big (by omega)]
      intro c hc
      rcases List.mem_append.mp hc with hc | hc
      · exact ih (m / 10) (by omega) c hc
      · have : c = 48 + m % 10 := by simpa using hc
        omega
theorem digs_head : ∀ m, ∃ c r, digs m = c :: r ∧ (c = 48 → r = []) := by
  intro m
  have key : ∀ m, ∃ c r, digs m = c :: r ∧ (0 < m → 49 ≤ c) := by
    intro m
    induction m using Nat.strongRecOn with
    | _ m ih =>
      by_cases h : m < 10
      · exact ⟨48 + m, [], digs_small h, fun _ => by omega⟩
      · obtain ⟨c, r, e, g⟩ := ih (m / 10) (by omega)
        refine ⟨c, r ++ [48 + m % 10], ?_, fun _ => g (by omega)⟩
        rw [digs_big (by omega), e]
        rfl
  by_cases z : m = 0
  · exact ⟨48, [], by rw [z]; exact digs_small (by decide), fun _ => rfl⟩
  · obtain ⟨c, r, e, g⟩ := key m
    exact ⟨c, r, e, fun h => by have := g (by omega); omega⟩
theorem digs_len : ∀ (p m : Nat), 0 < p → m < 10 ^ p → (digs m).length ≤ p := by
  intro p
  induction p with
  | zero => intro m h; omega
  | succ p ih =>
    intro m _ h
    by_cases z : m < 10
    · rw [digs_small z]
      simp
    · rw [digs_big (by omega), List.length_append]
      have hp : 0 < p := by
        cases p with
        | zero => omega
        | succ q => omega
      have : m / 10 < 10 ^ p := by
        rw [Nat.div_lt_iff_lt_mul (by decide)]
        rw [Nat.pow_succ] at h
        exact h
      have := ih (m / 10) hp this
      simp only [List.length_cons, List.length_nil]
      omega
def zf (p r : Nat) : List Nat := List.replicate (p - (digs r).length) 48 ++ digs r
theorem zf_len {p r : Nat} (hp : 0 < p) (h : r < 10 ^ p) : (zf p r).length = p := by
  have := digs_len p r hp h
  unfold zf
  rw [List.length_append, List.length_replicate]
  omega
theorem zf_all (p r : Nat) : AllDigits (zf p r) := by
  intro c hc
  rcases List.mem_append.mp hc with hc | hc
  · have := List.eq_of_mem_replicate hc
    omega
  · exact digs_all r c hc
theorem val_from (l : List Nat) : ∀ a : Nat, l.foldl (fun acc c => acc * 10 + (c - 48)) a = a * 10 ^ l.length + digitsVal l := by
  induction l with
  | nil => intro a; simp [digitsVal]
  | cons c l ih =>
    intro a
    show l.foldl _ (a * 10 + (c - 48)) = _
    have e2 : digitsVal (c :: l) = l.foldl (fun acc c => acc * 10 + (c - 48)) (0 * 10 + (c - 48)) := rfl
    rw [ih, e2, ih, List.length_cons, Nat.pow_succ, Nat.zero_mul, Nat.zero_add, Nat.add_mul, Nat.mul_assoc, Nat.mul_comm 10]
    omega
theorem val_app (a b : List Nat) : digitsVal (a ++ b) = digitsVal a * 10 ^ b.length + digitsVal b := by
  unfold digitsVal
  rw [List.foldl_append]
  exact val_from b _
theorem val_zeros (k : Nat) : digitsVal (List.replicate k 48) = 0 := by
  induction k with
  | zero => rfl
  | succ k ih =>
    rw [List.replicate_succ, digitsVal_zero]
    exact ih
theorem zf_val (p r : Nat) : digitsVal (zf p r) = r := by
  unfold zf
  rw [val_app, val_zeros, digs_val]
  omega
/-! ## A text cut at the point -/
def jl : List (List Nat) → List Nat
  | [] => []
  | [x] => x
  | x :: y :: r => x ++ 46 :: jl (y :: r)
theorem cut_eq : ∀ {a b x y : List Nat}, 46 ∉ a → 46 ∉ b → a ++ 46 :: x = b ++ 46 :: y → a = b ∧ x = y
  | [], [], _, _, _, _, e => ⟨rfl, (List.cons.inj e).2⟩
  | [], c :: b, _, _, _, hb, e => absurd (List.cons.inj e).1 (fun z => hb (by rw [z]; exact List.mem_cons_self))
  | c :: a, [], _, _, ha, _, e => absurd (List.cons.inj e).1.symm (fun z => ha (by rw [z]; exact List.mem_cons_self))
  | c :: a, d :: b, x, y, ha, hb, e => by
    obtain ⟨e1, e2⟩ := List.cons.inj e
    obtain ⟨h1, h2⟩ := cut_eq (fun z => ha (List.mem_cons_of_mem _ z)) (fun z => hb (List.mem_cons_of_mem _ z)) e2
    exact ⟨by rw [e1, h1], h2⟩
theorem jl_one {ps : List (List Nat)} {a : List Nat} (hne : a ≠ []) (ha : 46 ∉ a) (e : jl ps = a) : ps = [a] := by
  match ps, e with
  | [], e => exact absurd e.symm hne
  | [x], e => rw [← show x = a from e]
  | x :: y :: r, e => exact absurd (by rw [← show x ++ 46 :: jl (y :: r) = a from e]; simp) ha
theorem jl_two {ps : List (List Nat)} {a b : List Nat} (hf : ∀ p ∈ ps, 46 ∉ p) (ha : 46 ∉ a) (hb : 46 ∉ b) (hne : b ≠ []) (e : jl ps = a ++ 46 :: b) : ps = [a, b] := by
  match ps, hf, e with
  | [], _, e => exact absurd e (by simp [jl])
  | [x], hf, e => exact absurd (by rw [show x = a ++ 46 :: b from e]; simp) (hf x List.mem_cons_self)
  | x :: y :: r, hf, e =>
    obtain ⟨h1, h2⟩ := cut_eq (hf x List.mem_cons_self) ha (show x ++ 46 :: jl (y :: r) = a ++ 46 :: b from e)
    rw [h1, jl_one hne hb h2]
theorem toL_join : ∀ ps : List Str, (Str.join ⟨#[46]⟩ ps).cps.toList = jl (ps.map fun p => p.cps.toList)
  | [] => rfl
  | [x] => rfl
  | x :: y :: r => by
    have ih := toL_join (y :: r)
    have e : Str.join ⟨#[46]⟩ (x :: y :: r) = x ++ ⟨#[46]⟩ ++ Str.join ⟨#[46]⟩ (y :: r) := rfl
    rw [e]
    show (x.cps ++ #[46] ++ (Str.join ⟨#[46]⟩ (y :: r)).cps).toList = _
    rw [Array.toList_append, Array.toList_append, ih]
    show x.cps.toList ++ [46] ++ jl (y.cps.toList :: r.map fun p => p.cps.toList) = x.cps.toList ++ 46 :: jl (y.cps.toList :: r.map fun p => p.cps.toList)
    rw [List.append_assoc]
    rfl
theorem dot_eq : PySem.Str.ofString "." = ⟨#[46]⟩ := by decide +kernel
theorem map_toL {ps : List Str} {ls : List (List Nat)} (h : ps.map (fun p => p.cps.toList) = ls) : ps = ls.map fun l => (⟨l.toArray⟩ : Str) := by
  rw [← h, List.map_map]
  have : ((fun l => (⟨l.toArray⟩ : Str)) ∘ fun p : Str => p.cps.toList) = id := by
    funext p
    obtain ⟨⟨l⟩⟩ := p
    rfl
  rw [this, List.map_id]
theorem split_jl (x : Str) : jl ((Txt.split x ⟨#[46]⟩).map fun p => p.cps.toList) = x.cps.toList := by
  rw [← toL_join, StrLaws.join_split]
theorem split_one {x : Str} (h : 46 ∉ x.cps.toList) (hne : x.cps.toList ≠ []) : Txt.split x ⟨#[46]⟩ = [x] := by
  have e := map_toL (jl_one hne h (split_jl x))
  rw [e]
  obtain ⟨⟨l⟩⟩ := x
  rfl
theorem split_two {x : Str} {a b : List Nat} (e : x.cps.toList = a ++ 46 :: b) (ha : 46 ∉ a) (hb : 46 ∉ b) (hne : b ≠ []) : Txt.split x ⟨#[46]⟩ = [⟨a.toArray⟩, ⟨b.toArray⟩] := by
  refine map_toL (jl_two (fun p hp => ?_) ha hb hne ((split_jl x).trans e))
  obtain ⟨q, hq, rfl⟩ := List.mem_map.mp hp
  exact StrLaws.split_free x 46 q hq
/-! ## Rounding -/
def ab (n : Int) : Int := if n < 0 then -n else n
def nu (n d s : Int) : Int := if n < 0 then -((2 * ab n * s + d) / (2 * d)) else (2 * ab n * s + d) / (2 * d)
theorem ab_nonneg (n : Int) : 0 ≤ ab n := by unfold ab; split <;> omega
theorem ab_nat (n : Int) : ab n = (n.natAbs : Int) := by unfold ab; split <;> omega
theorem nu_ab {n d s : Int} (hd : 0 < d) (hs : 0 < s) : ab (nu n d s) = (2 * ab n * s + d) / (2 * d) ∧ (nu n d s < 0 → n < 0) := by
  have h0 : 0 ≤ (2 * ab n * s + d) / (2 * d) := Int.ediv_nonneg (by have := Int.mul_nonneg (Int.mul_nonneg (by decide : (0:Int) ≤ 2) (ab_nonneg n)) (Int.le_of_lt hs); omega) (by omega)
  unfold nu
  generalize (2 * ab n * s + d) / (2 * d) = q at h0
  split
  · exact ⟨by unfold ab; split <;> omega, fun _ => by assumption⟩
  · exact ⟨by unfold ab; split <;> omega, fun h => by omega⟩
theorem nu_near {n d s : Int} (hd : 0 < d) (hs : 0 < s) : 2 * (ab (nu n d s) * d) ≤ 2 * (ab n * s) + d ∧ 2 * (ab n * s) < 2 * (ab (nu n d s) * d) + d := by
  rw [(nu_ab hd hs).1]
  have e := Int.mul_ediv_add_emod (2 * ab n * s + d) (2 * d)
  have r0 := Int.emod_nonneg (2 * ab n * s + d) (by omega : 2 * d ≠ 0)
  have r1 := Int.emod_lt_of_pos (2 * ab n * s + d) (by omega : 0 < 2 * d)
  generalize (2 * ab n * s + d) / (2 * d) = q at e
  generalize (2 * ab n * s + d) % (2 * d) = r at e r0 r1
  rw [Int.mul_assoc 2 d q, Int.mul_comm d q, Int.mul_assoc 2 (ab n) s] at e
  omega
/-- the same units again -/
theorem nu_again {u s a b : Int} (hs : 0 < s) (hb : 0 < b) (h : a * s = u * b) (hsg : (a < 0) ↔ (u < 0)) : nu a b s = u := by
  have e1 : ab a * s = ab u * b := by
    unfold ab
    by_cases z : a < 0
    · rw [if_pos z, if_pos (hsg.mp z), Int.neg_mul, Int.neg_mul, h]
    · rw [if_neg z, if_neg (fun q => z (hsg.mpr q)), h]
  have e2 : (2 * ab a * s + b) / (2 * b) = ab u := by
    have : 2 * ab a * s + b = b + 2 * b * ab u := by
      rw [Int.mul_assoc, e1, Int.mul_comm (ab u) b, ← Int.mul_assoc]
      omega
    rw [this, Int.add_mul_ediv_left _ _ (by omega : 2 * b ≠ 0), Int.ediv_eq_zero_of_lt (by omega) (by omega)]
    omega
  unfold nu
  rw [e2]
  unfold ab
  by_cases z : a < 0
  · rw [if_pos z, if_pos (hsg.mp z)]
    omega
  · rw [if_neg z, if_neg (fun q => z (hsg.mpr q))]
/-! ## What a decimal looks like -/
def tenP (p : Nat) : Nat := 10 ^ p
def decB (u : Int) (p : Nat) : List Nat := digs (u.natAbs / 10 ^ p) ++ (if p = 0 then [] else 46 :: zf p (u.natAbs % 10 ^ p))
def decL (u : Int) (p : Nat) : List Nat := (if u < 0 then [45] else []) ++ decB u p
end Lc
namespace Lc
open PySem PySem.Spec PyProof.Rows L2 PySem.NumText
theorem appL (x y : Str) : (x ++ y).cps.toList = x.cps.toList ++ y.cps.toList := by
  show (x.cps ++ y.cps).toList = _
  simp
theorem numL (m : Nat) : (PySem.Str.ofString (toString ((m : Nat) : Int))).cps.toList = digs m := W.KIN.signs_num m
theorem zfillL {a : Str} {k r : Nat} (h : a.cps.toList = digs r) : (Txt.zfill a (k : Int)).cps.toList = zf k r := by
  have ln : a.length = (digs r).length := by rw [lenL, h]
  unfold Txt.zfill
  by_cases z : (k : Int) ≤ a.length
  · rw [if_pos z, h]
    unfold zf
    rw [show k - (digs r).length = 0 by omega]
    rfl
  · rw [if_neg z]
    obtain ⟨c, rr, e, _⟩ := digs_head r
    have c0 : a.cps[0]? = some c := by
      rw [← Array.getElem?_toList, h, e]
      rfl
    have cd := digs_all r c (by rw [e]; exact List.mem_cons_self)
    have e2 : zfilled a ((k : Int).toNat - a.length) = Builtin.Str.padded a ((k : Int).toNat - a.length) 0 48 := by
      unfold zfilled
      rw [c0]
      split
      · rename_i q
        injection q with q
        omega
      · rename_i q
        injection q with q
        omega
      · rfl
    rw [e2]
    unfold Builtin.Str.padded zf
    show (Array.replicate ((k : Int).toNat - a.length) 48 ++ a.cps ++ Array.replicate 0 48).toList = _
    rw [Array.toList_append, Array.toList_append, Array.toList_replicate, Array.toList_replicate, h, ln]
    simp
theorem nu_le {n d s : Int} (hd : 0 < d) (hs : 0 < s) : ab (nu n d s) ≤ ab n * s := by
  have h := (nu_near (n := n) hd hs).1
  have N0 : 0 ≤ ab n * s := Int.mul_nonneg (ab_nonneg n) (Int.le_of_lt hs)
  generalize ab n * s = N at h N0
  generalize ab (nu n d s) = U at h
  rcases (by omega : N < U ∨ U ≤ N) with z | z
  · have a1 : (N + 1) * d ≤ U * d := Int.mul_le_mul_of_nonneg_right (by omega) (by omega)
    have a2 : N * 1 ≤ N * d := Int.mul_le_mul_of_nonneg_left (by omega) N0
    rw [Int.add_mul, Int.one_mul] at a1
    omega
  · exact z
inductive Pk (H : Hp) : V → Prop
  | ty {v : V} {t : String} (h : TyN H v t) (n : t ≠ "int") : Pk H v
  | out {k : Int} (h : k < 0 ∨ 9 < k) : Pk H (.int k)
theorem Pk.same {H H' : Hp} {v : V} (h : Pk H v) (s : Same H H') : Pk H' v := by
  cases h with
  | ty h n => exact .ty (h.same s) n
  | out h => exact .out h
theorem pad9 {k : Nat} (h : k ≤ 9) : PadOk (k : Int) = true := by
  have : ∀ k ≤ 9, PadOk ((k : Nat) : Int) = true := by decide +kernel
  exact this k h
theorem ten_pos (k : Nat) : (0 : Int) < 10 ^ k := Int.pow_pos (by decide)
theorem ten_small {k : Nat} (h : k ≤ 9) : ((10 : Int) ^ k).natAbs < 2 ^ 40 := by
  have : ∀ k ≤ 9, ((10 : Int) ^ k).natAbs < 2 ^ 40 := by decide +kernel
  exact this k h
end Lc
namespace Lc
open PySem PySem.Spec PyProof.Rows L2 PySem.NumText
theorem cut_first (x : Str) : (cutS x none (some 1)).cps.toList = x.cps.toList.take 1 := by
  have e : HT.sIx x.length 0 none = 0 := rfl
  have e2 : HT.sIx x.length x.length (some 1) = min 1 x.length := rfl
  unfold cutS
  rw [e, e2]
  show (x.cps.toList.drop 0).take (min 1 x.length - 0) = _
  rw [List.drop_zero, Nat.sub_zero, lenL]
  cases x.cps.toList with
  | nil => rfl
  | cons c r => simp
theorem cut_rest (x : Str) : (cutS x (some 1) none).cps.toList = x.cps.toList.drop 1 := by
  have e : HT.sIx x.length 0 (some 1) = min 1 x.length := rfl
  have e2 : HT.sIx x.length x.length none = x.length := rfl
  unfold cutS
  rw [e, e2]
  show (x.cps.toList.drop (min 1 x.length)).take (x.length - min 1 x.length) = _
  rw [lenL]
  cases x.cps.toList with
  | nil => rfl
  | cons c r => simp
theorem str_ext {x y : Str} (h : x.cps.toList = y.cps.toList) : x = y := by
  obtain ⟨⟨l⟩⟩ := x
  obtain ⟨⟨m⟩⟩ := y
  have : l = m := h
  rw [this]
theorem dec_head (u : Int) (k : Nat) : ∃ c r, decB u k = c :: r ∧ 48 ≤ c ∧ c ≤ 57 := by
  obtain ⟨c, r, e, _⟩ := digs_head (u.natAbs / 10 ^ k)
  have h := digs_all (u.natAbs / 10 ^ k) c (by rw [e]; exact List.mem_cons_self)
  exact ⟨c, _, by unfold decB; rw [e]; rfl, h.1, h.2⟩
theorem minus_is {x : Str} {u : Int} {k : Nat} (h : x.cps.toList = decL u k) : decide (V.str (cutS x none (some 1)) = V.str "-") = decide (u < 0) := by
  rw [Bool.eq_iff_iff, decide_eq_true_iff, decide_eq_true_iff]
  have e45 : (PySem.Str.ofString "-").cps.toList = [45] := by decide +kernel
  constructor
  · intro q
    injection q with q
    have z := cut_first x
    rw [q, h, e45] at z
    rcases (by omega : u < 0 ∨ ¬ u < 0) with g | g
    · exact g
    · obtain ⟨c, r, e, h1, h2⟩ := dec_head u k
      unfold decL at z
      rw [if_neg g, e] at z
      have : (45 : Nat) = c := by simpa using z
      omega
  · intro q
    have : cutS x none (some 1) = PySem.Str.ofString "-" := by
      apply str_ext
      rw [cut_first, h, e45]
      unfold decL
      rw [if_pos q]
      rfl
    rw [this]
theorem below_is {x : Str} {u : Int} {k : Nat} (h : x.cps.toList = decL u k) (n : u < 0) : (cutS x (some 1) none).cps.toList = decB u k := by
  rw [cut_rest, h]
  unfold decL
  rw [if_pos n]
  rfl
theorem digs_len_le {m : Nat} (h : m < 2 ^ 1100) : (digs m).length ≤ 1921 := by
  rw [← numL, ← lenL]
  refine int_text_len_1921 ?_
  rw [Int.natAbs_natCast]
  by_cases z : m = 0
  · rw [z]
    decide
  · exact Nat.lt_of_lt_of_le ((Nat.log2_lt z).mpr h) (by decide)
theorem decL_len {u : Int} {k : Nat} (h : u.natAbs < 2 ^ 1100) (k9 : k ≤ 9) : (decL u k).length ≤ 1940 ∧ (decB u k).length ≤ 1939 := by
  have h1 := digs_len_le (Nat.lt_of_le_of_lt (Nat.div_le_self u.natAbs (10 ^ k)) h)
  have h2 : (decB u k).length ≤ 1939 := by
    unfold decB
    rw [List.length_append]
    split
    · simp; omega
    · have := zf_len (p := k) (r := u.natAbs % 10 ^ k) (by omega) (Nat.mod_lt _ (Nat.pow_pos (by decide)))
      rw [List.length_cons, this]
      omega
  refine ⟨?_, h2⟩
  unfold decL
  rw [List.length_append]
  split
  · simp only [List.length_cons, List.length_nil]; omega
  · simp only [List.length_nil]; omega
theorem joinL_toL (ys : List Str) : (Txt.join (PySem.Str.ofString "") ys).cps.toList = (ys.map fun y => y.cps.toList).flatten := by
  have e : Txt.join (PySem.Str.ofString "") ys = Str.join Str.empty ys := (StrLaws.glued_eq_join (PySem.Str.ofString "") ys).trans rfl
  rw [e]
  have key : ∀ ys : List Str, (Str.join Str.empty ys).cps.toList = (ys.map fun y => y.cps.toList).flatten := by
    intro ys
    induction ys with
    | nil => rfl
    | cons x r ih =>
      cases r with
      | nil =>
        show x.cps.toList = _
        simp
      | cons y r =>
        have e : Str.join Str.empty (x :: y :: r) = x ++ Str.empty ++ Str.join Str.empty (y :: r) := rfl
        rw [e, appL, appL, ih]
        simp [Str.empty]
  exact key ys
def ten10 : Str := "0123456789"
theorem index_ten {c : Nat} (h : 48 ≤ c ∧ c ≤ 57) : Builtin.Str.occurrences ten10 ⟨#[c]⟩ 0 ten10.length 1 = [c - 48] := by
  have key : ∀ d < 10, Builtin.Str.occurrences ten10 ⟨#[48 + d]⟩ 0 ten10.length 1 = [d] := by decide +kernel
  have := key (c - 48) (by omega)
  rw [show 48 + (c - 48) = c by omega] at this
  exact this
theorem in_ten {c : Nat} (h : 48 ≤ c ∧ c ≤ 57) : decide (c ∈ ten10.cps.toList) = true := by
  have key : ∀ d < 10, decide (48 + d ∈ ten10.cps.toList) = true := by decide +kernel
  have := key (c - 48) (by omega)
  rw [show 48 + (c - 48) = c by omega] at this
  exact this
end Lc
set_option Elab.async false
set_option linter.all false
set_option maxRecDepth 100000
set_option maxHeartbeats 4000000
namespace Lc
open PySem PySem.Spec PyProof.Rows L2
/-! ## sets of texts: made of a list, sorted -/
def keyX (e : Int × Value) : Str := match e.2 with | .str k _ => k | _ => Str.empty
def GoodX (w : World) (e : Int × Value) : Prop := ∃ k tk, e.2 = Value.str k tk ∧ e.1 = hashStr w k
/-- the set of the texts ks at a -/
def SetX (w : World) (h : Heap) (a : Addr) (ks : List Str) : Prop :=
  ∃ o es ep t, h.get? a = some o ∧ o.ExactSet ∧ o.data = .set es ep t ∧ (∀ e ∈ es.toList, GoodX w e) ∧ (es.toList.map keyX).Nodup ∧ (∀ k, k ∈ ks ↔ k ∈ es.toList.map keyX) ∧
    es.size < scanBound ∧ es.size ≤ ks.length ∧ t.fits es.size = true ∧ Ris t.place.toList ∧ (w.params.followText "set-order" = true ∨ t.led = true)
section
variable {P : Program} {w : World} {h h' : Heap} {a : Addr} {ks : List Str}
theorem SetX.at (R : SetX w h a ks) (k : ∀ o, h.get? a = some o → h'.get? a = some o) : SetX w h' a ks := by
  obtain ⟨o, es, ep, t, ho, r⟩ := R
  exact ⟨o, es, ep, t, k o ho, r⟩
theorem goodX_elems {l : List (Int × Value)} (g : ∀ e ∈ l, GoodX w e) : ElemsOf (strKind P w) l := fun e he => by
  obtain ⟨k, tk, h1, h2⟩ := g e he
  exact ⟨⟨k, by rw [h1]; exact strKind_is _ _ _ _, h2⟩, by rw [h1] <;> rfl⟩
theorem goodX_is {e : Int × Value} (g : GoodX w e) (k : Str) : (strKind P w).is k e.2 = true ↔ keyX e = k := by
  obtain ⟨k0, tk, h1, _⟩ := g
  unfold keyX
  rw [h1]
  constructor
  · intro q
    exact (strKind P w).inj (.str k0 tk) k0 k (strKind_is _ _ _ _) q
  · intro q
    rw [← q]
    exact strKind_is _ _ _ _
theorem goodX_mem {l : List (Int × Value)} (g : ∀ e ∈ l, GoodX w e) (k : Str) : k ∈ l.map keyX ↔ ∃ e ∈ l, (strKind P w).is k e.2 = true := by
  rw [List.mem_map]
  constructor
  · rintro ⟨e, he, q⟩
    exact ⟨e, he, (goodX_is (g e he) k).2 q⟩
  · rintro ⟨e, he, q⟩
    exact ⟨e, he, (goodX_is (g e he) k).1 q⟩
end
section
variable {P : Program} {w : World} {A : Around} {E : Value → Shared → Prop} {s : Shared} {a : Addr} {ks : List Str}
theorem setX_tail {g : Bool → Sem Unit} (hg : ∀ (b : Bool) (s₁ : Shared) (Q' : Unit → Shared → Prop), Q' () s₁ → wpAny (model P w) A (g b) Q' E s₁)
    {o : Obj} {es : Array (Int × Value)} {ep : Nat} {t : SetTable} (ho : s.heap.get? a = some o) (hex : o.ExactSet) (hd : o.data = .set es ep t)
    {es1 : Array (Int × Value)} {t2 : SetTable} {ks' : List Str} (g1 : ∀ e ∈ es1.toList, GoodX w e) (nd1 : (es1.toList.map keyX).Nodup) (m1 : ∀ k, k ∈ ks' ↔ k ∈ es1.toList.map keyX)
    (hb1 : es1.size < scanBound) (hl1 : es1.size ≤ ks'.length) (hf2 : t2.fits es1.size = true) (hr : Ris t2.place.toList) (hl : w.params.followText "set-order" = true ∨ t2.led = true) {wasDummy : Bool} {R : Option Bool → Shared → Prop}
    (hR : ∀ h', Heap.SameBut a s.heap h' → SetX w h' a ks' → R (some true) { s with heap := h' }) :
    wpAny (model P w) A (do
        storeSet a es1 t2
        if (!wasDummy && t2.tooFull) = true then do
            g (relayAll t2 es1 (SetTable.grown es1.size)).2.2
            storeSet a (relayAll t2 es1 (SetTable.grown es1.size)).1 (relayAll t2 es1 (SetTable.grown es1.size)).2.1
            pure (some true)
          else pure (some true)) R E s := by
  refine wpAny_bind (wpAny_storeSet_of ho hd ?_ (fits_of_scanBound hb1))
  have ho1 := store_at (es' := es1) (t' := t2) ho hd
  have sb1 := Heap.SameBut.update s.heap a (Obj.putSet es1 t2)
  split
  · have pm := relayAll_perm t2 es1 (SetTable.grown es1.size)
    have hf3 := relayAll_fits t2 es1 (SetTable.grown es1.size)
    have hr3 := relayAll_ris t2 es1 (SetTable.grown es1.size)
    have hl3 := relayAll_led t2 es1 (SetTable.grown es1.size)
    generalize relayAll t2 es1 (SetTable.grown es1.size) = Z at pm hf3 hr3 hl3 ⊢
    obtain ⟨es2, t3, gave⟩ := Z
    dsimp only at pm hf3 hr3 hl3 ⊢
    have hsz : es2.size = es1.size := by rw [← Array.length_toList, pm.length_eq, Array.length_toList]
    refine wpAny_bind (hg _ _ _ ?_)
    refine wpAny_bind (wpAny_storeSet_of ho1 rfl ?_ (fits_of_scanBound (by rw [hsz]; exact hb1)))
    have ho2 := store_at (es' := es2) (t' := t3) ho1 rfl
    refine wpAny_pure (hR _ (sb1.trans (Heap.SameBut.update _ a _)) ?_)
    exact ⟨_, es2, _, t3, ho2, hex, rfl, fun e he => g1 e (pm.mem_iff.mp he), (pm.map keyX).nodup_iff.mpr nd1, fun k => (m1 k).trans (pm.map keyX).mem_iff.symm, by rw [hsz]; exact hb1, by rw [hsz]; exact hl1, hf3, hr3,
      hl.imp id fun z => by rw [hl3]; exact z⟩
  · exact wpAny_pure (hR _ sb1 ⟨_, es1, _, t2, ho1, hex, rfl, g1, nd1, m1, hb1, hl1, hf2, hr, hl⟩)
theorem setX_add {k : Str} {tk : Tok} {Q : Bool → Shared → Prop} (R : SetX w s.heap a ks) (room : ks.length + 1 < scanBound)
    (hQ : ∀ b h', Heap.SameBut a s.heap h' → SetX w h' a (ks ++ [k]) → Q b { s with heap := h' }) :
    wpAny (model P w) A (setAddHashed a (.str k tk) ((strKind P w).hash k)) Q E s := by
  obtain ⟨o, es, ep, t, ho, hex, hd, g, nd, hm, hb, hlen, hf, hr, hl⟩ := R
  have hkey : (strKind P w).is k (.str k tk) = true := strKind_is _ _ _ _
  have hsc : (Value.str k tk).scannable = true := rfl
  have hel : ElemsOf (strKind P w) es.toList := goodX_elems g
  unfold setAddHashed setAddHashedIn
  refine wpAny_holding (wpAny_bind (wpAny_setState_of ho hd hf ?_))
  dsimp only
  rw [byScan_of hsc hb hel]
  simp only [↓reduceIte]
  unfold setAddByScan
  refine wpAny_bind ?_
  refine wpAny_bind (wpAny_rule ?_)
  refine wpAny_bind (wpAny_setScan_of hkey ho hd hf hel ?_)
  cases hfi : List.findIdx? (fun e => (strKind P w).is k e.2) es.toList with
  | some j =>
    dsimp only
    obtain ⟨hj, pj, _⟩ := List.findIdx?_eq_some_iff_getElem.mp hfi
    have hk : k ∈ es.toList.map keyX := (goodX_mem (P := P) (w := w) g k).2 ⟨es.toList[j], List.getElem_mem hj, pj⟩
    refine wpAny_pure (wpAny_pure ?_)
    exact hQ _ s.heap (Heap.SameBut.refl a s.heap) ⟨o, es, ep, t, ho, hex, hd, g, nd, fun i => by
      rw [List.mem_append, List.mem_singleton, hm i]
      exact ⟨fun z => z.elim id (fun e => e ▸ hk), .inl⟩, hb, by rw [List.length_append]; omega, hf, hr, hl⟩
  | none =>
    dsimp only
    have hnk : k ∉ es.toList.map keyX := fun z => by
      obtain ⟨e, he, q⟩ := (goodX_mem (P := P) (w := w) g k).1 z
      have c := List.findIdx?_eq_none_iff.mp hfi e he
      rw [q] at c
      cases c
    have hgw : ∀ (b : Bool) {s₁ : Shared} {Q' : Unit → Shared → Prop}, Q' () s₁ → wpAny (model P w) A (match b with | true => rule "set.scan.the-table-gave-way" | false => pure ()) Q' E s₁ :=
      fun b s₁ Q' q => by cases b <;> first | exact wpAny_pure q | exact wpAny_rule q
    have pm := layNew_perm t es ((strKind P w).hash k) (.str k tk)
    have hf1 := layNew_fits t es ((strKind P w).hash k) (.str k tk)
    have hr1 := layNew_ris t es ((strKind P w).hash k) (.str k tk) hr
    have hl1 := layNew_led t es ((strKind P w).hash k) (.str k tk)
    generalize layNew t es ((strKind P w).hash k) (.str k tk) = Z at pm hf1 hr1 hl1 ⊢
    obtain ⟨es1, t1, wasDummy, gave⟩ := Z
    dsimp only at pm hf1 hr1 hl1 ⊢
    rw [Array.toList_push] at pm
    have pc : es1.toList.Perm (((strKind P w).hash k, Value.str k tk) :: es.toList) := pm.trans (List.perm_append_singleton _ _)
    have pk : (es1.toList.map keyX).Perm (k :: es.toList.map keyX) := pc.map keyX
    have g1 : ∀ e ∈ es1.toList, GoodX w e := fun e he => by
      rcases List.mem_cons.mp (pc.mem_iff.mp he) with z | z
      · rw [z]; exact ⟨k, tk, rfl, rfl⟩
      · exact g e z
    have nd1 : (es1.toList.map keyX).Nodup := pk.nodup_iff.mpr (List.nodup_cons.mpr ⟨hnk, nd⟩)
    have m1 : ∀ i, i ∈ ks ++ [k] ↔ i ∈ es1.toList.map keyX := fun i => by
      rw [List.mem_append, List.mem_singleton, hm i, pk.mem_iff, List.mem_cons]
      exact Or.comm
    have hsz : es1.size = es.size + 1 := by rw [← Array.length_toList, pc.length_eq, List.length_cons, Array.length_toList]
    have hb1 : es1.size < scanBound := by omega
    have hln : es1.size ≤ (ks ++ [k]).length := by rw [List.length_append]; show _ ≤ _ + 1; omega
    have hled : w.params.followText "set-order" = true ∨ t1.led = true := hl.imp id fun z => by rw [hl1]; exact z
    refine wpAny_bind (hgw _ ?_)
    split
    · refine wpAny_bind ?_
      rw [hashByValue_scannable 8 hsc]
      refine wpAny_pure ?_
      refine setX_tail ?_ ho hex hd g1 nd1 m1 hb1 hln ?_ ?_ ?_ ?_
      · intro b s₁ Q' q; cases b <;> first | exact wpAny_pure q | exact wpAny_rule q
      · first | (split <;> first | exact hf1 | exact SetTable.fits_plain_off hf1) | exact hf1
      · first | (split <;> exact hr1) | exact hr1
      · first | (split <;> exact hled) | exact hled
      · intro h' sb r; dsimp only; exact wpAny_pure (hQ _ h' sb r)
    · refine wpAny_bind (wpAny_pure ?_)
      simp only [↓reduceIte]
      refine setX_tail ?_ ho hex hd g1 nd1 m1 hb1 hln hf1 hr1 hled ?_
      · intro b s₁ Q' q; cases b <;> first | exact wpAny_pure q | exact wpAny_rule q
      · intro h' sb r; dsimp only; exact wpAny_pure (hQ _ h' sb r)
theorem setX_fresh {h : Heap} {a : Addr} (ho : h.get? a = some { cls := .type "set", dict := none, data := .set #[] 0 (.fresh 0 0 (!w.params.followText "set-order")) }) : SetX w h a [] :=
  ⟨_, #[], 0, _, ho, ⟨rfl, rfl, rfl⟩, rfl, (fun e he => by simp at he), (by simp), (fun k => by simp), (by decide), Nat.le_refl _, (by rfl), List.Pairwise.nil, by
    show _ ∨ (!w.params.followText "set-order") = true
    cases w.params.followText "set-order"
    · exact .inr rfl
    · exact .inl rfl⟩
end
/-! ### set(xs) -/
section
variable {P : Program} {w : World} {A : Around} {R : Result → Shared → Prop} {I : Addr} {fp wr : List Addr} {G : Array GenState → Array GenState → Prop} {n : Nat} {Pv : Nat → Value → Prop} {St : Nat → Shared → Prop}
theorem setX_loop (W : WalksS P w A.in1 I fp wr G n Pv St) (S : Addr) (hSf : S ∉ fp) (ks : List Str) (hn : n = ks.length) (hfew : ks.length < 1000) (hval : ∀ i v, Pv i v → ∃ x t, ks[i]? = some x ∧ v = .str x t) :
    ∀ (k i : Nat) (s : Shared), n - i = k → i ≤ n → St i s → SetX w s.heap S (ks.take i) →
      (∀ s', Moved (S :: wr) G s s' → SetX w s'.heap S ks → R (.ok (.ret .none)) s') →
      codeAny (model P w) A (.builtin "set.update.loop" ⟨[.ref S, .ref I], []⟩) R s := by
  have hSw : S ∉ wr := fun h => hSf (W.sub _ h)
  have hsub : ∀ b ∈ wr, b ∈ S :: wr := fun b hb => List.mem_cons_of_mem _ hb
  intro k
  induction k with
  | zero =>
    intro i s hk hi hst hS hR
    have hin : i = n := by omega
    subst hin
    refine codeAny_builtin F.entry_set_update_loop ?_
    rw [Around.under_plainId F.plain_set_update_loop _]
    show wpAny _ A.in1 (pyNext (.ref I) >>= _) _ _ s
    refine wpAny_bind (W.done s _ _ hst fun s' hm => ?_)
    show wpAny _ A.in1 (ret Value.none) _ _ s'
    rw [hn, List.take_length] at hS
    exact wpAny_pure (hR s' (hm.mono hsub) (hS.at fun o e => hm.heap S o hSw e))
  | succ k ih =>
    intro i s hk hi hst hS hR
    have hlt : i < n := by omega
    refine codeAny_builtin F.entry_set_update_loop ?_
    rw [Around.under_plainId F.plain_set_update_loop _]
    show wpAny _ A.in1 (pyNext (.ref I) >>= _) _ _ s
    refine wpAny_bind (W.item i s _ _ hlt hst fun v s' hP hst' hm => ?_)
    obtain ⟨x, t, ex, rfl⟩ := hval i v hP
    have hS' : SetX w s'.heap S (ks.take i) := hS.at fun o e => hm.heap S o hSw e
    show wpAny _ A.in1 (holding [Value.str x t] (setAdd S (.str x t)) >>= _) _ _ s'
    refine wpAny_bind (wpAny_holding ?_)
    unfold setAdd
    refine wpAny_holding ?_
    refine wpAny_bind ((strKind P w).pyHash (k := x) (strKind_is _ _ _ _) ?_)
    refine setX_add (s := { s' with toks := s'.toks + 1 }) hS' (by rw [List.length_take]; unfold scanBound; omega) fun b h' hsb hS2 => ?_
    have e2 : ks.take i ++ [x] = ks.take (i + 1) := by rw [List.take_add_one, ex] <;> rfl
    rw [e2] at hS2
    refine wpAny_pure ⟨plainId_quiet F.plain_set_update_loop _, ih (i + 1) _ (by omega) hlt (W.frame _ s' _ _ hst' (Nat.le_succ _) fun b hb o e => ?_) hS2 fun s'' hm'' hS'' => ?_⟩
    · rw [hsb.2 b (fun h : b = S => hSf (by rw [← h]; exact hb))]; exact e
    · refine hR s'' (Moved.trans W.gtrans ((hm.mono hsub).then_heap (Nat.le_succ _) fun b o hb e => ?_) hm'') hS''
      rw [hsb.2 b (fun h : b = S => hb (by rw [h]; exact List.mem_cons_self))]; exact e
end
section
variable {P : Program} {w : World} {A : Around} {E : Value → Shared → Prop} {s : Shared}
theorem call_setX {l : Addr} {items : Array Value} {ks : List Str} {Q : Value → Shared → Prop} (hh : A.handled = none) (hl : s.heap.IsList l items) (hit : StrsAre items.toList ks) (hfew : ks.length < 1000)
    (h : ∀ (h' : Heap) (tk : Nat), SetX w h' s.heap.objs.size ks → (∀ b o, s.heap.get? b = some o → h'.get? b = some o) → Q (.ref s.heap.objs.size) { s with heap := h', toks := tk }) :
    wpAny (model P w) A (call (.type "set") [.ref l]) Q E s := by
  have hisz : items.size = ks.length := by rw [← Array.length_toList]; exact StrsAre.len_eq hit
  obtain ⟨c, tl, hmro⟩ := F.called_set.mro
  have hmade := F.called_set.made
  have hsub := F.called_set.sub
  refine wpAny_call (codeAny_of_tree ?_)
  show wpAny _ _ (callAny (.type "set") _) _ _ _
  refine wpAny_pure ⟨Code.quiet_builtin _ (by decide +kernel), codeAny_builtin F.entry_type_call ?_⟩
  rw [Around.under_plain (weight_type_call_type "set" [.ref l] []) rfl]
  have h1 := F.called_set.notType
  have h2 := F.called_set.canCreate
  have hct := F.typeCall_set_1 (.ref l)
  repeat (any_goals (first | assumption | wp_step))
  refine codeAny_mono (code_set_led1 (.ref l) (E := E) (Q₁ := fun obj s₁ => obj = .ref s.heap.objs.size ∧ s₁ = { s with heap := s.heap.push { cls := .type "set", dict := none, data := .set #[] 0 (.fresh 0 0 (!w.params.followText "set-order")) } }) ⟨rfl, rfl⟩) fun r s₁ hr => ?_
  cases r with
  | error e => exact hr
  | ok fl =>
    cases fl with
    | ret obj =>
      obtain ⟨rfl, rfl⟩ := hr
      have hS : (s.heap.push { cls := .type "set", dict := none, data := .set #[] 0 (.fresh 0 0 (!w.params.followText "set-order")) }).get? s.heap.objs.size = some { cls := .type "set", dict := none, data := .set #[] 0 (.fresh 0 0 (!w.params.followText "set-order")) } := Heap.get?_push_size _ rfl
      have hT : Shared.TypeIs { s with heap := s.heap.push { cls := .type "set", dict := none, data := .set #[] 0 (.fresh 0 0 (!w.params.followText "set-order")) } } (.ref s.heap.objs.size) "set" := ⟨_, hS, rfl⟩
      have hli := F.called_set.init.lookup
      have hbi := F.called_set.init.bind (.ref s.heap.objs.size)
      repeat (any_goals (first | assumption | wp_step))
      refine codeAny_mono (codeAny_call_builtin (R := wants (fun r s₂ => r = .none ∧ ∃ h' tk, s₂ = { s with heap := h', toks := tk } ∧ SetX w h' s.heap.objs.size ks ∧ (∀ b o, s.heap.get? b = some o → h'.get? b = some o)) E) F.called_set.init.plain F.entry_set_init (check_set_init_1 hT ?_)) fun r₂ s₂ hr₂ => ?_
      · obtain ⟨ol, hol, hcl, nl, hdl⟩ := hl
        obtain ⟨ocls, odict, odata, oslots⟩ := ol
        simp only at hcl hdl
        subst hcl; subst hdl
        have hol' : (s.heap.push { cls := .type "set", dict := none, data := .set #[] 0 (.fresh 0 0 (!w.params.followText "set-order")) }).get? l = some { cls := .type "list", dict := odict, data := .seq items nl, slots := oslots } := Heap.get?_push_of_some _ hol
        have hsls := F.sub_list_set
        have hslf := F.sub_list_frozenset
        have hne : (Value.type "list" == Value.type "dict") = false := by decide
        have hl1 : (s.heap.push { cls := .type "set", dict := none, data := .set #[] 0 (.fresh 0 0 (!w.params.followText "set-order")) }).IsList l items := ⟨_, hol', rfl, nl, rfl⟩
        unfold Builtin.«set.__init__» noKeywords Builtin.Frozenset.updateFrom
        generalize hPI : pyIter = PI
        wp_walk
        subst hPI
        refine wpAny_pyIter_list hl1 ?_
        refine wpAny_bind (wpAny_runValue ?_)
        have hlS : l < s.heap.objs.size := Heap.lt_size hol
        have hh3 : A.in1.in1.in1.handled = none := by simp [hh]
        have hneI : l ≠ (s.heap.push { cls := .type "set", dict := none, data := .set #[] 0 (.fresh 0 0 (!w.params.followText "set-order")) }).objs.size := by
          rw [Heap.size_push]; exact Nat.ne_of_lt (Nat.lt_succ_of_lt hlS)
        have hSf : s.heap.objs.size ∉ [(s.heap.push { cls := .type "set", dict := none, data := .set #[] 0 (.fresh 0 0 (!w.params.followText "set-order")) }).objs.size, l] := by
          rw [Heap.size_push]; simp only [List.mem_cons, List.mem_singleton, List.not_mem_nil, or_false, not_or]
          exact ⟨Nat.ne_of_lt (Nat.lt_succ_self _), Nat.ne_of_gt hlS⟩
        have hval : ∀ (i : Nat) (v : Value), items[i]? = some v → ∃ x t, ks[i]? = some x ∧ v = .str x t := fun i v hv => by
          obtain ⟨t, e⟩ := SS.strs_at hit i v (by rw [Array.getElem?_toList]; exact hv)
          have hi : i < ks.length := by rw [← hisz]; exact (Array.getElem?_eq_some_iff.mp hv).1
          refine ⟨_, t, List.getElem?_eq_getElem hi, ?_⟩
          rw [e, List.getD_eq_getElem?_getD, List.getElem?_eq_getElem hi] <;> rfl
        refine setX_loop ((Walks.list hh3 _ l hneI items).toS) s.heap.objs.size hSf ks hisz hfew hval (items.size - 0) 0 _ (by omega) (Nat.zero_le _)
          ⟨⟨_, Heap.get?_push_size _ rfl, rfl, rfl⟩, (hl1.push _)⟩ ?hS0 ?hR
        case hS0 =>
          exact setX_fresh (Heap.get?_push_of_some _ hS)
        case hR =>
          intro s' hm hS'
          obtain ⟨h', g2, d', tk', os'⟩ := s'
          have eg : g2 = s.gens := hm.gens
          have ed : d' = s.drawn := hm.drawn
          have eo : os' = s.os := hm.os
          subst eg; subst ed; subst eo
          show wpAny _ _ _ _ _ _
          refine wpAny_pure ?_
          show wpAny _ _ (ret Value.none) _ _ _
          refine wpAny_pure ⟨rfl, h', tk', rfl, hS', fun b o e => ?_⟩
          have hb := Heap.lt_size e
          have hb1 : b ≠ s.heap.objs.size := Nat.ne_of_lt hb
          have hb2 : b ≠ (s.heap.push { cls := .type "set", dict := none, data := .set #[] 0 (.fresh 0 0 (!w.params.followText "set-order")) }).objs.size := by
            rw [Heap.size_push]; exact Nat.ne_of_lt (Nat.lt_succ_of_lt hb)
          exact hm.heap b o (by simp only [List.mem_cons, List.mem_singleton, List.not_mem_nil, or_false, not_or]; exact ⟨hb1, hb2⟩) (Heap.get?_push_of_some _ (Heap.get?_push_of_some _ e))
      · cases r₂ with
        | error e => exact hr₂
        | ok fl₂ =>
          cases fl₂ with
          | ret r =>
            obtain ⟨rfl, h', tk, rfl, hS', hk'⟩ := hr₂
            repeat (any_goals (first | assumption | wp_step))
            exact h _ _ hS' hk'
          | _ => exact hr₂.elim
    | _ => exact hr.elim
end
end Lc
set_option Elab.async false
set_option linter.all false
set_option maxRecDepth 100000
set_option maxHeartbeats 4000000
namespace Lc
open PySem PySem.Spec PyProof.Rows L2
/-! ## sorted(set(xs)), xs a list of texts -/
def SetXO (w : World) (a : Addr) (ks : List Str) : HO := .ext fun h => SetX w h a ks
theorem setXO_new {P : Program} {w : World} {H : Hp} {h : Heap} {a : Addr} {ks : List Str} (R : SetX w h a ks) : ObjOk P w H h a (SetXO w a ks) := by
  have ⟨o, es, ep, t, ho, r⟩ := R
  refine ⟨R, ⟨o, ho⟩, fun h1 h2 p k => ?_⟩
  exact SetX.at (show SetX w h1 a ks from p) k
theorem strs_vals : ∀ {ks : List Str} {us : List Value}, Vals (ks.map V.str) us → StrsAre us ks
  | [], _, .nil => .nil
  | k :: ks, _, .cons r t => by
    obtain ⟨tk, rfl⟩ := r
    exact .cons _ _ (strs_vals t)
section
variable {P : Program} {w : World} {A : Around} {E : Value → Shared → Prop} {s : Shared} {a : Addr} {ks : List Str}
theorem strs_key : ∀ (l : List Value), (∀ v ∈ l, ∃ k tk, v = Value.str k tk) → StrsAre l (l.map fun v => keyX (0, v))
  | [], _ => .nil
  | v :: l, h => by
    obtain ⟨k, tk, rfl⟩ := h v List.mem_cons_self
    exact .cons k tk (strs_key l fun u hu => h u (List.mem_cons_of_mem _ hu))
theorem sorted_setX {Q : Value → Shared → Prop} (R : SetX w s.heap a ks) (hh : A.handled = none) (h64 : ks.length < 64)
    (hQ : ∀ s' p (out : Array Value) (c : Nat) (ys : List Str), (∀ b o, s.heap.get? b = some o → s'.heap.get? b = some o) → s'.gens = s.gens → s'.os = s.os → s.heap.objs.size ≤ p →
      s'.heap.get? p = some (seqObj "list" out c) → StrsAre out.toList ys → sortedS ys = true → ys.Nodup → (∀ k, k ∈ ys ↔ k ∈ ks) → ys.length < 64 → Q (.ref p) s') :
    wpAny (model P w) A (call (.builtin "sorted") [.ref a]) Q E s := by
  obtain ⟨o, es, ep, t, ho, hex, hd, g, nd, hm, hb, hlen, hf, hr, hl⟩ := R
  refine Calls.call_function_entry kind_sorted plain_sorted entry_sorted (args_sorted1 _) ?_
  unfold Builtin.«sorted»
  refine wpAny_bind (m := checkCount "sorted" 1 1 _) (wpAny_pure ?_)
  refine wpAny_bind (collect_set (A := A.in1) hh ⟨o, ho, hex.1, hd⟩ hf hb hr hl fun s1 vs k1 hz g1 o1 pm => ?_)
  have hvl : vs.length = es.size := by rw [pm.length_eq, List.length_map, Array.length_toList]
  have hI : StrsAre vs (vs.map fun v => keyX (0, v)) := strs_key vs fun v hv => by
    obtain ⟨e, he, q⟩ := List.mem_map.mp (pm.mem_iff.mp hv)
    obtain ⟨k, tk, h1, _⟩ := g e he
    exact ⟨k, tk, by rw [← q]; exact h1⟩
  have pk : (vs.map fun v => keyX (0, v)).Perm (es.toList.map keyX) := by
    have q := pm.map fun v => keyX (0, v)
    rw [List.map_map] at q
    exact q
  refine wpAny_bind (wpAny_newList ?_ (by rw [hvl, sizeLine_eq]; omega))
  have hoL : (s1.heap.push (seqObj "list" vs.toArray 0)).get? s1.heap.objs.size = some (seqObj "list" vs.toArray 0) := Heap.get?_push_size _ rfl
  refine wpAny_bind (wpAny_holding (wpAny_call_entry slot_list_sort ⟨_, hoL, rfl⟩ entry_list_sort
    (list_sort_treeK strKind_oneLt (s := { s1 with heap := s1.heap.push (seqObj "list" vs.toArray 0) }) hoL hI.keysOf (fun v₁ v₂ rest e => keyKind_strs (by rw [← e]; exact hI)) (by rw [hvl]; omega) fun st' hp hs => ⟨_, rfl, ?_⟩) (args_list_sort _)))
  obtain ⟨ys, q1, q2, q3⟩ := sorted_out_str hI hp hs
  obtain ⟨c, hc⟩ := sortedHeap_at (vs := vs) (out := (arrOf st').map (·.2)) hoL
  have pn : ys.Perm (es.toList.map keyX) := q2.trans pk
  refine wpAny_pure ⟨_, rfl, hQ _ s1.heap.objs.size ((arrOf st').map (·.2)) c ys (fun b u e => ?_) g1 o1 hz hc q1 q3 (pn.nodup_iff.mpr nd) (fun k => by rw [pn.mem_iff, ← hm k]) ?_⟩
  · have q := k1 b u e
    have hlt := Heap.lt_size q
    rw [sortedHeap_old (Nat.ne_of_lt hlt) (by rw [size_push']; exact Nat.lt_succ_of_lt hlt)]
    exact Heap.get?_push_of_some _ q
  · rw [pn.length_eq, List.length_map, Array.length_toList]; omega
end
section
variable {X : Cx}
def rSetX (K : PySem.W.Frag) (w : World) : List V → Hp → VK → Prop := fun xs H Q => ∃ (l : Addr) (ks : List Str), xs = [V.ref l] ∧ SqL K H l (ks.map V.str) ∧ ks.length < 1000 ∧ ∀ a, H a = none → Q (.ref a) (upd H a (SetXO w a ks))
theorem cr_setX (hc : X.calm = true) : CallR X (.type "set") (rSetX X.K X.w) := by
  intro pins s σ H xs us Q I r h
  obtain ⟨l, ks, rfl, hl, hf, q⟩ := h
  rw [Vals.ref1 r]
  obtain ⟨its, rv, pl, hz⟩ := I.list hl
  have hn : H s.heap.objs.size = none := I.hok.fresh (Nat.le_refl _)
  refine call_setX (P := X.prog) (w := X.w) (I.ok.hd hc) pl.isList (by simpa using strs_vals rv) hf fun h' tk R k => ?_
  exact ⟨.ref s.heap.objs.size, upd H s.heap.objs.size (SetXO X.w s.heap.objs.size ks), I.laid (t' := tk) k (Nat.le_refl _) (setXO_new R), rfl, q _ hn⟩
def rSortX (w : World) : List V → Hp → VK → Prop := fun vs H Q => ∃ (a : Addr) (ks : List Str), vs = [V.ref a] ∧ H a = some (SetXO w a ks) ∧ ks.length < 64 ∧
  ∀ (ys : List Str) (p : Addr), sortedS ys = true → ys.Nodup → (∀ k, k ∈ ys ↔ k ∈ ks) → H p = none → Q (.ref p) (upd H p (.lst (ys.map V.str)))
theorem cr_sortX (hc : X.calm = true) : CallR X (.builtin "sorted") (rSortX X.w) := by
  intro pins s σ H vs us Q I r h
  obtain ⟨a, ks, rfl, ha, h64, q⟩ := h
  have R0 : SetX X.w s.heap a ks := (I.hok a _ ha).1
  rw [Vals.ref1 r]
  refine sorted_setX R0 (I.ok.hd hc) h64 fun s' p out c ys k g o hp hg hout so nd mem few => ?_
  have hlen : (ys.map V.str).length ≤ sizeLine := by rw [List.length_map, sizeLine_eq]; omega
  have hn : H p = none := I.hok.fresh hp
  have J : Inv X pins σ (upd H p (.lst (ys.map V.str))) { s with heap := s'.heap, gens := s'.gens, drawn := s'.drawn, toks := s'.toks } :=
    I.call (ch := []) (Un.laid k hp hn) (I.hok.laid k hp ⟨hlen, out.toList, c, vals_of_strs hout, hg⟩) (by rw [g]; exact I.bare) (fun _ z => nomatch z)
  have e : s' = { s with heap := s'.heap, gens := s'.gens, drawn := s'.drawn, toks := s'.toks } := by
    cases s'
    cases s
    cases o
    rfl
  rw [e]
  exact ⟨.ref p, _, J, rfl, q ys p so nd mem hn⟩
end
end Lc
set_option Elab.async false
set_option linter.all false
set_option maxRecDepth 100000
set_option maxHeartbeats 4000000
namespace Lc
open PySem PySem.Spec PyProof.Rows L2
/-! ## len(set(xs)), xs a list of texts: as many as there are different ones -/
theorem nodup_of_len {α : Type} [DecidableEq α] : ∀ {ks l : List α}, l.Nodup → (∀ k ∈ l, k ∈ ks) → l.length = ks.length → ks.Nodup
  | [], _, _, _, _ => List.nodup_nil
  | x :: r, l, n, s, e => by
    have xr : x ∉ r := fun hx => by
      have := List.Nodup.length_le_of_subset n (l₂ := r) fun k hk => by
        rcases List.mem_cons.mp (s k hk) with q | q
        · rw [q]; exact hx
        · exact q
      rw [List.length_cons] at e
      omega
    have xl : x ∈ l := Classical.byContradiction fun hx => by
      have := List.Nodup.length_le_of_subset n (l₂ := r) fun k hk => by
        rcases List.mem_cons.mp (s k hk) with q | q
        · rw [q] at hk; exact absurd hk hx
        · exact q
      rw [List.length_cons] at e
      omega
    refine List.nodup_cons.mpr ⟨xr, nodup_of_len (l := l.erase x) (n.erase x) (fun k hk => ?_) ?_⟩
    · have hk2 := (List.Nodup.mem_erase_iff n).mp hk
      rcases List.mem_cons.mp (s k hk2.2) with q | q
      · exact absurd q hk2.1
      · exact q
    · rw [List.length_erase_of_mem xl, e, List.length_cons]
      rfl
def rLenX (w : World) : List V → Hp → VK → Prop := fun xs H Q => ∃ (S : Addr) (ks : List Str), xs = [.ref S] ∧ H S = some (SetXO w S ks) ∧ ∀ n : Nat, n ≤ ks.length → (n = ks.length ↔ ks.Nodup) → Q (.int n) H
theorem call_lenX {X : Cx} : CallR X (.builtin "len") (rLenX X.w) := by
  intro pins s σ H xs us Q I r h
  obtain ⟨S, ks, rfl, hS, q⟩ := h
  obtain ⟨u, rfl, ru⟩ := vals1 r
  obtain rfl : u = Value.ref S := ru
  obtain ⟨R, _⟩ := (show ObjOk X.prog X.w H s.heap S (SetXO X.w S ks) from I.hok S _ hS)
  obtain ⟨o, es, ep, t, ho, hex, hd, g, nd, hm, hb, hlen, hf, hr, hl⟩ := (show SetX X.w s.heap S ks from R)
  have e0 : (es.toList.map keyX).length = es.size := by rw [List.length_map, Array.length_toList]
  refine call_len_set ho hex hd hf (by unfold scanBound at hb; omega) ⟨.int es.size, H, I.tok _, ⟨_, rfl⟩, q es.size hlen ⟨fun e => ?_, fun n => ?_⟩⟩
  · exact nodup_of_len nd (fun k hk => (hm k).mpr hk) (by rw [e0, e])
  · have := List.Nodup.length_le_of_subset n (l₂ := es.toList.map keyX) fun k hk => (hm k).mp hk
    omega
end Lc
set_option Elab.async false
set_option linter.all false
set_option maxRecDepth 100000
set_option maxHeartbeats 4000000
namespace K79
open PySem PySem.Spec PyProof.Rows L2 Lc
def top (i : Nat) : Stmt := PySem.Challenge.pw_liveclaims_k79_lines_that_are_not_read.main.body.getD i (.Pass ⟨0, 0, 0, 0⟩)
/-! ## is_whole, common_divisor, is_rational -/
abbrev sWhole : Stmt := top 3
abbrev sCd : Stmt := top 4
abbrev sIsR : Stmt := top 5
def spWhole : Sp := fun vs H Q _ => ∃ (v : V) (t : String), vs = [v] ∧ TyN H v t ∧ Q (.bl (t == "int")) H
def spCd : Sp := fun vs H Q _ => ∃ a b : Int, vs = [.int a, .int b] ∧ 0 ≤ a ∧ 0 ≤ b ∧ Q (.int (gd a b)) H
def spIsR : Sp := fun vs H Q _ => ∃ (v : V) (b : Bool), vs = [v] ∧ Rk H v b ∧ Q (.bl b) H
section
variable {P : Program} {w : World} {K : PySem.W.Frag} {mg : Str → Option Value} {base : Heap} {f C : Addr} {fd : FuncData}
theorem scWhole : FnScope ["value"] ["value"] (defScope sWhole) := ⟨rfl, rfl, rfl, by decide +kernel, rfl, by decide +kernel, by decide +kernel⟩
theorem ok_whole (F : Fun K "is_whole" "is_whole" sWhole f fd) (T : Bt mg) : FnOk P w K mg base CX0 1 f fd ["value"] spWhole := by
  refine F.ok scWhole (fun vs H Q E h => ?_) (fun cdv A outer s H vs Q E hr h => ?_)
  · obtain ⟨v, t, rfl, _⟩ := h
    rfl
  · obtain ⟨v, t, rfl, ty, k⟩ := h
    refine ⟨_, pss_one (ps_ret (pe_and (pe_callB call_isi (by rfl) T.isi boot_isinstance (pa_cons (pv 0) (pa_cons (pe_bltn (v := .ty "int") (by rfl) T.int boot_int rfl) pa_nil)))
      (pe_one (pe_not (pe_callB call_isi (by rfl) T.isi boot_isinstance (pa_cons (pv 0) (pa_cons (pe_bltn (v := .ty "bool") (by rfl) T.bool boot_bool rfl) pa_nil))))))), ?_⟩
    refine ⟨_, rfl, v, .ty "int", _, _, _, rfl, .ty "int", ty.x, kit_int ty.mem, _, rfl, ?_⟩
    refine ite2 (fun hi => ?_) (fun hi => ?_)
    · refine ⟨_, rfl, v, .ty "bool", _, _, _, rfl, .ty "bool", ty.x, kit_bool ty.mem, _, rfl, ?_⟩
      have e : (!(t == "bool")) = (t == "int") := by cases ty <;> first | rfl | exact absurd hi (by decide)
      show Q (.bl (!(t == "bool"))) H
      rw [e]
      exact k
    · have e : false = (t == "int") := by cases ty <;> first | rfl | exact absurd rfl hi
      show Q (.bl false) H
      rw [e]
      exact k
theorem scCd : FnScope ["a", "b"] ["a", "b"] (defScope sCd) := ⟨rfl, rfl, rfl, by decide +kernel, rfl, by decide +kernel, by decide +kernel⟩
theorem ok_cd (F : Fun K "common_divisor" "common_divisor" sCd f fd) : FnOk P w K mg base CX0 1 f fd ["a", "b"] spCd := by
  refine F.ok scCd (fun vs H Q E h => ?_) (fun cdv A outer s H vs Q E hr h => ?_)
  · obtain ⟨a, b, rfl, _⟩ := h
    rfl
  · obtain ⟨a, b, rfl, ha, hb, k⟩ := h
    refine ⟨_, pss_cons (ps_while PassesOwn.never (pt_cmpR op_ne (pv 1) pe_int (nomark _)) (pss_one (ps_par (i := 0) (j := 1) (by rfl) scCd.nd rfl rfl (by decide) rfl rfl (pa_cons (pv 1) (pa_cons (pe_op op_mod (pv 0) (pv 1)) pa_nil)) (by rfl))))
      (pss_one (ps_ret (pv 0))), ?_⟩
    refine ⟨fun m σ H' => ∃ a' b' : Int, σ = [some (.int a'), some (.int b')] ∧ 0 ≤ a' ∧ 0 ≤ b' ∧ b'.toNat = m ∧ gd a' b' = gd a b ∧ H' = H, ⟨_, a, b, rfl, ha, hb, rfl, rfl, rfl⟩, ?_⟩
    rintro m σ H' ⟨a', b', rfl, ha', hb', rfl, e, rfl⟩
    refine ⟨_, rfl, rfl, _, rfl, ?_⟩
    rw [show (decide (V.int b' = V.int 0)) = decide (b' = 0) from dec_int.trans (by rw [Bool.eq_iff_iff]; simp)]
    by_cases z : b' = 0
    · rw [decide_eq_true z]
      refine iteF ⟨_, rfl, ?_⟩
      rw [← e, z, gd_zero ha'] at k
      exact k
    · rw [decide_eq_false z]
      have pb : 0 < b' := by omega
      refine iteT ⟨fun σ' H'' => ∃ a2 b2 : Int, σ' = [some (.int a2), some (.int b2)] ∧ 0 ≤ a2 ∧ 0 ≤ b2 ∧ b2.toNat < b'.toNat ∧ gd a2 b2 = gd a b ∧ H'' = H', ?_, ?_⟩
      · rintro σ' H'' ⟨a2, b2, h1, h2, h3, h4, h5, h6⟩
        exact ⟨_, h4, a2, b2, h1, h2, h3, rfl, h5, h6⟩
      · refine ⟨_, rfl, _, rfl, _, rfl, _, _, rfl, rfl, pb, _, _, rfl, b', a' % b', rfl, hb', Int.emod_nonneg _ (by omega), ?_, ?_, rfl⟩
        · have := Int.emod_lt_of_pos a' pb
          have := Int.emod_nonneg a' (by omega : b' ≠ 0)
          omega
        · rw [gd_step ha' pb]
          exact e
theorem scIsR : FnScope ["value", "n", "d"] ["value"] (defScope sIsR) := ⟨rfl, rfl, rfl, by decide +kernel, rfl, by decide +kernel, by decide +kernel⟩
theorem ok_isr {fW fC : Addr} {fdW fdC : FuncData} (F : Fun K "is_rational" "is_rational" sIsR f fd) (T : Bt mg) (GW : FnOk P w K mg base CX0 1 fW fdW ["value"] spWhole) (mW : mg "is_whole" = some (.ref fW)) (kW : PySem.W.keepIn K (.ref fW) = true) (bW : Binds K fdW ["value"] [])
    (GC : FnOk P w K mg base CX0 1 fC fdC ["a", "b"] spCd) (mC : mg "common_divisor" = some (.ref fC)) (kC : PySem.W.keepIn K (.ref fC) = true) (bC : Binds K fdC ["a", "b"] []) : FnOk P w K mg base CX0 2 f fd ["value"] spIsR := by
  refine F.ok scIsR (fun vs H Q E h => ?_) (fun cdv A outer s H vs Q E hr h => ?_)
  · obtain ⟨v, b, rfl, _⟩ := h
    rfl
  · obtain ⟨v, b, rfl, hk, k⟩ := h
    refine ⟨_, pss_cons (ps_if (PW.pt (pw_or (pt_not (pt_val (pe_callB call_isi (by rfl) T.isi boot_isinstance (pa_cons (pv 0) (pa_cons (pe_bltn (v := .ty "tuple") (by rfl) T.tuple boot_tuple rfl) pa_nil)))))
        (pw_or1 (pt_cmpR op_ne (pe_callB call_len_seq (by rfl) T.len PySem.boot_len (pa_cons (pv 0) pa_nil)) pe_int (nomark _))))) (pss_one (ps_ret pe_bl)) pss_nil)
      (pss_cons (ps_asg (pv 0) (pg_tup rfl (pgs_cons (pg_name (i := 1) scIsR.nd rfl (.inl rfl)) (pgs_cons (pg_name (i := 2) scIsR.nd rfl (.inl rfl)) pgs_nil))))
      (pss_cons (ps_if (PW.pt (pw_or (pt_not (pt_val (pe_call GW hr (by rfl) mW kW bW .nil pass0 (pa_cons (pv 1) pa_nil)))) (pw_or (pt_not (pt_val (pe_call GW hr (by rfl) mW kW bW .nil pass0 (pa_cons (pv 2) pa_nil))))
        (pw_or1 (pt_cmpR op_lt (pv 2) pe_int (nomark _)))))) (pss_one (ps_ret pe_bl)) pss_nil)
      (pss_one (ps_ret (pe_cmpR op_eq (pe_call GC hr (by rfl) mC kC bC .nil pass0 (pa_cons (pe_callB call_abs (by rfl) T.abs boot_abs (pa_cons (pv 1) pa_nil)) (pa_cons (pv 2) pa_nil))) pe_int (nomark _)))))), ?_⟩
    cases hk with
    | @other _ t ty n =>
      refine ⟨_, rfl, v, .ty "tuple", _, _, _, rfl, .ty "tuple", ty.x, kit_tuple ty.mem, _, rfl, ?_⟩
      have e : (t == "tuple") = false := by simpa using n
      rw [e]
      exact iteT (iteT k)
    | @len a xs e n =>
      refine ⟨_, rfl, .ref a, .ty "tuple", _, _, _, rfl, .ty "tuple", (TyN.tup e).x, kit_tuple (by decide), _, rfl, ?_⟩
      refine iteF ⟨_, rfl, a, xs, rfl, .inr (SqT.of e), rfl, _, rfl, ?_⟩
      have z : decide (V.int (xs.length : Int) = V.int 2) = false := decide_eq_false (fun q => n (by injection q with q; omega))
      rw [z]
      exact iteT k
    | @pair a x y tx ty e hx hy =>
      refine ⟨_, rfl, .ref a, .ty "tuple", _, _, _, rfl, .ty "tuple", (TyN.tup e).x, kit_tuple (by decide), _, rfl, ?_⟩
      refine iteF ⟨_, rfl, a, _, rfl, .inr (SqT.of e), rfl, _, rfl, ?_⟩
      refine iteF ?_
      refine ⟨_, rfl, a, _, rfl, SqT.of e, rfl, _, _, rfl, _, _, rfl, rfl, ?_⟩
      refine ⟨_, rfl, x, tx, rfl, hx, _, rfl, ?_⟩
      by_cases ix : tx = "int"
      · obtain ⟨n, rfl⟩ := hx.isInt ix
        subst ix
        · refine iteF ⟨_, rfl, y, ty, rfl, hy, _, rfl, ?_⟩
          by_cases iy : ty = "int"
          · obtain ⟨d, rfl⟩ := hy.isInt iy
            subst iy
            · refine iteF ⟨_, rfl, _, _, rfl, rfl, _, rfl, ?_⟩
              by_cases hd : d < 1
              · rw [decide_eq_true hd]
                have z : ratB (.int n) (.int d) = false := by
                  show (decide (0 < d) && _) = false
                  rw [decide_eq_false (by omega : ¬ 0 < d)]
                  rfl
                rw [z] at k
                exact iteT k
              · rw [decide_eq_false hd]
                refine iteF ?_
                refine ⟨_, rfl, n, rfl, _, rfl, _, d, rfl, by split <;> omega, by omega, rfl, ?_⟩
                have z : ratB (.int n) (.int d) = decide (V.int (gd (if n < 0 then -n else n) d) = V.int 1) := by
                  show (decide (0 < d) && decide (gd n d = 1)) = _
                  rw [decide_eq_true (by omega : 0 < d), gd_abs]
                  rw [Bool.eq_iff_iff]
                  simp
                rw [z] at k
                exact k
          · have z : (ty == "int") = false := by simpa using iy
            have z2 : ratB (.int n) y = false := by
              cases hy <;> first | rfl | exact absurd rfl iy
            rw [z2] at k
            rw [z]
            exact iteT (iteT k)
      · have z : (tx == "int") = false := by simpa using ix
        have z2 : ratB x y = false := by
          cases hx <;> first | rfl | exact absurd rfl ix
        rw [z2] at k
        rw [z]
        exact iteT (iteT k)
end
abbrev sTape : Stmt := top 66
section
variable {P : Program} {w : World} {K : PySem.W.Frag} {mg : Str → Option Value} {base : Heap} {f : Addr} {fd : FuncData}
theorem scTape : FnScope ["_law_script"] ["_law_script"] (defScope sTape) := ⟨rfl, rfl, rfl, by decide +kernel, rfl, by decide +kernel, by decide +kernel⟩
theorem ok_tape (F : Fun K "_law_tape" "_law_tape" sTape f fd) (T : Bt mg) : FnOk P w K mg base CX0 1 f fd ["_law_script"] (spTape K) := by
  refine F.ok scTape (fun vs H Q E h => ?_) (fun cdv A outer s H vs Q E hr h => ?_)
  · obtain ⟨a, ns, rfl, _⟩ := h
    rfl
  · obtain ⟨a, ns, rfl, hS, k⟩ := h
    refine ⟨_, pss_one (ps_ret (pe_lst (pa_cons (pe_callTy call_list_of (by rfl) T.list boot_list (pa_cons (pe_slice sl_list (pv 0) po_none (po_some pe_int)) pa_nil)) (pa_cons pe_int (pa_cons pe_int (pa_cons pe_int pa_nil)))))), ?_⟩
    obtain ⟨ms, e⟩ := cut_ints ns none (some 63)
    refine ⟨_, rfl, _, rfl, a, _, rfl, hS, fun p hp => ⟨p, _, rfl, .inl (SqL.of upd_same), fun l hl => ⟨by show 4 ≤ sizeLine; decide, fun t ht => ?_⟩⟩⟩
    have s1 : Same H (upd H p (.lst (cutV (ns.map V.int) none (some 63)))) := Same.upd hp
    have s2 := Same.upd (o := .lst (cutV (ns.map V.int) none (some 63))) hl
    have s3 := Same.upd (o := .lst [.ref l, .int 0, .int 0, .int 17]) ht
    refine k t _ ((s1.trans s2).trans s3) ((s1.trans s2).free ht) ⟨l, ms, 0, 0, 17, upd_same, ?_, by decide, by decide, by decide, by decide⟩
    rw [← e]
    exact s3 _ _ upd_same
end
abbrev sDraw : Stmt := top 67
section
variable {P : Program} {w : World} {K : PySem.W.Frag} {mg : Str → Option Value} {base : Heap} {f : Addr} {fd : FuncData}
theorem scDraw : FnScope ["_law_tape_here", "_law_many", "_law_digit", "_law_cell", "_law_near"] ["_law_tape_here", "_law_many"] (defScope sDraw) := ⟨rfl, rfl, rfl, by decide +kernel, rfl, by decide +kernel, by decide +kernel⟩
theorem ok_draw (F : Fun K "_law_draw" "_law_draw" sDraw f fd) (T : Bt mg) : FnOk P w K mg base CX0 1 f fd ["_law_tape_here", "_law_many"] spDrawL := by
  refine F.ok scDraw (fun vs H Q E h => ?_) (fun cdv A outer s H vs Q E hr h => ?_)
  · obtain ⟨t, l, m, rfl, _⟩ := h
    rfl
  · obtain ⟨t, l, m, rfl, ⟨ns, pos, rest, mix, ht, hl, p0, r0, m0, m1⟩, hm, hm2, k⟩ := h
    refine ⟨_, pss_cons (ps_if (pt_cmpR op_gt (pe_ix ix_list (pv 0) pe_int (fun _ _ => rfl)) pe_int (nomark _))
        (pss_cons (ps_set (i := 2) scDraw.nd rfl (Or.inl rfl) (pe_op op_mod (pe_ix ix_list (pv 0) pe_int (fun _ _ => rfl)) (pv 1)))
        (pss_cons (ps_asg (pe_op op_fdivW (pe_ix ix_list (pv 0) pe_int (fun _ _ => rfl)) (pv 1)) (pg_sub (pv 0) pe_int set_list)) (pss_one (ps_ret (pv 2))))) pss_nil)
      (pss_cons (ps_set (i := 3) scDraw.nd rfl (Or.inl rfl) pe_int)
      (Evl.pss_cut (ps_if (pt_cmpR op_lt (pe_ix ix_list (pv 0) pe_int (fun _ _ => rfl)) (pe_callB call_len_seq (by rfl) T.len PySem.boot_len (pa_cons (pe_ix ix_list (pv 0) pe_int (fun _ _ => rfl)) pa_nil)) (nomark _))
        (pss_one (ps_set (i := 3) scDraw.nd rfl (Or.inl rfl) (pe_ix ix_list (pe_ix ix_list (pv 0) pe_int (fun _ _ => rfl)) (pe_ix ix_list (pv 0) pe_int (fun _ _ => rfl)) (fun _ _ => rfl)))) pss_nil)
      (pss_cons (ps_asg (pe_op op_add (pe_ix ix_list (pv 0) pe_int (fun _ _ => rfl)) pe_int) (pg_sub (pv 0) pe_int set_list))
      (pss_cons (ps_if (pt_cmpR op_ge (pv 3) (pe_op op_pow pe_int pe_int) (nomark _))
        (pss_cons (ps_asg (pe_op op_fdivW (pv 3) (pv 1)) (pg_sub (pv 0) pe_int set_list)) (pss_one (ps_ret (pe_op op_mod (pv 3) (pv 1))))) pss_nil)
      (pss_cons (ps_set (i := 4) scDraw.nd rfl (Or.inl rfl) (pe_op op_add (pe_op op_add (pe_op op_mod (pv 3) pe_int) (pe_op op_mul pe_int (pe_ix ix_list (pv 0) pe_int (fun _ _ => rfl)))) pe_int))
      (pss_cons (ps_asg (pe_op op_mod (pe_op op_add (pe_op op_mul (pe_ix ix_list (pv 0) pe_int (fun _ _ => rfl)) pe_int) (pv 4)) pe_int) (pg_sub (pv 0) pe_int set_list))
      (pss_one (ps_ret (pe_op op_mod (pe_op op_mod (pe_op op_pow (pe_ix ix_list (pv 0) pe_int (fun _ _ => rfl)) pe_int) pe_int) (pv 1)))))))))), ?_⟩
    have nl := tape_ne ht hl
    have dv : ∀ c : Int, CDivW c m := fun c => ⟨hm, log_lt' hm2⟩
    have M0 : (0 : Int) < 2147483647 := by decide
    refine ⟨_, rfl, t, _, _, _, rfl, rfl, SqL.of ht, rfl, _, _, rfl, rfl, _, rfl, ?_⟩
    refine ite2 (fun z => ?_) (fun z => ?_)
    · have z' : 0 < rest := of_decide_eq_true z
      refine ⟨_, rfl, t, _, _, _, rfl, rfl, SqL.of ht, rfl, _, rfl, _, _, rfl, rfl, hm, ?_⟩
      refine ⟨_, rfl, t, _, _, _, rfl, rfl, SqL.of ht, rfl, _, rfl, _, _, rfl, rfl, dv _, _, rfl, t, _, _, 2, rfl, rfl, ht, rfl, ?_⟩
      refine ⟨_, rfl, ?_⟩
      refine k _ _ (Int.emod_nonneg _ (by omega)) (Int.emod_lt_of_pos _ hm) ⟨ns, pos, rest / m, mix, upd_same, by rw [upd_ne nl]; exact hl, p0, Int.ediv_nonneg r0 (by omega), m0, m1⟩ SameB.upd
    · refine ⟨fun σ' H' => ∃ c : Int, σ' = [some (.ref t), some (.int m), none, some (.int c), none] ∧ H' = H, ?_, ?_⟩
      · refine ⟨_, rfl, t, _, _, _, rfl, rfl, SqL.of ht, rfl, _, rfl, t, _, _, _, rfl, rfl, SqL.of ht, rfl, l, _, rfl, .inl (SqL.of hl), _, _, rfl, rfl, _, rfl, ?_⟩
        refine ite2 (fun y => ?_) (fun y => ?_)
        · have y' : pos < ((ns.map V.int).length : Int) := of_decide_eq_true y
          rw [List.length_map] at y'
          have g : (ns.map V.int)[pos.toNat]? = some (.int (ns[pos.toNat]'(by omega))) := by
            rw [List.getElem?_map, List.getElem?_eq_getElem (by omega : pos.toNat < ns.length)]
            rfl
          exact ⟨_, rfl, t, _, _, _, rfl, rfl, SqL.of ht, rfl, _, rfl, t, _, _, _, rfl, rfl, SqL.of ht, rfl, l, _, _, _, rfl, rfl, SqL.of hl, at_of (by omega) g, _, rfl, rfl⟩
        · exact ⟨0, rfl, rfl⟩
      · rintro σ' H' ⟨c, rfl, rfl⟩
        refine ⟨_, rfl, t, _, _, _, rfl, rfl, SqL.of ht, rfl, _, _, rfl, rfl, _, rfl, t, _, _, 1, rfl, rfl, ht, rfl, ?_⟩
        refine ⟨_, rfl, _, _, rfl, rfl, ⟨by decide, by decide, by decide⟩, _, _, rfl, rfl, _, rfl, ?_⟩
        refine ite2 (fun y => ?_) (fun y => ?_)
        · have y' : (10 : Int) ^ (18 : Int).toNat ≤ c := of_decide_eq_true y
          have c0 : 0 ≤ c := Int.le_trans (by decide) y'
          refine ⟨_, rfl, _, rfl, _, _, rfl, rfl, dv _, _, rfl, t, _, _, 2, rfl, rfl, upd_same, rfl, ?_⟩
          refine ⟨_, rfl, _, rfl, _, _, rfl, rfl, hm, ?_⟩
          exact k _ _ (Int.emod_nonneg _ (by omega)) (Int.emod_lt_of_pos _ hm) ⟨ns, pos + 1, c / m, mix, upd_same, by rw [upd_ne nl, upd_ne nl]; exact hl, by omega, Int.ediv_nonneg c0 (by omega), m0, m1⟩ (SameB.upd.trans SameB.upd)
        · refine ⟨_, rfl, _, _, rfl, rfl, M0, _, rfl, t, _, _, _, rfl, rfl, SqL.of upd_same, rfl, _, _, rfl, rfl, .inl ⟨by decide, by decide⟩, _, _, rfl, rfl, _, _, rfl, rfl, ?_⟩
          refine ⟨_, rfl, t, _, _, _, rfl, rfl, SqL.of upd_same, rfl, _, _, rfl, rfl, .inl ⟨by omega, by omega⟩, _, rfl, _, _, rfl, rfl, _, _, rfl, rfl, M0, _, rfl, t, _, _, 3, rfl, rfl, upd_same, rfl, ?_⟩
          have q0 := Int.emod_nonneg (mix * 48271 + (c % 2147483647 + 7919 * (pos + 1) + 11)) (by decide : (2147483647 : Int) ≠ 0)
          have q1 := Int.emod_lt_of_pos (mix * 48271 + (c % 2147483647 + 7919 * (pos + 1) + 11)) M0
          refine ⟨_, rfl, t, _, _, _, rfl, rfl, SqL.of upd_same, rfl, _, _, rfl, rfl, ⟨by decide, by decide, ?_⟩, _, _, rfl, rfl, M0, _, rfl, _, _, rfl, rfl, hm, ?_⟩
          · omega
          · exact k _ _ (Int.emod_nonneg _ (by omega)) (Int.emod_lt_of_pos _ hm) ⟨ns, pos + 1, rest, _, upd_same, by rw [upd_ne nl, upd_ne nl]; exact hl, by omega, r0, q0, q1⟩ (SameB.upd.trans SameB.upd)
end
abbrev sName : Stmt := top 12
section
variable {P : Program} {w : World} {K : PySem.W.Frag} {mg : Str → Option Value} {base : Heap} {f : Addr} {fd : FuncData} {u1 u2 : Tok} {u3 : Tok}
theorem scName : FnScope ["value", "sign"] ["value"] (defScope sName) := ⟨rfl, rfl, rfl, by decide +kernel, rfl, by decide +kernel, by decide +kernel⟩
theorem ok_name (F : Fun K "is_name" "is_name" sName f fd) (T : Bt mg) (m1 : mg "LETTERS" = some (.str letters u1)) (m2 : mg "NAME_SIGNS" = some (.str signs u2)) (m3 : mg "LONGEST_NAME" = some (.int 12 u3)) : FnOk P w K mg base CX0 1 f fd ["value"] spName := by
  refine F.ok scName (fun vs H Q E h => ?_) (fun cdv A outer s H vs Q E hr h => ?_)
  · obtain ⟨v, t, rfl, _⟩ := h
    rfl
  · obtain ⟨v, t, rfl, ty, hl, k⟩ := h
    refine ⟨_, pss_cons (ps_if (PW.pt (pw_or (pt_not (pt_val (pe_callB call_isi (by rfl) T.isi boot_isinstance (pa_cons (pv 0) (pa_cons (pe_bltn (v := .ty "str") (by rfl) T.str boot_str rfl) pa_nil))))) (pw_or (pt_cmpR op_eq (pv 0) pe_str (nomark _))
        (pw_or1 (pt_cmpR op_gt (pe_callB call_len_str (by rfl) T.len PySem.boot_len (pa_cons (pv 0) pa_nil)) (pe_glob (v := .int 12) (by rfl) m3 ⟨_, rfl⟩) (nomark _)))))) (pss_one (ps_ret pe_bl)) pss_nil)
      (pss_one (ps_ret (pe_and (pe_cmpR op_in_sign (pe_ix ix_str (pv 0) pe_int (fun _ _ => rfl)) (pe_glob (v := .str letters) (by rfl) m1 ⟨_, rfl⟩) (by rfl))
        (pe_one (pe_callB (cr_all rfl) (by rfl) T.all (by decide +kernel) (pa_cons (pe_lc (own := [("sign", 1)]) (g := gName 1) (tt := tYes) (te := tOp rInS (tVar 1) (tC (.str signs))) (by rfl) scName.nd (pi_str (pv 0)) (blkOk_by (own := [("sign", 1)]) (N := ["value", "sign"]) (sc := defScope sName) (by decide +kernel))
          (fun _ _ _ _ _ => pg_name (i := 1) scName.nd rfl (Or.inl rfl)) (fun _ _ _ _ _ => pts_nil) (fun _ _ _ _ _ => pe_cmpR op_in_sign (pv 1) (pe_glob (v := .str signs) (by rfl) m2 ⟨_, rfl⟩) (by rfl))) pa_nil)))))), ?_⟩
    refine ⟨_, rfl, v, .ty "str", _, _, _, rfl, .ty "str", ty.x, kit_str ty.mem, _, rfl, ?_⟩
    by_cases ts : t = "str"
    · obtain ⟨x, rfl⟩ := ty.isStr ts
      subst ts
      have hx := hl x rfl
      refine iteF ⟨_, rfl, rfl, _, rfl, ?_⟩
      rw [dec_empty]
      cases e : x.cps.toList with
      | nil =>
        rw [decide_eq_true rfl]
        have k0 := k H (Same.refl H)
        rw [name_nil e] at k0
        exact iteT (iteT k0)
      | cons c r =>
        rw [decide_eq_false (by simp)]
        refine iteF ⟨_, rfl, x, rfl, hx, _, _, rfl, rfl, _, rfl, ?_⟩
        rw [lenL x]
        by_cases l12 : x.cps.toList.length ≤ 12
        · rw [decide_eq_false (by omega)]
          refine iteF ?_
          have ni := name_is e l12
          refine ⟨_, rfl, x, 0, c, rfl, rfl, hx, (show atI x.cps.toList ((0 : Nat) : Int) = some c from atI_nat (by rw [e]; rfl)), c, letters, rfl, rfl, _, rfl, ?_⟩
          show if inL c = true then _ else _
          refine ite2 (fun z => ?_) (fun z => ?_)
          · refine ⟨_, rfl, x, rfl, fun D hD => lc_it walk_str (fun i H' => H' = upd H D (.lst ((x.cps.toList.take i).map fun c => .bl (inS c)))) rfl (fun _ _ _ _ => True.intro) ?_ ?_⟩
            · rintro i y H' H'' hi rfl ⟨rfl, c', hc', rfl⟩
              refine ⟨rfl, ?_⟩
              change tOp rInS (tVar 1) (tC (.str signs)) _ _ _
              refine ⟨_, rfl, c', signs, rfl, rfl, _, upd_same, ?_, ?_⟩
              · rw [List.length_map, List.length_take]
                exact Nat.lt_of_le_of_lt (Nat.min_le_right _ _) (Nat.lt_of_le_of_lt l12 (by decide))
              · rw [upd_upd]
                exact congrArg (fun z => upd H D (.lst z)) (grow hc' inS)
            · rintro H' rfl
              have ez : x.cps.size = x.cps.toList.length := by simp
              refine ⟨D, x.cps.toList.map inS, rfl, SqL.of (by rw [upd_same, ez, List.take_length, List.map_map]; rfl), ?_⟩
              have k1 := k _ (Same.upd (o := .lst ((x.cps.toList.take x.cps.size).map fun c => .bl (inS c))) hD)
              rw [ni, z, ← e] at k1
              rw [List.all_map]
              exact k1
          · have k0 := k H (Same.refl H)
            rw [ni, show inL c = false by simpa using z] at k0
            exact k0
        · rw [decide_eq_true (by omega)]
          have k0 := k H (Same.refl H)
          rw [name_long l12] at k0
          exact iteT k0
    · have z : (t == "str") = false := by simpa using ts
      rw [z]
      have k0 := k H (Same.refl H)
      have nb : nameB v = false := by cases ty <;> first | rfl | exact absurd rfl ts
      rw [nb] at k0
      exact iteT (iteT k0)
end
end K79
set_option Elab.async false
set_option linter.all false
set_option maxRecDepth 100000
set_option maxHeartbeats 4000000
namespace K79
open PySem PySem.Spec PyProof.Rows L2 Lc
def KindS (k : Str) : Prop := k = "number" ∨ k = "word" ∨ k = "flag"
theorem KindS.sh {k : Str} (h : KindS k) : Sh 100 k := by
  rcases h with rfl | rfl | rfl <;> exact ⟨by decide +kernel, by decide +kernel⟩
inductive Vk : Str → PyData → Prop
  | non (k : Str) : Vk k .none
  | num {n d : Int} (h : Rt n d) (h1 : n.natAbs ≤ 10000000000000000000000000000000000000000) (h2 : d.natAbs ≤ 10000000000000000000000000000000000000000) : Vk "number" (.tuple [.int n, .int d])
  | flag (b : Bool) : Vk "flag" (.bool b)
  | word {x : Str} (h : Sh 12 x) (hn : nameB (.str x) = true) : Vk "word" (.str x)
inductive Vks : List Str → List PyData → Prop
  | nil : Vks [] []
  | cons {k : Str} {d : PyData} {ks : List Str} {ds : List PyData} (h : Vk k d) (r : Vks ks ds) : Vks (k :: ks) (d :: ds)
theorem Vks.app {k : Str} {d : PyData} (h : Vk k d) : ∀ {ks : List Str} {ds : List PyData}, Vks ks ds → Vks (ks ++ [k]) (ds ++ [d])
  | _, _, .nil => .cons h .nil
  | _, _, .cons a r => .cons a (Vks.app h r)
theorem Vks.len : ∀ {ks : List Str} {ds : List PyData}, Vks ks ds → ks.length = ds.length
  | _, _, .nil => rfl
  | _, _, .cons _ r => by rw [List.length_cons, List.length_cons, Vks.len r]
/-- v is d, all its parts are new since H -/
def DhF (H H' : Hp) (v : V) (d : PyData) : Prop := ∀ H2 : Hp, (∀ b o, H b = none → H' b = some o → H2 b = some o) → Dh H2 v d
theorem DhF.now {H H' : Hp} {v : V} {d : PyData} (h : DhF H H' v d) : Dh H' v d := h H' fun _ _ _ e => e
end K79
set_option Elab.async false
set_option linter.all false
set_option maxRecDepth 100000
set_option maxHeartbeats 4000000
namespace K79
open PySem PySem.Spec PyProof.Rows L2 Lc
/-- words over one and over two operands: the operands' kind, the result's -/
def OneW (w k r : Str) : Prop := (w = "not" ∧ k = "flag" ∧ r = "flag") ∨ (w = "missing" ∧ KindS k ∧ r = "flag")
def TwoW (w k r : Str) : Prop := ((w = "plus" ∨ w = "minus" ∨ w = "times" ∨ w = "over") ∧ k = "number" ∧ r = "number") ∨ (w = "less" ∧ k = "number" ∧ r = "flag") ∨ (w = "same" ∧ KindS k ∧ r = "flag") ∨ ((w = "both" ∨ w = "either") ∧ k = "flag" ∧ r = "flag")
/-- valid expressions of a kind over the columns ps, at most n deep -/
inductive Xp (ps : List (Str × Str)) : Nat → Str → PyData → Prop
  | col {n : Nat} {z k : Str} (h : (z, k) ∈ ps) : Xp ps (n + 1) k (.tuple [.str "column", .str z])
  | val {n : Nat} {k : Str} {d : PyData} (h : Vk k d) (nn : d ≠ .none) : Xp ps (n + 1) k (.tuple [.str "value", d])
  | one {n : Nat} {w k r : Str} {a : PyData} (hw : OneW w k r) (ha : Xp ps n k a) : Xp ps (n + 1) r (.tuple [.str w, a])
  | two {n : Nat} {w k r : Str} {a b : PyData} (hw : TwoW w k r) (ha : Xp ps n k a) (hb : Xp ps n k b) : Xp ps (n + 1) r (.tuple [.str w, a, b])
  | iff {n : Nat} {k : Str} {a b c : PyData} (ha : Xp ps n "flag" a) (hb : Xp ps n k b) (hc : Xp ps n k c) : Xp ps (n + 1) k (.tuple [.str "if", a, b, c])
theorem Xp.mono {ps : List (Str × Str)} {n : Nat} {k : Str} {d : PyData} (h : Xp ps n k d) : ∀ {m : Nat}, n ≤ m → Xp ps m k d := by
  induction h with
  | col h => intro m l; obtain ⟨j, rfl⟩ : ∃ j, m = j + 1 := ⟨m - 1, by omega⟩; exact .col h
  | val h nn => intro m l; obtain ⟨j, rfl⟩ : ∃ j, m = j + 1 := ⟨m - 1, by omega⟩; exact .val h nn
  | one hw _ ia => intro m l; obtain ⟨j, rfl⟩ : ∃ j, m = j + 1 := ⟨m - 1, by omega⟩; exact .one hw (ia (by omega))
  | two hw _ _ ia ib => intro m l; obtain ⟨j, rfl⟩ : ∃ j, m = j + 1 := ⟨m - 1, by omega⟩; exact .two hw (ia (by omega)) (ib (by omega))
  | iff _ _ _ ia ib ic => intro m l; obtain ⟨j, rfl⟩ : ∃ j, m = j + 1 := ⟨m - 1, by omega⟩; exact .iff (ia (by omega)) (ib (by omega)) (ic (by omega))
mutual
def dpt : PyData → Nat
  | .tuple ds => dpw ds
  | _ => 0
def dpw : List PyData → Nat
  | .str w :: r => if w = ("column" : Str) ∨ w = ("value" : Str) then 1 else 1 + dpts r
  | _ => 0
def dpts : List PyData → Nat
  | [] => 0
  | d :: r => max (dpt d) (dpts r)
end
theorem dpt_leaf {w : Str} {r : List PyData} (h : w = "column" ∨ w = "value") : dpt (.tuple (.str w :: r)) = 1 := by rw [dpt, dpw, if_pos h]
theorem dpt_op {w : Str} {r : List PyData} (h : ¬ (w = "column" ∨ w = "value")) : dpt (.tuple (.str w :: r)) = 1 + dpts r := by rw [dpt, dpw, if_neg h]
theorem dpts_max : ∀ {ds : List PyData} {m : Nat}, 0 < ds.length → (∃ d ∈ ds, dpt d = m) → (∀ d ∈ ds, dpt d ≤ m) → dpts ds = m
  | [], _, h, _, _ => absurd h (by decide)
  | [d], m, _, ⟨x, hx, e⟩, _ => by
    rw [List.mem_singleton.mp hx] at e
    rw [dpts, dpts, e]
    omega
  | d :: a :: r, m, _, ⟨x, hx, e⟩, hm => by
    have up : dpts (a :: r) ≤ m := by
      have key : ∀ l : List PyData, (∀ d ∈ l, dpt d ≤ m) → dpts l ≤ m := fun l => by
        induction l with
        | nil => intro _; rw [dpts]; omega
        | cons y l ih => intro h; rw [dpts]; have := h y List.mem_cons_self; have := ih (fun d hd => h d (List.mem_cons_of_mem _ hd)); omega
      exact key _ fun d hd => hm d (List.mem_cons_of_mem _ hd)
    have d0 := hm d List.mem_cons_self
    rw [dpts]
    rcases List.mem_cons.mp hx with rfl | hx
    · omega
    · have low : ∀ l : List PyData, x ∈ l → dpt x ≤ dpts l := fun l => by
        induction l with
        | nil => intro h; cases h
        | cons y l ih =>
          intro h
          rw [dpts]
          rcases List.mem_cons.mp h with rfl | h
          · omega
          · have := ih h; omega
      have := low _ hx
      omega
theorem w_leaf {w : Str} (h : w = "not" ∨ w = "missing" ∨ w = "plus" ∨ w = "minus" ∨ w = "times" ∨ w = "over" ∨ w = "less" ∨ w = "same" ∨ w = "both" ∨ w = "either" ∨ w = "if") : ¬ (w = "column" ∨ w = "value") := by
  rcases h with rfl | rfl | rfl | rfl | rfl | rfl | rfl | rfl | rfl | rfl | rfl <;> decide +kernel
theorem OneW.no {w k r : Str} (h : OneW w k r) : ¬ (w = "column" ∨ w = "value") := by
  rcases h with ⟨rfl, _⟩ | ⟨rfl, _⟩ <;> decide +kernel
theorem TwoW.no {w k r : Str} (h : TwoW w k r) : ¬ (w = "column" ∨ w = "value") := by
  rcases h with ⟨rfl | rfl | rfl | rfl, _⟩ | ⟨rfl, _⟩ | ⟨rfl, _⟩ | ⟨rfl | rfl, _⟩ <;> decide +kernel
/-- an expression: a leaf, or a word and its operands -/
theorem Xp.ops {ps : List (Str × Str)} {n : Nat} {k : Str} {d : PyData} (h : Xp ps (n + 1) k d) : (∃ (w : Str) (x : PyData), (w = "column" ∨ w = "value") ∧ d = .tuple [.str w, x]) ∨ ∃ (w : Str) (os : List PyData), ¬ (w = ("column" : Str) ∨ w = ("value" : Str)) ∧ d = .tuple (.str w :: os) ∧ 0 < os.length ∧ os.length ≤ 3 ∧ ∀ o ∈ os, ∃ k', Xp ps n k' o := by
  cases h with
  | col h => exact .inl ⟨_, _, .inl rfl, rfl⟩
  | val h _ => exact .inl ⟨_, _, .inr rfl, rfl⟩
  | one hw ha => exact .inr ⟨_, _, hw.no, rfl, by simp, by simp, fun o ho => by rw [List.mem_singleton.mp ho]; exact ⟨_, ha⟩⟩
  | two hw ha hb => exact .inr ⟨_, _, hw.no, rfl, by simp, by simp, fun o ho => by simp only [List.mem_cons, List.not_mem_nil, or_false] at ho; rcases ho with rfl | rfl; exact ⟨_, ha⟩; exact ⟨_, hb⟩⟩
  | iff ha hb hc => exact .inr ⟨_, _, by decide +kernel, rfl, by simp, by simp, fun o ho => by simp only [List.mem_cons, List.not_mem_nil, or_false] at ho; rcases ho with rfl | rfl | rfl; exact ⟨_, ha⟩; exact ⟨_, hb⟩; exact ⟨_, hc⟩⟩
theorem Xp.zero {ps : List (Str × Str)} {k : Str} {d : PyData} (h : Xp ps 0 k d) : False := nomatch h
theorem cut_tail {x : V} {ys : List V} : cutV (x :: ys) (some 1) none = ys := by
  unfold cutV
  simp [HT.sIx]
theorem tail_not {x : V} {ys : List V} : ¬ (HT.sIx (x :: ys).length 0 (some 1) = 0 ∧ HT.sIx (x :: ys).length (x :: ys).length none = (x :: ys).length) := by
  rintro ⟨z, _⟩
  have : HT.sIx (x :: ys).length 0 (some ((1 : Nat) : Int)) = min 1 (x :: ys).length := HT.sIx_nat _ _ _
  have z' : HT.sIx (x :: ys).length 0 (some ((1 : Nat) : Int)) = 0 := z
  rw [List.length_cons] at *
  omega
theorem at_zero {x : V} {ys : List V} : atI (x :: ys) (0 : Int) = some x := (show atI (x :: ys) ((0 : Nat) : Int) = some x from atI_nat rfl)
def KdP (kvs : List (Key × V)) (ps : List (Str × Str)) : Prop := ∀ z k, (z, k) ∈ ps → valV kvs (Sum.inr z : Key) = some (.str k)
def LeafD (ps : List (Str × Str)) (w : Str) (dx : PyData) (k : Str) : Prop := (w = "column" ∧ ∃ z, dx = .str z ∧ (z, k) ∈ ps) ∨ (w = "value" ∧ Vk k dx ∧ dx ≠ .none ∧ KindS k)
/-- the operands' kinds that a word wants -/
def opsV (w : Str) : Option (List V) :=
  if w = "plus" ∨ w = "minus" ∨ w = "times" ∨ w = "over" ∨ w = "less" then some [.str "number", .str "number"] else if w = "same" then some [.non, .non] else if w = "both" ∨ w = "either" then some [.str "flag", .str "flag"] else if w = "not" then some [.str "flag"] else if w = "missing" then some [.non] else if w = "if" then some [.str "flag", .non, .non] else none
/-- a word, its operands' kinds, the kind of the whole -/
inductive OpK : Str → List Str → Str → Prop
  | one {w k r : Str} (h : OneW w k r) : OpK w [k] r
  | two {w k r : Str} (h : TwoW w k r) : OpK w [k, k] r
  | iff (k : Str) : OpK "if" ["flag", k, k] k
theorem OpK.ops {w r : Str} {ks : List Str} (h : OpK w ks r) : ∃ os, opsV w = some os ∧ os.length = ks.length ∧ ∀ (i : Nat) (o : V), os[i]? = some o → o = .non ∨ ∃ k, ks[i]? = some k ∧ o = .str k := by
  have fin1 : ∀ {o : V} {k : Str}, (o = .non ∨ o = .str k) → ∀ (i : Nat) (x : V), [o][i]? = some x → x = .non ∨ ∃ k', [k][i]? = some k' ∧ x = .str k' := fun {o k} h i x e => by
    match i, e with
    | 0, e => injection e with e; subst e; rcases h with rfl | rfl; exact .inl rfl; exact .inr ⟨_, rfl, rfl⟩
    | i + 1, e => simp at e
  have fin2 : ∀ {o p : V} {k l : Str}, (o = .non ∨ o = .str k) → (p = .non ∨ p = .str l) → ∀ (i : Nat) (x : V), [o, p][i]? = some x → x = .non ∨ ∃ k', [k, l][i]? = some k' ∧ x = .str k' := fun {o p k l} h g i x e => by
    match i, e with
    | 0, e => injection e with e; subst e; rcases h with rfl | rfl; exact .inl rfl; exact .inr ⟨_, rfl, rfl⟩
    | 1, e => injection e with e; subst e; rcases g with rfl | rfl; exact .inl rfl; exact .inr ⟨_, rfl, rfl⟩
    | i + 2, e => simp at e
  cases h with
  | one h =>
    rcases h with ⟨rfl, rfl, _⟩ | ⟨rfl, _, _⟩
    · exact ⟨[.str "flag"], by decide +kernel, rfl, fin1 (.inr rfl)⟩
    · exact ⟨[.non], by decide +kernel, rfl, fin1 (.inl rfl)⟩
  | two h =>
    rcases h with ⟨rfl | rfl | rfl | rfl, rfl, _⟩ | ⟨rfl, rfl, _⟩ | ⟨rfl, _, _⟩ | ⟨rfl | rfl, rfl, _⟩
    · exact ⟨[.str "number", .str "number"], by decide +kernel, rfl, fin2 (.inr rfl) (.inr rfl)⟩
    · exact ⟨[.str "number", .str "number"], by decide +kernel, rfl, fin2 (.inr rfl) (.inr rfl)⟩
    · exact ⟨[.str "number", .str "number"], by decide +kernel, rfl, fin2 (.inr rfl) (.inr rfl)⟩
    · exact ⟨[.str "number", .str "number"], by decide +kernel, rfl, fin2 (.inr rfl) (.inr rfl)⟩
    · exact ⟨[.str "number", .str "number"], by decide +kernel, rfl, fin2 (.inr rfl) (.inr rfl)⟩
    · exact ⟨[.non, .non], by decide +kernel, rfl, fin2 (.inl rfl) (.inl rfl)⟩
    · exact ⟨[.str "flag", .str "flag"], by decide +kernel, rfl, fin2 (.inr rfl) (.inr rfl)⟩
    · exact ⟨[.str "flag", .str "flag"], by decide +kernel, rfl, fin2 (.inr rfl) (.inr rfl)⟩
  | iff k =>
    refine ⟨[.str "flag", .non, .non], by decide +kernel, rfl, fun i x e => ?_⟩
    match i, e with
    | 0, e => injection e with e; subst e; exact .inr ⟨_, rfl, rfl⟩
    | 1, e => injection e with e; exact .inl e.symm
    | 2, e => injection e with e; exact .inl e.symm
    | i + 3, e => simp at e
inductive Xps (ps : List (Str × Str)) (n : Nat) : List Str → List PyData → Prop
  | nil : Xps ps n [] []
  | cons {k : Str} {ks : List Str} {o : PyData} {os : List PyData} (h : Xp ps n k o) (r : Xps ps n ks os) : Xps ps n (k :: ks) (o :: os)
theorem Xps.len {ps : List (Str × Str)} {n : Nat} : ∀ {ks : List Str} {os : List PyData}, Xps ps n ks os → ks.length = os.length
  | _, _, .nil => rfl
  | _, _, .cons _ r => by rw [List.length_cons, List.length_cons, r.len]
theorem Xps.get {ps : List (Str × Str)} {n : Nat} : ∀ {ks : List Str} {os : List PyData}, Xps ps n ks os → ∀ (i : Nat) (o : PyData), os[i]? = some o → ∃ k, ks[i]? = some k ∧ Xp ps n k o
  | _, _, .nil, i, o, e => by simp at e
  | _, _, .cons h r, 0, o, e => by injection e with e; subst e; exact ⟨_, rfl, h⟩
  | _, _, .cons h r, i + 1, o, e => r.get i o (by simpa using e)
theorem Vk.kind {k : Str} {d : PyData} (h : Vk k d) (nn : d ≠ .none) : KindS k := by
  cases h with
  | non => exact absurd rfl nn
  | num => exact .inl rfl
  | flag => exact .inr (.inr rfl)
  | word => exact .inr (.inl rfl)
theorem Xp.ops2 {ps : List (Str × Str)} {n : Nat} {k : Str} {d : PyData} (h : Xp ps (n + 1) k d) : (∃ (w : Str) (x : PyData), (w = "column" ∨ w = "value") ∧ d = .tuple [.str w, x] ∧ LeafD ps w x k) ∨ ∃ (w : Str) (os : List PyData) (ks : List Str), ¬ (w = "column" ∨ w = "value") ∧ d = .tuple (.str w :: os) ∧ OpK w ks k ∧ Xps ps n ks os := by
  cases h with
  | col h => exact .inl ⟨_, _, .inl rfl, rfl, .inl ⟨rfl, _, rfl, h⟩⟩
  | val h nn => exact .inl ⟨_, _, .inr rfl, rfl, .inr ⟨rfl, h, nn, h.kind nn⟩⟩
  | one hw ha => exact .inr ⟨_, _, _, hw.no, rfl, .one hw, .cons ha .nil⟩
  | two hw ha hb => exact .inr ⟨_, _, _, hw.no, rfl, .two hw, .cons ha (.cons hb .nil)⟩
  | iff ha hb hc => exact .inr ⟨_, _, _, by decide +kernel, rfl, .iff _, .cons ha (.cons hb (.cons hc .nil))⟩
theorem OpK.ne {w r : Str} {ks : List Str} (h : OpK w ks r) : ∃ l k0, ks = l ++ [k0] ∧ ks.length ≤ 3 := by
  cases h with
  | one _ => exact ⟨[], _, rfl, by simp⟩
  | two _ => exact ⟨[_], _, rfl, by simp⟩
  | iff => exact ⟨[_, _], _, rfl, by simp⟩
abbrev sWithin : Stmt := top 13
def spWithin : Sp := fun vs H Q _ => ∃ (a : Addr) (n d : Int), vs = [.ref a] ∧ H a = some (.tup [.int n, .int d]) ∧ Q (.bl (limB (.int n) (.int d))) H
section
variable {P : Program} {w : World} {K : PySem.W.Frag} {mg : Str → Option Value} {base : Heap} {f : Addr} {fd : FuncData} {u1 : Tok} {fR fW fN fD fL fA fQ fX fY : Addr} {fdR fdW fdN fdD fdL fdA fdQ fdX fdY : FuncData}
theorem scWithin : FnScope ["number"] ["number"] (defScope sWithin) := ⟨rfl, rfl, rfl, by decide +kernel, rfl, by decide +kernel, by decide +kernel⟩
theorem ok_within (F : Fun K "within_limit" "within_limit" sWithin f fd) (T : Bt mg) (m1 : mg "LIMIT" = some (.int lim u1)) : FnOk P w K mg base CX0 1 f fd ["number"] spWithin := by
  refine F.ok scWithin (fun vs H Q E h => ?_) (fun cdv A outer s H vs Q E hr h => ?_)
  · obtain ⟨a, n, d, rfl, _⟩ := h
    rfl
  · obtain ⟨a, n, d, rfl, ha, k⟩ := h
    refine ⟨_, pss_one (ps_ret (pe_and (pe_cmpR op_le (pe_callB call_abs (by rfl) T.abs boot_abs (pa_cons (pe_ix ix_tup (pv 0) pe_int (fun _ _ => rfl)) pa_nil)) (pe_glob (v := .int lim) (by rfl) m1 ⟨_, rfl⟩) (nomark _))
      (pe_one (pe_cmpR op_le (pe_ix ix_tup (pv 0) pe_int (fun _ _ => rfl)) (pe_glob (v := .int lim) (by rfl) m1 ⟨_, rfl⟩) (nomark _))))), ?_⟩
    refine ⟨_, rfl, a, _, _, _, rfl, rfl, SqT.of ha, rfl, n, rfl, _, _, rfl, rfl, _, rfl, ?_⟩
    have e : limB (.int n) (.int d) = (decide ((if n < 0 then -n else n) ≤ lim) && decide (d ≤ lim)) := rfl
    rw [e] at k
    by_cases z : (if n < 0 then -n else n) ≤ lim
    · rw [decide_eq_true z] at k ⊢
      exact iteT ⟨_, rfl, a, _, _, _, rfl, rfl, SqT.of ha, rfl, _, _, rfl, rfl, k⟩
    · rw [decide_eq_false z] at k ⊢
      exact iteF k
end
end K79
set_option Elab.async false
set_option linter.all false
set_option maxRecDepth 100000
set_option maxHeartbeats 4000000
namespace K79
open PySem PySem.Spec PyProof.Rows L2 Lc
theorem opsV_all {p : Str → List V → Prop} (h1 : p "plus" [.str "number", .str "number"]) (h2 : p "minus" [.str "number", .str "number"]) (h3 : p "times" [.str "number", .str "number"]) (h4 : p "over" [.str "number", .str "number"]) (h5 : p "less" [.str "number", .str "number"]) (h6 : p "same" [.non, .non]) (h7 : p "both" [.str "flag", .str "flag"]) (h8 : p "either" [.str "flag", .str "flag"]) (h9 : p "not" [.str "flag"]) (h10 : p "missing" [.non]) (h11 : p "if" [.str "flag", .non, .non]) : ∀ x os, opsV x = some os → p x os := by
  intro x os h
  unfold opsV at h
  split at h
  · obtain rfl := Option.some.inj h
    rename_i z
    rcases z with rfl | rfl | rfl | rfl | rfl
    · exact h1
    · exact h2
    · exact h3
    · exact h4
    · exact h5
  split at h
  · obtain rfl := Option.some.inj h
    rename_i z
    subst z
    exact h6
  split at h
  · obtain rfl := Option.some.inj h
    rename_i z
    rcases z with rfl | rfl
    · exact h7
    · exact h8
  split at h
  · obtain rfl := Option.some.inj h
    rename_i z
    subst z
    exact h9
  split at h
  · obtain rfl := Option.some.inj h
    rename_i z
    subst z
    exact h10
  split at h
  · obtain rfl := Option.some.inj h
    rename_i z
    subst z
    exact h11
  cases h
/-! ## texts of numbers, values, expressions -/
abbrev CL (x : Str) : List Nat := x.cps.toList
def TS (l : List Nat) : Str := ⟨l.toArray⟩
theorem cl_ts (l : List Nat) : CL (TS l) = l := by simp [CL, TS]
theorem ts_cl (x : Str) : TS (CL x) = x := str_ext (cl_ts _)
theorem ts_of {x : Str} {l : List Nat} (h : CL x = l) : x = TS l := by rw [← h, ts_cl]
theorem ts_inj {a b : List Nat} (h : TS a = TS b) : a = b := by rw [← cl_ts a, h, cl_ts]
theorem ts_len (l : List Nat) : (TS l).length = l.length := by rw [lenL]; exact congrArg List.length (cl_ts l)
theorem ts_app (a b : List Nat) : TS a ++ TS b = TS (a ++ b) := str_ext (by rw [appL]; show CL (TS a) ++ CL (TS b) = CL (TS (a ++ b)); rw [cl_ts, cl_ts, cl_ts])
def intL (n : Int) : List Nat := (if n < 0 then [45] else []) ++ digs n.natAbs
theorem int_str (n : Int) : PySem.Str.ofString (toString n) = TS (intL n) := by
  refine ts_of ?_
  unfold intL
  cases n with
  | ofNat m =>
    rw [if_neg (show ¬ Int.ofNat m < 0 from Int.not_lt.mpr (Int.natCast_nonneg m))]
    exact numL m
  | negSucc m =>
    rw [if_pos (Int.negSucc_lt_zero m)]
    have e : toString (Int.negSucc m) = "-" ++ toString ((m + 1 : Nat) : Int) := rfl
    have e2 : PySem.Str.ofString ("-" ++ toString ((m + 1 : Nat) : Int)) = PySem.Str.ofString "-" ++ PySem.Str.ofString (toString ((m + 1 : Nat) : Int)) := by
      refine str_ext ?_
      rw [appL, PySem.Str.ofString_eq_toList, PySem.Str.ofString_eq_toList, PySem.Str.ofString_eq_toList, String.toList_append, List.map_append]
    rw [e, e2]
    show (PySem.Str.ofString "-" ++ PySem.Str.ofString (toString ((m + 1 : Nat) : Int))).cps.toList = _
    rw [appL, numL]
    rfl
def ratL (n d : Int) : List Nat := if d = 1 then intL n else intL n ++ 47 :: intL d
def valL : PyData → List Nat
  | .bool true => [35, 121, 101, 115]
  | .bool false => [35, 110, 111]
  | .str x => 39 :: CL x
  | .tuple [.int n, .int d] => ratL n d
  | _ => []
def colL : List PyData → List Nat
  | [.str z] => CL z
  | _ => []
def valsL : List PyData → List Nat
  | [d] => 61 :: valL d
  | _ => []
mutual
def shL : PyData → List Nat
  | .tuple ds => shW ds
  | _ => []
def shW : List PyData → List Nat
  | .str w :: r => if w = ("column" : Str) then colL r else if w = ("value" : Str) then valsL r else 40 :: CL w ++ shLs r ++ [41]
  | _ => []
def shLs : List PyData → List Nat
  | [] => []
  | d :: r => 32 :: shL d ++ shLs r
end
mutual
def tkL : PyData → List (List Nat)
  | .tuple ds => tkW ds
  | _ => []
def tkW : List PyData → List (List Nat)
  | .str w :: r => if w = ("column" : Str) then [colL r] else if w = ("value" : Str) then [valsL r] else [40] :: CL w :: tkLs r ++ [[41]]
  | _ => []
def tkLs : List PyData → List (List Nat)
  | [] => []
  | d :: r => [32] :: tkL d ++ tkLs r
end
/-- expressions by their form -/
inductive Xf : Nat → PyData → Prop
  | col {n : Nat} {z : Str} (h : Sh 12 z) (hn : nameB (.str z) = true) : Xf (n + 1) (.tuple [.str "column", .str z])
  | val {n : Nat} {k : Str} {d : PyData} (h : Vk k d) (nn : d ≠ .none) : Xf (n + 1) (.tuple [.str "value", d])
  | op {n : Nat} {w : Str} {os : List PyData} {ops : List V} (h : opsV w = some ops) (l : ops.length = os.length) (ho : ∀ o ∈ os, Xf n o) : Xf (n + 1) (.tuple (.str w :: os))
theorem Xf.mono {n : Nat} {d : PyData} (h : Xf n d) : ∀ {m : Nat}, n ≤ m → Xf m d := by
  induction h with
  | col h hn => intro m l; obtain ⟨j, rfl⟩ : ∃ j, m = j + 1 := ⟨m - 1, by omega⟩; exact .col h hn
  | val h nn => intro m l; obtain ⟨j, rfl⟩ : ∃ j, m = j + 1 := ⟨m - 1, by omega⟩; exact .val h nn
  | op h l _ ih => intro m lm; obtain ⟨j, rfl⟩ : ∃ j, m = j + 1 := ⟨m - 1, by omega⟩; exact .op h l fun o ho => ih o ho (by omega)
theorem Xps.mem {ps : List (Str × Str)} {n : Nat} : ∀ {ks : List Str} {os : List PyData}, Xps ps n ks os → ∀ o ∈ os, ∃ k, Xp ps n k o
  | _, _, .nil, o, h => by cases h
  | _, _, .cons h r, o, hm => by
    rcases List.mem_cons.mp hm with rfl | hm
    · exact ⟨_, h⟩
    · exact Xps.mem r o hm
theorem xp_xf {ps : List (Str × Str)} (hp : ∀ p ∈ ps, Sh 12 p.1 ∧ nameB (.str p.1) = true) : ∀ {n : Nat} {k : Str} {d : PyData}, Xp ps n k d → Xf n d := by
  intro n k d h
  induction h with
  | col h => exact .col (hp _ h).1 (hp _ h).2
  | val h nn => exact .val h nn
  | one hw _ ia =>
    obtain ⟨ops, e, l, _⟩ := (OpK.one hw).ops
    exact .op e l fun o ho => by rw [List.mem_singleton.mp ho]; exact ia
  | two hw _ _ ia ib =>
    obtain ⟨ops, e, l, _⟩ := (OpK.two hw).ops
    exact .op e l fun o ho => by simp only [List.mem_cons, List.not_mem_nil, or_false] at ho; rcases ho with rfl | rfl; exact ia; exact ib
  | @iff n k a b c _ _ _ ia ib ic =>
    obtain ⟨ops, e, l, _⟩ := (OpK.iff k).ops
    exact .op e l fun o ho => by simp only [List.mem_cons, List.not_mem_nil, or_false] at ho; rcases ho with rfl | rfl | rfl; exact ia; exact ib; exact ic
/-! ### signs -/
abbrev sgl (c : Nat) : Prop := c = 40 ∨ c = 41 ∨ c = 32
def Plain (t : List Nat) : Prop := t ≠ [] ∧ ∀ c ∈ t, ¬ sgl c
theorem opsV_words {w : Str} {ops : List V} (h : opsV w = some ops) : Plain (CL w) ∧ (CL w).length ≤ 7 ∧ 1 ≤ ops.length ∧ ops.length ≤ 3 ∧ ¬ (w = "column" ∨ w = "value") := by
  have key : ∀ x os, opsV x = some os → Plain (CL x) ∧ (CL x).length ≤ 7 ∧ 1 ≤ os.length ∧ os.length ≤ 3 ∧ ¬ (x = "column" ∨ x = "value") := by
    refine opsV_all ?_ ?_ ?_ ?_ ?_ ?_ ?_ ?_ ?_ ?_ ?_ <;> (unfold Plain sgl; decide +kernel)
  exact key w ops h
theorem name_signs {z : Str} (h : nameB (.str z) = true) : CL z ≠ [] ∧ (CL z).length ≤ 12 ∧ (∀ c ∈ CL z, 48 ≤ c ∧ c ≤ 122) ∧ ∀ c r, CL z = c :: r → 97 ≤ c := by
  have h : nameL z.cps.toList = true := h
  have all : ∀ c ∈ signs.cps.toList, 48 ≤ c ∧ c ≤ 122 := by decide +kernel
  have low : ∀ c ∈ letters.cps.toList, 97 ≤ c := by decide +kernel
  cases e : z.cps.toList with
  | nil => rw [e] at h; cases h
  | cons c r =>
    rw [e] at h
    have h : (decide ((c :: r).length ≤ 12) && (inL c && (c :: r).all inS)) = true := h
    obtain ⟨h1, h2⟩ := Bool.and_eq_true_iff.mp h
    obtain ⟨h3, h4⟩ := Bool.and_eq_true_iff.mp h2
    rw [show CL z = c :: r from e]
    refine ⟨nofun, of_decide_eq_true h1, fun x hx => all x (of_decide_eq_true (List.all_eq_true.mp h4 x hx)), fun x y e' => ?_⟩
    injection e' with e1 e2
    rw [← e1]
    exact low c (of_decide_eq_true h3)
theorem digs_signs (m : Nat) : digs m ≠ [] ∧ ∀ c ∈ digs m, 48 ≤ c ∧ c ≤ 57 := by
  refine ⟨?_, fun c hc => digs_all m c hc⟩
  obtain ⟨c, r, e, _⟩ := digs_head m
  rw [e]
  nofun
theorem int_signs (n : Int) : intL n ≠ [] ∧ ∀ c ∈ intL n, c = 45 ∨ (48 ≤ c ∧ c ≤ 57) := by
  obtain ⟨h1, h2⟩ := digs_signs n.natAbs
  unfold intL
  refine ⟨?_, fun c hc => ?_⟩
  · split
    · nofun
    · exact h1
  · rcases List.mem_append.mp hc with hc | hc
    · split at hc
      · exact .inl (by simpa using hc)
      · cases hc
    · exact .inr (h2 c hc)
theorem rat_signs (n d : Int) : ratL n d ≠ [] ∧ ∀ c ∈ ratL n d, 45 ≤ c ∧ c ≤ 57 := by
  obtain ⟨h1, h2⟩ := int_signs n
  obtain ⟨h3, h4⟩ := int_signs d
  have f : ∀ {l : List Nat}, (∀ c ∈ l, c = 45 ∨ (48 ≤ c ∧ c ≤ 57)) → ∀ c ∈ l, 45 ≤ c ∧ c ≤ 57 := fun h c hc => by
    rcases h c hc with rfl | h
    · decide
    · omega
  unfold ratL
  split
  · exact ⟨h1, f h2⟩
  · refine ⟨by intro z; simp at z, fun c hc => ?_⟩
    rcases List.mem_append.mp hc with hc | hc
    · exact f h2 c hc
    · rcases List.mem_cons.mp hc with rfl | hc
      · decide
      · exact f h4 c hc
theorem int_len {n : Int} (h : n.natAbs ≤ 10000000000000000000000000000000000000000) : (intL n).length ≤ 42 := by
  have := digs_len 41 n.natAbs (by decide) (Nat.lt_of_le_of_lt h (by decide))
  unfold intL
  rw [List.length_append]
  split <;> simp <;> omega
theorem val_text {k : Str} {d : PyData} (h : Vk k d) (nn : d ≠ .none) : Plain (61 :: valL d) ∧ (valL d).length ≤ 90 := by
  have pl : ∀ {l : List Nat}, (∀ c ∈ l, 42 ≤ c ∨ c = 39 ∨ c = 35) → Plain (61 :: l) := fun {l} hl => ⟨nofun, fun c hc => by
    rcases List.mem_cons.mp hc with rfl | hc
    · unfold sgl; decide
    · have := hl c hc
      unfold sgl
      omega⟩
  cases h with
  | non => exact absurd rfl nn
  | num rt h1 h2 =>
    refine ⟨pl fun c hc => .inl ?_, ?_⟩
    · have := (rat_signs _ _).2 c hc
      omega
    · show (ratL _ _).length ≤ 90
      have a := int_len h1
      have b := int_len h2
      unfold ratL
      split
      · omega
      · rw [List.length_append, List.length_cons]; omega
  | flag b => cases b <;> (refine ⟨pl ?_, ?_⟩ <;> decide)
  | @word x hx hn =>
    obtain ⟨_, h2, h3, _⟩ := name_signs hn
    refine ⟨pl fun c hc => ?_, ?_⟩
    · rcases List.mem_cons.mp hc with rfl | hc
      · exact .inr (.inl rfl)
      · have := h3 c hc
        omega
    · show (39 :: CL x).length ≤ 90
      rw [List.length_cons]
      omega
theorem col_plain {z : Str} (hn : nameB (.str z) = true) : Plain (CL z) := by
  obtain ⟨h1, _, h3, _⟩ := name_signs hn
  refine ⟨h1, fun c hc => ?_⟩
  have := h3 c hc
  unfold sgl
  omega
theorem tk_col {z : Str} : tkL (.tuple [.str "column", .str z]) = [CL z] := by rw [tkL, tkW, if_pos rfl, colL]
theorem tk_val {d : PyData} : tkL (.tuple [.str "value", d]) = [61 :: valL d] := by rw [tkL, tkW, if_neg (by decide +kernel), if_pos rfl, valsL]
theorem tk_op {w : Str} {os : List PyData} (h : ¬ (w = "column" ∨ w = "value")) : tkL (.tuple (.str w :: os)) = [40] :: CL w :: tkLs os ++ [[41]] := by rw [tkL, tkW, if_neg (fun e => h (.inl e)), if_neg (fun e => h (.inr e))]
theorem sh_col {z : Str} : shL (.tuple [.str "column", .str z]) = CL z := by rw [shL, shW, if_pos rfl, colL]
theorem sh_val {d : PyData} : shL (.tuple [.str "value", d]) = 61 :: valL d := by rw [shL, shW, if_neg (by decide +kernel), if_pos rfl, valsL]
theorem sh_op {w : Str} {os : List PyData} (h : ¬ (w = "column" ∨ w = "value")) : shL (.tuple (.str w :: os)) = 40 :: CL w ++ shLs os ++ [41] := by rw [shL, shW, if_neg (fun e => h (.inl e)), if_neg (fun e => h (.inr e))]
theorem xf_flat {n : Nat} {d : PyData} (h : Xf n d) : (tkL d).flatten = shL d := by
  induction h with
  | col => rw [tk_col, sh_col]; simp
  | val => rw [tk_val, sh_val]; simp
  | @op n w os ops h l ho ih =>
    have nw := (opsV_words h).2.2.2.2
    rw [tk_op nw, sh_op nw]
    have e : (tkLs os).flatten = shLs os := by
      clear h l
      induction os with
      | nil => rw [tkLs, shLs]; rfl
      | cons o r ih2 =>
        rw [tkLs, shLs, List.flatten_append, List.flatten_cons, ih o List.mem_cons_self, ih2 (fun x hx => ho x (List.mem_cons_of_mem _ hx)) fun x hx => ih x (List.mem_cons_of_mem _ hx)]
        rfl
    simp [e]
def szT : Nat → Nat
  | 0 => 0
  | n + 1 => 3 * szT n + 100
theorem xf_len {n : Nat} {d : PyData} (h : Xf n d) : (shL d).length ≤ szT n := by
  induction h with
  | @col n z h hn =>
    have := (name_signs hn).2.1
    rw [sh_col, szT]
    omega
  | @val n k d h nn =>
    have := (val_text h nn).2
    rw [sh_val, szT, List.length_cons]
    omega
  | @op n w os ops h l ho ih =>
    obtain ⟨_, h2, h3, h4, nw⟩ := opsV_words h
    have key : ∀ l : List PyData, (∀ o ∈ l, (shL o).length ≤ szT n) → (shLs l).length ≤ l.length * (szT n + 1) := fun l => by
      induction l with
      | nil => intro _; rw [shLs]; exact Nat.zero_le _
      | cons o r ih2 =>
        intro hl
        have a := hl o List.mem_cons_self
        have b := ih2 fun x hx => hl x (List.mem_cons_of_mem _ hx)
        rw [shLs, List.length_append, List.length_cons, List.length_cons, Nat.succ_mul]
        omega
    have := key os ih
    have l3 : os.length ≤ 3 := by omega
    have : os.length * (szT n + 1) ≤ 3 * (szT n + 1) := Nat.mul_le_mul_right _ l3
    rw [sh_op nw, szT]
    simp only [List.length_append, List.length_cons, List.length_nil]
    omega
/-! ### the text's pieces -/
inductive Sep : List (List Nat) → Prop
  | nil : Sep []
  | one {c : Nat} {r : List (List Nat)} (h : sgl c) (hr : Sep r) : Sep ([c] :: r)
  | pl {t : List Nat} {r : List (List Nat)} (h : Plain t) (hs : r = [] ∨ ∃ c r', r = [c] :: r' ∧ sgl c) (hr : Sep r) : Sep (t :: r)
theorem xf_sep {n : Nat} {d : PyData} (h : Xf n d) : ∀ {r : List (List Nat)}, (r = [] ∨ ∃ c r', r = [c] :: r' ∧ sgl c) → Sep r → Sep (tkL d ++ r) := by
  induction h with
  | col h hn => intro r hs hr; rw [tk_col]; exact .pl (col_plain hn) hs hr
  | val h nn => intro r hs hr; rw [tk_val]; exact .pl (val_text h nn).1 hs hr
  | @op n w os ops h l ho ih =>
    intro r hs hr
    obtain ⟨h1, _, h3, _, nw⟩ := opsV_words h
    rw [tk_op nw]
    have end_ : Sep ([41] :: r) := .one (.inr (.inl rfl)) hr
    have key : ∀ l : List PyData, (∀ o ∈ l, ∀ {r : List (List Nat)}, (r = [] ∨ ∃ c r', r = [c] :: r' ∧ sgl c) → Sep r → Sep (tkL o ++ r)) → Sep (tkLs l ++ ([41] :: r)) ∧ ∃ c r', tkLs l ++ ([41] :: r) = [c] :: r' ∧ sgl c := fun l => by
      induction l with
      | nil => intro _; rw [tkLs]; exact ⟨end_, 41, r, rfl, .inr (.inl rfl)⟩
      | cons o s ih2 =>
        intro hl
        obtain ⟨a, b⟩ := ih2 fun x hx => hl x (List.mem_cons_of_mem _ hx)
        rw [tkLs]
        refine ⟨?_, 32, tkL o ++ tkLs s ++ ([41] :: r), by simp, .inr (.inr rfl)⟩
        have := hl o List.mem_cons_self (r := tkLs s ++ ([41] :: r)) (.inr b) a
        show Sep ([32] :: tkL o ++ tkLs s ++ ([41] :: r))
        rw [List.cons_append, List.cons_append, List.append_assoc]
        exact .one (.inr (.inr rfl)) this
    obtain ⟨a, b⟩ := key os ih
    have e : ([40] :: CL w :: tkLs os ++ [[41]]) ++ r = [40] :: CL w :: (tkLs os ++ ([41] :: r)) := by simp
    rw [e]
    exact .one (.inl rfl) (.pl h1 (.inr b) a)
def pfold : List Nat → Nat → List Nat → List (Nat × List Nat)
  | [], at_, cur => if cur = [] then [] else [(at_ - cur.length, cur)]
  | c :: r, at_, cur => if c = 40 ∨ c = 41 ∨ c = 32 then (if cur = [] then [] else [(at_ - cur.length, cur)]) ++ (at_, [c]) :: pfold r (at_ + 1) [] else pfold r (at_ + 1) (cur ++ [c])
def ptok : Nat → List (List Nat) → List (Nat × List Nat)
  | _, [] => []
  | p, t :: r => (p, t) :: ptok (p + t.length) r
theorem pfold_run : ∀ {t : List Nat}, (∀ c ∈ t, ¬ sgl c) → ∀ (rest : List Nat) (p : Nat) (cur : List Nat), pfold (t ++ rest) p cur = pfold rest (p + t.length) (cur ++ t)
  | [], _, rest, p, cur => by simp
  | c :: t, h, rest, p, cur => by
    rw [List.cons_append, pfold, if_neg (h c List.mem_cons_self), pfold_run (fun x hx => h x (List.mem_cons_of_mem _ hx))]
    rw [List.length_cons, List.append_assoc]
    congr 1
    omega
theorem pfold_tok : ∀ {toks : List (List Nat)}, Sep toks → ∀ p, pfold toks.flatten p [] = ptok p toks := by
  intro toks h
  induction h with
  | nil => intro p; rfl
  | @one c r hc hr ih =>
    intro p
    show pfold (c :: r.flatten) p [] = (p, [c]) :: ptok (p + 1) r
    rw [pfold, if_pos hc, if_pos rfl, ih]
    rfl
  | @pl t r hp hs hr ih =>
    intro p
    rw [List.flatten_cons, pfold_run hp.2, List.nil_append, ptok]
    have e : p + t.length - t.length = p := by omega
    rcases hs with rfl | ⟨c, r', rfl, hc⟩
    · show pfold [] _ t = _
      rw [pfold, if_neg hp.1, e]
      rfl
    · have i2 := ih (p + t.length)
      have e2 : ([c] :: r').flatten = c :: r'.flatten := rfl
      rw [e2, pfold, if_pos hc, if_pos rfl] at i2
      rw [e2, pfold, if_pos hc, if_neg hp.1, e]
      have i3 : (p + t.length, [c]) :: pfold r'.flatten (p + t.length + 1) [] = ptok (p + t.length) ([c] :: r') := by rw [← i2]; rfl
      rw [← i3]
      rfl
theorem ptok_map : ∀ (toks : List (List Nat)) (p : Nat), (ptok p toks).map (·.2) = toks
  | [], _ => rfl
  | t :: r, p => by rw [ptok, List.map_cons, ptok_map r]
end K79
set_option Elab.async false
set_option linter.all false
set_option maxRecDepth 100000
set_option maxHeartbeats 4000000
namespace K79
open PySem PySem.Spec PyProof.Rows L2 Lc
theorem dh_pair {H : Hp} {x : V} {n d : Int} (h : Dh H x (.tuple [.int n, .int d])) : ∃ p, x = .ref p ∧ H p = some (.tup [.int n, .int d]) := by
  cases h with
  | tup e hs =>
    cases hs with
    | cons a r =>
      cases r with
      | cons b r =>
        cases r
        cases a
        cases b
        exact ⟨_, rfl, e⟩
def isTB : PyData → Bool
  | .bool true => true
  | _ => false
def isFB : PyData → Bool
  | .bool false => true
  | _ => false
end K79
set_option Elab.async false
set_option linter.all false
set_option maxRecDepth 100000
set_option maxHeartbeats 4000000
namespace K79
open PySem PySem.Spec PyProof.Rows L2 Lc
/-! ## reading texts -/
theorem sub_one {x : Str} {c : Nat} : Builtin.Str.subAt x ⟨#[c]⟩ 0 = decide ((CL x).head? = some c) := by
  rw [StrLaws.subAt_eq]
  show ((List.drop 0 x.cps.toList).take 1 == [c]) = _
  rw [List.drop_zero, Bool.eq_iff_iff, beq_iff_eq, decide_eq_true_iff]
  show x.cps.toList.take 1 = [c] ↔ x.cps.toList.head? = some c
  cases x.cps.toList with
  | nil => simp
  | cons a r => simp
theorem starts_one {x : Str} {c : Nat} : Txt.startswith x ⟨#[c]⟩ = decide ((CL x).head? = some c) := by
  unfold Txt.startswith
  rw [sub_one]
  show (decide (0 + 1 ≤ x.length) && _) = _
  by_cases h : (CL x).head? = some c
  · rw [decide_eq_true h, Bool.and_true]
    refine decide_eq_true ?_
    rw [lenL]
    have h : x.cps.toList.head? = some c := h
    cases e : x.cps.toList with
    | nil => rw [e] at h; cases h
    | cons a r => simp
  · rw [decide_eq_false h, Bool.and_false]
theorem prefix_one {x : Str} {c : Nat} : Txt.removeprefix x ⟨#[c]⟩ = TS (if (CL x).head? = some c then (CL x).drop 1 else CL x) := by
  rw [StrLaws.removeprefix_eq]
  have e : (decide (0 + (⟨#[c]⟩ : Str).length ≤ x.length) && Builtin.Str.subAt x ⟨#[c]⟩ 0) = decide ((CL x).head? = some c) := starts_one
  rw [e]
  by_cases h : (CL x).head? = some c
  · rw [if_pos (decide_eq_true h), if_pos h]
    show (⟨((x.cps.toList.drop 1).take (x.length - 1)).toArray⟩ : Str) = ⟨((CL x).drop 1).toArray⟩
    rw [List.take_of_length_le (by rw [List.length_drop, lenL]; exact Nat.le_refl _)]
  · rw [if_neg (by rw [decide_eq_false h]; decide), if_neg h, ts_cl]
theorem slash_eq : PySem.Str.ofString "/" = ⟨#[47]⟩ := by decide +kernel
theorem minus_eq : PySem.Str.ofString "-" = ⟨#[45]⟩ := by decide +kernel
theorem equal_eq : PySem.Str.ofString "=" = ⟨#[61]⟩ := by decide +kernel
theorem tick_eq : PySem.Str.ofString "'" = ⟨#[39]⟩ := by decide +kernel
theorem part_none {x : Str} (h : 47 ∉ CL x) : Txt.partition x ⟨#[47]⟩ = (x, Str.empty, Str.empty) := by
  have e := StrLaws.found_one x 47
  rw [decide_eq_false h] at e
  unfold Txt.partition
  cases q : Builtin.Str.occurrences x ⟨#[47]⟩ 0 x.length 1 with
  | nil => rfl
  | cons i r => rw [q] at e; cases e
theorem part_some {x : Str} {a b : List Nat} (e : CL x = a ++ 47 :: b) (ha : 47 ∉ a) (hb : 47 ∉ b) : Txt.partition x ⟨#[47]⟩ = (TS a, ⟨#[47]⟩, TS b) := by
  have f := StrLaws.found_one x 47
  rw [decide_eq_true (show 47 ∈ x.cps.toList by rw [show x.cps.toList = a ++ 47 :: b from e]; simp)] at f
  obtain ⟨fi, ch⟩ := StrLaws.occ_chain x ⟨#[47]⟩ 1
  unfold Txt.partition
  cases q : Builtin.Str.occurrences x ⟨#[47]⟩ 0 x.length 1 with
  | nil => rw [q] at f; cases f
  | cons i r =>
    rw [q] at ch
    obtain ⟨_, ⟨h1, h2⟩, _⟩ := ch
    rw [StrLaws.subAt_eq] at h2
    have h2 : (x.cps.toList.drop i).take 1 = [47] := eq_of_beq h2
    rw [show x.cps.toList = a ++ 47 :: b from e] at h2
    have hi : i = a.length := by
      have g : (a ++ 47 :: b)[i]? = some 47 := by
        have := congrArg (fun l : List Nat => l[0]?) h2
        simpa [List.getElem?_take, List.getElem?_drop] using this
      by_cases l1 : i < a.length
      · rw [List.getElem?_append_left l1] at g
        exact absurd (List.mem_of_getElem? g) ha
      · rw [List.getElem?_append_right (by omega)] at g
        by_cases l2 : i = a.length
        · exact l2
        · obtain ⟨j, hj⟩ : ∃ j, i - a.length = j + 1 := ⟨i - a.length - 1, by omega⟩
          rw [hj] at g
          exact absurd (List.mem_of_getElem? (show b[j]? = some 47 by simpa using g)) hb
    subst hi
    have xl : x.length = a.length + (b.length + 1) := by
      rw [lenL, show x.cps.toList = a ++ 47 :: b from e, List.length_append, List.length_cons]
    show (Builtin.Str.strSub x 0 a.length, (⟨#[47]⟩ : Str), Builtin.Str.strSub x (a.length + 1) x.length) = _
    refine Prod.ext ?_ (Prod.ext rfl ?_)
    · refine ts_of ?_
      show (Builtin.Str.strSub x 0 a.length).cps.toList = a
      rw [StrLaws.strSub_toList, show x.cps.toList = a ++ 47 :: b from e]
      simp
    · refine ts_of ?_
      show (Builtin.Str.strSub x (a.length + 1) x.length).cps.toList = b
      rw [StrLaws.strSub_toList, show x.cps.toList = a ++ 47 :: b from e, xl]
      have : a ++ 47 :: b = (a ++ [47]) ++ b := by simp
      rw [this, List.drop_append_of_le_length (by simp)]
      simp
      exact List.take_of_length_le (by omega)
theorem int_no47 (n : Int) : 47 ∉ intL n := fun h => by
  rcases (int_signs n).2 47 h with h | h
  · cases h
  · omega
theorem int_abs (n : Int) : (if (intL n).head? = some 45 then (intL n).drop 1 else intL n) = digs n.natAbs ∧ ((intL n).head? = some 45 ↔ n < 0) := by
  unfold intL
  obtain ⟨c, r, e, _⟩ := digs_head n.natAbs
  by_cases h : n < 0
  · rw [if_pos h]
    simp [h]
  · rw [if_neg h]
    have hc : 48 ≤ c ∧ c ≤ 57 := (digs_signs n.natAbs).2 c (by rw [e]; exact List.mem_cons_self)
    have ne : c ≠ 45 := by omega
    rw [List.nil_append, e]
    simp [ne, h]
end K79
set_option Elab.async false
set_option linter.all false
set_option maxRecDepth 100000
set_option maxHeartbeats 4000000
namespace K79
open PySem PySem.Spec PyProof.Rows L2 Lc
/-! ## what texts are read as -/
def rNIS : R2 := fun x y H Q => ∃ (c : Nat) (z : Str), x = .str ⟨#[c]⟩ ∧ y = .str z ∧ Q (.bl (!decide (c ∈ z.cps.toList))) H
structure Tx (l : List Nat) : Prop where
  len : l.length ≤ 400000
  ok : ∀ c ∈ l, c < 128
theorem Tx.sub {l m : List Nat} (h : Tx l) (s : m.Sublist l) : Tx m := ⟨Nat.le_trans s.length_le h.len, fun c hc => h.ok c (s.subset hc)⟩
theorem Tx.line {l : List Nat} (h : Tx l) : (TS l).length ≤ sizeLine := by rw [ts_len]; exact Nat.le_trans h.len (by decide)
theorem Tx.line2 {l : List Nat} (h : Tx l) : (TS l).length + 2 ≤ sizeLine := by rw [ts_len]; exact Nat.le_trans (Nat.add_le_add_right h.len 2) (by decide)
abbrev isD (c : Nat) : Bool := decide (c ∈ ten10.cps.toList)
theorem isD_is (c : Nat) : isD c = true ↔ 48 ≤ c ∧ c ≤ 57 := by
  refine ⟨fun h => ?_, fun h => in_ten h⟩
  have h : c ∈ ten10.cps.toList := of_decide_eq_true h
  have e : ten10.cps.toList = [48, 49, 50, 51, 52, 53, 54, 55, 56, 57] := by decide +kernel
  rw [e] at h
  simp only [List.mem_cons, List.not_mem_nil, or_false] at h
  omega
def digN (l : List Nat) : Option Nat := if l = [] then none else if 41 < l.length then none else if l.all isD = false then none else if l.head? = some 48 ∧ l ≠ [48] then none else some (NumText.digitsVal l)
def dgV (l : List Nat) : V := match digN l with
  | none => .non
  | some m => .int (m : Int)
theorem digN_digits {l : List Nat} {m : Nat} (h : digN l = some m) : l ≠ [] ∧ l.length ≤ 41 ∧ l.all isD = true := by
  unfold digN at h
  split at h
  · cases h
  split at h
  · cases h
  split at h
  · cases h
  exact ⟨by assumption, by omega, by simpa using (by assumption : ¬ l.all isD = false)⟩
def spDg : Sp := fun vs H Q _ => ∃ (l : List Nat), vs = [.str (TS l)] ∧ Tx l ∧ ∀ H', Same H H' → Q (dgV l) H'
theorem int_digits {l : List Nat} (h1 : l ≠ []) (h2 : l.length ≤ 41) (h3 : l.all isD = true) : PySem.intText? (TS l) = some (NumText.digitsVal l : Int) := by
  have hc : (TS l).cps.toList = l := cl_ts l
  have := intText_digits (x := TS l) (by rw [hc]; intro c hm; exact (isD_is c).mp (List.all_eq_true.mp h3 c hm)) (by rw [hc]; exact h1) (by rw [ts_len]; omega)
  rw [hc] at this
  exact this
theorem grow' {x : List Nat} {i c : Nat} (h : x[i]? = some c) (g : Nat → Bool) : (x.take i).map (fun c => V.bl (g c)) ++ [.bl (g c)] = (x.take (i + 1)).map fun c => V.bl (g c) := by
  rw [List.take_add_one, h]
  simp
theorem grow_f {x : List Nat} {i c : Nat} (h : x[i]? = some c) (g : Nat → Bool) : ((x.take (i + 1)).filter g).map (fun c => V.str ⟨#[c]⟩) = if g c = true then ((x.take i).filter g).map (fun c => V.str ⟨#[c]⟩) ++ [.str ⟨#[c]⟩] else ((x.take i).filter g).map fun c => V.str ⟨#[c]⟩ := by
  rw [List.take_add_one, h]
  by_cases z : g c = true <;> simp [z, List.filter_append]
theorem at_ts {l : List Nat} {i c : Nat} (h : (TS l).cps[i]? = some c) : l[i]? = some c := by
  have q : (TS l).cps.toList[i]? = some c := by simpa using h
  rw [show (TS l).cps.toList = l from cl_ts l] at q
  exact q
theorem ts_size (l : List Nat) : (TS l).cps.size = l.length := ts_len l
theorem dec_nil (l : List Nat) : decide (V.str (TS l) = V.str "") = decide (l = []) := decide_eq_decide.mpr ⟨fun q => by injection q with q; rw [← cl_ts l, q]; decide +kernel, fun q => by rw [q]; rfl⟩
theorem dec_ts {l m : List Nat} {z : Str} (e : CL z = m) : decide (V.str (TS l) = V.str z) = decide (l = m) := decide_eq_decide.mpr ⟨fun q => by injection q with q; rw [← e, ← q, cl_ts], fun q => by rw [q, ← e, ts_cl]⟩
theorem dec_one {c d : Nat} {z : Str} (e : CL z = [d]) : decide (V.str ⟨#[c]⟩ = V.str z) = decide (c = d) := by
  have : (⟨#[c]⟩ : Str) = TS [c] := rfl
  rw [this, dec_ts e]
  exact decide_eq_decide.mpr ⟨fun q => by injection q, fun q => by rw [q]⟩
theorem zero_cl : CL (PySem.Str.ofString "0") = [48] := by decide +kernel
/-- a list of signs against the empty list -/
theorem sgn_ok {c : Nat} (h : c < 128) : PyData.canLay0 (.str ⟨#[c]⟩) = true := by
  have key : ∀ c, c < 128 → PyData.canLay0 (.str ⟨#[c]⟩) = true := by decide +kernel
  exact key c h
theorem sgns_shaped {cs : List Nat} (h : ∀ c ∈ cs, c < 128) : SeqAt.shaped (.list (cs.map fun c => .str ⟨#[c]⟩)) = true := by
  have a : PyData.canLayAll0 (cs.map fun c => .str ⟨#[c]⟩) = true := by
    induction cs with
    | nil => rfl
    | cons c r ih =>
      show (PyData.canLay0 (.str ⟨#[c]⟩) && PyData.canLayAll0 (r.map fun c => .str ⟨#[c]⟩)) = true
      rw [sgn_ok (h c List.mem_cons_self), ih fun x hx => h x (List.mem_cons_of_mem _ hx)]
      rfl
  have d : PyData.depthAll (cs.map fun c => .str ⟨#[c]⟩) = 0 := by
    induction cs with
    | nil => rfl
    | cons c r ih =>
      show max 0 (PyData.depthAll (r.map fun c => .str ⟨#[c]⟩)) = 0
      rw [ih (fun x hx => h x (List.mem_cons_of_mem _ hx)) (by
        show PyData.canLayAll0 (r.map fun c => .str ⟨#[c]⟩) = true
        have : (PyData.canLay0 (.str ⟨#[c]⟩) && PyData.canLayAll0 (r.map fun c => .str ⟨#[c]⟩)) = true := a
        exact (Bool.and_eq_true_iff.mp this).2)]
      rfl
  show (PyData.canLay0 (.list (cs.map fun c => .str ⟨#[c]⟩)) && decide ((PyData.list (cs.map fun c => .str ⟨#[c]⟩)).depth ≤ 64)) = true
  rw [show PyData.canLay0 (.list (cs.map fun c => .str ⟨#[c]⟩)) = PyData.canLayAll0 (cs.map fun c => .str ⟨#[c]⟩) by rw [PyData.canLay0], a, show (PyData.list (cs.map fun c => .str ⟨#[c]⟩)).depth = PyData.depthAll (cs.map fun c => .str ⟨#[c]⟩) + 1 by rw [PyData.depth], d]
  rfl
theorem sgns_nil (cs : List Nat) : PyData.eqv (.list (cs.map fun c => .str ⟨#[c]⟩)) (.list []) = decide (cs = []) := by
  cases cs with
  | nil => rfl
  | cons c r => rw [decide_eq_false (by simp)]; rfl
theorem Dps.sgns {K : PySem.W.Frag} {H : Hp} (cs : List Nat) : DpAll K H (cs.map fun c => V.str ⟨#[c]⟩) (cs.map fun c => PyData.str ⟨#[c]⟩) := by
  induction cs with
  | nil => exact .nil
  | cons c r ih => exact .cons (.str _) ih
theorem filter_nil {l : List Nat} {g : Nat → Bool} : decide (l.filter (fun c => !g c) = []) = l.all g := by
  induction l with
  | nil => rfl
  | cons c r ih => cases e : g c <;> simp [e, ← ih]
section
variable {u1 u2 : Tok}
variable {P : Program} {w : World} {K : PySem.W.Frag} {mg : Str → Option Value} {base : Heap} {f : Addr} {fd : FuncData}
abbrev sRw : Stmt := top 20
abbrev nRw : List Str := ["text", "sign"]
abbrev pRw : List Str := ["text"]
theorem scRw : FnScope nRw pRw (defScope sRw) := ⟨rfl, rfl, rfl, by decide +kernel, rfl, by decide +kernel, by decide +kernel⟩
section
theorem ok_Rw (F : Fun K "read_whole" "read_whole" sRw f fd) (T : Bt mg) (mD : mg "DIGITS" = some (.str ten10 u1)) (mM : mg "MOST_DIGITS" = some (.int 41 u2)) : FnOk P w K mg base CX0 1 f fd pRw (spDg) := by
  refine F.ok scRw (fun vs H Q E h => ?_) (fun cdv A outer s H vs Q E hr h => ?_)
  · obtain ⟨l, rfl, _⟩ := h
    rfl
  · obtain ⟨l, rfl, tx, k⟩ := h
    refine ⟨_, (pss_cons (ps_if (PW.pt (pw_or (pt_cmpR op_eq (pv 0) pe_str (nomark _)) (pw_or (pt_cmpR op_gt (pe_callB call_len_str (by rfl) T.len PySem.boot_len (pa_cons (pv 0) pa_nil)) (pe_glob (v := .int 41) (by rfl) mM ⟨_, rfl⟩) (nomark _)) (pw_or1 (pt_not (pt_val (pe_callB (cr_all rfl) (by rfl) T.all (by decide +kernel) (pa_cons (pe_lc (own := [("sign", 1)]) (g := (gName 1)) (tt := tYes) (te := (tOp rInS (tVar 1) (tC (.str ten10)))) (by rfl) scRw.nd (pi_str (pv 0)) (blkOk_by (own := [("sign", 1)]) (N := nRw) (sc := defScope sRw) (by decide +kernel)) (fun _ _ _ _ _ => (pg_name (i := 1) scRw.nd rfl (.inl rfl))) (fun _ _ _ _ _ => pts_nil) (fun _ _ _ _ _ => (pe_cmpR op_in_sign (pv 1) (pe_glob (v := .str ten10) (by rfl) mD ⟨_, rfl⟩) (by rfl)))) pa_nil)))))))) (pss_one (ps_ret pe_non)) pss_nil)
      (pss_cons (ps_if (PW.pt (pw_and (pt_cmpR op_eq (pe_ix ix_str (pv 0) pe_int (fun _ _ => rfl)) pe_str (nomark _)) (pw_and1 (pt_cmpR op_ne (pv 0) pe_str (nomark _))))) (pss_one (ps_ret pe_non)) pss_nil)
      (pss_one (ps_ret (pe_callTy call_int_str (by rfl) T.int boot_int (pa_cons (pv 0) pa_nil)))))), ?_⟩
    have hc := cl_ts l
    unfold dgV at k
    refine ⟨_, rfl, rfl, _, rfl, ?_⟩
    rw [dec_nil]
    by_cases l0 : l = []
    · rw [decide_eq_true l0]
      have k0 := k H (Same.refl H)
      rw [show digN l = none by unfold digN; rw [if_pos l0]] at k0
      exact iteT (iteT k0)
    rw [decide_eq_false l0]
    refine iteF ⟨_, rfl, _, rfl, tx.line, _, _, rfl, rfl, _, rfl, ?_⟩
    rw [ts_len]
    by_cases l41 : 41 < l.length
    · rw [decide_eq_true (by omega)]
      have k0 := k H (Same.refl H)
      rw [show digN l = none by unfold digN; rw [if_neg l0, if_pos l41]] at k0
      exact iteT (iteT k0)
    rw [decide_eq_false (by omega)]
    refine iteF ⟨_, rfl, _, rfl, fun D hD => lc_it walk_str (fun i H' => H' = upd H D (.lst ((l.take i).map fun c => .bl (isD c)))) rfl (fun _ _ _ _ => True.intro) ?_ ?_⟩
    · rintro i y H' H'' hi rfl ⟨rfl, c', hc', rfl⟩
      have hc' := at_ts hc'
      refine ⟨rfl, ?_⟩
      change tOp rInS (tVar 1) (tC (.str ten10)) _ _ _
      refine ⟨_, rfl, c', ten10, rfl, rfl, _, upd_same, ?_, ?_⟩
      · rw [List.length_map, List.length_take]
        exact Nat.lt_of_le_of_lt (Nat.min_le_right _ _) (Nat.lt_of_le_of_lt (show _ ≤ 41 by omega) (by decide))
      · rw [upd_upd]
        exact congrArg (fun z => upd H D (.lst z)) (grow' hc' _)
    rintro H' rfl
    have zD := Same.upd (o := .lst ((l.take (TS l).cps.size).map fun c => .bl (isD c))) hD
    refine ⟨D, l.map isD, rfl, SqL.of (by rw [upd_same, ts_size, List.take_length, List.map_map]; rfl), _, rfl, ?_⟩
    dsimp only
    rw [List.all_map]
    have k1 := k _ zD
    generalize upd H D (.lst ((l.take (TS l).cps.size).map fun c => .bl (isD c))) = H2 at zD k1 ⊢
    show if (!l.all isD) = true then _ else _
    cases al : l.all isD with
    | false =>
      rw [show digN l = none by unfold digN; rw [if_neg l0, if_neg l41, if_pos al]] at k1
      exact iteT k1
    | true =>
      refine iteF ?_
      obtain ⟨c, r, e⟩ : ∃ c r, l = c :: r := by cases l with | nil => exact absurd rfl l0 | cons c r => exact ⟨c, r, rfl⟩
      refine ⟨_, rfl, _, 0, c, rfl, rfl, tx.line, (show atI (TS l).cps.toList ((0 : Nat) : Int) = some c from atI_nat (by rw [show (TS l).cps.toList = l from hc, e]; rfl)), rfl, _, rfl, ?_⟩
      rw [dec_one zero_cl]
      have g2 := int_digits l0 (by omega) al
      by_cases z : c = 48
      · rw [decide_eq_true z]
        refine iteT ⟨_, rfl, rfl, _, rfl, ?_⟩
        rw [dec_ts zero_cl]
        by_cases z2 : l = [48]
        · rw [decide_eq_true z2]
          rw [show digN l = some (NumText.digitsVal l) by unfold digN; rw [if_neg l0, if_neg l41, if_neg (by rw [al]; decide), if_neg (fun q => q.2 z2)]] at k1
          exact iteF ⟨_, rfl, _, _, rfl, g2, by rw [ts_len]; omega, k1⟩
        · rw [decide_eq_false z2]
          rw [show digN l = none by unfold digN; rw [if_neg l0, if_neg l41, if_neg (by rw [al]; decide), if_pos ⟨by rw [e, z]; rfl, z2⟩]] at k1
          exact iteT k1
      · rw [decide_eq_false z]
        rw [show digN l = some (NumText.digitsVal l) by unfold digN; rw [if_neg l0, if_neg l41, if_neg (by rw [al]; decide), if_neg (fun q => z (by have := q.1; rw [e] at this; injection this))]] at k1
        exact iteF (iteF ⟨_, rfl, _, _, rfl, g2, by rw [ts_len]; omega, k1⟩)
end
end
end K79
set_option Elab.async false
set_option linter.all false
set_option maxRecDepth 100000
set_option maxHeartbeats 4000000
namespace K79
open PySem PySem.Spec PyProof.Rows L2 Lc
/-! ## numbers -/
theorem part_gen {x : Str} (h : 47 ∈ CL x) : ∃ a b, CL x = a ++ 47 :: b ∧ Txt.partition x ⟨#[47]⟩ = (TS a, ⟨#[47]⟩, TS b) := by
  have f := StrLaws.found_one x 47
  rw [decide_eq_true (show 47 ∈ x.cps.toList from h)] at f
  obtain ⟨fi, ch⟩ := StrLaws.occ_chain x ⟨#[47]⟩ 1
  unfold Txt.partition
  cases q : Builtin.Str.occurrences x ⟨#[47]⟩ 0 x.length 1 with
  | nil => rw [q] at f; cases f
  | cons i r =>
    rw [q] at ch
    obtain ⟨_, ⟨h1, h2⟩, _⟩ := ch
    rw [StrLaws.subAt_eq] at h2
    have h2 : (x.cps.toList.drop i).take 1 = [47] := eq_of_beq h2
    have e : x.cps.toList = x.cps.toList.take i ++ 47 :: x.cps.toList.drop (i + 1) := by
      have d : x.cps.toList.drop i = 47 :: x.cps.toList.drop (i + 1) := by
        cases w : x.cps.toList.drop i with
        | nil => rw [w] at h2; cases h2
        | cons c r =>
          rw [w] at h2
          have h2 : [c] = [47] := h2
          injection h2 with h2 _
          rw [h2]
          congr 1
          have := congrArg (List.drop 1) w
          rw [List.drop_drop] at this
          exact this.symm
      rw [← d, List.take_append_drop]
    refine ⟨_, _, e, ?_⟩
    show (Builtin.Str.strSub x 0 i, (⟨#[47]⟩ : Str), Builtin.Str.strSub x (i + 1) x.length) = _
    refine Prod.ext ?_ (Prod.ext rfl ?_)
    · refine ts_of ?_
      show (Builtin.Str.strSub x 0 i).cps.toList = _
      rw [StrLaws.strSub_toList, List.drop_zero]
      rfl
    · refine ts_of ?_
      show (Builtin.Str.strSub x (i + 1) x.length).cps.toList = _
      rw [StrLaws.strSub_toList]
      exact List.take_of_length_le (by rw [List.length_drop, lenL]; exact Nat.le_refl _)
def negA (l : List Nat) : Bool := decide (l.head? = some 45)
def str45 (l : List Nat) : List Nat := if l.head? = some 45 then l.drop 1 else l
def obN : Option (List Nat) → Option Nat
  | none => some 1
  | some b => digN b
def sgI (ng : Bool) (s : Nat) : Int := if ng then -(s : Int) else s
def numF : Bool → Bool → Option Nat → Option Nat → PyData
  | ng, sl, some s, some d => if ((sl && decide (d = 1)) || (ng && decide (s = 0))) = true then .none else if numB (.int (sgI ng s)) (.int (d : Int)) = true then .tuple [.int (sgI ng s), .int (d : Int)] else .none
  | _, _, _, _ => .none
def numAB (a : List Nat) (ob : Option (List Nat)) : PyData := numF (negA a) ob.isSome (digN (str45 a)) (obN ob)
def cutL : List Nat → Option (List Nat × List Nat)
  | [] => none
  | c :: r => if c = 47 then some ([], r) else (cutL r).map fun p => (c :: p.1, p.2)
def numD (l : List Nat) : PyData := match cutL l with
  | none => numAB l none
  | some p => numAB p.1 (some p.2)
theorem numF_n1 {ng sl : Bool} {o : Option Nat} : numF ng sl none o = .none := by rw [numF]; nofun
theorem numF_n2 {ng sl : Bool} {o : Option Nat} : numF ng sl o none = .none := by rw [numF]; nofun
theorem cutL_none : ∀ {l : List Nat}, 47 ∉ l → cutL l = none
  | [], _ => rfl
  | c :: r, h => by
    rw [cutL, if_neg (fun e => h (by rw [e]; exact List.mem_cons_self)), cutL_none fun q => h (List.mem_cons_of_mem _ q)]
    rfl
theorem cutL_some : ∀ {l : List Nat}, 47 ∈ l → ∃ a b, cutL l = some (a, b) ∧ l = a ++ 47 :: b ∧ 47 ∉ a
  | [], h => by cases h
  | c :: r, h => by
    by_cases z : c = 47
    · exact ⟨[], r, by rw [cutL, if_pos z], by rw [z]; rfl, nofun⟩
    · have h : 47 ∈ r := by
        rcases List.mem_cons.mp h with q | q
        · exact absurd q.symm z
        · exact q
      obtain ⟨a, b, e1, e2, e3⟩ := cutL_some h
      exact ⟨c :: a, b, by rw [cutL, if_neg z, e1]; rfl, by rw [e2]; rfl, fun q => by rcases List.mem_cons.mp q with q | q; exact z q.symm; exact e3 q⟩
theorem cut_two : ∀ {a0 a b b0 : List Nat}, a ++ 47 :: b = a0 ++ 47 :: b0 → 47 ∉ a0 → (a = a0 ∧ b = b0) ∨ (47 ∈ a ∧ 47 ∈ b0)
  | [], [], _, _, e, _ => .inl ⟨rfl, (List.cons.inj e).2⟩
  | [], c :: r, b, b0, e, _ => by
    obtain ⟨e1, e2⟩ := List.cons.inj e
    exact .inr ⟨by rw [e1]; exact List.mem_cons_self, by rw [← e2]; simp⟩
  | c :: r, [], b, b0, e, h => absurd (List.cons.inj e).1 (fun z => h (by rw [z]; exact List.mem_cons_self))
  | c :: r, d :: s, b, b0, e, h => by
    obtain ⟨e1, e2⟩ := List.cons.inj e
    rcases cut_two e2 (fun z => h (List.mem_cons_of_mem _ z)) with ⟨h1, h2⟩ | ⟨h1, h2⟩
    · exact .inl ⟨by rw [e1, h1], h2⟩
    · exact .inr ⟨List.mem_cons_of_mem _ h1, h2⟩
theorem dig47 {l : List Nat} (h : 47 ∈ l) : digN l = none := by
  cases e : digN l with
  | none => rfl
  | some m =>
    have := List.all_eq_true.mp (digN_digits e).2.2 47 h
    have := (isD_is 47).mp this
    omega
theorem str47 {l : List Nat} : 47 ∈ str45 l ↔ 47 ∈ l := by
  unfold str45
  cases l with
  | nil => simp
  | cons c r =>
    by_cases z : c = 45
    · subst z
      simp
    · simp [z]
theorem num_any {l a b : List Nat} (e : l = a ++ 47 :: b) : numD l = numAB a (some b) := by
  obtain ⟨a0, b0, c1, c2, c3⟩ := cutL_some (l := l) (by rw [e]; simp)
  have : numD l = numAB a0 (some b0) := by unfold numD; rw [c1]
  rw [this]
  rcases cut_two (e.symm.trans c2) c3 with ⟨rfl, rfl⟩ | ⟨h1, h2⟩
  · rfl
  · unfold numAB
    rw [dig47 (str47.mpr h1), numF_n1, show obN (some b0) = none from dig47 h2, numF_n2]
theorem num_no {l : List Nat} (h : 47 ∉ l) : numD l = numAB l none := by unfold numD; rw [cutL_none h]
theorem str45_sub (l : List Nat) : (str45 l).Sublist l := by
  unfold str45
  split
  · exact List.drop_sublist _ _
  · exact List.Sublist.refl _
def optV : Option Nat → V
  | none => .non
  | some m => .int (m : Int)
theorem dgV_is (l : List Nat) : dgV l = optV (digN l) := by unfold dgV; cases digN l <;> rfl
def spNm : Sp := fun vs H Q _ => ∃ (l : List Nat), vs = [.str (TS l)] ∧ Tx l ∧ ∀ v H', Same H H' → Dh H' v (numD l) → Q v H'
section
variable {P : Program} {w : World} {K : PySem.W.Frag} {mg : Str → Option Value} {base : Heap} {f : Addr} {fd : FuncData}
abbrev sRr : Stmt := top 21
abbrev nRr : List Str := ["text", "above", "slash", "below", "size", "d", "negative", "number"]
abbrev pRr : List Str := ["text"]
theorem scRr : FnScope nRr pRr (defScope sRr) := ⟨rfl, rfl, rfl, by decide +kernel, rfl, by decide +kernel, by decide +kernel⟩
section
variable {fA_ fB_ fC_ : Addr} {fdA_ fdB_ fdC_ : FuncData}
theorem ok_Rr (F : Fun K "read_rational" "read_rational" sRr f fd) (T : Bt mg)
    (GA_ : FnOk P w K mg base CX0 1 fA_ fdA_ ["text"] (spDg)) (mA_ : mg "read_whole" = some (.ref fA_)) (kA_ : PySem.W.keepIn K (.ref fA_) = true) (bA_ : Binds K fdA_ ["text"] [])
    (GB_ : FnOk P w K mg base CX0 2 fB_ fdB_ ["value"] (spIsR)) (mB_ : mg "is_rational" = some (.ref fB_)) (kB_ : PySem.W.keepIn K (.ref fB_) = true) (bB_ : Binds K fdB_ ["value"] [])
    (GC_ : FnOk P w K mg base CX0 1 fC_ fdC_ ["number"] (spWithin)) (mC_ : mg "within_limit" = some (.ref fC_)) (kC_ : PySem.W.keepIn K (.ref fC_) = true) (bC_ : Binds K fdC_ ["number"] []) : FnOk P w K mg base CX0 3 f fd pRr (spNm) := by
  refine F.ok scRr (fun vs H Q E h => ?_) (fun cdv A outer s H vs Q E hr h => ?_)
  · obtain ⟨l, rfl, _⟩ := h
    rfl
  · obtain ⟨l, rfl, tx, k⟩ := h
    have hrA_ : Room (1) _ := hr.mono (by first | decide | omega)
    have hrB_ : Room (2) _ := hr.mono (by first | decide | omega)
    have hrC_ : Room (1) _ := hr.mono (by first | decide | omega)
    refine ⟨_, (pss_cons (ps_asg (pe_m1 PySem.F.slot_str_partition PySem.F.type_str_partition mt_partition (pv 0) pe_str) (pg_tup rfl (pgs_cons (pg_name (i := 1) scRr.nd rfl (.inl rfl)) (pgs_cons (pg_name (i := 2) scRr.nd rfl (.inl rfl)) (pgs_cons (pg_name (i := 3) scRr.nd rfl (.inl rfl)) pgs_nil)))))
      (pss_cons (ps_set (i := 4) scRr.nd rfl (Or.inl rfl) (pe_call GA_ hrA_ (by rfl) mA_ kA_ bA_ .nil pass0 (pa_cons (pe_m1 PySem.F.slot_str_removeprefix PySem.F.type_str_removeprefix mt_removeprefix (pv 1) pe_str) pa_nil)))
      (Evl.pss_cut (ps_set (i := 5) scRr.nd rfl (Or.inl rfl) (pe_ifExp (pt_cmpR op_eq (pv 2) pe_str (nomark _)) pe_int (pe_call GA_ hrA_ (by rfl) mA_ kA_ bA_ .nil pass0 (pa_cons (pv 3) pa_nil))))
      (Evl.pss_cut (ps_if (PW.pt (pw_or (pt_cmpR op_isN (pv 4) pe_non (nomark _)) (pw_or (pt_cmpR op_isN (pv 5) pe_non (nomark _)) (pw_or1 (PW.pt (pw_and (pt_cmpR op_ne (pv 2) pe_str (nomark _)) (pw_and1 (pt_cmpR op_eq (pv 5) pe_int (nomark _))))))))) (pss_one (ps_ret pe_non)) pss_nil)
      (pss_cons (ps_set (i := 6) scRr.nd rfl (Or.inl rfl) (pe_m1 PySem.F.slot_str_startswith PySem.F.type_str_startswith mt_startswith (pv 1) pe_str))
      (pss_cons (ps_if (PW.pt (pw_and (pt_val (pv 6)) (pw_and1 (pt_cmpR op_eq (pv 4) pe_int (nomark _))))) (pss_one (ps_ret pe_non)) pss_nil)
      (Evl.pss_cut (ps_set (i := 7) scRr.nd rfl (Or.inl rfl) (pe_tup (pa_cons (pe_ifExp (pt_val (pv 6)) (pe_un un_neg (pv 4)) (pv 4)) (pa_cons (pv 5) pa_nil))))
      (pss_one (ps_ret (pe_ifExp (PW.pt (pw_and (pt_val (pe_call GB_ hrB_ (by rfl) mB_ kB_ bB_ .nil pass0 (pa_cons (pv 7) pa_nil))) (pw_and1 (pt_val (pe_call GC_ hrC_ (by rfl) mC_ kC_ bC_ .nil pass0 (pa_cons (pv 7) pa_nil)))))) (pv 7) pe_non)))))))))), ?_⟩
    have two : 2 ≤ sizeLine := by decide
    obtain ⟨a, ob, sl, bl, pe, esl, ebl, en, ta, tb⟩ : ∃ (a : List Nat) (ob : Option (List Nat)) (sl : Str) (bl : List Nat), Txt.partition (TS l) (PySem.Str.ofString "/") = (TS a, sl, TS bl) ∧ decide (V.str sl = V.str "") = ob.isNone ∧ (∀ b, ob = some b → bl = b) ∧ numD l = numAB a ob ∧ Tx a ∧ Tx bl := by
      rw [slash_eq]
      by_cases h : 47 ∈ l
      · obtain ⟨a, b, e1, e2⟩ := part_gen (x := TS l) (by rw [cl_ts]; exact h)
        rw [cl_ts] at e1
        exact ⟨a, some b, _, b, e2, (show decide (V.str (⟨#[47]⟩ : Str) = V.str "") = false by decide +kernel), fun _ e => by injection e, num_any e1, tx.sub (by rw [e1]; exact List.sublist_append_left _ _), tx.sub (by rw [e1]; exact (List.sublist_cons_self _ _).trans (List.sublist_append_right _ _))⟩
      · exact ⟨l, none, _, [], part_none (by rw [cl_ts]; exact h), by decide +kernel, nofun, num_no h, tx, tx.sub (List.nil_sublist _)⟩
    have k0 : ∀ H', Same H H' → numD l = .none → Q .non H' := fun H' s e => k .non H' s (by rw [e]; exact .non)
    refine ⟨_, rfl, ⟨_, rfl⟩, _, _, rfl, rfl, by decide +kernel, tx.line, fun p hp => ?_⟩
    rw [pe]
    have zp := Same.upd (o := .tup [.str (TS a), .str sl, .str (TS bl)]) hp
    refine ⟨p, _, rfl, SqT.of upd_same, rfl, _, _, rfl, _, _, rfl, _, _, rfl, rfl, ?_⟩
    generalize upd H p (.tup [.str (TS a), .str sl, .str (TS bl)]) = H1 at zp ⊢
    refine ⟨_, rfl, ⟨_, rfl⟩, _, _, rfl, rfl, ta.line, ?_⟩
    rw [minus_eq, prefix_one, cl_ts]
    refine ⟨str45 a, rfl, ta.sub (str45_sub a), fun H2 s2 => ?_⟩
    rw [dgV_is]
    refine ⟨fun σ H' => ∃ w6 w7 : Option V, σ = [some (.str (TS l)), some (.str (TS a)), some (.str sl), some (.str (TS bl)), some (optV (digN (str45 a))), some (optV (obN ob)), w6, w7] ∧ Same H1 H', ?_, ?_⟩
    · refine ⟨_, rfl, rfl, _, rfl, ?_⟩
      rw [esl]
      cases ob with
      | none => exact iteT ⟨none, none, rfl, s2⟩
      | some b =>
        obtain rfl := ebl b rfl
        exact iteF ⟨_, rfl, bl, rfl, tb, fun H3 s3 => ⟨none, none, by rw [dgV_is]; rfl, s2.trans s3⟩⟩
    rintro σ H3 ⟨w6, w7, rfl, s3⟩
    have sH := zp.trans s3
    refine ⟨fun σ H' => ∃ (s d : Nat), σ = [some (.str (TS l)), some (.str (TS a)), some (.str sl), some (.str (TS bl)), some (.int (s : Int)), some (.int (d : Int)), w6, w7] ∧ H' = H3 ∧ digN (str45 a) = some s ∧ obN ob = some d ∧ (ob.isSome && decide (d = 1)) = false, ?_, ?_⟩
    · refine ⟨_, rfl, rfl, _, rfl, ?_⟩
      cases e1 : digN (str45 a) with
      | none => exact iteT (iteT (k0 _ sH (by rw [en, numAB, e1, numF_n1])))
      | some s =>
        refine iteF ⟨_, rfl, rfl, _, rfl, ?_⟩
        cases e2 : obN ob with
        | none => exact iteT (iteT (k0 _ sH (by rw [en, numAB, e2, numF_n2])))
        | some d =>
          refine iteF ⟨_, rfl, rfl, _, rfl, ?_⟩
          rw [esl]
          cases ob with
          | none => exact iteF (iteF ⟨s, d, rfl, rfl, rfl, rfl, rfl⟩)
          | some b =>
            refine iteT ⟨_, rfl, rfl, _, rfl, ?_⟩
            by_cases z : d = 1
            · rw [decide_eq_true (show optV (some d) = V.int 1 by rw [z]; rfl)]
              exact iteT (k0 _ sH (by rw [en, numAB, e1, e2, numF, if_pos (by rw [decide_eq_true z]; rfl)]))
            · rw [decide_eq_false (show ¬ optV (some d) = V.int 1 from fun q => z (by have q : V.int (d : Int) = V.int 1 := q; injection q with q; omega))]
              exact iteF ⟨s, d, rfl, rfl, rfl, rfl, by rw [decide_eq_false z]; rfl⟩
    rintro σ H4 ⟨s, d, rfl, rfl, e1, e2, e3⟩
    have en : numD l = numF (negA a) ob.isSome (some s) (some d) := by rw [en, numAB, e1, e2]
    rw [numF, e3, Bool.false_or] at en
    refine ⟨_, rfl, ⟨_, rfl⟩, _, _, rfl, rfl, ?_⟩
    rw [starts_one, cl_ts]
    have fin : ∀ (n : Int) (q : Addr) (H5 : Hp), n = sgI (negA a) s → (negA a && decide (s = 0)) = false → H5 q = some (.tup [.int n, .int (d : Int)]) → Same H H5 → numD l = if numB (.int n) (.int (d : Int)) = true then .tuple [.int n, .int (d : Int)] else .none := fun n q H5 hn hz _ _ => by rw [en, if_neg (by rw [hz]; decide), hn]
    by_cases ng : a.head? = some 45
    · have ngA : negA a = true := decide_eq_true ng
      rw [decide_eq_true ng]
      refine ⟨_, rfl, _, rfl, iteT ⟨_, rfl, rfl, _, rfl, ?_⟩⟩
      by_cases z : s = 0
      · rw [decide_eq_true (show V.int (s : Int) = V.int 0 by rw [z]; rfl)]
        exact iteT (k0 _ sH (by rw [en, ngA, decide_eq_true z]; rfl))
      rw [decide_eq_false (show ¬ V.int (s : Int) = V.int 0 from fun e => z (by injection e with e; omega))]
      refine iteF ⟨fun σ H' => ∃ (q : Addr) (w0 w1 w2 w3 w4 w5 w6 : Option V), σ = [w0, w1, w2, w3, w4, w5, w6, some (.ref q)] ∧ H' q = some (.tup [.int (-(s : Int)), .int (d : Int)]) ∧ Same H H', ?_, ?_⟩
      · exact ⟨_, rfl, _, rfl, iteT ⟨_, rfl, _, rfl, _, rfl, two, fun q hq => ⟨q, _, _, _, _, _, _, _, rfl, upd_same, sH.trans (Same.upd hq)⟩⟩⟩
      · rintro σ H5 ⟨q, w0, w1, w2, w3, w4, w5, w6, rfl, hq, s5⟩
        have f := fin _ q H5 (by rw [ngA]; rfl) (by rw [decide_eq_false z, Bool.and_false]) hq s5
        refine ⟨_, rfl, .ref q, _, rfl, .pair hq (.int _) (.int _), _, rfl, ?_⟩
        cases r1 : ratB (.int (-(s : Int))) (.int (d : Int)) with
        | false => exact iteF (k0 _ s5 (by rw [f, if_neg (by unfold numB; rw [r1, Bool.false_and]; decide)]))
        | true =>
          refine iteT ⟨_, rfl, q, _, _, rfl, hq, _, rfl, ?_⟩
          cases r2 : limB (.int (-(s : Int))) (.int (d : Int)) with
          | false => exact iteF (k0 _ s5 (by rw [f, if_neg (by unfold numB; rw [r1, r2]; decide)]))
          | true => exact iteT ⟨_, rfl, k _ H5 s5 (by rw [f, if_pos (by unfold numB; rw [r1, r2]; rfl)]; exact .tup hq (.cons (.int _) (.cons (.int _) .nil)))⟩
    · have ngA : negA a = false := decide_eq_false ng
      rw [decide_eq_false ng]
      refine ⟨_, rfl, _, rfl, iteF (iteF ⟨fun σ H' => ∃ (q : Addr) (w0 w1 w2 w3 w4 w5 w6 : Option V), σ = [w0, w1, w2, w3, w4, w5, w6, some (.ref q)] ∧ H' q = some (.tup [.int (s : Int), .int (d : Int)]) ∧ Same H H', ?_, ?_⟩)⟩
      · exact ⟨_, rfl, _, rfl, iteF ⟨_, rfl, _, rfl, two, fun q hq => ⟨q, _, _, _, _, _, _, _, rfl, upd_same, sH.trans (Same.upd hq)⟩⟩⟩
      · rintro σ H5 ⟨q, w0, w1, w2, w3, w4, w5, w6, rfl, hq, s5⟩
        have f := fin _ q H5 (by rw [ngA]; rfl) (by rw [ngA]; rfl) hq s5
        refine ⟨_, rfl, .ref q, _, rfl, .pair hq (.int _) (.int _), _, rfl, ?_⟩
        cases r1 : ratB (.int (s : Int)) (.int (d : Int)) with
        | false => exact iteF (k0 _ s5 (by rw [f, if_neg (by unfold numB; rw [r1, Bool.false_and]; decide)]))
        | true =>
          refine iteT ⟨_, rfl, q, _, _, rfl, hq, _, rfl, ?_⟩
          cases r2 : limB (.int (s : Int)) (.int (d : Int)) with
          | false => exact iteF (k0 _ s5 (by rw [f, if_neg (by unfold numB; rw [r1, r2]; decide)]))
          | true => exact iteT ⟨_, rfl, k _ H5 s5 (by rw [f, if_pos (by unfold numB; rw [r1, r2]; rfl)]; exact .tup hq (.cons (.int _) (.cons (.int _) .nil)))⟩
end
end
end K79
set_option Elab.async false
set_option linter.all false
set_option maxRecDepth 100000
set_option maxHeartbeats 4000000
namespace K79
open PySem PySem.Spec PyProof.Rows L2 Lc
/-! ## numbers as the law reads them -/
theorem cut1 (l : List Nat) : cutS (TS l) none (some 1) = TS (l.take 1) := ts_of (by show (cutS (TS l) none (some 1)).cps.toList = _; rw [cut_first, show (TS l).cps.toList = l from cl_ts l])
theorem cutR (l : List Nat) : cutS (TS l) (some 1) none = TS (l.drop 1) := ts_of (by show (cutS (TS l) (some 1) none).cps.toList = _; rw [cut_rest, show (TS l).cps.toList = l from cl_ts l])
theorem dec_take {l : List Nat} {c : Nat} {z : Str} (e : CL z = [c]) : decide (V.str (TS (l.take 1)) = V.str z) = decide (l.head? = some c) := by
  rw [dec_ts e]
  cases l with
  | nil => rfl
  | cons a r => exact decide_eq_decide.mpr (by simp)
theorem minus_cl : CL (PySem.Str.ofString "-") = [45] := by decide +kernel
def jl47 : List (List Nat) → List Nat
  | [] => []
  | [x] => x
  | x :: y :: r => x ++ 47 :: jl47 (y :: r)
theorem toL_join47 : ∀ ps : List Str, (Str.join ⟨#[47]⟩ ps).cps.toList = jl47 (ps.map fun p => p.cps.toList)
  | [] => rfl
  | [x] => rfl
  | x :: y :: r => by
    have ih := toL_join47 (y :: r)
    have e : Str.join ⟨#[47]⟩ (x :: y :: r) = x ++ ⟨#[47]⟩ ++ Str.join ⟨#[47]⟩ (y :: r) := rfl
    rw [e]
    show (x.cps ++ #[47] ++ (Str.join ⟨#[47]⟩ (y :: r)).cps).toList = _
    rw [Array.toList_append, Array.toList_append, ih]
    show x.cps.toList ++ [47] ++ jl47 (y.cps.toList :: r.map fun p => p.cps.toList) = x.cps.toList ++ 47 :: jl47 (y.cps.toList :: r.map fun p => p.cps.toList)
    rw [List.append_assoc]
    rfl
inductive Parts (m : List Nat) : List Str → Prop
  | one (h : 47 ∉ m) : Parts m [TS m]
  | two {p q : List Nat} (e : m = p ++ 47 :: q) (hp : 47 ∉ p) (hq : 47 ∉ q) : Parts m [TS p, TS q]
  | more {p q : List Nat} {y z : Str} {r : List Str} (e : m = p ++ 47 :: q) (hp : 47 ∉ p) (hq : 47 ∈ q) : Parts m (TS p :: y :: z :: r)
theorem parts_of (m : List Nat) : Parts m (Txt.split (TS m) ⟨#[47]⟩) := by
  have e : jl47 ((Txt.split (TS m) ⟨#[47]⟩).map fun p => p.cps.toList) = m := by
    rw [← toL_join47, StrLaws.join_split]
    exact cl_ts m
  have fr := StrLaws.split_free (TS m) 47
  by_cases m0 : m = []
  · subst m0
    rw [show Txt.split (TS []) ⟨#[47]⟩ = [TS []] by decide +kernel]
    exact .one nofun
  match q : Txt.split (TS m) ⟨#[47]⟩, e, fr with
  | [], e, _ => exact absurd e.symm m0
  | [x], e, fr =>
    have e : x.cps.toList = m := e
    have := ts_of (x := x) e
    rw [this]
    exact .one (by rw [← e]; exact fr x List.mem_cons_self)
  | [x, y], e, fr =>
    have e : x.cps.toList ++ 47 :: y.cps.toList = m := e
    have h := Parts.two e.symm (fr x List.mem_cons_self) (fr y (List.mem_cons_of_mem _ List.mem_cons_self))
    rw [show TS x.cps.toList = x from ts_cl x, show TS y.cps.toList = y from ts_cl y] at h
    exact h
  | x :: y :: z :: r, e, fr =>
    have e : x.cps.toList ++ 47 :: (y.cps.toList ++ 47 :: jl47 (z.cps.toList :: r.map fun p => p.cps.toList)) = m := e
    have h := Parts.more (y := y) (z := z) (r := r) e.symm (fr x List.mem_cons_self) (by simp)
    rw [show TS x.cps.toList = x from ts_cl x] at h
    exact h
theorem num_A {l : List Nat} (h : 47 ∉ str45 l) : numD l = numF (negA l) false (digN (str45 l)) (some 1) := num_no fun q => h (str47.mpr q)
theorem num_B {l p q : List Nat} (e : str45 l = p ++ 47 :: q) (hp : 47 ∉ p) : numD l = numF (negA l) true (digN p) (digN q) := by
  unfold str45 at e
  by_cases z : l.head? = some 45
  · rw [if_pos z] at e
    obtain ⟨c, r, rfl⟩ : ∃ c r, l = c :: r := by cases l with | nil => cases z | cons c r => exact ⟨c, r, rfl⟩
    obtain rfl : c = 45 := by injection z
    have e : r = p ++ 47 :: q := e
    rw [num_any (a := 45 :: p) (b := q) (by rw [e]; rfl)]
    rfl
  · rw [if_neg z] at e
    have np : ¬ p.head? = some 45 := fun w => z (by rw [e]; cases p with | nil => cases w | cons c r => exact w)
    rw [num_any e]
    unfold numAB negA str45
    rw [if_neg np, decide_eq_false np, decide_eq_false z]
    rfl
theorem dig0 {r : List Nat} (h : digN r = some 0) : r = [48] := by
  obtain ⟨h1, h2, h3⟩ := digN_digits h
  unfold digN at h
  rw [if_neg h1, if_neg (by omega), if_neg (by rw [h3]; decide)] at h
  split at h
  · cases h
  · rename_i hz
    cases r with
    | nil => exact absurd rfl h1
    | cons c t =>
      by_cases z : c = 48
      · exact Classical.byContradiction fun w => hz ⟨by rw [z]; rfl, w⟩
      · have hc := (isD_is c).mp (List.all_eq_true.mp h3 c List.mem_cons_self)
        have hv : NumText.digitsVal (c :: t) = 0 := Option.some.inj h
        have va := val_app [c] t
        rw [show [c] ++ t = c :: t from rfl, hv] at va
        have v1 : NumText.digitsVal [c] = c - 48 := by show 0 * 10 + (c - 48) = _; omega
        rw [v1] at va
        have : 0 < 10 ^ t.length := Nat.pow_pos (by decide)
        have : 1 * 1 ≤ (c - 48) * 10 ^ t.length := Nat.mul_le_mul (by omega) (by omega)
        omega
theorem minus0 {l : List Nat} : l = [45, 48] ↔ negA l = true ∧ digN (str45 l) = some 0 := by
  refine ⟨fun h => by rw [h]; decide +kernel, fun ⟨h1, h2⟩ => ?_⟩
  have h1 : l.head? = some 45 := of_decide_eq_true h1
  have := dig0 h2
  unfold str45 at this
  rw [if_pos h1] at this
  cases l with
  | nil => cases h1
  | cons c r =>
    injection h1 with h1
    rw [h1]
    exact congrArg (45 :: ·) this
theorem low_same {s d : Int} (h : 0 < d) : (lowN s d = s ∧ lowD s d = d) ↔ gd s d = 1 := by
  refine ⟨fun ⟨_, h2⟩ => ?_, fun g => ?_⟩
  · have m := (low_mul (n := s) (d := d) (by omega)).2
    rw [h2] at m
    have : d * gd s d = d * 1 := by rw [m, Int.mul_one]
    exact Int.eq_of_mul_eq_mul_left (by omega) this
  · unfold lowN lowD
    rw [g, Int.ediv_one, Int.ediv_one]
    exact ⟨rfl, rfl⟩
theorem gd_sg (ng : Bool) (s : Nat) (d : Int) : gd (sgI ng s) d = gd (s : Int) d := by
  cases ng with
  | false => rfl
  | true => show gd (-(s : Int)) d = _; unfold gd; rw [Int.neg_gcd]
theorem num_law {ng sl : Bool} {s d : Nat} : numF ng sl (some s) (some d) = if d < 1 ∨ lim < (s : Int) ∨ lim < (d : Int) then .none else if (sl = true ∧ d = 1) ∨ ¬ (lowN (s : Int) (d : Int) = s ∧ lowD (s : Int) (d : Int) = d) ∨ (ng = true ∧ s = 0) then .none else .tuple [.int (sgI ng s), .int (d : Int)] := by
  have ab : (if sgI ng s < 0 then -sgI ng s else sgI ng s) = (s : Int) := by
    cases ng with
    | false => show (if (s : Int) < 0 then -(s : Int) else s) = s; split <;> omega
    | true => show (if -(s : Int) < 0 then - -(s : Int) else -(s : Int)) = s; split <;> omega
  have nb : numB (.int (sgI ng s)) (.int (d : Int)) = (decide ((0 : Int) < d) && decide (gd (s : Int) (d : Int) = 1) && (decide ((s : Int) ≤ lim) && decide ((d : Int) ≤ lim))) := by
    show (decide ((0 : Int) < d) && decide (gd (sgI ng s) d = 1) && (decide ((if sgI ng s < 0 then -sgI ng s else sgI ng s) ≤ lim) && decide ((d : Int) ≤ lim))) = _
    rw [gd_sg, ab]
  rw [numF, nb]
  by_cases c1 : d < 1 ∨ lim < (s : Int) ∨ lim < (d : Int)
  · rw [if_pos c1]
    split
    · rfl
    · rw [if_neg]
      intro q
      simp only [Bool.and_eq_true, decide_eq_true_eq] at q
      omega
  · rw [if_neg c1]
    have dp : (0 : Int) < d := by omega
    by_cases c2 : (sl = true ∧ d = 1) ∨ ¬ (lowN (s : Int) (d : Int) = s ∧ lowD (s : Int) (d : Int) = d) ∨ (ng = true ∧ s = 0)
    · rw [if_pos c2]
      split
      · rfl
      · rename_i w
        rw [if_neg]
        intro q
        simp only [Bool.and_eq_true, Bool.or_eq_true, decide_eq_true_eq] at q w
        rcases c2 with c2 | c2 | c2
        · exact w (.inl c2)
        · exact c2 ((low_same dp).mpr q.1.2)
        · exact w (.inr c2)
    · rw [if_neg c2]
      have n1 : ¬ (sl = true ∧ d = 1) := fun q => c2 (.inl q)
      have n2 : lowN (s : Int) (d : Int) = s ∧ lowD (s : Int) (d : Int) = d := Classical.byContradiction fun q => c2 (.inr (.inl q))
      have n3 : ¬ (ng = true ∧ s = 0) := fun q => c2 (.inr (.inr q))
      rw [if_neg (by simp only [Bool.and_eq_true, Bool.or_eq_true, decide_eq_true_eq]; intro q; rcases q with q | q; exact n1 q; exact n3 q), if_pos]
      simp only [Bool.and_eq_true, decide_eq_true_eq]
      exact ⟨⟨dp, (low_same dp).mp n2⟩, by omega, by omega⟩
def lone (tw : Bool) (so dq : Option Nat) (l : List Nat) : Prop := numD l = numF (negA l) tw so dq ∧ (tw = false → dq = some 1 ∧ so = digN (str45 l)) ∧ (tw = true → l ≠ [45, 48])
theorem dec_m0 (l : List Nat) : decide (V.str (TS l) = V.str "-0") = decide (l = [45, 48]) := dec_ts (by decide +kernel)
theorem low_eqv {n d : Int} (h : 0 < d) : PyData.eqv (.tuple [.int (lowN n d), .int (lowD n d)]) (.tuple [.int n, .int d]) = decide (gd n d = 1) := by
  have m := low_mul (n := n) (d := d) (by omega)
  have g := gd_pos (a := n) (b := d) (by omega)
  by_cases z : gd n d = 1
  · rw [decide_eq_true z]
    rw [z, Int.mul_one, Int.mul_one] at m
    rw [m.1, m.2]
    simp [PyData.eqv, PyData.eqvAll]
  · rw [decide_eq_false z]
    have ne : lowD n d ≠ d := fun e => by
      rw [e] at m
      have : d * gd n d = d * 1 := by rw [Int.mul_one]; exact m.2
      exact z (Int.eq_of_mul_eq_mul_left (by omega) this)
    simp [PyData.eqv, PyData.eqvAll, ne]
theorem gd_zero (d : Int) (h : 0 < d) : gd 0 d = d := by
  unfold gd
  rw [Int.gcd_zero_left]
  omega
section
variable {P : Program} {w : World} {K : PySem.W.Frag} {mg : Str → Option Value} {base : Heap} {f : Addr} {fd : FuncData}
end
end K79
set_option Elab.async false
set_option linter.all false
set_option maxRecDepth 100000
set_option maxHeartbeats 4000000
namespace K79
open PySem PySem.Spec PyProof.Rows L2 Lc
/-! ## leaves -/
def nmL (l : List Nat) : Bool := nameB (.str (TS l))
def valD (l : List Nat) : PyData := if l = [35, 121, 101, 115] then .bool true else if l = [35, 110, 111] then .bool false else if l.head? = some 39 then (if nmL (l.drop 1) = true then .str (TS (l.drop 1)) else .none) else numD l
def wrapD : PyData → PyData
  | .none => .none
  | d => .tuple [.str "value", d]
theorem wrap_ne {d : PyData} (h : d ≠ .none) : wrapD d = .tuple [.str "value", d] := by cases d <;> first | rfl | exact absurd rfl h
def leafD (t : List Nat) : PyData := if nmL t = true then .tuple [.str "column", .str (TS t)] else if t.head? = some 61 then wrapD (valD (t.drop 1)) else .none
def spLin : Sp := fun vs H Q _ => ∃ (l : List Nat), vs = [.str (TS l)] ∧ Tx l ∧ ∀ H', Same H H' → Q (.bl (nmL l)) H'
def spRv : Sp := fun vs H Q _ => ∃ (l : List Nat), vs = [.str (TS l)] ∧ Tx l ∧ ∀ v H', Same H H' → Dh H' v (valD l) → Q v H'
def spRl : Sp := fun vs H Q _ => ∃ (l : List Nat), vs = [.str (TS l)] ∧ Tx l ∧ ∀ v H', Same H H' → Dh H' v (leafD l) → Q v H'
theorem cutG {l : List Nat} {a b : Nat} (h1 : a ≤ b) : cutS (TS l) (some (a : Int)) (some (b : Int)) = TS ((l.drop a).take (b - a)) := by
  refine ts_of ?_
  show (cutS (TS l) (some (a : Int)) (some (b : Int))).cps.toList = _
  unfold cutS
  rw [HT.sIx_nat, HT.sIx_nat, ts_len]
  show List.take (min b l.length - min a l.length) (List.drop (min a l.length) (CL (TS l))) = _
  rw [cl_ts]
  by_cases ha : a ≤ l.length
  · rw [Nat.min_eq_left ha]
    by_cases hb : b ≤ l.length
    · rw [Nat.min_eq_left hb]
    · rw [Nat.min_eq_right (by omega), List.take_of_length_le (by rw [List.length_drop]; exact Nat.le_refl _), List.take_of_length_le (by rw [List.length_drop]; omega)]
  · rw [Nat.min_eq_right (show l.length ≤ a by omega), List.drop_of_length_le (Nat.le_refl _), List.drop_of_length_le (by omega), List.take_nil, List.take_nil]
theorem cutE {l : List Nat} {a : Nat} : cutS (TS l) (some (a : Int)) none = TS (l.drop a) := by
  refine ts_of ?_
  show (cutS (TS l) (some (a : Int)) none).cps.toList = _
  have e2 : HT.sIx (TS l).length (TS l).length none = (TS l).length := rfl
  unfold cutS
  rw [HT.sIx_nat, e2, ts_len]
  show List.take (l.length - min a l.length) (List.drop (min a l.length) (CL (TS l))) = _
  rw [cl_ts]
  by_cases ha : a ≤ l.length
  · rw [Nat.min_eq_left ha, List.take_of_length_le (by rw [List.length_drop]; exact Nat.le_refl _)]
  · rw [Nat.min_eq_right (by omega), List.drop_of_length_le (Nat.le_refl _), List.drop_of_length_le (by omega), List.take_nil]
theorem nm_not61 {l : List Nat} (h : l.head? = some 61) : nmL l = false := by
  cases q : nmL l with
  | false => rfl
  | true =>
    cases l with
    | nil => cases h
    | cons c r =>
      injection h with h
      have := (name_signs q).2.2.2 c r (cl_ts _)
      omega
def isNo : PyData → Bool
  | .none => true
  | _ => false
theorem isNo_t {d : PyData} (h : isNo d = true) : d = .none := by cases d <;> first | rfl | cases h
theorem isNo_f {d : PyData} (h : isNo d = false) : d ≠ .none := fun e => by rw [e] at h; cases h
theorem dh_non {H : Hp} {v : V} {d : PyData} (h : Dh H v d) : decide (v = V.non) = isNo d := by
  cases h <;> first | rfl | exact decide_eq_false nofun
theorem yes_cl : CL (PySem.Str.ofString "#yes") = [35, 121, 101, 115] := by decide +kernel
theorem no_cl : CL (PySem.Str.ofString "#no") = [35, 110, 111] := by decide +kernel
theorem eyes_cl : CL (PySem.Str.ofString "=#yes") = [61, 35, 121, 101, 115] := by decide +kernel
theorem eno_cl : CL (PySem.Str.ofString "=#no") = [61, 35, 110, 111] := by decide +kernel
theorem tick_cl : CL (PySem.Str.ofString "'") = [39] := by decide +kernel
theorem eq_cl : CL (PySem.Str.ofString "=") = [61] := by decide +kernel
section
variable {P : Program} {w : World} {K : PySem.W.Frag} {mg : Str → Option Value} {base : Heap} {f : Addr} {fd : FuncData}
abbrev sRv : Stmt := top 22
abbrev nRv : List Str := ["text", "word"]
abbrev pRv : List Str := ["text"]
theorem scRv : FnScope nRv pRv (defScope sRv) := ⟨rfl, rfl, rfl, by decide +kernel, rfl, by decide +kernel, by decide +kernel⟩
section
variable {fA_ fB_ : Addr} {fdA_ fdB_ : FuncData}
theorem ok_Rv (F : Fun K "read_value" "read_value" sRv f fd) (T : Bt mg)
    (GA_ : FnOk P w K mg base CX0 1 fA_ fdA_ ["value"] (spName)) (mA_ : mg "is_name" = some (.ref fA_)) (kA_ : PySem.W.keepIn K (.ref fA_) = true) (bA_ : Binds K fdA_ ["value"] [])
    (GB_ : FnOk P w K mg base CX0 3 fB_ fdB_ ["text"] (spNm)) (mB_ : mg "read_rational" = some (.ref fB_)) (kB_ : PySem.W.keepIn K (.ref fB_) = true) (bB_ : Binds K fdB_ ["text"] []) : FnOk P w K mg base CX0 4 f fd pRv (spRv) := by
  refine F.ok scRv (fun vs H Q E h => ?_) (fun cdv A outer s H vs Q E hr h => ?_)
  · obtain ⟨l, rfl, _⟩ := h
    rfl
  · obtain ⟨l, rfl, tx, k⟩ := h
    have hrA_ : Room (1) _ := hr.mono (by first | decide | omega)
    have hrB_ : Room (3) _ := hr.mono (by first | decide | omega)
    refine ⟨_, (pss_cons (ps_if (PW.pt (pw_or (pt_cmpR op_eq (pv 0) pe_str (nomark _)) (pw_or1 (pt_cmpR op_eq (pv 0) pe_str (nomark _))))) (pss_one (ps_ret (pe_cmpR op_eq (pv 0) pe_str (nomark _)))) pss_nil)
      (pss_cons (ps_if (pt_val (pe_m1 PySem.F.slot_str_startswith PySem.F.type_str_startswith mt_startswith (pv 0) pe_str)) (pss_cons (ps_set (i := 1) scRv.nd rfl (Or.inl rfl) (pe_slice sl_str (pv 0) (po_some pe_int) po_none))
      (pss_one (ps_ret (pe_ifExp (pt_val (pe_call GA_ hrA_ (by rfl) mA_ kA_ bA_ .nil pass0 (pa_cons (pv 1) pa_nil))) (pv 1) pe_non)))) pss_nil)
      (pss_one (ps_ret (pe_call GB_ hrB_ (by rfl) mB_ kB_ bB_ .nil pass0 (pa_cons (pv 0) pa_nil)))))), ?_⟩
    have t1 : Tx (l.drop 1) := tx.sub (List.drop_sublist _ _)
    unfold valD at k
    refine ⟨_, rfl, rfl, _, rfl, ?_⟩
    rw [dec_ts yes_cl]
    by_cases y : l = [35, 121, 101, 115]
    · rw [decide_eq_true y]
      refine iteT (iteT ⟨_, rfl, rfl, ?_⟩)
      show Q (.bl (decide (V.str (TS l) = V.str (PySem.Str.ofString "#yes")))) H
      rw [dec_ts yes_cl, decide_eq_true y]
      exact k _ H (Same.refl H) (by rw [if_pos y]; exact .bl _)
    rw [decide_eq_false y]
    rw [if_neg y] at k
    refine iteF ⟨_, rfl, rfl, _, rfl, ?_⟩
    rw [dec_ts no_cl]
    by_cases n : l = [35, 110, 111]
    · rw [decide_eq_true n]
      refine iteT ⟨_, rfl, rfl, ?_⟩
      show Q (.bl (decide (V.str (TS l) = V.str (PySem.Str.ofString "#yes")))) H
      rw [dec_ts yes_cl, decide_eq_false y]
      exact k _ H (Same.refl H) (by rw [if_pos n]; exact .bl _)
    rw [decide_eq_false n]
    rw [if_neg n] at k
    refine iteF ⟨_, rfl, ⟨_, rfl⟩, _, _, rfl, rfl, _, rfl, ?_⟩
    rw [tick_eq, starts_one, cl_ts]
    by_cases q : l.head? = some 39
    · rw [decide_eq_true q]
      rw [if_pos q] at k
      refine iteT ⟨_, rfl, 1, rfl, _, rfl, tx.line, ?_⟩
      rw [cutR]
      refine ⟨_, rfl, .str (TS (l.drop 1)), "str", rfl, .str _, fun y e => by injection e with e; rw [← e]; exact t1.line, fun H' s' => ⟨_, rfl, ?_⟩⟩
      show if nmL (l.drop 1) = true then _ else _
      cases nb : nmL (l.drop 1) with
      | true =>
        rw [if_pos nb] at k
        exact iteT ⟨_, rfl, k _ H' s' (.str _)⟩
      | false =>
        rw [if_neg (by rw [nb]; decide)] at k
        exact iteF (k _ H' s' .non)
    · rw [decide_eq_false q]
      rw [if_neg q] at k
      exact iteF ⟨_, rfl, l, rfl, tx, k⟩
end
abbrev sRl : Stmt := top 23
abbrev nRl : List Str := ["token", "value"]
abbrev pRl : List Str := ["token"]
theorem scRl : FnScope nRl pRl (defScope sRl) := ⟨rfl, rfl, rfl, by decide +kernel, rfl, by decide +kernel, by decide +kernel⟩
section
variable {fA_ fB_ : Addr} {fdA_ fdB_ : FuncData}
theorem ok_Rl (F : Fun K "read_leaf" "read_leaf" sRl f fd) (T : Bt mg)
    (GA_ : FnOk P w K mg base CX0 1 fA_ fdA_ ["value"] (spName)) (mA_ : mg "is_name" = some (.ref fA_)) (kA_ : PySem.W.keepIn K (.ref fA_) = true) (bA_ : Binds K fdA_ ["value"] [])
    (GB_ : FnOk P w K mg base CX0 4 fB_ fdB_ ["text"] (spRv)) (mB_ : mg "read_value" = some (.ref fB_)) (kB_ : PySem.W.keepIn K (.ref fB_) = true) (bB_ : Binds K fdB_ ["text"] []) : FnOk P w K mg base CX0 5 f fd pRl (spRl) := by
  refine F.ok scRl (fun vs H Q E h => ?_) (fun cdv A outer s H vs Q E hr h => ?_)
  · obtain ⟨l, rfl, _⟩ := h
    rfl
  · obtain ⟨l, rfl, tx, k⟩ := h
    have hrA_ : Room (1) _ := hr.mono (by first | decide | omega)
    have hrB_ : Room (4) _ := hr.mono (by first | decide | omega)
    refine ⟨_, (pss_cons (ps_if (pt_val (pe_call GA_ hrA_ (by rfl) mA_ kA_ bA_ .nil pass0 (pa_cons (pv 0) pa_nil))) (pss_one (ps_ret (pe_tup (pa_cons pe_str (pa_cons (pv 0) pa_nil))))) pss_nil)
      (pss_cons (ps_if (pt_not (pt_val (pe_m1 PySem.F.slot_str_startswith PySem.F.type_str_startswith mt_startswith (pv 0) pe_str))) (pss_one (ps_ret pe_non)) pss_nil)
      (pss_cons (ps_set (i := 1) scRl.nd rfl (Or.inl rfl) (pe_call GB_ hrB_ (by rfl) mB_ kB_ bB_ .nil pass0 (pa_cons (pe_slice sl_str (pv 0) (po_some pe_int) po_none) pa_nil)))
      (pss_one (ps_ret (pe_ifExp (pt_cmpR op_isN (pv 1) pe_non (nomark _)) pe_non (pe_tup (pa_cons pe_str (pa_cons (pv 1) pa_nil))))))))), ?_⟩
    have two : 2 ≤ sizeLine := by decide
    have t1 : Tx (l.drop 1) := tx.sub (List.drop_sublist _ _)
    unfold leafD at k
    refine ⟨_, rfl, .str (TS l), "str", rfl, .str _, fun y e => by injection e with e; rw [← e]; exact tx.line, fun H' s' => ⟨_, rfl, ?_⟩⟩
    show if nmL l = true then _ else _
    cases nb : nmL l with
    | true =>
      rw [if_pos nb] at k
      exact iteT ⟨_, rfl, two, fun p hp => k _ _ (s'.trans (Same.upd hp)) (.tup upd_same (.cons (.str _) (.cons (.str _) .nil)))⟩
    | false =>
      rw [if_neg (by rw [nb]; decide)] at k
      refine iteF ⟨_, rfl, ⟨_, rfl⟩, _, _, rfl, rfl, _, rfl, ?_⟩
      rw [equal_eq, starts_one, cl_ts]
      by_cases q : l.head? = some 61
      · rw [decide_eq_true q]
        rw [if_pos q] at k
        refine iteF ⟨_, rfl, 1, rfl, _, rfl, tx.line, ?_⟩
        rw [cutR]
        refine ⟨l.drop 1, rfl, t1, fun v H2 s2 hv => ⟨_, rfl, rfl, _, rfl, ?_⟩⟩
        rw [dh_non hv]
        cases z : isNo (valD (l.drop 1)) with
        | true => exact iteT (k _ H2 (s'.trans s2) (by rw [isNo_t z]; exact .non))
        | false => exact iteF ⟨_, rfl, two, fun p hp => k _ _ ((s'.trans s2).trans (Same.upd hp)) (by rw [wrap_ne (isNo_f z)]; exact .tup upd_same (.cons (.str _) (.cons (hv.same (Same.upd hp)) .nil)))⟩
      · rw [decide_eq_false q]
        rw [if_neg q] at k
        exact iteT (k _ H' s' .non)
end
end
end K79
set_option Elab.async false
set_option linter.all false
set_option maxRecDepth 100000
set_option maxHeartbeats 4000000
namespace K79
open PySem PySem.Spec PyProof.Rows L2 Lc
def sgs : Str := "() "
theorem sgs_in (c : Nat) : decide (c ∈ sgs.cps.toList) = decide (sgl c) := by
  have e : sgs.cps.toList = [40, 41, 32] := by decide +kernel
  rw [e]
  exact decide_eq_decide.mpr (by simp [sgl])
def PcsH (H : Hp) (P : Addr) (rs : List Addr) (ps : List (Nat × List Nat)) : Prop := H P = some (.lst (rs.map V.ref)) ∧ Paired (fun r (q : Nat × List Nat) => H r = some (.tup [.int (q.1 : Int), .str (TS q.2)])) rs ps
theorem PcsH.same {H H' : Hp} {P : Addr} {rs : List Addr} {ps : List (Nat × List Nat)} (h : PcsH H P rs ps) (s : Same H H') : PcsH H' P rs ps := ⟨s _ _ h.1, paired_imp (fun _ _ e => s _ _ e) h.2⟩
theorem paired_len {α β : Type} {R : α → β → Prop} : ∀ {l : List α} {m : List β}, Paired R l m → l.length = m.length
  | _, _, .nil => rfl
  | _, _, .cons _ r => by rw [List.length_cons, List.length_cons, paired_len r]
theorem paired_get {α β : Type} {R : α → β → Prop} : ∀ {l : List α} {m : List β}, Paired R l m → ∀ {i : Nat} {b : β}, m[i]? = some b → ∃ a, l[i]? = some a ∧ R a b
  | _, _, .nil, i, b, e => by simp at e
  | _, _, .cons h r, 0, b, e => by injection e with e; subst e; exact ⟨_, rfl, h⟩
  | _, _, .cons h r, i + 1, b, e => paired_get r (by simpa using e)
def spPo : Sp := fun vs H Q _ => ∃ (l : List Nat), vs = [.str (TS l)] ∧ l.length ≤ 400000 ∧ ∀ (P : Addr) (rs : List Addr) (H' : Hp), Same H H' → PcsH H' P rs (pfold l 0 [] ++ [(l.length, [])]) → Q (.ref P) H'
theorem cut_mid {l : List Nat} {a b : Nat} (h1 : a ≤ b) (h2 : b ≤ l.length) : cutS (TS l) (some (a : Int)) (some (b : Int)) = TS ((l.drop a).take (b - a)) := by
  refine ts_of ?_
  show (cutS (TS l) (some (a : Int)) (some (b : Int))).cps.toList = _
  unfold cutS
  rw [HT.sIx_nat, HT.sIx_nat, ts_len, show min a l.length = a by omega, show min b l.length = b by omega]
  show List.take (b - a) (List.drop a (CL (TS l))) = _
  rw [cl_ts]
theorem cut_end {l : List Nat} {a : Nat} (h : a ≤ l.length) : cutS (TS l) (some (a : Int)) none = TS (l.drop a) := by
  refine ts_of ?_
  show (cutS (TS l) (some (a : Int)) none).cps.toList = _
  have e2 : HT.sIx (TS l).length (TS l).length none = (TS l).length := rfl
  unfold cutS
  rw [HT.sIx_nat, e2, ts_len, Nat.min_eq_left h]
  show List.take (l.length - a) (List.drop a (CL (TS l))) = _
  rw [cl_ts, List.take_of_length_le (by rw [List.length_drop]; exact Nat.le_refl _)]
section
variable {u1 : Tok}
variable {P : Program} {w : World} {K : PySem.W.Frag} {mg : Str → Option Value} {base : Heap} {f : Addr} {fd : FuncData}
abbrev sPo : Stmt := top 24
abbrev nPo : List Str := ["text", "pieces", "start", "at", "sign"]
abbrev pPo : List Str := ["text"]
theorem scPo : FnScope nPo pPo (defScope sPo) := ⟨rfl, rfl, rfl, by decide +kernel, rfl, by decide +kernel, by decide +kernel⟩
section
theorem ok_Po (F : Fun K "pieces_of" "pieces_of" sPo f fd) (T : Bt mg) (mS : mg "SINGLE_SIGNS" = some (.str sgs u1)) : FnOk P w K mg base CX0 1 f fd pPo (spPo) := by
  refine F.ok scPo (fun vs H Q E h => ?_) (fun cdv A outer s H vs Q E hr h => ?_)
  · obtain ⟨l, rfl, _⟩ := h
    rfl
  · obtain ⟨l, rfl, hl, k⟩ := h
    refine ⟨_, (pss_cons (ps_set (i := 1) scPo.nd rfl (Or.inl rfl) (pe_lst pa_nil))
      (pss_cons (ps_set (i := 2) scPo.nd rfl (Or.inl rfl) pe_int)
      (pss_cons (ps_for PassesOwn.never rfl (pi_enS (by rfl) T.enum (pa_cons (pv 0) pa_nil)) (pg_tup rfl (pgs_cons (pg_name (i := 3) scPo.nd rfl (.inl rfl)) (pgs_cons (pg_name (i := 4) scPo.nd rfl (.inl rfl)) pgs_nil))) (pss_one (ps_if (pt_cmpR op_in_sign (pv 4) (pe_glob (v := .str sgs) (by rfl) mS ⟨_, rfl⟩) (by rfl)) (Evl.pss_cut (ps_if (pt_cmpR op_lt (pv 2) (pv 3) (nomark _)) (pss_one (ps_expr (pe_bm PySem.F.plainAttrs_list PySem.F.slot_list_append PySem.F.type_list_append mt_append (pv 1) (pa_cons (pe_tup (pa_cons (pv 2) (pa_cons (pe_slice sl_str (pv 0) (po_some (pv 2)) (po_some (pv 3))) pa_nil))) pa_nil)))) pss_nil)
      (pss_cons (ps_expr (pe_bm PySem.F.plainAttrs_list PySem.F.slot_list_append PySem.F.type_list_append mt_append (pv 1) (pa_cons (pe_tup (pa_cons (pv 3) (pa_cons (pv 4) pa_nil))) pa_nil)))
      (pss_one (ps_set (i := 2) scPo.nd rfl (Or.inl rfl) (pe_op op_add (pv 3) pe_int))))) pss_nil)))
      (Evl.pss_cut (ps_if (pt_cmpR op_lt (pv 2) (pe_callB call_len_str (by rfl) T.len PySem.boot_len (pa_cons (pv 0) pa_nil)) (nomark _)) (pss_one (ps_expr (pe_bm PySem.F.plainAttrs_list PySem.F.slot_list_append PySem.F.type_list_append mt_append (pv 1) (pa_cons (pe_tup (pa_cons (pv 2) (pa_cons (pe_slice sl_str (pv 0) (po_some (pv 2)) po_none) pa_nil))) pa_nil)))) pss_nil)
      (pss_cons (ps_expr (pe_bm PySem.F.plainAttrs_list PySem.F.slot_list_append PySem.F.type_list_append mt_append (pv 1) (pa_cons (pe_tup (pa_cons (pe_callB call_len_str (by rfl) T.len PySem.boot_len (pa_cons (pv 0) pa_nil)) (pa_cons pe_str pa_nil))) pa_nil)))
      (pss_one (ps_ret (pv 1)))))))), ?_⟩
    have two : 2 ≤ sizeLine := by decide
    have line : (TS l).length ≤ sizeLine := by rw [ts_len]; exact Nat.le_trans hl (by decide)
    refine ⟨by show 0 ≤ sizeLine; decide, fun P hP => ?_⟩
    -- one more piece
    have more : ∀ {Ha : Hp} {rs : List Addr} {acc : List (Nat × List Nat)} {r : Addr} {q : Nat × List Nat}, PcsH Ha P rs acc → Same H Ha → Ha r = none → PcsH (upd (upd Ha r (.tup [.int (q.1 : Int), .str (TS q.2)])) P (.lst (rs.map V.ref ++ [.ref r]))) P (rs ++ [r]) (acc ++ [q]) ∧ Same H (upd (upd Ha r (.tup [.int (q.1 : Int), .str (TS q.2)])) P (.lst (rs.map V.ref ++ [.ref r]))) ∧ upd Ha r (.tup [.int (q.1 : Int), .str (TS q.2)]) P = some (.lst (rs.map V.ref)) := fun {Ha rs acc r q} pc sa hr => by
      have zr := Same.upd (o := .tup [.int (q.1 : Int), .str (TS q.2)]) hr
      have hp := zr _ _ pc.1
      have kt : SameT (upd Ha r (.tup [.int (q.1 : Int), .str (TS q.2)])) (upd (upd Ha r (.tup [.int (q.1 : Int), .str (TS q.2)])) P (.lst (rs.map V.ref ++ [.ref r]))) := SameT.lst hp
      refine ⟨⟨by rw [upd_same, List.map_append]; rfl, paired_snoc (a := r) (b := q) (R := fun (r' : Addr) (q' : Nat × List Nat) => upd (upd Ha r (.tup [.int (q.1 : Int), .str (TS q.2)])) P (.lst (rs.map V.ref ++ [.ref r])) r' = some (.tup [.int (q'.1 : Int), .str (TS q'.2)])) (kt _ _ upd_same) (paired_imp (fun _ _ e => kt _ _ (zr _ _ e)) pc.2)⟩, fun b o e => ?_, hp⟩
      rw [upd_ne (ne_of_none e hP)]
      exact zr _ _ (sa _ _ e)
    refine ⟨_, rfl, _, rfl, for_it walk_enS (fun i σ H' => ∃ (rs : List Addr) (acc : List (Nat × List Nat)) (s : Nat) (x3 x4 : Option V), σ = [some (.str (TS l)), some (.ref P), some (.int (s : Int)), x3, x4] ∧ s ≤ i ∧ i ≤ l.length ∧ PcsH H' P rs acc ∧ rs.length ≤ 2 * i ∧ acc ++ pfold (l.drop i) i ((l.drop s).take (i - s)) = pfold l 0 [] ∧ Same H H') ⟨[], [], 0, none, none, rfl, Nat.le_refl _, Nat.zero_le _, ⟨upd_same, .nil⟩, Nat.zero_le _, by simp, Same.upd hP⟩ (fun _ _ _ _ _ => True.intro) ?_ ?_⟩
    · rintro i x σ Ha Hb hi ⟨rs, acc, s, x3, x4, rfl, hs, hil, pc, lr, ea, sa⟩ ⟨q, i', z, rfl, hq, rfl, e1, e2⟩
      obtain rfl : V.int ((i : Nat) : Int) = i' := Option.some.inj e1
      obtain ⟨c, ec, rfl⟩ : ∃ c, l[i]? = some c ∧ V.str ⟨#[c]⟩ = z := by
        have e2 : Option.map (fun c => V.str ⟨#[c]⟩) (TS l).cps[i]? = some z := e2
        cases hc : (TS l).cps[i]? with
        | none => rw [hc] at e2; cases e2
        | some c =>
          rw [hc] at e2
          refine ⟨c, ?_, Option.some.inj e2⟩
          have : (TS l).cps.toList[i]? = some c := by simpa using hc
          rw [show (TS l).cps.toList = l from cl_ts l] at this
          exact this
      have li : i < l.length := (List.getElem?_eq_some_iff.mp ec).1
      have zq := Same.upd (o := .tup [.int ((i : Nat) : Int), .str ⟨#[c]⟩]) hq
      have pc1 := pc.same zq
      have sa1 := sa.trans zq
      have dr : l.drop i = c :: l.drop (i + 1) := by rw [List.drop_eq_getElem_cons li, (List.getElem?_eq_some_iff.mp ec).2]
      have cl : ((l.drop s).take (i - s)).length = i - s := by rw [List.length_take, List.length_drop]; omega
      rw [dr] at ea
      refine ⟨q, _, rfl, SqT.of upd_same, rfl, _, _, rfl, _, _, rfl, rfl, ?_⟩
      generalize upd Ha q (.tup [.int ((i : Nat) : Int), .str ⟨#[c]⟩]) = H1 at pc1 sa1 ⊢
      refine ⟨_, rfl, c, sgs, rfl, rfl, _, rfl, ?_⟩
      rw [sgs_in]
      by_cases sg : sgl c
      · rw [decide_eq_true sg]
        rw [pfold, if_pos sg] at ea
        refine iteT ⟨fun σ H' => ∃ (rs : List Addr) (acc' : List (Nat × List Nat)), σ = [some (.str (TS l)), some (.ref P), some (.int (s : Int)), some (.int (i : Int)), some (.str ⟨#[c]⟩)] ∧ PcsH H' P rs acc' ∧ rs.length ≤ 2 * i + 1 ∧ acc' ++ (i, [c]) :: pfold (l.drop (i + 1)) (i + 1) [] = pfold l 0 [] ∧ Same H H', ?_, ?_⟩
        · refine ⟨_, rfl, _, rfl, _, _, rfl, rfl, _, rfl, ?_⟩
          by_cases lt : s < i
          · rw [decide_eq_true (by omega)]
            have ne : (l.drop s).take (i - s) ≠ [] := fun z => by rw [z] at cl; simp at cl; omega
            rw [if_neg ne, cl, show i - (i - s) = s by omega] at ea
            refine iteT ⟨_, rfl, .inl ⟨rfl, _, SqL.of pc1.1⟩, _, rfl, _, rfl, _, rfl, (s : Int), rfl, _, rfl, (i : Int), rfl, _, rfl, line, ?_⟩
            rw [cut_mid (by omega) (by omega)]
            refine ⟨two, fun r hr => ?_⟩
            obtain ⟨m1, m2, m3⟩ := more (q := (s, (l.drop s).take (i - s))) pc1 sa1 hr
            refine ⟨P, _, _, rfl, rfl, m3, by rw [List.length_map]; exact Nat.lt_of_le_of_lt (show _ ≤ 900000 by omega) (by decide), _, _, rfl, m1, by rw [List.length_append]; show rs.length + 1 ≤ _; omega, ?_, m2⟩
            rw [List.append_assoc]
            exact ea
          · rw [decide_eq_false (by omega)]
            have e : (l.drop s).take (i - s) = [] := List.length_eq_zero_iff.mp (by omega)
            rw [e, if_pos rfl] at ea
            exact iteF ⟨rs, acc, rfl, pc1, by omega, ea, sa1⟩
        · rintro σ H2 ⟨rs2, acc2, rfl, pc2, lr2, ea2, s2⟩
          refine ⟨_, rfl, .inl ⟨rfl, _, SqL.of pc2.1⟩, _, rfl, _, rfl, two, fun r hr => ?_⟩
          obtain ⟨m1, m2, m3⟩ := more (q := (i, [c])) pc2 s2 hr
          refine ⟨P, _, _, rfl, rfl, m3, by rw [List.length_map]; exact Nat.lt_of_le_of_lt (show _ ≤ 900000 by omega) (by decide), _, rfl, _, _, rfl, rfl, ?_⟩
          refine ⟨rs2 ++ [r], acc2 ++ [(i, [c])], i + 1, _, _, rfl, Nat.le_refl _, by omega, m1, by rw [List.length_append]; show rs2.length + 1 ≤ _; omega, ?_, m2⟩
          rw [Nat.sub_self, List.take_zero, List.append_assoc]
          exact ea2
      · rw [decide_eq_false sg]
        rw [pfold, if_neg sg] at ea
        refine iteF ⟨rs, acc, s, _, _, rfl, by omega, by omega, pc1, by omega, ?_, sa1⟩
        have e : (l.drop s).take (i - s) ++ [c] = (l.drop s).take (i + 1 - s) := by
          rw [show i + 1 - s = (i - s) + 1 by omega, List.take_add_one, List.getElem?_drop, show s + (i - s) = i by omega, ec]
          rfl
        rw [e] at ea
        exact ea
    · rintro σ H1 ⟨rs, acc, s, x3, x4, rfl, hs, hil, pc, lr, ea, sa⟩
      have ez : (TS l).cps.size = l.length := ts_len l
      rw [ez] at hs hil lr ea
      rw [List.drop_length, pfold] at ea
      have cl : ((l.drop s).take (l.length - s)).length = l.length - s := by rw [List.length_take, List.length_drop]; omega
      have ct : (l.drop s).take (l.length - s) = l.drop s := List.take_of_length_le (by rw [List.length_drop]; exact Nat.le_refl _)
      refine ⟨fun σ H' => ∃ (rs : List Addr), σ = [some (.str (TS l)), some (.ref P), some (.int (s : Int)), x3, x4] ∧ PcsH H' P rs (pfold l 0 []) ∧ rs.length ≤ 2 * l.length + 1 ∧ Same H H', ?_, ?_⟩
      · refine ⟨_, rfl, _, rfl, _, rfl, line, _, _, rfl, rfl, _, rfl, ?_⟩
        rw [ts_len]
        by_cases lt : s < l.length
        · rw [decide_eq_true (by omega)]
          have ne : (l.drop s).take (l.length - s) ≠ [] := fun z => by rw [z] at cl; simp at cl; omega
          rw [if_neg ne, cl, show l.length - (l.length - s) = s by omega, ct] at ea
          refine iteT ⟨_, rfl, .inl ⟨rfl, _, SqL.of pc.1⟩, _, rfl, _, rfl, _, rfl, (s : Int), rfl, _, rfl, line, ?_⟩
          rw [cut_end hs]
          refine ⟨two, fun r hr => ?_⟩
          obtain ⟨m1, m2, m3⟩ := more (q := (s, l.drop s)) pc sa hr
          refine ⟨P, _, _, rfl, rfl, m3, by rw [List.length_map]; exact Nat.lt_of_le_of_lt (show _ ≤ 900000 by omega) (by decide), rs ++ [r], rfl, ?_, by rw [List.length_append]; show rs.length + 1 ≤ _; omega, m2⟩
          rw [← ea]
          exact m1
        · rw [decide_eq_false (by omega)]
          have e : (l.drop s).take (l.length - s) = [] := List.length_eq_zero_iff.mp (by omega)
          rw [e, if_pos rfl, List.append_nil] at ea
          rw [← ea]
          exact iteF ⟨rs, rfl, pc, by omega, sa⟩
      · rintro σ H2 ⟨rs2, rfl, pc2, lr2, s2⟩
        refine ⟨_, rfl, .inl ⟨rfl, _, SqL.of pc2.1⟩, _, rfl, _, rfl, line, two, fun r hr => ?_⟩
        rw [ts_len]
        obtain ⟨m1, m2, m3⟩ := more (q := (l.length, [])) pc2 s2 hr
        exact ⟨P, _, _, rfl, rfl, m3, by rw [List.length_map]; exact Nat.lt_of_le_of_lt (show _ ≤ 900000 by omega) (by decide), _, rfl, k P _ _ m2 m1⟩
end
end
/-! ## errors that tell one thing -/
structure ErF (K : PySem.W.Frag) (mg : Str → Option Value) (x fld : Str) (C fI : Addr) : Prop where
  oex : OexC K C
  iC : PySem.W.findIn K (.ref C) "__init__" = some (some (.ref fI))
  tI : PySem.W.typeIn K (.ref fI) = some (.type "function")
  nG : PySem.W.findIn K (.ref C) fld = some none
  gC : mg x = some (.ref C)
def TellsF (C : Addr) (fld : Str) (H : Hp) (v : V) (E : XK) : Prop := ∀ (d : Addr) (H' : Hp), Same H H' → H d = none → H' d = some (.xd [(fld, v)]) → E (.ref C) (some d) H'
theorem TellsF.same {C : Addr} {fld : Str} {H H' : Hp} {v : V} {E : XK} (h : TellsF C fld H v E) (s : Same H H') : TellsF C fld H' v E := fun d H2 s2 e1 e2 => h d H2 (s.trans s2) (by cases q : H d with | none => rfl | some o => rw [s _ _ q] at e1; cases e1) e2
def spIni (C : Addr) (fld : Str) : Sp := fun vs H Q _ => ∃ (a : Addr) (v : V), vs = [.ref a, v] ∧ H a = some (exo a C none) ∧ ∀ dx, H dx = none → dx ≠ a → Q .non (upd (upd H dx (exd dx [(fld, v)])) a (exo a C (some dx)))
abbrev sIni : Stmt := inClass (top 1) 0
section
variable {P : Program} {w : World} {K : PySem.W.Frag} {mg : Str → Option Value} {base : Heap} {f C fI : Addr} {fd fdI : FuncData}
theorem scIni : FnScope ["self", "position"] ["self", "position"] (defScope sIni) := ⟨rfl, rfl, rfl, by decide +kernel, rfl, by decide +kernel, by decide +kernel⟩
theorem ok_ini (F : Fun K "__init__" "BadText.__init__" sIni fI fdI) (T : ErF K mg "BadText" "position" C fI) : FnOk P w K mg base CX0 1 fI fdI ["self", "position"] (spIni C "position") := by
  refine F.ok scIni (fun vs H Q E h => ?_) (fun cdv A outer s H vs Q E hr h => ?_)
  · obtain ⟨a, v, rfl, _⟩ := h
    rfl
  · obtain ⟨a, v, rfl, ha, k⟩ := h
    refine ⟨_, pss_one (ps_ost (pv 0) (pv 1)), ?_⟩
    exact ⟨_, rfl, _, rfl, a, C, rfl, T.oex, T.nG, .inl ⟨ha, fun dx h1 h2 => k dx h1 h2⟩⟩
/-- raise X(v) -/
theorem tells_ofF {H : Hp} {fld : Str} {v : V} {E : XK} (t : TellsF C fld H v E) : ∀ a, H a = none → spIni C fld (.ref a :: ([v] ++ [])) (upd H a (exo a C none))
    (fun v' H2 => v' = .non ∧ ∃ (d : Addr) (fs : List (Str × V)), H2 a = some (exo a C (some d)) ∧ H2 d = some (exd d fs) ∧ H d = none ∧ E (.ref C) (some d) (upd (del H2 a) d (.xd fs))) (fun _ _ _ => False) := by
  intro a ha
  refine ⟨a, v, rfl, upd_same, fun dx hx hne => ⟨rfl, dx, _, upd_same, by rw [upd_ne hne, upd_same], by rw [upd_ne hne] at hx; exact hx, ?_⟩⟩
  rw [upd_ne hne] at hx
  refine t dx _ (fun b o e => ?_) hx upd_same
  have nb : b ≠ a := ne_of_none e ha
  have nd : b ≠ dx := ne_of_none e hx
  rw [upd_ne nd, del_ne nb, upd_ne nb, upd_ne nd, upd_ne nb]
  exact e
end
/-! ## where tokens and pieces stand -/
def tokL (l : List Nat) (p : Nat) : List Nat := (l.drop p).takeWhile fun c => !decide (sgl c)
def PF (l : List Nat) (p : Nat) : List (Nat × List Nat) := pfold (l.drop p) p [] ++ [(l.length, [])]
def hdL (l : List Nat) (p : Nat) : List Nat := match l[p]? with
  | none => []
  | some c => if sgl c then [c] else tokL l p
theorem tw_split (g : Nat → Bool) : ∀ l : List Nat, ∃ r, l = l.takeWhile g ++ r ∧ (∀ c ∈ l.takeWhile g, g c = true) ∧ (r = [] ∨ ∃ d r', r = d :: r' ∧ g d = false)
  | [] => ⟨[], rfl, nofun, .inl rfl⟩
  | c :: t => by
    cases e : g c with
    | false => exact ⟨c :: t, by rw [List.takeWhile_cons, e]; rfl, by rw [List.takeWhile_cons, e]; nofun, .inr ⟨c, t, rfl, e⟩⟩
    | true =>
      obtain ⟨r, h1, h2, h3⟩ := tw_split g t
      refine ⟨r, ?_, ?_, h3⟩
      · rw [List.takeWhile_cons, e]
        show c :: t = c :: (t.takeWhile g ++ r)
        rw [← h1]
      · rw [List.takeWhile_cons, e]
        intro x hx
        rcases List.mem_cons.mp hx with rfl | hx
        · exact e
        · exact h2 x hx
theorem tok_split {l : List Nat} {p : Nat} : ∃ r, l.drop p = tokL l p ++ r ∧ l.drop (p + (tokL l p).length) = r ∧ (∀ c ∈ tokL l p, ¬ sgl c) ∧ (r = [] ∨ ∃ d r', r = d :: r' ∧ sgl d) := by
  obtain ⟨r, h1, h2, h3⟩ := tw_split (fun c => !decide (sgl c)) (l.drop p)
  have h1 : l.drop p = tokL l p ++ r := h1
  refine ⟨r, h1, ?_, fun c hc => ?_, ?_⟩
  · have e : l.drop (p + (tokL l p).length) = (l.drop p).drop (tokL l p).length := by rw [List.drop_drop]
    rw [e]
    generalize tokL l p = t at h1 ⊢
    rw [h1, List.drop_left]
  · have := h2 c hc
    simpa only [Bool.not_eq_true', decide_eq_false_iff_not] using this
  · rcases h3 with h | ⟨d, r', e, h⟩
    · exact .inl h
    · exact .inr ⟨d, r', e, by simpa only [Bool.not_eq_false', decide_eq_true_eq] using h⟩
theorem tok_len {l : List Nat} {p : Nat} (h : p ≤ l.length) : p + (tokL l p).length ≤ l.length := by
  obtain ⟨r, h1, _⟩ := tok_split (l := l) (p := p)
  have := congrArg List.length h1
  rw [List.length_drop, List.length_append] at this
  omega
theorem hd_sgl {l : List Nat} {p c : Nat} (h : l[p]? = some c) (s : sgl c) : hdL l p = [c] := by unfold hdL; rw [h]; exact if_pos s
theorem hd_tok {l : List Nat} {p c : Nat} (h : l[p]? = some c) (s : ¬ sgl c) : hdL l p = tokL l p := by unfold hdL; rw [h]; exact if_neg s
theorem hd_none {l : List Nat} {p : Nat} (h : l.length ≤ p) : hdL l p = [] := by unfold hdL; rw [List.getElem?_eq_none h]
theorem drop_c {l : List Nat} {p c : Nat} (h : l[p]? = some c) : l.drop p = c :: l.drop (p + 1) := by
  obtain ⟨h1, h2⟩ := List.getElem?_eq_some_iff.mp h
  rw [List.drop_eq_getElem_cons h1, h2]
theorem tok_sgl {l : List Nat} {p c : Nat} (h : l[p]? = some c) (s : sgl c) : tokL l p = [] := by
  unfold tokL
  rw [drop_c h, List.takeWhile_cons, decide_eq_true s]
  rfl
theorem tok_none {l : List Nat} {p : Nat} (h : l.length ≤ p) : tokL l p = [] := by
  unfold tokL
  rw [List.drop_of_length_le h]
  rfl
theorem tok_ne {l : List Nat} {p c : Nat} (h : l[p]? = some c) (s : ¬ sgl c) : tokL l p ≠ [] := by
  unfold tokL
  rw [drop_c h, List.takeWhile_cons, decide_eq_false s]
  exact List.cons_ne_nil _ _
theorem pf_next {l : List Nat} {p : Nat} (h : p < l.length) : PF l p = (p, hdL l p) :: PF l (p + (hdL l p).length) ∧ p + (hdL l p).length ≤ l.length := by
  obtain ⟨c, hc⟩ : ∃ c, l[p]? = some c := ⟨_, List.getElem?_eq_getElem h⟩
  have dr := drop_c hc
  by_cases s : sgl c
  · rw [hd_sgl hc s]
    refine ⟨?_, h⟩
    show PF l p = (p, [c]) :: PF l (p + 1)
    unfold PF
    rw [dr, pfold, if_pos s, if_pos rfl]
    rfl
  · rw [hd_tok hc s]
    obtain ⟨r, h1, h2, h3, h4⟩ := tok_split (l := l) (p := p)
    have ne := tok_ne hc s
    refine ⟨?_, tok_len (Nat.le_of_lt h)⟩
    unfold PF
    rw [h2, h1]
    generalize tokL l p = t at h3 ne ⊢
    rw [pfold_run h3, List.nil_append]
    rcases h4 with rfl | ⟨d, r', rfl, hd⟩
    · rw [pfold, if_neg ne, pfold, if_pos rfl, Nat.add_sub_cancel]
      rfl
    · rw [pfold, if_pos hd, if_neg ne, pfold, if_pos hd, if_pos rfl, Nat.add_sub_cancel]
      rfl
theorem pf_head {l : List Nat} {p : Nat} (h : p ≤ l.length) : ∃ r, PF l p = (p, hdL l p) :: r := by
  by_cases lt : p < l.length
  · exact ⟨_, (pf_next lt).1⟩
  · obtain rfl : p = l.length := by omega
    refine ⟨[], ?_⟩
    rw [hd_none (Nat.le_refl _)]
    unfold PF
    rw [List.drop_length]
    rfl
theorem pf_at {l : List Nat} {p i : Nat} (h : p ≤ l.length) (d : (PF l 0).drop i = PF l p) : (PF l 0)[i]? = some (p, hdL l p) := by
  obtain ⟨r, e⟩ := pf_head h
  have := congrArg (fun x : List (Nat × List Nat) => x[0]?) d
  rw [List.getElem?_drop, e] at this
  exact this
theorem pf_step {l : List Nat} {p i : Nat} (h : p < l.length) (d : (PF l 0).drop i = PF l p) : (PF l 0).drop (i + 1) = PF l (p + (hdL l p).length) := by
  rw [← List.drop_drop, d, (pf_next h).1]
  rfl
theorem hd_is {l : List Nat} {p c : Nat} (s : sgl c) : hdL l p = [c] ↔ l[p]? = some c := by
  constructor
  · intro h
    cases e : l[p]? with
    | none => rw [hd_none (List.getElem?_eq_none_iff.mp e)] at h; cases h
    | some d =>
      by_cases sd : sgl d
      · rw [hd_sgl e sd] at h
        injection h with h
        rw [h]
      · rw [hd_tok e sd] at h
        obtain ⟨_, _, _, h3, _⟩ := tok_split (l := l) (p := p)
        exact absurd s (h3 c (by rw [h]; exact List.mem_cons_self))
  · intro h
    exact hd_sgl h s
theorem hd_nil {l : List Nat} {p : Nat} : hdL l p = [] ↔ l.length ≤ p := by
  constructor
  · intro h
    cases e : l[p]? with
    | none => exact List.getElem?_eq_none_iff.mp e
    | some d =>
      by_cases sd : sgl d
      · rw [hd_sgl e sd] at h; cases h
      · rw [hd_tok e sd] at h
        exact absurd h (tok_ne e sd)
  · exact hd_none
theorem sgl_cases {c : Nat} {p : Nat → Prop} (h1 : p 40) (h2 : p 41) (h3 : p 32) : sgl c → p c := by
  rintro (rfl | rfl | rfl)
  · exact h1
  · exact h2
  · exact h3
/-! ## what is read -/
def nops (t : List Nat) : Nat := ((opsV (TS t)).map List.length).getD 0
theorem leaf_hd {l : List Nat} {p : Nat} : leafD (hdL l p) = leafD (tokL l p) := by
  cases e : l[p]? with
  | none =>
    have := List.getElem?_eq_none_iff.mp e
    rw [hd_none this, tok_none this]
  | some c =>
    by_cases s : sgl c
    · rw [hd_sgl e s, tok_sgl e s]
      have h0 : leafD [] = .none := isNo_t (by decide +kernel)
      have h1 : isNo (leafD [c]) = true := sgl_cases (p := fun c => isNo (leafD [c]) = true) (by decide +kernel) (by decide +kernel) (by decide +kernel) s
      rw [h0, isNo_t h1]
    · rw [hd_tok e s]
theorem ops_hd {l : List Nat} {p : Nat} : opsV (TS (hdL l p)) = opsV (TS (tokL l p)) := by
  cases e : l[p]? with
  | none =>
    have := List.getElem?_eq_none_iff.mp e
    rw [hd_none this, tok_none this]
  | some c =>
    by_cases s : sgl c
    · rw [hd_sgl e s, tok_sgl e s]
      have h0 : opsV (TS []) = none := by decide +kernel
      have h1 : (opsV (TS [c])) = none := Option.isNone_iff_eq_none.mp (sgl_cases (p := fun c => (opsV (TS [c])).isNone = true) (by decide +kernel) (by decide +kernel) (by decide +kernel) s)
      rw [h0, h1]
    · rw [hd_tok e s]
theorem ops_tok {l : List Nat} {p : Nat} {os : List V} (h : opsV (TS (hdL l p)) = some os) : hdL l p = tokL l p ∧ p < l.length := by
  cases e : l[p]? with
  | none =>
    have := List.getElem?_eq_none_iff.mp e
    rw [hd_none this] at h
    have h0 : opsV (TS []) = none := by decide +kernel
    rw [h0] at h
    cases h
  | some c =>
    refine ⟨?_, (List.getElem?_eq_some_iff.mp e).1⟩
    by_cases s : sgl c
    · rw [ops_hd, tok_sgl e s] at h
      have h0 : opsV (TS []) = none := by decide +kernel
      rw [h0] at h
      cases h
    · exact hd_tok e s
theorem nops_some {t : List Nat} {os : List V} (h : opsV (TS t) = some os) : nops t = os.length := by unfold nops; rw [h]; rfl
theorem nops_none {t : List Nat} (h : opsV (TS t) = none) : nops t = 0 := by unfold nops; rw [h]; rfl
def rds (R : Nat → PyData × Nat) (l : List Nat) : Nat → Nat → List PyData → PyData × Nat
  | 0, p, acc => if l[p]? = some 41 then (.tuple acc, p + 1) else (.none, p)
  | k + 1, p, acc => if l[p]? = some 32 then (if isNo (R (p + 1)).1 = true then (.none, (R (p + 1)).2) else rds R l k (R (p + 1)).2 (acc ++ [(R (p + 1)).1])) else (.none, p)
def rdo (R : Nat → PyData × Nat) (l : List Nat) (p : Nat) : PyData × Nat := if nops (tokL l p) = 0 then (.none, p) else rds R l (nops (tokL l p)) (p + (tokL l p).length) [.str (TS (tokL l p))]
def rd (l : List Nat) : Nat → Nat → PyData × Nat
  | 0, p => (.none, p)
  | n + 1, p => if l.length ≤ p then (.none, p) else if l[p]? = some 40 then rdo (rd l n) l (p + 1) else if isNo (leafD (tokL l p)) = true then (.none, p) else (leafD (tokL l p), p + (tokL l p).length)
def reD (l : List Nat) : PyData × Nat := if isNo (rd l 8 0).1 = true then (.none, (rd l 8 0).2) else if (rd l 8 0).2 < l.length then (.none, (rd l 8 0).2) else rd l 8 0
theorem numF_noL {a b : Bool} {o1 o2 : Option Nat} : noL (numF a b o1 o2) = true := by
  cases o1 with
  | none => rw [numF_n1]; rfl
  | some s =>
    cases o2 with
    | none => rw [numF_n2]; rfl
    | some d =>
      unfold numF
      dsimp only
      split
      · rfl
      split <;> rfl
theorem num_noL {l : List Nat} : noL (numD l) = true := by
  unfold numD numAB
  split <;> exact numF_noL
theorem leaf_noL {t : List Nat} : noL (leafD t) = true := by
  have v : ∀ m, noL (valD m) = true := fun m => by
    unfold valD
    split
    · rfl
    split
    · rfl
    split
    · split <;> rfl
    · exact num_noL
  unfold leafD
  split
  · rfl
  split
  · have := v (t.drop 1)
    generalize valD (t.drop 1) = d at this
    cases z : isNo d with
    | true => rw [isNo_t z]; rfl
    | false =>
      rw [wrap_ne (isNo_f z), noL, noLs, noLs, noLs, this]
      rfl
  · rfl
theorem rds_noL {R : Nat → PyData × Nat} {l : List Nat} (hR : ∀ p, noL (R p).1 = true) : ∀ (k p : Nat) (acc : List PyData), (∀ d ∈ acc, noL d = true) → noL (rds R l k p acc).1 = true
  | 0, p, acc, h => by
    unfold rds
    split
    · exact noLs_all.mpr h
    · rfl
  | k + 1, p, acc, h => by
    unfold rds
    split
    · split
      · rfl
      · refine rds_noL hR k _ _ fun d hd => ?_
        rcases List.mem_append.mp hd with hd | hd
        · exact h d hd
        · rw [List.mem_singleton.mp hd]; exact hR _
    · rfl
theorem rdo_noL {R : Nat → PyData × Nat} {l : List Nat} (hR : ∀ p, noL (R p).1 = true) (p : Nat) : noL (rdo R l p).1 = true := by
  unfold rdo
  split
  · rfl
  · exact rds_noL hR _ _ _ fun d hd => by rw [List.mem_singleton.mp hd]; rfl
theorem rd_noL {l : List Nat} : ∀ (n p : Nat), noL (rd l n p).1 = true
  | 0, p => rfl
  | n + 1, p => by
    unfold rd
    split
    · rfl
    split
    · exact rdo_noL (rd_noL n) _
    split
    · rfl
    · exact leaf_noL
theorem rds_le {R : Nat → PyData × Nat} {l : List Nat} (hR : ∀ p, p ≤ l.length → (R p).2 ≤ l.length) : ∀ (k p : Nat) (acc : List PyData), p ≤ l.length → (rds R l k p acc).2 ≤ l.length
  | 0, p, acc, h => by
    unfold rds
    split
    · rename_i e
      exact (List.getElem?_eq_some_iff.mp e).1
    · exact h
  | k + 1, p, acc, h => by
    unfold rds
    split
    · rename_i e
      have := hR (p + 1) (List.getElem?_eq_some_iff.mp e).1
      split
      · exact this
      · exact rds_le hR k _ _ this
    · exact h
theorem rd_le {l : List Nat} : ∀ (n p : Nat), p ≤ l.length → (rd l n p).2 ≤ l.length
  | 0, p, h => h
  | n + 1, p, h => by
    unfold rd
    split
    · exact h
    split
    · rename_i e
      have h1 : p + 1 ≤ l.length := (List.getElem?_eq_some_iff.mp e).1
      unfold rdo
      split
      · exact h1
      · exact rds_le (rd_le n) _ _ _ (tok_len h1)
    split
    · exact h
    · exact tok_len h
theorem free_of {H H1 : Hp} {r : Addr} (s : Same H H1) (e : H1 r = none) : H r = none := by
  cases q : H r with
  | none => rfl
  | some o => rw [s _ _ q] at e; cases e
/-! ## promises of the reading -/
def NewQ (H : Hp) (Q : VK) (l : List Nat) (q : Nat) (d : PyData) : Prop := ∀ (r : Addr) (e : V) (b : Nat) (H' : Hp), Same H H' → H' r = some (.tup [e, .int (b : Int)]) → Dh H' e d → (PF l 0).drop b = PF l q → q ≤ l.length → Q (.ref r) H'
structure OutR (C : Addr) (H : Hp) (Q : VK) (E : XK) (l : List Nat) (o : PyData × Nat) : Prop where
  good : isNo o.1 = false → NewQ H Q l o.2 o.1
  bad : isNo o.1 = true → ∀ H', Same H H' → TellsF C "position" H' (.int (o.2 : Int)) E
def spCp (C : Addr) : Sp := fun vs H Q E => ∃ (P : Addr) (rs : List Addr) (l : List Nat) (j p : Nat) (tk : List Nat), vs = [.ref P, .int (j : Int), .str (TS tk)] ∧ PcsH H P rs (PF l 0) ∧ (PF l 0).drop j = PF l p ∧ p ≤ l.length ∧ (hdL l p = tk → Q .non H) ∧ (hdL l p ≠ tk → TellsF C "position" H (.int (p : Int)) E)
def spRf (C : Addr) (n : Nat) : Sp := fun vs H Q E => ∃ (P : Addr) (rs : List Addr) (l : List Nat) (i p dp : Nat), vs = [.ref P, .int (i : Int), .int (dp : Int)] ∧ PcsH H P rs (PF l 0) ∧ (PF l 0).drop i = PF l p ∧ p ≤ l.length ∧ Tx l ∧ dp + n = 9 ∧ OutR C H Q E l (rd l n p)
def spRo (C : Addr) (n : Nat) : Sp := fun vs H Q E => ∃ (P : Addr) (rs : List Addr) (l : List Nat) (i p dp : Nat), vs = [.ref P, .int (i : Int), .int (dp : Int)] ∧ PcsH H P rs (PF l 0) ∧ (PF l 0).drop i = PF l p ∧ p ≤ l.length ∧ Tx l ∧ dp + n = 8 ∧ OutR C H Q E l (rdo (rd l n) l p)
def spRoP (C : Addr) : Nat → Sp
  | 0 => fun _ _ _ _ => False
  | n + 1 => spRo C n
def spRe (C : Addr) : Sp := fun vs H Q E => ∃ (v : V), vs = [v] ∧ ((∃ t, TyN H v t ∧ t ≠ "str" ∧ TellsF C "position" H (.int 0) E) ∨ ∃ l, v = .str (TS l) ∧ Tx l ∧ (isNo (reD l).1 = false → ∀ v H', Same H H' → Dh H' v (reD l).1 → Q v H') ∧ (isNo (reD l).1 = true → ∀ H', Same H H' → TellsF C "position" H' (.int ((reD l).2 : Int)) E))
structure OpsA (K : PySem.W.Frag) (w : World) (mg : Str → Option Value) (oA : Addr) : Prop where
  g : mg "OPERANDS" = some (.ref oA)
  d : ∃ es n, KDict K w oA es n
  at_ : ∀ x os, opsV x = some os → ∃ a, KDct K w oA x (.ref a) ∧ PySem.W.nsIn K oA x = some (some (.ref a)) ∧ ∀ H, SqT K H a os
  no : ∀ x, opsV x = none → PySem.W.nsIn K oA x = some none
theorem pcs_at {H : Hp} {P : Addr} {rs : List Addr} {ps : List (Nat × List Nat)} (h : PcsH H P rs ps) {i pos : Nat} {t : List Nat} (e : ps[i]? = some (pos, t)) : ∃ r, (rs.map V.ref)[i]? = some (.ref r) ∧ H r = some (.tup [.int (pos : Int), .str (TS t)]) := by
  obtain ⟨r, h1, h2⟩ := paired_get h.2 e
  exact ⟨r, by rw [List.getElem?_map, h1]; rfl, h2⟩
theorem ts_eq {a b : List Nat} : V.str (TS a) = V.str (TS b) ↔ a = b := ⟨fun q => by injection q with q; rw [← cl_ts a, ← cl_ts b, q], fun q => by rw [q]⟩
end K79
set_option Elab.async false
set_option linter.all false
set_option maxRecDepth 100000
set_option maxHeartbeats 4000000
namespace K79
open PySem PySem.Spec PyProof.Rows L2 Lc
/-! ## lines and words -/
def spl (c : Nat) : List Nat → List (List Nat)
  | [] => [[]]
  | a :: l => if a = c then [] :: spl c l else match spl c l with
    | [] => [[a]]
    | w :: ws => (a :: w) :: ws
def jn (c : Nat) : List (List Nat) → List Nat
  | [] => []
  | [w] => w
  | w :: ws => w ++ c :: jn c ws
theorem jn_cons {c : Nat} {w : List Nat} {ws : List (List Nat)} (h : ws ≠ []) : jn c (w :: ws) = w ++ c :: jn c ws := by
  cases ws with
  | nil => exact absurd rfl h
  | cons a r => rfl
theorem spl_ne {c : Nat} : ∀ l, spl c l ≠ []
  | [] => by rw [spl]; exact List.cons_ne_nil _ _
  | a :: l => by
    rw [spl]
    split
    · exact List.cons_ne_nil _ _
    · split <;> exact List.cons_ne_nil _ _
theorem spl_app {c : Nat} : ∀ (w l : List Nat), c ∉ w → spl c (w ++ c :: l) = w :: spl c l
  | [], l, _ => by show spl c (c :: l) = _; rw [spl, if_pos rfl]
  | a :: w, l, h => by
    have h1 : ¬ a = c := fun e => h (by rw [e]; exact List.mem_cons_self)
    have ih := spl_app w l fun hm => h (List.mem_cons_of_mem _ hm)
    show spl c (a :: (w ++ c :: l)) = _
    rw [spl, if_neg h1, ih]
theorem spl_one {c : Nat} : ∀ (w : List Nat), c ∉ w → spl c w = [w]
  | [], _ => rfl
  | a :: w, h => by
    have h1 : ¬ a = c := fun e => h (by rw [e]; exact List.mem_cons_self)
    rw [spl, if_neg h1, spl_one w fun hm => h (List.mem_cons_of_mem _ hm)]
theorem spl_jn {c : Nat} : ∀ {ws : List (List Nat)}, ws ≠ [] → (∀ w ∈ ws, c ∉ w) → spl c (jn c ws) = ws
  | [w], _, h => spl_one w (h w List.mem_cons_self)
  | w :: v :: ws, _, h => by
    rw [jn_cons (List.cons_ne_nil _ _), spl_app w _ (h w List.mem_cons_self), spl_jn (List.cons_ne_nil _ _) fun u hu => h u (List.mem_cons_of_mem _ hu)]
theorem join_TS {c : Nat} : ∀ (ws : List (List Nat)), Str.join ⟨#[c]⟩ (ws.map TS) = TS (jn c ws)
  | [] => rfl
  | [w] => rfl
  | w :: v :: ws => by
    have ih := join_TS (c := c) (v :: ws)
    rw [jn_cons (List.cons_ne_nil _ _)]
    show TS w ++ ⟨#[c]⟩ ++ Str.join ⟨#[c]⟩ ((v :: ws).map TS) = _
    rw [ih]
    show TS w ++ TS [c] ++ TS (jn c (v :: ws)) = _
    rw [ts_app, ts_app, List.append_assoc]
    rfl
theorem split_ne (x : Str) (c : Nat) : Txt.split x ⟨#[c]⟩ ≠ [] := by
  unfold Txt.split
  split
  · exact List.cons_ne_nil _ _
  · split
    · exact List.cons_ne_nil _ _
    · rename_i h
      intro e
      have e2 := congrArg List.length e
      rw [length_partsBetween] at e2
      simp at e2
theorem split_TS (l : List Nat) (c : Nat) : Txt.split (TS l) ⟨#[c]⟩ = (spl c l).map TS := by
  have e1 := StrLaws.join_split (TS l) ⟨#[c]⟩
  have e2 := StrLaws.split_free (TS l) c
  have e3 := split_ne (TS l) c
  generalize Txt.split (TS l) ⟨#[c]⟩ = ps at e1 e2 e3
  have e4 : ps = (ps.map CL).map TS := by
    rw [List.map_map]
    exact (List.map_id' _).symm.trans (List.map_congr_left fun p _ => (ts_cl p).symm)
  rw [e4, join_TS] at e1
  have e5 : jn c (ps.map CL) = l := by
    have := congrArg CL e1
    simpa [CL, TS] using this
  rw [← e5, spl_jn (by simpa using e3) fun w hw => by
    obtain ⟨p, hp, rfl⟩ := List.mem_map.mp hw
    exact e2 p hp]
  exact e4
/-- begins with -/
def stw (p l : List Nat) : Bool := l.take p.length == p
/-- without that beginning -/
def cutp (p l : List Nat) : List Nat := if stw p l = true then l.drop p.length else l
theorem starts_TS (l : List Nat) (y : Str) : Txt.startswith (TS l) y = stw (CL y) l := by
  unfold Txt.startswith stw
  rw [StrLaws.subAt_eq]
  show (decide (0 + y.cps.size ≤ l.toArray.size) && ((List.drop 0 l.toArray.toList).take y.cps.size == y.cps.toList)) = _
  have e : y.cps.size = (CL y).length := by show _ = y.cps.toList.length; simp
  rw [List.drop_zero, e]
  show (decide (0 + (CL y).length ≤ l.toArray.size) && (l.take (CL y).length == CL y)) = _
  by_cases h : l.take (CL y).length = CL y
  · rw [beq_iff_eq.mpr h, Bool.and_true]
    refine decide_eq_true ?_
    have := congrArg List.length h
    rw [List.length_take] at this
    have e2 : l.toArray.size = l.length := by simp
    omega
  · rw [beq_eq_false_iff_ne.mpr h, Bool.and_false]
theorem prefix_TS (l : List Nat) (y : Str) : Txt.removeprefix (TS l) y = TS (cutp (CL y) l) := by
  rw [StrLaws.removeprefix_eq]
  have e : (decide (0 + y.length ≤ (TS l).length) && Builtin.Str.subAt (TS l) y 0) = stw (CL y) l := starts_TS l y
  rw [e]
  unfold cutp
  have e3 : y.length = (CL y).length := by show y.cps.size = y.cps.toList.length; simp
  by_cases h : stw (CL y) l = true
  · rw [if_pos h, if_pos h]
    apply str_ext
    show (((TS l).cps.toList.drop y.length).take ((TS l).length - y.length)) = _
    rw [List.take_of_length_le (by rw [List.length_drop]; show l.toArray.toList.length - _ ≤ l.toArray.size - _; simp), e3]
    rfl
  · rw [if_neg h, if_neg h]
theorem spl_sub {c : Nat} : ∀ (l : List Nat), ∀ w ∈ spl c l, w.Sublist l
  | [], w, h => by
    rw [spl, List.mem_singleton] at h
    rw [h]
    exact List.Sublist.refl _
  | a :: l, w, h => by
    have ih := spl_sub (c := c) l
    rw [spl] at h
    split at h
    · rcases List.mem_cons.mp h with rfl | h
      · exact List.nil_sublist _
      · exact (ih w h).cons _
    · cases e : spl c l with
      | nil => exact absurd e (spl_ne l)
      | cons v vs =>
        rw [e] at h ih
        rcases List.mem_cons.mp h with rfl | h
        · exact (ih v List.mem_cons_self).cons₂ _
        · exact (ih w (List.mem_cons_of_mem _ h)).cons _
theorem tx_spl {c : Nat} {l : List Nat} (h : Tx l) : ∀ w ∈ spl c l, Tx w := fun w hw => h.sub (spl_sub l w hw)
theorem cutp_sub (p l : List Nat) : (cutp p l).Sublist l := by
  unfold cutp
  split
  · exact List.drop_sublist _ _
  · exact List.Sublist.refl _
theorem len_spl {c : Nat} : ∀ (l : List Nat), (spl c l).length ≤ l.length + 1
  | [] => Nat.le_refl _
  | a :: l => by
    have ih := len_spl (c := c) l
    rw [spl]
    split
    · rw [List.length_cons, List.length_cons]; omega
    · cases e : spl c l with
      | nil => exact absurd e (spl_ne l)
      | cons v vs =>
        rw [e] at ih
        rw [List.length_cons] at ih ⊢
        rw [List.length_cons]
        omega
end K79
set_option Elab.async false
set_option linter.all false
set_option maxRecDepth 100000
set_option maxHeartbeats 4000000
namespace K79
open PySem PySem.Spec PyProof.Rows L2 Lc
/-! ## names, wholes, forms -/
abbrev LN : Type := List Nat
abbrev vW (ws : List LN) : List V := (ws.map TS).map V.str
theorem vW_at {ws : List LN} {i : Nat} {x : V} (h : (vW ws)[i]? = some x) : ∃ w, ws[i]? = some w ∧ x = .str (TS w) := by
  rw [List.getElem?_map, List.getElem?_map] at h
  cases e : ws[i]? with
  | none => rw [e] at h; cases h
  | some w =>
    rw [e] at h
    cases h
    exact ⟨w, rfl, rfl⟩
theorem vW_len (ws : List LN) : (vW ws).length = ws.length := by rw [List.length_map, List.length_map]
theorem jn_sub {c : Nat} : ∀ (ws : List LN), ∀ w ∈ ws, w.Sublist (jn c ws)
  | [w], v, h => by rw [List.mem_singleton.mp h]; exact List.Sublist.refl _
  | w :: u :: ws, v, h => by
    rw [jn_cons (List.cons_ne_nil _ _)]
    rcases List.mem_cons.mp h with rfl | h
    · exact List.sublist_append_left _ _
    · exact ((jn_sub (u :: ws) v h).cons _).trans (List.sublist_append_right _ _)
theorem jn_drop {c : Nat} : ∀ (k : Nat) (ws : List LN), (jn c (ws.drop k)).Sublist (jn c ws)
  | 0, ws => List.Sublist.refl _
  | k + 1, [] => by rw [List.drop_nil]; exact List.Sublist.refl _
  | k + 1, [w] => by rw [List.drop_succ_cons, List.drop_nil]; exact List.nil_sublist _
  | k + 1, w :: u :: ws => by
    rw [List.drop_succ_cons, jn_cons (c := c) (w := w) (List.cons_ne_nil u ws)]
    exact (jn_drop k (u :: ws)).trans (((List.Sublist.refl _).cons _).trans (List.sublist_append_right _ _))
theorem jn_len {c : Nat} : ∀ (ws : List LN), ws.length ≤ (jn c ws).length + 1
  | [] => Nat.zero_le _
  | [w] => by show 1 ≤ _; omega
  | w :: u :: ws => by
    have ih := jn_len (c := c) (u :: ws)
    rw [jn_cons (List.cons_ne_nil _ _), List.length_append]
    simp only [List.length_cons] at ih ⊢
    omega
def WsOk (ws : List LN) : Prop := ws.length ≤ 200 ∧ Tx (jn 32 ws)
theorem WsOk.each {ws : List LN} (h : WsOk ws) : ∀ w ∈ ws, Tx w := fun w hw => h.2.sub (jn_sub ws w hw)
theorem WsOk.drop {ws : List LN} (h : WsOk ws) (k : Nat) : WsOk (ws.drop k) := ⟨by rw [List.length_drop]; have := h.1; omega, h.2.sub (jn_drop k ws)⟩
def namesM (ws : List LN) (lo hi : Nat) : Bool := !decide (ws.length < lo) && !decide (hi < ws.length) && ws.all nmL && decide (ws.map TS).Nodup
def wholeM (l : LN) (lo hi : Nat) : Option Nat := match digN l with
  | some n => if lo ≤ n ∧ n ≤ hi then some n else none
  | none => none
def formM (ws : List LN) : PyData := (reD (jn 32 ws)).1
def spUn : Sp := fun vs H Q _ => ∃ (W : Addr) (ws : List LN) (lo hi : Nat), vs = [.ref W, .int lo, .int hi] ∧ H W = some (.lst (vW ws)) ∧ WsOk ws ∧ ∀ H', Same H H' → Q (.bl (namesM ws lo hi)) H'
def opN : Option Nat → V
  | some n => .int n
  | none => .non
def spWn : Sp := fun vs H Q _ => ∃ (l : LN) (lo hi : Nat), vs = [.str (TS l), .int lo, .int hi] ∧ Tx l ∧ ∀ H', Same H H' → Q (opN (wholeM l lo hi)) H'
def spFm : Sp := fun vs H Q _ => ∃ (W : Addr) (ws : List LN), vs = [.ref W] ∧ H W = some (.lst (vW ws)) ∧ WsOk ws ∧ ∀ v H', Same H H' → Dh H' v (if isNo (formM ws) = true then .none else formM ws) → Q v H'
abbrev rJn (K : PySem.W.Frag) : V → List V → Hp → VK → Prop := fun x xs H Q => ∃ (a : Str) (p : Addr) (ys : List Str), x = .str a ∧ xs = [.ref p] ∧ (SqL K H p (ys.map V.str) ∨ SqT K H p (ys.map V.str)) ∧ (ys.map (·.length)).sum + ys.length * a.length ≤ 16777216 ∧ Q (.str (Txt.join a ys)) H
theorem jn_sum {c : Nat} : ∀ (ws : List LN), ((ws.map TS).map (·.length)).sum + ws.length ≤ (jn c ws).length + 1
  | [] => Nat.zero_le _
  | [w] => by
    show (TS w).length + 0 + 1 ≤ w.length + 1
    rw [ts_len]
    omega
  | w :: u :: ws => by
    have ih := jn_sum (c := c) (u :: ws)
    rw [jn_cons (List.cons_ne_nil _ _), List.length_append, List.map_cons, List.map_cons, List.sum_cons, ts_len]
    simp only [List.length_cons] at ih ⊢
    omega
abbrev teUn : TE := tCall spName [] E0 (tCons (tVar 3) tNil)
section
variable {P : Program} {w : World} {K : PySem.W.Frag} {mg : Str → Option Value} {base : Heap} {f : Addr} {fd : FuncData}
abbrev sUn : Stmt := top 44
abbrev nUn : List Str := ["words", "low", "high", "word"]
abbrev pUn : List Str := ["words", "low", "high"]
theorem scUn : FnScope nUn pUn (defScope sUn) := ⟨rfl, rfl, rfl, by decide +kernel, rfl, by decide +kernel, by decide +kernel⟩
section
variable {fA_ : Addr} {fdA_ : FuncData}
theorem ok_Un (F : Fun K "are_unlike_names" "are_unlike_names" sUn f fd) (T : Bt mg) (mE : mg "set" = none)
    (GA_ : FnOk P w K mg base CX0 1 fA_ fdA_ ["value"] (spName)) (mA_ : mg "is_name" = some (.ref fA_)) (kA_ : PySem.W.keepIn K (.ref fA_) = true) (bA_ : Binds K fdA_ ["value"] []) : FnOk P w K mg base CX0 2 f fd pUn (spUn) := by
  refine F.ok scUn (fun vs H Q E h => ?_) (fun cdv A outer s H vs Q E hr h => ?_)
  · obtain ⟨W, ws, lo, hi, rfl, _⟩ := h
    rfl
  · obtain ⟨W, ws, lo, hi, rfl, hW, ok, k⟩ := h
    have hrA_ : Room (1) _ := hr.mono (by first | decide | omega)
    refine ⟨_, (pss_cons (ps_if (PW.pt (pw_or (pt_cmpR op_lt (pe_callB call_len_seq (by rfl) T.len PySem.boot_len (pa_cons (pv 0) pa_nil)) (pv 1) (nomark _)) (pw_or (pt_cmpR op_gt (pe_callB call_len_seq (by rfl) T.len PySem.boot_len (pa_cons (pv 0) pa_nil)) (pv 2) (nomark _)) (pw_or1 (pt_not (pt_val (pe_callB (cr_all rfl) (by rfl) T.all (by decide +kernel) (pa_cons (pe_lc (own := [("word", 3)]) (g := (gName 3)) (tt := tYes) (te := teUn) (by rfl) scUn.nd (pi_list (pv 0)) (blkOk_by (own := [("word", 3)]) (N := nUn) (sc := defScope sUn) (by decide +kernel)) (fun _ _ _ _ _ => (pg_name (i := 3) scUn.nd rfl (.inl rfl))) (fun _ _ _ _ _ => pts_nil) (fun _ _ _ _ _ => (pe_call GA_ hrA_ (by rfl) mA_ kA_ bA_ .nil pass0 (pa_cons (pv 3) pa_nil)))) pa_nil)))))))) (pss_one (ps_ret pe_bl)) pss_nil)
      (pss_one (ps_ret (pe_cmpR op_eq (pe_callB call_lenX (by rfl) T.len PySem.boot_len (pa_cons (pe_callTy (cr_setX rfl) (by rfl) mE boot_set (pa_cons (pv 0) pa_nil)) pa_nil)) (pe_callB call_len_seq (by rfl) T.len PySem.boot_len (pa_cons (pv 0) pa_nil)) (nomark _))))), ?_⟩
    have two : 2 ≤ sizeLine := by decide
    have one : 1 ≤ sizeLine := by decide
    have three : 3 ≤ sizeLine := by decide
    have lw := vW_len ws
    have l2 := ok.1
    unfold namesM at k
    refine ⟨_, rfl, W, _, rfl, .inl (SqL.of hW), _, rfl, _, _, rfl, rfl, _, rfl, ite2 (fun q => ?_) (fun q => ?_)⟩
    · have h : ws.length < lo := by
        have := of_decide_eq_true q
        rw [lw] at this
        omega
      rw [decide_eq_true h] at k
      exact iteT (k H (Same.refl H))
    have h1 : ¬ ws.length < lo := fun h => q (decide_eq_true (by rw [lw]; omega))
    refine ⟨_, rfl, W, _, rfl, .inl (SqL.of hW), _, rfl, _, _, rfl, rfl, _, rfl, ite2 (fun q2 => ?_) (fun q2 => ?_)⟩
    · have h : hi < ws.length := by
        have := of_decide_eq_true q2
        rw [lw] at this
        omega
      rw [decide_eq_false h1, decide_eq_true h] at k
      exact iteT (k H (Same.refl H))
    have h2 : ¬ hi < ws.length := fun h => q2 (decide_eq_true (by rw [lw]; omega))
    rw [decide_eq_false h1, decide_eq_false h2] at k
    refine ⟨_, rfl, W, rfl, ⟨_, SqL.of hW⟩, fun D hD => lc_list (K := K) (a := W) (xs := vW ws) (fun i H' => H' D = some (.lst (((ws.take i).map nmL).map V.bl)) ∧ Same H H') ⟨upd_same, Same.upd hD⟩ (fun i H' _ pr => SqL.of (pr.2 _ _ hW)) ?_ ?_⟩
    · rintro i x H1 hx ⟨hD1, s1⟩
      obtain ⟨w, ew, rfl⟩ := vW_at hx
      have li := (List.getElem?_eq_some_iff.mp ew).1
      refine ⟨rfl, ?_⟩
      dsimp only [tYes]
      refine iteT ?_
      change teUn _ _ _
      refine ⟨_, rfl, .str (TS w), "str", rfl, .str _, fun x e => by cases e; exact (ok.each w (List.mem_of_getElem? ew)).line, fun H3 s3 => ⟨_, s3 _ _ hD1, ?_, ?_, fun b o e => by rw [upd_ne (ne_of_none e hD)]; exact s3 b o (s1 b o e)⟩⟩
      · rw [List.length_map, List.length_map, List.length_take]
        exact Nat.lt_of_le_of_lt (show _ ≤ 200 by omega) (by decide)
      · rw [upd_same, List.take_add_one, ew, List.map_append, List.map_append]
        rfl
    rintro H1 ⟨hD1, s1⟩
    rw [lw, List.take_length] at hD1
    refine ⟨D, ws.map nmL, rfl, SqL.of hD1, _, rfl, ?_⟩
    rw [show (ws.map nmL).all id = ws.all nmL by rw [List.all_map]; rfl]
    cases e : ws.all nmL with
    | false =>
      rw [e] at k
      exact iteT (k H1 s1)
    | true =>
      rw [e] at k
      refine iteF ⟨_, rfl, W, ws.map TS, rfl, SqL.of (s1 _ _ hW), by rw [List.length_map]; omega, fun S hS => ⟨S, ws.map TS, rfl, upd_same, fun n ln en => ?_⟩⟩
      have zS := Same.upd (o := SetXO w S (ws.map TS)) hS
      have s2 := s1.trans zS
      refine ⟨_, rfl, W, _, rfl, .inl (SqL.of (s2 _ _ hW)), rfl, ?_⟩
      have e2 : decide (V.int (n : Int) = V.int ((vW ws).length : Int)) = decide (ws.map TS).Nodup := by
        rw [lw, show ws.length = (ws.map TS).length by rw [List.length_map]]
        refine decide_eq_decide.mpr ⟨fun h => en.mp (by injection h with h; omega), fun h => by rw [en.mpr h]⟩
      rw [e2]
      exact k _ s2
end
abbrev sWn : Stmt := top 46
abbrev nWn : List Str := ["word", "low", "high", "number"]
abbrev pWn : List Str := ["word", "low", "high"]
theorem scWn : FnScope nWn pWn (defScope sWn) := ⟨rfl, rfl, rfl, by decide +kernel, rfl, by decide +kernel, by decide +kernel⟩
section
variable {fA_ : Addr} {fdA_ : FuncData}
theorem ok_Wn (F : Fun K "whole_or_none" "whole_or_none" sWn f fd) (T : Bt mg)
    (GA_ : FnOk P w K mg base CX0 1 fA_ fdA_ ["text"] (spDg)) (mA_ : mg "read_whole" = some (.ref fA_)) (kA_ : PySem.W.keepIn K (.ref fA_) = true) (bA_ : Binds K fdA_ ["text"] []) : FnOk P w K mg base CX0 2 f fd pWn (spWn) := by
  refine F.ok scWn (fun vs H Q E h => ?_) (fun cdv A outer s H vs Q E hr h => ?_)
  · obtain ⟨l, lo, hi, rfl, _⟩ := h
    rfl
  · obtain ⟨l, lo, hi, rfl, tx, k⟩ := h
    have hrA_ : Room (1) _ := hr.mono (by first | decide | omega)
    refine ⟨_, (pss_cons (ps_set (i := 3) scWn.nd rfl (Or.inl rfl) (pe_call GA_ hrA_ (by rfl) mA_ kA_ bA_ .nil pass0 (pa_cons (pv 0) pa_nil)))
      (pss_one (ps_ret (pe_ifExp (PW.pt (pw_and (pt_cmpR op_notN (pv 3) pe_non (nomark _)) (pw_and1 (pt_chain op_le op_le (pv 1) (pv 3) (pv 2))))) (pv 3) pe_non)))), ?_⟩
    have two : 2 ≤ sizeLine := by decide
    have one : 1 ≤ sizeLine := by decide
    have three : 3 ≤ sizeLine := by decide
    unfold wholeM at k
    refine ⟨_, rfl, l, rfl, tx, fun H1 s1 => ?_⟩
    unfold dgV
    cases e : digN l with
    | none =>
      rw [e] at k
      refine ⟨_, rfl, rfl, _, rfl, ?_⟩
      rw [show decide (V.non = V.non) = true from rfl]
      exact iteF (iteF (k H1 s1))
    | some n =>
      rw [e] at k
      refine ⟨_, rfl, rfl, _, rfl, iteT ⟨_, rfl, _, rfl, _, _, rfl, rfl, _, rfl, ite2 (fun q => ?_) (fun q => ?_)⟩⟩
      · have h1 : lo ≤ n := by have := of_decide_eq_true q; omega
        refine ⟨_, rfl, _, _, rfl, rfl, _, rfl, ite2 (fun q2 => ?_) (fun q2 => ?_)⟩
        · have h2 : n ≤ hi := by have := of_decide_eq_true q2; omega
          have k : Q (opN (if lo ≤ n ∧ n ≤ hi then some n else none)) H1 := k H1 s1
          rw [if_pos ⟨h1, h2⟩] at k
          exact ⟨_, rfl, k⟩
        · have h2 : ¬ (lo ≤ n ∧ n ≤ hi) := fun h => q2 (decide_eq_true (by omega))
          have k : Q (opN (if lo ≤ n ∧ n ≤ hi then some n else none)) H1 := k H1 s1
          rw [if_neg h2] at k
          exact k
      · have h2 : ¬ (lo ≤ n ∧ n ≤ hi) := fun h => q (decide_eq_true (by omega))
        have k : Q (opN (if lo ≤ n ∧ n ≤ hi then some n else none)) H1 := k H1 s1
        rw [if_neg h2] at k
        exact ⟨_, rfl, iteF k⟩
end
end
section
variable {P : Program} {w : World} {K : PySem.W.Frag} {mg : Str → Option Value} {base : Heap} {f C fI fC : Addr} {fd fdC : FuncData}
abbrev sFm : Stmt := top 45
theorem scFm : FnScope ["words"] ["words"] (defScope sFm) := ⟨rfl, rfl, rfl, by decide +kernel, rfl, by decide +kernel, by decide +kernel⟩
/-- the clause of form_or_none -/
structure ExC (K : PySem.W.Frag) (C : Addr) : Prop where
  cc : PySem.W.exmOne K (.ref C) (.ref C) = some true
theorem ok_Fm (F : Fun K "form_or_none" "form_or_none" sFm f fd) (T : Bt mg) (R : ErF K mg "BadText" "position" C fI) (X : ExC K C)
    (GC : FnOk P w K mg base (L2.CX P w) 23 fC fdC ["text"] (spRe C)) (mC : mg "read_expression" = some (.ref fC)) (kC : PySem.W.keepIn K (.ref fC) = true) (bC : Binds K fdC ["text"] []) : FnOk P w K mg base CX0 24 f fd ["words"] spFm := by
  refine F.ok scFm (fun vs H Q E h => ?_) (fun cdv A outer s H vs Q E hr h => ?_)
  · obtain ⟨W, ws, rfl, _⟩ := h
    rfl
  · obtain ⟨W, ws, rfl, hW, ok, k⟩ := h
    refine ⟨_, pss_one (ps_tryL (Wout := fun _ _ _ _ => False) (tb := fun W => tRet (tCallS (spRe C) (WE W) (tCons (tM1 (rJn K) (tC (.str " ")) (tVar 0)) tNil))) (l := [⟨.ref C, none, fun _ _ _ => tRet (tC .non)⟩]) rfl rfl takes0
        (fun W pn xe tk _ => pss_one (ps_ret (pe_callS GC hr (by rfl) mC kC bC (fun σ => passAt tk σ) (pa_cons (pe_m1 PySem.F.slot_str_join PySem.F.type_str_join mt_join pe_str (pv 0)) pa_nil))))
        (.bare ⟨rfl, by decide, Or.inl R.gC⟩ rfl (fun a ob cls d pn hz hf => pss_one (ps_ret pe_non)) .nil)), ?_⟩
    have sum := jn_sum (c := 32) ws
    have tl := ok.2.len
    have bl : (PySem.Str.ofString " ") = ⟨#[32]⟩ := by decide +kernel
    have ej : Txt.join (PySem.Str.ofString " ") (ws.map TS) = TS (jn 32 ws) := by
      rw [bl]
      exact (StrLaws.glued_eq_join _ _).trans (join_TS ws)
    refine ⟨⟨_, rfl⟩, _, rfl, _, W, ws.map TS, rfl, rfl, .inl (SqL.of hW), ?_, ?_⟩
    · rw [bl, List.length_map]
      show _ + ws.length * 1 ≤ 16777216
      omega
    rw [ej]
    dsimp only [tNil]
    unfold formM at k
    refine ⟨_, rfl, .inr ⟨jn 32 ws, rfl, ok.2, fun z v H1 s1 hv => ?_, fun z H1 s1 d H2 s2 hd2 hx => ?_⟩⟩
    · rw [z] at k
      exact k v H1 s1 hv
    · refine ⟨true, X.cc, fun _ a ha => ?_, nofun⟩
      rw [z] at k
      exact k .non H2 (s1.trans s2) .non
end
end K79
set_option Elab.async false
set_option linter.all false
set_option maxRecDepth 100000
set_option maxHeartbeats 4000000
namespace K79
open PySem PySem.Spec PyProof.Rows L2 Lc
/-! ## the readers of a step -/
def strD (w : LN) : PyData := .str (TS w)
def strsD (ws : List LN) : PyData := .tuple (ws.map strD)
theorem strs_dh {H : Hp} : ∀ (ws : List LN), DhAll H (vW ws) (ws.map strD)
  | [] => .nil
  | w :: ws => .cons (.str _) (strs_dh ws)
theorem cut_from (xs : List V) (k : Nat) : cutV xs (some (k : Int)) none = xs.drop k := by
  unfold cutV
  have e2 : HT.sIx xs.length 0 (some (k : Int)) = min k xs.length := HT.sIx_nat _ _ _
  have e1 : HT.sIx xs.length xs.length none = xs.length := rfl
  rw [e1, e2]
  rcases Nat.le_total k xs.length with h | h
  · rw [Nat.min_eq_left h]
    exact List.take_of_length_le (by rw [List.length_drop]; omega)
  · rw [Nat.min_eq_right h, List.drop_of_length_le (Nat.le_refl _), List.drop_of_length_le h, List.take_nil]
theorem cutW (ws : List LN) (k : Nat) : cutV (vW ws) (some (k : Int)) none = vW (ws.drop k) := by
  rw [cut_from, ← List.map_drop, ← List.map_drop]
theorem form_nil : isNo (formM []) = true := by decide +kernel
theorem no_non {H : Hp} {v : V} {d : PyData} (h : Dh H v d) (z : isNo d = false) : v ≠ .non := by
  rintro rfl
  cases h
  cases z
def keepM : List LN → PyData
  | _ :: r => if isNo (formM r) = true then .none else .tuple [.str "keep", formM r]
  | _ => .none
def setM : List LN → PyData
  | _ :: w :: r => if isNo (formM r) = true then .none else if nmL w = true then .tuple [.str "set", .str (TS w), formM r] else .none
  | _ => .none
def selectM : List LN → PyData
  | _ :: r => if namesM r 1 8 = true then .tuple [.str "select", strsD r] else .none
  | _ => .none
def renameM : List LN → PyData
  | [a, b, c] => if nmL b = true ∧ nmL c = true then strsD [a, b, c] else .none
  | _ => .none
def sortM : List LN → PyData
  | [a, b, c] => if nmL b = true ∧ (TS c = "up" ∨ TS c = "down") then strsD [a, b, c] else .none
  | _ => .none
def firstM : List LN → PyData
  | [_, b] => match wholeM b 0 1000 with
    | some n => .tuple [.str "first", .int n]
    | none => .none
  | _ => .none
def sampleM : List LN → PyData
  | [_, b, c, e] => match wholeM c 1 1000, wholeM e 0 1000000000 with
    | some wh, some se => (match wholeM b 0 wh with
      | some n => .tuple [.str "sample", .int n, .int wh, .int se]
      | none => .none)
    | _, _ => .none
  | _ => .none
def joinM : List LN → PyData
  | _ :: b :: c :: r => if nmL b = true ∧ TS c = "on" then (if namesM r 1 3 = true then .tuple [.str "join", .str (TS b), strsD r] else .none) else .none
  | _ => .none
def unionM : List LN → PyData
  | [a, b] => if nmL b = true then strsD [a, b] else .none
  | _ => .none
def distinctM : List LN → PyData
  | [a] => strsD [a]
  | _ => .none
/-- a reader: from the words of a line the step, or None -/
def spRd (M : List LN → PyData) : Sp := fun vs H Q _ => ∃ (W : Addr) (ws : List LN), vs = [.ref W] ∧ H W = some (.lst (vW ws)) ∧ WsOk ws ∧ ws ≠ [] ∧ ∀ v H', Same H H' → Dh H' v (M ws) → Q v H'
section
variable {P : Program} {w : World} {K : PySem.W.Frag} {mg : Str → Option Value} {base : Heap} {f : Addr} {fd : FuncData}
abbrev sKp : Stmt := top 47
abbrev nKp : List Str := ["words", "expression"]
abbrev pKp : List Str := ["words"]
theorem scKp : FnScope nKp pKp (defScope sKp) := ⟨rfl, rfl, rfl, by decide +kernel, rfl, by decide +kernel, by decide +kernel⟩
section
variable {fA_ : Addr} {fdA_ : FuncData}
theorem ok_Kp (F : Fun K "read_keep" "read_keep" sKp f fd) (T : Bt mg)
    (GA_ : FnOk P w K mg base CX0 24 fA_ fdA_ ["words"] (spFm)) (mA_ : mg "form_or_none" = some (.ref fA_)) (kA_ : PySem.W.keepIn K (.ref fA_) = true) (bA_ : Binds K fdA_ ["words"] []) : FnOk P w K mg base CX0 25 f fd pKp (spRd keepM) := by
  refine F.ok scKp (fun vs H Q E h => ?_) (fun cdv A outer s H vs Q E hr h => ?_)
  · obtain ⟨W, ws, rfl, _⟩ := h
    rfl
  · obtain ⟨W, ws, rfl, hW, ok, ne, k⟩ := h
    have hrA_ : Room (24) _ := hr.mono (by first | decide | omega)
    refine ⟨_, (pss_cons (ps_set (i := 1) scKp.nd rfl (Or.inl rfl) (pe_call GA_ hrA_ (by rfl) mA_ kA_ bA_ .nil pass0 (pa_cons (pe_slice sl_list (pv 0) (po_some pe_int) po_none) pa_nil)))
      (pss_one (ps_ret (pe_ifExp (pt_cmpR op_isN (pv 1) pe_non (nomark _)) pe_non (pe_tup (pa_cons pe_str (pa_cons (pv 1) pa_nil))))))), ?_⟩
    have two : 2 ≤ sizeLine := by decide
    have one : 1 ≤ sizeLine := by decide
    have three : 3 ≤ sizeLine := by decide
    obtain ⟨w0, r, rfl⟩ : ∃ w0 r, ws = w0 :: r := by
      cases ws with
      | nil => exact absurd rfl ne
      | cons a r => exact ⟨a, r, rfl⟩
    refine ⟨_, rfl, 1, rfl, W, _, rfl, SqL.of hW, fun R hR => ?_⟩
    rw [show cutV (vW (w0 :: r)) (some 1) none = vW r from cutW (w0 :: r) 1]
    have zR := Same.upd (o := .lst (vW r)) hR
    refine ⟨R, r, rfl, upd_same, ok.drop 1, fun v H1 s1 hv => ?_⟩
    have s := zR.trans s1
    unfold keepM at k
    dsimp only at k
    refine ⟨_, rfl, rfl, _, rfl, ?_⟩
    cases z : isNo (formM r) with
    | true =>
      rw [z] at hv k
      have hv : Dh H1 v .none := hv
      cases hv
      exact iteT (k .non H1 s .non)
    | false =>
      rw [z] at hv k
      have hv : Dh H1 v (formM r) := hv
      rw [decide_eq_false (no_non hv z)]
      exact iteF ⟨_, rfl, two, fun q hq => k _ _ (s.trans (Same.upd hq)) (.tup upd_same (.cons (.str _) (.cons (hv.same (Same.upd hq)) .nil)))⟩
end
abbrev sSt : Stmt := top 48
abbrev nSt : List Str := ["words", "expression"]
abbrev pSt : List Str := ["words"]
theorem scSt : FnScope nSt pSt (defScope sSt) := ⟨rfl, rfl, rfl, by decide +kernel, rfl, by decide +kernel, by decide +kernel⟩
section
variable {fA_ fB_ : Addr} {fdA_ fdB_ : FuncData}
theorem ok_St (F : Fun K "read_set" "read_set" sSt f fd) (T : Bt mg)
    (GA_ : FnOk P w K mg base CX0 24 fA_ fdA_ ["words"] (spFm)) (mA_ : mg "form_or_none" = some (.ref fA_)) (kA_ : PySem.W.keepIn K (.ref fA_) = true) (bA_ : Binds K fdA_ ["words"] [])
    (GB_ : FnOk P w K mg base CX0 1 fB_ fdB_ ["value"] (spName)) (mB_ : mg "is_name" = some (.ref fB_)) (kB_ : PySem.W.keepIn K (.ref fB_) = true) (bB_ : Binds K fdB_ ["value"] []) : FnOk P w K mg base CX0 25 f fd pSt (spRd setM) := by
  refine F.ok scSt (fun vs H Q E h => ?_) (fun cdv A outer s H vs Q E hr h => ?_)
  · obtain ⟨W, ws, rfl, _⟩ := h
    rfl
  · obtain ⟨W, ws, rfl, hW, ok, ne, k⟩ := h
    have hrA_ : Room (24) _ := hr.mono (by first | decide | omega)
    have hrB_ : Room (1) _ := hr.mono (by first | decide | omega)
    refine ⟨_, (pss_cons (ps_set (i := 1) scSt.nd rfl (Or.inl rfl) (pe_call GA_ hrA_ (by rfl) mA_ kA_ bA_ .nil pass0 (pa_cons (pe_slice sl_list (pv 0) (po_some pe_int) po_none) pa_nil)))
      (pss_one (ps_ret (pe_ifExp (PW.pt (pw_or (pt_cmpR op_isN (pv 1) pe_non (nomark _)) (pw_or1 (pt_not (pt_val (pe_call GB_ hrB_ (by rfl) mB_ kB_ bB_ .nil pass0 (pa_cons (pe_ix ix_list (pv 0) pe_int (fun _ _ => rfl)) pa_nil))))))) pe_non (pe_tup (pa_cons pe_str (pa_cons (pe_ix ix_list (pv 0) pe_int (fun _ _ => rfl)) (pa_cons (pv 1) pa_nil)))))))), ?_⟩
    have two : 2 ≤ sizeLine := by decide
    have one : 1 ≤ sizeLine := by decide
    have three : 3 ≤ sizeLine := by decide
    refine ⟨_, rfl, 2, rfl, W, _, rfl, SqL.of hW, fun R hR => ?_⟩
    rw [show cutV (vW ws) (some 2) none = vW (ws.drop 2) from cutW ws 2]
    have zR := Same.upd (o := .lst (vW (ws.drop 2))) hR
    refine ⟨R, ws.drop 2, rfl, upd_same, ok.drop 2, fun v H1 s1 hv => ?_⟩
    have s := zR.trans s1
    refine ⟨_, rfl, rfl, _, rfl, ?_⟩
    match ws, ok, ne, hW, hv, k with
    | [w0], ok, ne, hW, hv, k =>
      rw [show isNo (formM (List.drop 2 [w0])) = true from form_nil] at hv
      have hv : Dh H1 v .none := hv
      cases hv
      exact iteT (iteT (k .non H1 s .non))
    | w0 :: w1 :: r, ok, ne, hW, hv, k =>
      unfold setM at k
      dsimp only at k
      have hv : Dh H1 v (if isNo (formM r) = true then .none else formM r) := hv
      cases z : isNo (formM r) with
      | true =>
        rw [z] at hv k
        have hv : Dh H1 v .none := hv
        cases hv
        exact iteT (iteT (k .non H1 s .non))
      | false =>
        rw [z] at hv k
        have hv : Dh H1 v (formM r) := hv
        rw [decide_eq_false (no_non hv z)]
        refine iteF ⟨_, rfl, W, _, _, .str (TS w1), rfl, rfl, SqL.of (s _ _ hW), at_of (j := 1) rfl rfl, .str (TS w1), "str", rfl, .str _, fun x e => by cases e; exact (ok.each w1 (by simp)).line, fun H3 s3 => ⟨_, rfl, ?_⟩⟩
        rw [show nameB (.str (TS w1)) = nmL w1 from rfl]
        have s' := s.trans s3
        cases n : nmL w1 with
        | false =>
          rw [n] at k
          exact iteT (k .non H3 s' .non)
        | true =>
          rw [n] at k
          exact iteF ⟨_, rfl, W, _, _, .str (TS w1), rfl, rfl, SqL.of (s' _ _ hW), at_of (j := 1) rfl rfl, _, rfl, three, fun q hq => k _ _ (s'.trans (Same.upd hq)) (.tup upd_same (.cons (.str _) (.cons (.str _) (.cons ((hv.same s3).same (Same.upd hq)) .nil))))⟩
end
abbrev sSl : Stmt := top 49
abbrev nSl : List Str := ["words", "names"]
abbrev pSl : List Str := ["words"]
theorem scSl : FnScope nSl pSl (defScope sSl) := ⟨rfl, rfl, rfl, by decide +kernel, rfl, by decide +kernel, by decide +kernel⟩
section
variable {fA_ : Addr} {fdA_ : FuncData}
theorem ok_Sl (F : Fun K "read_select" "read_select" sSl f fd) (T : Bt mg) {u8 : Tok} (m8 : mg "MOST_COLUMNS" = some (.int 8 u8))
    (GA_ : FnOk P w K mg base CX0 2 fA_ fdA_ ["words", "low", "high"] (spUn)) (mA_ : mg "are_unlike_names" = some (.ref fA_)) (kA_ : PySem.W.keepIn K (.ref fA_) = true) (bA_ : Binds K fdA_ ["words", "low", "high"] []) : FnOk P w K mg base CX0 25 f fd pSl (spRd selectM) := by
  refine F.ok scSl (fun vs H Q E h => ?_) (fun cdv A outer s H vs Q E hr h => ?_)
  · obtain ⟨W, ws, rfl, _⟩ := h
    rfl
  · obtain ⟨W, ws, rfl, hW, ok, ne, k⟩ := h
    have hrA_ : Room (2) _ := hr.mono (by first | decide | omega)
    refine ⟨_, (pss_cons (ps_set (i := 1) scSl.nd rfl (Or.inl rfl) (pe_slice sl_list (pv 0) (po_some pe_int) po_none))
      (pss_one (ps_ret (pe_ifExp (pt_val (pe_call GA_ hrA_ (by rfl) mA_ kA_ bA_ .nil pass0 (pa_cons (pv 1) (pa_cons pe_int (pa_cons (pe_glob (v := .int 8) (by rfl) m8 ⟨_, rfl⟩) pa_nil))))) (pe_tup (pa_cons pe_str (pa_cons (pe_callTy call_tuple_of (by rfl) T.tuple boot_tuple (pa_cons (pv 1) pa_nil)) pa_nil))) pe_non)))), ?_⟩
    have two : 2 ≤ sizeLine := by decide
    have one : 1 ≤ sizeLine := by decide
    have three : 3 ≤ sizeLine := by decide
    obtain ⟨w0, r, rfl⟩ : ∃ w0 r, ws = w0 :: r := by
      cases ws with
      | nil => exact absurd rfl ne
      | cons a r => exact ⟨a, r, rfl⟩
    refine ⟨_, rfl, 1, rfl, W, _, rfl, SqL.of hW, fun R hR => ?_⟩
    rw [show cutV (vW (w0 :: r)) (some 1) none = vW r from cutW (w0 :: r) 1]
    have zR := Same.upd (o := .lst (vW r)) hR
    unfold selectM at k
    dsimp only at k
    refine ⟨_, rfl, R, r, 1, 8, rfl, upd_same, ok.drop 1, fun H1 s1 => ⟨_, rfl, ?_⟩⟩
    have s := zR.trans s1
    cases z : namesM r 1 8 with
    | false =>
      rw [z] at k
      exact iteF (k .non H1 s .non)
    | true =>
      rw [z] at k
      refine iteT ⟨_, rfl, R, _, rfl, .inl ⟨SqL.of (s1 _ _ upd_same), fun p hp => ⟨two, fun q hq => ?_⟩⟩⟩
      have z1 := Same.upd (o := .tup (vW r)) hp
      have z2 := Same.upd (o := .tup [.str "select", .ref p]) hq
      exact k _ _ (s.trans (z1.trans z2)) (.tup upd_same (.cons (.str _) (.cons (.tup (z2 _ _ upd_same) (strs_dh r)) .nil)))
end
abbrev sRn : Stmt := top 50
abbrev nRn : List Str := ["words"]
abbrev pRn : List Str := ["words"]
theorem scRn : FnScope nRn pRn (defScope sRn) := ⟨rfl, rfl, rfl, by decide +kernel, rfl, by decide +kernel, by decide +kernel⟩
section
variable {fA_ : Addr} {fdA_ : FuncData}
theorem ok_Rn (F : Fun K "read_rename" "read_rename" sRn f fd) (T : Bt mg)
    (GA_ : FnOk P w K mg base CX0 1 fA_ fdA_ ["value"] (spName)) (mA_ : mg "is_name" = some (.ref fA_)) (kA_ : PySem.W.keepIn K (.ref fA_) = true) (bA_ : Binds K fdA_ ["value"] []) : FnOk P w K mg base CX0 25 f fd pRn (spRd renameM) := by
  refine F.ok scRn (fun vs H Q E h => ?_) (fun cdv A outer s H vs Q E hr h => ?_)
  · obtain ⟨W, ws, rfl, _⟩ := h
    rfl
  · obtain ⟨W, ws, rfl, hW, ok, ne, k⟩ := h
    have hrA_ : Room (1) _ := hr.mono (by first | decide | omega)
    refine ⟨_, (pss_cons (ps_if (PW.pt (pw_or (pt_cmpR op_ne (pe_callB call_len_seq (by rfl) T.len PySem.boot_len (pa_cons (pv 0) pa_nil)) pe_int (nomark _)) (pw_or (pt_not (pt_val (pe_call GA_ hrA_ (by rfl) mA_ kA_ bA_ .nil pass0 (pa_cons (pe_ix ix_list (pv 0) pe_int (fun _ _ => rfl)) pa_nil)))) (pw_or1 (pt_not (pt_val (pe_call GA_ hrA_ (by rfl) mA_ kA_ bA_ .nil pass0 (pa_cons (pe_ix ix_list (pv 0) pe_int (fun _ _ => rfl)) pa_nil)))))))) (pss_one (ps_ret pe_non)) pss_nil)
      (pss_one (ps_ret (pe_callTy call_tuple_of (by rfl) T.tuple boot_tuple (pa_cons (pv 0) pa_nil))))), ?_⟩
    have two : 2 ≤ sizeLine := by decide
    have one : 1 ≤ sizeLine := by decide
    have three : 3 ≤ sizeLine := by decide
    have lw := vW_len ws
    have ne3 : ¬ ws.length = 3 → renameM ws = .none := fun h => by
      match ws, h with
      | [], _ => rfl
      | [_], _ => rfl
      | [_, _], _ => rfl
      | [_, _, _], h => exact absurd rfl h
      | _ :: _ :: _ :: _ :: _, _ => rfl
    refine ⟨_, rfl, W, _, rfl, .inl (SqL.of hW), rfl, _, rfl, ?_⟩
    rw [lw]
    by_cases h3 : ws.length = 3
    · rw [show (!decide (V.int (ws.length : Int) = V.int 3)) = false by rw [h3]; rfl]
      match ws, ok, hW, h3, k with
      | [a, b, c], ok, hW, _, k =>
      refine iteF ⟨_, rfl, W, _, _, .str (TS b), rfl, rfl, SqL.of hW, at_of (j := 1) rfl rfl, .str (TS b), "str", rfl, .str _, fun x e => by cases e; exact (ok.each b (by simp)).line, fun H3 s3 => ⟨_, rfl, ?_⟩⟩
      rw [show nameB (.str (TS b)) = nmL b from rfl]
      unfold renameM at k
      dsimp only at k
      cases nb : nmL b with
      | false =>
        rw [nb, if_neg (fun h => by cases h.1)] at k
        exact iteT (iteT (k .non H3 s3 .non))
      | true =>
        rw [nb] at k
        refine iteF ⟨_, rfl, W, _, _, .str (TS c), rfl, rfl, SqL.of (s3 _ _ hW), at_of (j := 2) rfl rfl, .str (TS c), "str", rfl, .str _, fun x e => by cases e; exact (ok.each c (by simp)).line, fun H4 s4 => ⟨_, rfl, ?_⟩⟩
        rw [show nameB (.str (TS c)) = nmL c from rfl]
        have s := s3.trans s4
        cases nc : nmL c with
        | false =>
          rw [nc, if_neg (fun h => by cases h.2)] at k
          exact iteT (k .non H4 s .non)
        | true =>
          rw [nc, if_pos ⟨rfl, rfl⟩] at k
          exact iteF ⟨_, rfl, W, _, rfl, .inl ⟨SqL.of (s _ _ hW), fun p hp => k _ _ (s.trans (Same.upd hp)) (.tup upd_same (strs_dh [a, b, c]))⟩⟩
    · rw [show (!decide (V.int (ws.length : Int) = V.int 3)) = true by rw [decide_eq_false (fun h => h3 (by injection h with h; omega))]; rfl]
      exact iteT (iteT (k .non H (Same.refl H) (by rw [ne3 h3]; exact .non)))
end
end
end K79
set_option Elab.async false
set_option linter.all false
set_option maxRecDepth 100000
set_option maxHeartbeats 4000000
namespace K79
open PySem PySem.Spec PyProof.Rows L2 Lc
section
variable {P : Program} {w : World} {K : PySem.W.Frag} {mg : Str → Option Value} {base : Heap} {f : Addr} {fd : FuncData}
abbrev sSo : Stmt := top 51
abbrev nSo : List Str := ["words"]
abbrev pSo : List Str := ["words"]
theorem scSo : FnScope nSo pSo (defScope sSo) := ⟨rfl, rfl, rfl, by decide +kernel, rfl, by decide +kernel, by decide +kernel⟩
section
variable {fA_ : Addr} {fdA_ : FuncData}
theorem ok_So (F : Fun K "read_sort" "read_sort" sSo f fd) (T : Bt mg) {oA : Addr} (mO : mg "ORDERS" = some (.ref oA)) (hO : ∀ H, SqT K H oA [.str "up", .str "down"])
    (GA_ : FnOk P w K mg base CX0 1 fA_ fdA_ ["value"] (spName)) (mA_ : mg "is_name" = some (.ref fA_)) (kA_ : PySem.W.keepIn K (.ref fA_) = true) (bA_ : Binds K fdA_ ["value"] []) : FnOk P w K mg base CX0 25 f fd pSo (spRd sortM) := by
  refine F.ok scSo (fun vs H Q E h => ?_) (fun cdv A outer s H vs Q E hr h => ?_)
  · obtain ⟨W, ws, rfl, _⟩ := h
    rfl
  · obtain ⟨W, ws, rfl, hW, ok, ne, k⟩ := h
    have hrA_ : Room (1) _ := hr.mono (by first | decide | omega)
    refine ⟨_, (pss_one (ps_ret (pe_ifExp (PW.pt (pw_and (pt_cmpR op_eq (pe_callB call_len_seq (by rfl) T.len PySem.boot_len (pa_cons (pv 0) pa_nil)) pe_int (nomark _)) (pw_and (pt_val (pe_call GA_ hrA_ (by rfl) mA_ kA_ bA_ .nil pass0 (pa_cons (pe_ix ix_list (pv 0) pe_int (fun _ _ => rfl)) pa_nil))) (pw_and1 (pt_cmpR op_in_seq (pe_ix ix_list (pv 0) pe_int (fun _ _ => rfl)) (pe_glob (v := .ref oA) (by rfl) mO rfl) (by rfl)))))) (pe_callTy call_tuple_of (by rfl) T.tuple boot_tuple (pa_cons (pv 0) pa_nil)) pe_non))), ?_⟩
    have two : 2 ≤ sizeLine := by decide
    have one : 1 ≤ sizeLine := by decide
    have three : 3 ≤ sizeLine := by decide
    have lw := vW_len ws
    have nel : ¬ ws.length = 3 → sortM ws = .none := fun h => by
      match ws, h with
      | [], _ => rfl
      | [_], _ => rfl
      | [_, _], _ => rfl
      | [_, _, _], h => exact absurd rfl h
      | _ :: _ :: _ :: _ :: _, _ => rfl
    refine ⟨_, rfl, W, _, rfl, .inl (SqL.of hW), rfl, _, rfl, ?_⟩
    rw [lw]
    by_cases h3 : ws.length = 3
    · rw [show decide (V.int (ws.length : Int) = V.int 3) = true by rw [h3]; rfl]
      match ws, ok, hW, h3, k with
      | [a, b, c], ok, hW, _, k =>
      refine iteT ⟨_, rfl, W, _, _, .str (TS b), rfl, rfl, SqL.of hW, at_of (j := 1) rfl rfl, .str (TS b), "str", rfl, .str _, fun x e => by cases e; exact (ok.each b (by simp)).line, fun H3 s3 => ⟨_, rfl, ?_⟩⟩
      rw [show nameB (.str (TS b)) = nmL b from rfl]
      unfold sortM at k
      dsimp only at k
      cases nb : nmL b with
      | false =>
        rw [nb, if_neg (fun h => by cases h.1)] at k
        exact iteF (iteF (k .non H3 s3 .non))
      | true =>
        rw [nb] at k
        refine iteT ⟨_, rfl, W, _, _, .str (TS c), rfl, rfl, SqL.of (s3 _ _ hW), at_of (j := 2) rfl rfl, oA, _, rfl, .inr (hO _), rfl, rfl, _, rfl, ?_⟩
        have e : inV (.str (TS c)) [.str "up", .str "down"] = decide (TS c = "up" ∨ TS c = "down") := by
          show (((PySem.Str.ofString "up") == TS c) || (((PySem.Str.ofString "down") == TS c) || false)) = _
          rw [Bool.or_false, Bool.eq_iff_iff]
          simp only [Bool.or_eq_true, beq_iff_eq, decide_eq_true_eq]
          exact or_congr eq_comm eq_comm
        rw [show (if false = true then !inV (.str (TS c)) [.str "up", .str "down"] else inV (.str (TS c)) [.str "up", .str "down"]) = inV (.str (TS c)) [.str "up", .str "down"] from rfl, e]
        by_cases hc : TS c = "up" ∨ TS c = "down"
        · rw [if_pos ⟨rfl, hc⟩] at k
          rw [decide_eq_true hc]
          exact iteT ⟨_, rfl, W, _, rfl, .inl ⟨SqL.of (s3 _ _ hW), fun p hp => k _ _ (s3.trans (Same.upd hp)) (.tup upd_same (strs_dh [a, b, c]))⟩⟩
        · rw [if_neg (fun h => hc h.2)] at k
          rw [decide_eq_false hc]
          exact iteF (k .non H3 s3 .non)
    · rw [show decide (V.int (ws.length : Int) = V.int 3) = false by rw [decide_eq_false (fun h => h3 (by injection h with h; omega))]]
      exact iteF (iteF (k .non H (Same.refl H) (by rw [nel h3]; exact .non)))
end
abbrev sFi : Stmt := top 52
abbrev nFi : List Str := ["words", "count"]
abbrev pFi : List Str := ["words"]
theorem scFi : FnScope nFi pFi (defScope sFi) := ⟨rfl, rfl, rfl, by decide +kernel, rfl, by decide +kernel, by decide +kernel⟩
section
variable {fA_ : Addr} {fdA_ : FuncData}
theorem ok_Fi (F : Fun K "read_first" "read_first" sFi f fd) (T : Bt mg) {uc : Tok} (mc : mg "MOST_COUNT" = some (.int 1000 uc))
    (GA_ : FnOk P w K mg base CX0 2 fA_ fdA_ ["word", "low", "high"] (spWn)) (mA_ : mg "whole_or_none" = some (.ref fA_)) (kA_ : PySem.W.keepIn K (.ref fA_) = true) (bA_ : Binds K fdA_ ["word", "low", "high"] []) : FnOk P w K mg base CX0 25 f fd pFi (spRd firstM) := by
  refine F.ok scFi (fun vs H Q E h => ?_) (fun cdv A outer s H vs Q E hr h => ?_)
  · obtain ⟨W, ws, rfl, _⟩ := h
    rfl
  · obtain ⟨W, ws, rfl, hW, ok, ne, k⟩ := h
    have hrA_ : Room (2) _ := hr.mono (by first | decide | omega)
    refine ⟨_, (pss_cons (ps_set (i := 1) scFi.nd rfl (Or.inl rfl) (pe_ifExp (pt_cmpR op_eq (pe_callB call_len_seq (by rfl) T.len PySem.boot_len (pa_cons (pv 0) pa_nil)) pe_int (nomark _)) (pe_call GA_ hrA_ (by rfl) mA_ kA_ bA_ .nil pass0 (pa_cons (pe_ix ix_list (pv 0) pe_int (fun _ _ => rfl)) (pa_cons pe_int (pa_cons (pe_glob (v := .int 1000) (by rfl) mc ⟨_, rfl⟩) pa_nil)))) pe_non))
      (pss_one (ps_ret (pe_ifExp (pt_cmpR op_isN (pv 1) pe_non (nomark _)) pe_non (pe_tup (pa_cons pe_str (pa_cons (pv 1) pa_nil))))))), ?_⟩
    have two : 2 ≤ sizeLine := by decide
    have one : 1 ≤ sizeLine := by decide
    have three : 3 ≤ sizeLine := by decide
    have lw := vW_len ws
    have nel : ¬ ws.length = 2 → firstM ws = .none := fun h => by
      match ws, h with
      | [], _ => rfl
      | [_], _ => rfl
      | [_, _], h => exact absurd rfl h
      | _ :: _ :: _ :: _, _ => rfl
    refine ⟨_, rfl, W, _, rfl, .inl (SqL.of hW), rfl, _, rfl, ?_⟩
    rw [lw]
    by_cases h3 : ws.length = 2
    · rw [show decide (V.int (ws.length : Int) = V.int 2) = true by rw [h3]; rfl]
      match ws, ok, hW, h3, k with
      | [a, b], ok, hW, _, k =>
      refine iteT ⟨_, rfl, W, _, _, .str (TS b), rfl, rfl, SqL.of hW, at_of (j := 1) rfl rfl, b, 0, 1000, rfl, ok.each b (by simp), fun H1 s1 => ?_⟩
      unfold firstM at k
      dsimp only at k
      refine ⟨_, rfl, rfl, _, rfl, ?_⟩
      cases e : wholeM b 0 1000 with
      | none =>
        rw [e] at k
        rw [show decide (opN none = V.non) = true from rfl]
        exact iteT (k .non H1 s1 .non)
      | some n =>
        rw [e] at k
        rw [show decide (opN (some n) = V.non) = false from rfl]
        exact iteF ⟨_, rfl, two, fun q hq => k _ _ (s1.trans (Same.upd hq)) (.tup upd_same (.cons (.str _) (.cons (.int _) .nil)))⟩
    · rw [show decide (V.int (ws.length : Int) = V.int 2) = false by rw [decide_eq_false (fun h => h3 (by injection h with h; omega))]]
      refine iteF ⟨_, rfl, rfl, _, rfl, ?_⟩
      rw [show decide (V.non = V.non) = true from rfl]
      exact iteT (k .non H (Same.refl H) (by rw [nel h3]; exact .non))
end
abbrev sSm : Stmt := top 53
abbrev nSm : List Str := ["words", "whole", "seed", "part"]
abbrev pSm : List Str := ["words"]
theorem scSm : FnScope nSm pSm (defScope sSm) := ⟨rfl, rfl, rfl, by decide +kernel, rfl, by decide +kernel, by decide +kernel⟩
section
variable {fA_ : Addr} {fdA_ : FuncData}
theorem ok_Sm (F : Fun K "read_sample" "read_sample" sSm f fd) (T : Bt mg) {uw us_ : Tok} (mw : mg "MOST_WHOLE" = some (.int 1000 uw)) (ms : mg "MOST_SEED" = some (.int 1000000000 us_))
    (GA_ : FnOk P w K mg base CX0 2 fA_ fdA_ ["word", "low", "high"] (spWn)) (mA_ : mg "whole_or_none" = some (.ref fA_)) (kA_ : PySem.W.keepIn K (.ref fA_) = true) (bA_ : Binds K fdA_ ["word", "low", "high"] []) : FnOk P w K mg base CX0 25 f fd pSm (spRd sampleM) := by
  refine F.ok scSm (fun vs H Q E h => ?_) (fun cdv A outer s H vs Q E hr h => ?_)
  · obtain ⟨W, ws, rfl, _⟩ := h
    rfl
  · obtain ⟨W, ws, rfl, hW, ok, ne, k⟩ := h
    have hrA_ : Room (2) _ := hr.mono (by first | decide | omega)
    refine ⟨_, (pss_cons (ps_if (pt_cmpR op_ne (pe_callB call_len_seq (by rfl) T.len PySem.boot_len (pa_cons (pv 0) pa_nil)) pe_int (nomark _)) (pss_one (ps_ret pe_non)) pss_nil)
      (pss_cons (ps_set (i := 1) scSm.nd rfl (Or.inl rfl) (pe_call GA_ hrA_ (by rfl) mA_ kA_ bA_ .nil pass0 (pa_cons (pe_ix ix_list (pv 0) pe_int (fun _ _ => rfl)) (pa_cons pe_int (pa_cons (pe_glob (v := .int 1000) (by rfl) mw ⟨_, rfl⟩) pa_nil)))))
      (pss_cons (ps_set (i := 2) scSm.nd rfl (Or.inl rfl) (pe_call GA_ hrA_ (by rfl) mA_ kA_ bA_ .nil pass0 (pa_cons (pe_ix ix_list (pv 0) pe_int (fun _ _ => rfl)) (pa_cons pe_int (pa_cons (pe_glob (v := .int 1000000000) (by rfl) ms ⟨_, rfl⟩) pa_nil)))))
      (pss_cons (ps_set (i := 3) scSm.nd rfl (Or.inl rfl) (pe_ifExp (pt_cmpR op_isN (pv 1) pe_non (nomark _)) pe_non (pe_call GA_ hrA_ (by rfl) mA_ kA_ bA_ .nil pass0 (pa_cons (pe_ix ix_list (pv 0) pe_int (fun _ _ => rfl)) (pa_cons pe_int (pa_cons (pv 1) pa_nil))))))
      (pss_one (ps_ret (pe_ifExp (PW.pt (pw_or (pt_cmpR op_isN (pv 3) pe_non (nomark _)) (pw_or1 (pt_cmpR op_isN (pv 2) pe_non (nomark _))))) pe_non (pe_tup (pa_cons pe_str (pa_cons (pv 3) (pa_cons (pv 1) (pa_cons (pv 2) pa_nil)))))))))))), ?_⟩
    have two : 2 ≤ sizeLine := by decide
    have one : 1 ≤ sizeLine := by decide
    have three : 3 ≤ sizeLine := by decide
    have lw := vW_len ws
    have nel : ¬ ws.length = 4 → sampleM ws = .none := fun h => by
      match ws, h with
      | [], _ => rfl
      | [_], _ => rfl
      | [_, _], _ => rfl
      | [_, _, _], _ => rfl
      | [_, _, _, _], h => exact absurd rfl h
      | _ :: _ :: _ :: _ :: _ :: _, _ => rfl
    have four : 4 ≤ sizeLine := by decide
    refine ⟨_, rfl, W, _, rfl, .inl (SqL.of hW), rfl, _, rfl, ?_⟩
    rw [lw]
    by_cases h3 : ws.length = 4
    · rw [show (!decide (V.int (ws.length : Int) = V.int 4)) = false by rw [h3]; rfl]
      match ws, ok, hW, h3, k with
      | [a, b, c, e], ok, hW, _, k =>
      refine iteF ⟨_, rfl, W, _, _, .str (TS c), rfl, rfl, SqL.of hW, at_of (j := 2) rfl rfl, c, 1, 1000, rfl, ok.each c (by simp), fun H1 s1 => ?_⟩
      refine ⟨_, rfl, W, _, _, .str (TS e), rfl, rfl, SqL.of (s1 _ _ hW), at_of (j := 3) rfl rfl, e, 0, 1000000000, rfl, ok.each e (by simp), fun H2 s2 => ?_⟩
      have s12 := s1.trans s2
      unfold sampleM at k
      dsimp only at k
      refine ⟨_, rfl, rfl, _, rfl, ?_⟩
      cases ec : wholeM c 1 1000 with
      | none =>
        rw [ec] at k
        rw [show decide (opN none = V.non) = true from rfl]
        refine iteT ⟨_, rfl, rfl, _, rfl, ?_⟩
        rw [show decide (V.non = V.non) = true from rfl]
        exact iteT (iteT (k .non H2 s12 .non))
      | some wh =>
        rw [ec] at k
        rw [show decide (opN (some wh) = V.non) = false from rfl]
        refine iteF ⟨_, rfl, W, _, _, .str (TS b), rfl, rfl, SqL.of (s12 _ _ hW), at_of (j := 1) rfl rfl, _, rfl, b, 0, wh, rfl, ok.each b (by simp), fun H3 s3 => ?_⟩
        have s := s12.trans s3
        refine ⟨_, rfl, rfl, _, rfl, ?_⟩
        cases eb : wholeM b 0 wh with
        | none =>
          rw [show decide (opN none = V.non) = true from rfl]
          refine iteT (iteT (k .non H3 s ?_))
          cases ee : wholeM e 0 1000000000 <;> simp only [eb] <;> exact .non
        | some n =>
          rw [show decide (opN (some n) = V.non) = false from rfl]
          refine iteF ⟨_, rfl, rfl, _, rfl, ?_⟩
          cases ee : wholeM e 0 1000000000 with
          | none =>
            rw [ee] at k
            rw [show decide (opN none = V.non) = true from rfl]
            exact iteT (k .non H3 s .non)
          | some se =>
            rw [ee] at k
            simp only [eb] at k
            rw [show decide (opN (some se) = V.non) = false from rfl]
            exact iteF ⟨_, rfl, _, rfl, _, rfl, four, fun q hq => k _ _ (s.trans (Same.upd hq)) (.tup upd_same (.cons (.str _) (.cons (.int _) (.cons (.int _) (.cons (.int _) .nil)))))⟩
    · rw [show (!decide (V.int (ws.length : Int) = V.int 4)) = true by rw [decide_eq_false (fun h => h3 (by injection h with h; omega))]; rfl]
      exact iteT (k .non H (Same.refl H) (by rw [nel h3]; exact .non))
end
abbrev sJo : Stmt := top 54
abbrev nJo : List Str := ["words", "names"]
abbrev pJo : List Str := ["words"]
theorem scJo : FnScope nJo pJo (defScope sJo) := ⟨rfl, rfl, rfl, by decide +kernel, rfl, by decide +kernel, by decide +kernel⟩
section
variable {fA_ fB_ : Addr} {fdA_ fdB_ : FuncData}
theorem ok_Jo (F : Fun K "read_join" "read_join" sJo f fd) (T : Bt mg) {u3 : Tok} (m3 : mg "MOST_KEYS" = some (.int 3 u3))
    (GA_ : FnOk P w K mg base CX0 1 fA_ fdA_ ["value"] (spName)) (mA_ : mg "is_name" = some (.ref fA_)) (kA_ : PySem.W.keepIn K (.ref fA_) = true) (bA_ : Binds K fdA_ ["value"] [])
    (GB_ : FnOk P w K mg base CX0 2 fB_ fdB_ ["words", "low", "high"] (spUn)) (mB_ : mg "are_unlike_names" = some (.ref fB_)) (kB_ : PySem.W.keepIn K (.ref fB_) = true) (bB_ : Binds K fdB_ ["words", "low", "high"] []) : FnOk P w K mg base CX0 25 f fd pJo (spRd joinM) := by
  refine F.ok scJo (fun vs H Q E h => ?_) (fun cdv A outer s H vs Q E hr h => ?_)
  · obtain ⟨W, ws, rfl, _⟩ := h
    rfl
  · obtain ⟨W, ws, rfl, hW, ok, ne, k⟩ := h
    have hrA_ : Room (1) _ := hr.mono (by first | decide | omega)
    have hrB_ : Room (2) _ := hr.mono (by first | decide | omega)
    refine ⟨_, (pss_cons (ps_if (PW.pt (pw_or (pt_cmpR op_lt (pe_callB call_len_seq (by rfl) T.len PySem.boot_len (pa_cons (pv 0) pa_nil)) pe_int (nomark _)) (pw_or (pt_not (pt_val (pe_call GA_ hrA_ (by rfl) mA_ kA_ bA_ .nil pass0 (pa_cons (pe_ix ix_list (pv 0) pe_int (fun _ _ => rfl)) pa_nil)))) (pw_or1 (pt_cmpR op_ne (pe_ix ix_list (pv 0) pe_int (fun _ _ => rfl)) pe_str (nomark _)))))) (pss_one (ps_ret pe_non)) pss_nil)
      (pss_cons (ps_set (i := 1) scJo.nd rfl (Or.inl rfl) (pe_slice sl_list (pv 0) (po_some pe_int) po_none))
      (pss_one (ps_ret (pe_ifExp (pt_val (pe_call GB_ hrB_ (by rfl) mB_ kB_ bB_ .nil pass0 (pa_cons (pv 1) (pa_cons pe_int (pa_cons (pe_glob (v := .int 3) (by rfl) m3 ⟨_, rfl⟩) pa_nil))))) (pe_tup (pa_cons pe_str (pa_cons (pe_ix ix_list (pv 0) pe_int (fun _ _ => rfl)) (pa_cons (pe_callTy call_tuple_of (by rfl) T.tuple boot_tuple (pa_cons (pv 1) pa_nil)) pa_nil)))) pe_non))))), ?_⟩
    have two : 2 ≤ sizeLine := by decide
    have one : 1 ≤ sizeLine := by decide
    have three : 3 ≤ sizeLine := by decide
    have lw := vW_len ws
    refine ⟨_, rfl, W, _, rfl, .inl (SqL.of hW), _, _, rfl, rfl, _, rfl, ?_⟩
    rw [lw]
    match ws, ok, hW, lw, ne, k with
    | [a], ok, hW, lw, ne, k => exact iteT (iteT (k .non H (Same.refl H) .non))
    | [a, b], ok, hW, lw, ne, k => exact iteT (iteT (k .non H (Same.refl H) .non))
    | a :: b :: c :: r, ok, hW, lw, ne, k =>
      rw [decide_eq_false (show ¬ (((a :: b :: c :: r).length : Nat) : Int) < 3 by simp only [List.length_cons]; omega)]
      refine iteF ⟨_, rfl, W, _, _, .str (TS b), rfl, rfl, SqL.of hW, at_of (j := 1) rfl rfl, .str (TS b), "str", rfl, .str _, fun x e => by cases e; exact (ok.each b (by simp)).line, fun H3 s3 => ⟨_, rfl, ?_⟩⟩
      rw [show nameB (.str (TS b)) = nmL b from rfl]
      unfold joinM at k
      dsimp only at k
      cases nb : nmL b with
      | false =>
        rw [nb, if_neg (fun h => by cases h.1)] at k
        exact iteT (iteT (k .non H3 s3 .non))
      | true =>
        rw [nb] at k
        refine iteF ⟨_, rfl, W, _, _, .str (TS c), rfl, rfl, SqL.of (s3 _ _ hW), at_of (j := 2) rfl rfl, rfl, _, rfl, ?_⟩
        by_cases hc : TS c = "on"
        · rw [if_pos ⟨rfl, hc⟩] at k
          rw [show (!decide (V.str (TS c) = V.str "on")) = false by rw [hc]; rfl]
          refine iteF ⟨_, rfl, 3, rfl, W, _, rfl, SqL.of (s3 _ _ hW), fun R hR => ?_⟩
          rw [show cutV (vW (a :: b :: c :: r)) (some 3) none = vW r from cutW (a :: b :: c :: r) 3]
          have zR := Same.upd (o := .lst (vW r)) hR
          refine ⟨_, rfl, R, r, 1, 3, rfl, upd_same, ok.drop 3, fun H4 s4 => ⟨_, rfl, ?_⟩⟩
          have s := s3.trans (zR.trans s4)
          cases z : namesM r 1 3 with
          | false =>
            rw [z] at k
            exact iteF (k .non H4 s .non)
          | true =>
            rw [z] at k
            refine iteT ⟨_, rfl, W, _, _, .str (TS b), rfl, rfl, SqL.of (s _ _ hW), at_of (j := 1) rfl rfl, _, rfl, R, _, rfl, .inl ⟨SqL.of (s4 _ _ upd_same), fun p hp => ⟨three, fun q hq => ?_⟩⟩⟩
            have z1 := Same.upd (o := .tup (vW r)) hp
            have z2 := Same.upd (o := .tup [.str "join", .str (TS b), .ref p]) hq
            exact k _ _ (s.trans (z1.trans z2)) (.tup upd_same (.cons (.str _) (.cons (.str _) (.cons (.tup (z2 _ _ upd_same) (strs_dh r)) .nil))))
        · rw [if_neg (fun h => hc h.2)] at k
          rw [show (!decide (V.str (TS c) = V.str "on")) = true by rw [decide_eq_false (fun h => hc (by injection h))]; rfl]
          exact iteT (k .non H3 s3 .non)
end
abbrev sUo : Stmt := top 55
abbrev nUo : List Str := ["words"]
abbrev pUo : List Str := ["words"]
theorem scUo : FnScope nUo pUo (defScope sUo) := ⟨rfl, rfl, rfl, by decide +kernel, rfl, by decide +kernel, by decide +kernel⟩
section
variable {fA_ : Addr} {fdA_ : FuncData}
theorem ok_Uo (F : Fun K "read_union" "read_union" sUo f fd) (T : Bt mg)
    (GA_ : FnOk P w K mg base CX0 1 fA_ fdA_ ["value"] (spName)) (mA_ : mg "is_name" = some (.ref fA_)) (kA_ : PySem.W.keepIn K (.ref fA_) = true) (bA_ : Binds K fdA_ ["value"] []) : FnOk P w K mg base CX0 25 f fd pUo (spRd unionM) := by
  refine F.ok scUo (fun vs H Q E h => ?_) (fun cdv A outer s H vs Q E hr h => ?_)
  · obtain ⟨W, ws, rfl, _⟩ := h
    rfl
  · obtain ⟨W, ws, rfl, hW, ok, ne, k⟩ := h
    have hrA_ : Room (1) _ := hr.mono (by first | decide | omega)
    refine ⟨_, (pss_one (ps_ret (pe_ifExp (PW.pt (pw_and (pt_cmpR op_eq (pe_callB call_len_seq (by rfl) T.len PySem.boot_len (pa_cons (pv 0) pa_nil)) pe_int (nomark _)) (pw_and1 (pt_val (pe_call GA_ hrA_ (by rfl) mA_ kA_ bA_ .nil pass0 (pa_cons (pe_ix ix_list (pv 0) pe_int (fun _ _ => rfl)) pa_nil)))))) (pe_callTy call_tuple_of (by rfl) T.tuple boot_tuple (pa_cons (pv 0) pa_nil)) pe_non))), ?_⟩
    have two : 2 ≤ sizeLine := by decide
    have one : 1 ≤ sizeLine := by decide
    have three : 3 ≤ sizeLine := by decide
    have lw := vW_len ws
    have nel : ¬ ws.length = 2 → unionM ws = .none := fun h => by
      match ws, h with
      | [], _ => rfl
      | [_], _ => rfl
      | [_, _], h => exact absurd rfl h
      | _ :: _ :: _ :: _, _ => rfl
    refine ⟨_, rfl, W, _, rfl, .inl (SqL.of hW), rfl, _, rfl, ?_⟩
    rw [lw]
    by_cases h3 : ws.length = 2
    · rw [show decide (V.int (ws.length : Int) = V.int 2) = true by rw [h3]; rfl]
      match ws, ok, hW, h3, k with
      | [a, b], ok, hW, _, k =>
      refine iteT ⟨_, rfl, W, _, _, .str (TS b), rfl, rfl, SqL.of hW, at_of (j := 1) rfl rfl, .str (TS b), "str", rfl, .str _, fun x e => by cases e; exact (ok.each b (by simp)).line, fun H3 s3 => ⟨_, rfl, ?_⟩⟩
      rw [show nameB (.str (TS b)) = nmL b from rfl]
      unfold unionM at k
      dsimp only at k
      cases nb : nmL b with
      | false =>
        rw [nb] at k
        exact iteF (k .non H3 s3 .non)
      | true =>
        rw [nb] at k
        exact iteT ⟨_, rfl, W, _, rfl, .inl ⟨SqL.of (s3 _ _ hW), fun p hp => k _ _ (s3.trans (Same.upd hp)) (.tup upd_same (strs_dh [a, b]))⟩⟩
    · rw [show decide (V.int (ws.length : Int) = V.int 2) = false by rw [decide_eq_false (fun h => h3 (by injection h with h; omega))]]
      exact iteF (iteF (k .non H (Same.refl H) (by rw [nel h3]; exact .non)))
end
abbrev sDi : Stmt := top 56
abbrev nDi : List Str := ["words"]
abbrev pDi : List Str := ["words"]
theorem scDi : FnScope nDi pDi (defScope sDi) := ⟨rfl, rfl, rfl, by decide +kernel, rfl, by decide +kernel, by decide +kernel⟩
section
theorem ok_Di (F : Fun K "read_distinct" "read_distinct" sDi f fd) (T : Bt mg) : FnOk P w K mg base CX0 25 f fd pDi (spRd distinctM) := by
  refine F.ok scDi (fun vs H Q E h => ?_) (fun cdv A outer s H vs Q E hr h => ?_)
  · obtain ⟨W, ws, rfl, _⟩ := h
    rfl
  · obtain ⟨W, ws, rfl, hW, ok, ne, k⟩ := h
    refine ⟨_, (pss_one (ps_ret (pe_ifExp (pt_cmpR op_eq (pe_callB call_len_seq (by rfl) T.len PySem.boot_len (pa_cons (pv 0) pa_nil)) pe_int (nomark _)) (pe_callTy call_tuple_of (by rfl) T.tuple boot_tuple (pa_cons (pv 0) pa_nil)) pe_non))), ?_⟩
    have two : 2 ≤ sizeLine := by decide
    have one : 1 ≤ sizeLine := by decide
    have three : 3 ≤ sizeLine := by decide
    have lw := vW_len ws
    have nel : ¬ ws.length = 1 → distinctM ws = .none := fun h => by
      match ws, h with
      | [], _ => rfl
      | [_], h => exact absurd rfl h
      | _ :: _ :: _, _ => rfl
    refine ⟨_, rfl, W, _, rfl, .inl (SqL.of hW), rfl, _, rfl, ?_⟩
    rw [lw]
    by_cases h3 : ws.length = 1
    · rw [show decide (V.int (ws.length : Int) = V.int 1) = true by rw [h3]; rfl]
      match ws, ok, hW, h3, k with
      | [a], ok, hW, _, k => exact iteT ⟨_, rfl, W, _, rfl, .inl ⟨SqL.of hW, fun p hp => k _ _ (Same.upd hp) (.tup upd_same (strs_dh [a]))⟩⟩
    · rw [show decide (V.int (ws.length : Int) = V.int 1) = false by rw [decide_eq_false (fun h => h3 (by injection h with h; omega))]]
      exact iteF (k .non H (Same.refl H) (by rw [nel h3]; exact .non))
end
end
end K79
set_option Elab.async false
set_option linter.all false
set_option maxRecDepth 100000
set_option maxHeartbeats 4000000
namespace K79
open PySem PySem.Spec PyProof.Rows L2 Lc
/-! ## totals of a group -/
theorem jn_spl {c : Nat} : ∀ l, jn c (spl c l) = l
  | [] => rfl
  | a :: l => by
    have ih := jn_spl (c := c) l
    rw [spl]
    split
    · rename_i h
      rw [jn_cons (spl_ne l), ih, h]
      rfl
    · cases e : spl c l with
      | nil => exact absurd e (spl_ne l)
      | cons w ws =>
        rw [e] at ih
        show jn c ((a :: w) :: ws) = a :: l
        cases ws with
        | nil =>
          show a :: w = a :: l
          have ih : w = l := ih
          rw [ih]
        | cons u us =>
          rw [jn_cons (List.cons_ne_nil _ _)] at ih ⊢
          rw [List.cons_append, ih]
def LineOk (l : LN) : Prop := Tx l ∧ l.length ≤ 150
theorem LineOk.ws {l : LN} (h : LineOk l) (p : LN) : WsOk (spl 32 (cutp p l)) := by
  have s := cutp_sub p l
  refine ⟨?_, by rw [jn_spl]; exact h.1.sub s⟩
  have := len_spl (c := 32) (cutp p l)
  have := s.length_le
  have := h.2
  omega
theorem words_TS (line ah : LN) : Txt.split (Txt.removeprefix (TS line) (TS ah)) (PySem.Str.ofString " ") = (spl 32 (cutp ah line)).map TS := by
  have bl : (PySem.Str.ofString " ") = ⟨#[32]⟩ := by decide +kernel
  rw [prefix_TS, cl_ts, bl, split_TS]
abbrev fnsV : List V := [.str "count", .str "sum", .str "mean", .str "median", .str "least", .str "greatest"]
def fnL (f : LN) : Bool := inV (.str (TS f)) fnsV
def totW : List LN → Option (LN × LN × LN)
  | [w, n, g, c] => if TS w = "total" ∧ nmL n = true ∧ fnL g = true ∧ nmL c = true then some (n, g, c) else none
  | _ => none
def totalT (ah line : LN) : Option (LN × LN × LN) := if stw ah line = true then totW (spl 32 (cutp ah line)) else none
def totD : Option (LN × LN × LN) → PyData
  | some (n, g, c) => .tuple [strD n, strD g, strD c]
  | none => .none
def spTt : Sp := fun vs H Q _ => ∃ (line ah : LN), vs = [.str (TS line), .str (TS ah)] ∧ LineOk line ∧ ∀ v H', Same H H' → Dh H' v (totD (totalT ah line)) → Q v H'
section
variable {P : Program} {w : World} {K : PySem.W.Frag} {mg : Str → Option Value} {base : Heap} {f : Addr} {fd : FuncData}
abbrev sTt : Stmt := top 58
abbrev nTt : List Str := ["line", "ahead", "words", "word", "name", "function", "column"]
abbrev pTt : List Str := ["line", "ahead"]
theorem scTt : FnScope nTt pTt (defScope sTt) := ⟨rfl, rfl, rfl, by decide +kernel, rfl, by decide +kernel, by decide +kernel⟩
section
variable {fA_ : Addr} {fdA_ : FuncData}
theorem ok_Tt (F : Fun K "read_total" "read_total" sTt f fd) (T : Bt mg) {fA : Addr} (mF : mg "FUNCTIONS" = some (.ref fA)) (hF : ∀ H, SqT K H fA fnsV)
    (GA_ : FnOk P w K mg base CX0 1 fA_ fdA_ ["value"] (spName)) (mA_ : mg "is_name" = some (.ref fA_)) (kA_ : PySem.W.keepIn K (.ref fA_) = true) (bA_ : Binds K fdA_ ["value"] []) : FnOk P w K mg base CX0 3 f fd pTt (spTt) := by
  refine F.ok scTt (fun vs H Q E h => ?_) (fun cdv A outer s H vs Q E hr h => ?_)
  · obtain ⟨line, ah, rfl, _⟩ := h
    rfl
  · obtain ⟨line, ah, rfl, lo, k⟩ := h
    have hrA_ : Room (1) _ := hr.mono (by first | decide | omega)
    refine ⟨_, (pss_cons (ps_set (i := 2) scTt.nd rfl (Or.inl rfl) (pe_m1 PySem.F.slot_str_split PySem.F.type_str_split mt_split (pe_m1 PySem.F.slot_str_removeprefix PySem.F.type_str_removeprefix mt_removeprefix (pv 0) (pv 1)) pe_str))
      (pss_cons (ps_if (PW.pt (pw_or (pt_not (pt_val (pe_m1 PySem.F.slot_str_startswith PySem.F.type_str_startswith mt_startswith (pv 0) (pv 1)))) (pw_or (pt_cmpR op_ne (pe_callB call_len_seq (by rfl) T.len PySem.boot_len (pa_cons (pv 2) pa_nil)) pe_int (nomark _)) (pw_or1 (pt_cmpR op_ne (pe_ix ix_list (pv 2) pe_int (fun _ _ => rfl)) pe_str (nomark _)))))) (pss_one (ps_ret pe_non)) pss_nil)
      (pss_cons (ps_asg (pv 2) (pg_lst rfl (pgs_cons (pg_name (i := 3) scTt.nd rfl (.inl rfl)) (pgs_cons (pg_name (i := 4) scTt.nd rfl (.inl rfl)) (pgs_cons (pg_name (i := 5) scTt.nd rfl (.inl rfl)) (pgs_cons (pg_name (i := 6) scTt.nd rfl (.inl rfl)) pgs_nil))))))
      (pss_one (ps_ret (pe_ifExp (PW.pt (pw_and (pt_val (pe_call GA_ hrA_ (by rfl) mA_ kA_ bA_ .nil pass0 (pa_cons (pv 4) pa_nil))) (pw_and (pt_cmpR op_in_seq (pv 5) (pe_glob (v := .ref fA) (by rfl) mF rfl) (by rfl)) (pw_and1 (pt_val (pe_call GA_ hrA_ (by rfl) mA_ kA_ bA_ .nil pass0 (pa_cons (pv 6) pa_nil))))))) (pe_tup (pa_cons (pv 4) (pa_cons (pv 5) (pa_cons (pv 6) pa_nil)))) pe_non)))))), ?_⟩
    have two : 2 ≤ sizeLine := by decide
    have one : 1 ≤ sizeLine := by decide
    have three : 3 ≤ sizeLine := by decide
    have ok := lo.ws ah
    have bl : ((PySem.Str.ofString " ").length == 0) = false := by decide +kernel
    have ll : (Txt.removeprefix (TS line) (TS ah)).length + 2 ≤ sizeLine := by
      rw [prefix_TS, ts_len]
      have := (cutp_sub (CL (TS ah)) line).length_le
      have := lo.2
      exact Nat.le_trans (show _ ≤ 200 by omega) (by decide)
    unfold totalT at k
    refine ⟨_, rfl, ⟨_, rfl⟩, _, rfl, _, _, rfl, rfl, lo.1.line, ⟨_, rfl⟩, _, _, rfl, rfl, bl, ll, fun W hW => ?_⟩
    rw [words_TS]
    generalize spl 32 (cutp ah line) = ws at ok k ⊢
    have zW := Same.upd (o := .lst (vW ws)) hW
    have eW : upd H W (.lst (vW ws)) W = some (.lst (vW ws)) := upd_same
    generalize upd H W (.lst (vW ws)) = H1 at zW eW ⊢
    refine ⟨_, rfl, ⟨_, rfl⟩, _, rfl, _, _, rfl, rfl, _, rfl, ?_⟩
    rw [starts_TS, cl_ts]
    cases sw : stw ah line with
    | false =>
      rw [sw] at k
      exact iteT (iteT (k .non H1 zW .non))
    | true =>
    rw [sw] at k
    have k : ∀ v H', Same H H' → Dh H' v (totD (totW ws)) → Q v H' := k
    have lw := vW_len ws
    refine iteF ⟨_, rfl, W, _, rfl, .inl (SqL.of eW), rfl, _, rfl, ?_⟩
    rw [lw]
    by_cases h4 : ws.length = 4
    · rw [show (!decide (V.int (ws.length : Int) = V.int 4)) = false by rw [h4]; rfl]
      match ws, ok, eW, zW, h4, k with
      | [w, n, g, c], ok, eW, zW, _, k =>
      unfold totW at k
      dsimp only at k
      refine iteF ⟨_, rfl, W, _, _, .str (TS w), rfl, rfl, SqL.of eW, at_of (j := 0) rfl rfl, rfl, _, rfl, ?_⟩
      by_cases hw : TS w = "total"
      · rw [show (!decide (V.str (TS w) = V.str "total")) = false by rw [hw]; rfl]
        refine iteF ⟨_, rfl, W, _, rfl, SqL.of eW, rfl, _, _, rfl, _, _, rfl, _, _, rfl, _, _, rfl, rfl, ?_⟩
        dsimp only [gNil]
        refine ⟨_, rfl, .str (TS n), "str", rfl, .str _, fun x e => by cases e; exact (ok.each n (by simp)).line, fun H3 s3 => ⟨_, rfl, ?_⟩⟩
        rw [show nameB (.str (TS n)) = nmL n from rfl]
        cases nn : nmL n with
        | false =>
          rw [nn, if_neg (fun h => by cases h.2.1)] at k
          exact iteF (iteF (k .non H3 (zW.trans s3) .non))
        | true =>
        rw [nn] at k
        refine iteT ⟨_, rfl, fA, _, rfl, .inr (hF _), rfl, rfl, _, rfl, ?_⟩
        rw [show (if false = true then !inV (.str (TS g)) fnsV else inV (.str (TS g)) fnsV) = fnL g from rfl]
        cases ng : fnL g with
        | false =>
          rw [ng, if_neg (fun h => by cases h.2.2.1)] at k
          exact iteF (iteF (k .non H3 (zW.trans s3) .non))
        | true =>
        rw [ng] at k
        refine iteT ⟨_, rfl, .str (TS c), "str", rfl, .str _, fun x e => by cases e; exact (ok.each c (by simp)).line, fun H4 s4 => ⟨_, rfl, ?_⟩⟩
        rw [show nameB (.str (TS c)) = nmL c from rfl]
        have s := (zW.trans s3).trans s4
        cases nc : nmL c with
        | false =>
          rw [nc, if_neg (fun h => by cases h.2.2.2)] at k
          exact iteF (k .non H4 s .non)
        | true =>
          rw [nc, if_pos ⟨hw, rfl, rfl, rfl⟩] at k
          exact iteT ⟨_, rfl, _, rfl, _, rfl, three, fun q hq => k _ _ (s.trans (Same.upd hq)) (.tup upd_same (.cons (.str _) (.cons (.str _) (.cons (.str _) .nil))))⟩
      · rw [show (!decide (V.str (TS w) = V.str "total")) = true by rw [decide_eq_false (fun h => hw (by injection h))]; rfl]
        rw [if_neg (fun h => hw h.1)] at k
        exact iteT (k .non H1 zW .non)
    · rw [show (!decide (V.int (ws.length : Int) = V.int 4)) = true by rw [decide_eq_false (fun h => h4 (by injection h with h; omega))]; rfl]
      refine iteT (iteT (k .non H1 zW ?_))
      match ws, h4 with
      | [], _ => exact .non
      | [_], _ => exact .non
      | [_, _], _ => exact .non
      | [_, _, _], _ => exact .non
      | [_, _, _, _], h => exact absurd rfl h
      | _ :: _ :: _ :: _ :: _ :: _, _ => exact .non
end
end
end K79
set_option Elab.async false
set_option linter.all false
set_option maxRecDepth 100000
set_option maxHeartbeats 4000000
namespace K79
open PySem PySem.Spec PyProof.Rows L2 Lc
/-! ## groups -/
inductive Out (α : Type) where
  | ok (d : α) (n : Nat)
  | err (n : Nat)
abbrev T3 : Type := LN × LN × LN
def t3D (t : T3) : PyData := .tuple [strD t.1, strD t.2.1, strD t.2.2]
def totsM (ah : LN) : List LN → List LN → Nat → List T3
  | [], _, _ => []
  | l :: r, tk, n => if n < 6 ∧ tk.length < 8 then (match totalT ah l with
    | none => []
    | some t => if inV (.str (TS t.1)) (vW tk) = true then [] else t :: totsM ah r (tk ++ [t.1]) (n + 1)) else []
def groupD (ns : List LN) (ts : List T3) : PyData := .tuple [.str "group", strsD ns, .tuple (ts.map t3D)]
def groupN (ah : LN) (ns r : List LN) : Out PyData := if namesM ns 0 3 = true then (if (totsM (ah ++ [32, 32]) r ns 0).length = 0 then .err 1 else .ok (groupD ns (totsM (ah ++ [32, 32]) r ns 0)) (1 + (totsM (ah ++ [32, 32]) r ns 0).length)) else .err 0
def groupM (ah l : LN) (r : List LN) : Out PyData := groupN ah ((spl 32 (cutp ah l)).drop 1) r
/-- what a reader of lines that may refuse does: the step and the place behind it, or the place of the error -/
def OutQ (C : Addr) (i : Nat) (o : Out PyData) (H : Hp) (Q : VK) (E : XK) : Prop := match o with
  | .ok d n => ∀ (p : Addr) (x : V) (H' : Hp), Same H H' → H' p = some (.tup [x, .int ((i + n : Nat) : Int)]) → Dh H' x d → Q (.ref p) H'
  | .err n => ∀ H', Same H H' → TellsF C "position" H' (.int ((i + n : Nat) : Int)) E
theorem OutQ.same {C : Addr} {i : Nat} {o : Out PyData} {H H' : Hp} {Q : VK} {E : XK} (h : OutQ C i o H Q E) (s : Same H H') : OutQ C i o H' Q E := by
  cases o with
  | ok d n => exact fun p x H2 s2 => h p x H2 (s.trans s2)
  | err n => exact fun H2 s2 => h H2 (s.trans s2)
theorem same_none {H H' : Hp} (s : Same H H') {a : Addr} (h : H' a = none) : H a = none := by
  cases q : H a with
  | none => rfl
  | some o => rw [s _ _ q] at h; cases h
structure LsOk (ls : List LN) : Prop where
  each : ∀ l ∈ ls, LineOk l
  len : ls.length ≤ 100
def spGr (C : Addr) : Sp := fun vs H Q E => ∃ (L : Addr) (ls : List LN) (i : Nat) (ah l : LN) (r : List LN), vs = [.ref L, .int (i : Int), .str (TS ah)] ∧ H L = some (.lst (vW ls)) ∧ LsOk ls ∧ ls.drop i = l :: r ∧ ah.length ≤ 10 ∧ OutQ C i (groupM ah l r) H Q E
theorem drop_get {ls : List LN} {i : Nat} {l : LN} {r : List LN} (h : ls.drop i = l :: r) : ls[i]? = some l ∧ i < ls.length ∧ ls.drop (i + 1) = r := by
  have e : ls[i]? = some l := by
    have := congrArg (fun x : List LN => x[0]?) h
    rw [List.getElem?_drop] at this
    exact this
  have li := (List.getElem?_eq_some_iff.mp e).1
  refine ⟨e, li, ?_⟩
  have := List.drop_eq_getElem_cons li
  rw [h] at this
  injection this with _ h2
  exact h2.symm
theorem vW_get {ls : List LN} {i : Nat} {l : LN} (h : ls[i]? = some l) : (vW ls)[i]? = some (.str (TS l)) := by rw [List.getElem?_map, List.getElem?_map, h]; rfl
theorem noL_strs (ws : List LN) : noL (strsD ws) = true := by
  unfold strsD
  rw [noL]
  refine noLs_all.mpr fun d hd => ?_
  obtain ⟨w, _, rfl⟩ := List.mem_map.mp hd
  rfl
theorem noL_t3 (t : T3) : noL (t3D t) = true := rfl
theorem vW_all (ws : List LN) : (vW ws).all flatV = true := by
  rw [List.all_eq_true]
  intro x hx
  obtain ⟨y, hy, rfl⟩ := List.mem_map.mp hx
  rfl
/-- a while loop that is left at one place or another: all of them are B -/
theorem tw_of {c : TT} {tb : L2.TS} {D : Ends} {σ : L2.St} {H : Hp} (W : Nat → L2.St → Hp → Prop) (B : L2.St → Hp → Prop) (h0 : ∃ m, W m σ H) (hB : ∀ σ H, B σ H → D.nx σ H)
    (turn : ∀ nx : L2.St → Hp → Prop, (∀ σ H, B σ H → nx σ H) → ∀ m σ H, W m σ H → c σ H fun b H1 => if b = true then ∃ N : L2.St → Hp → Prop, (∀ σ' H', N σ' H' → ∃ m', m' < m ∧ W m' σ' H') ∧ tb { D with nx := N, ct := N, bk := nx } σ H1 else nx σ H1) : tWhile c tb D σ H :=
  ⟨W, h0, turn D.nx hB⟩
section
variable {P : Program} {w : World} {K : PySem.W.Frag} {mg : Str → Option Value} {base : Heap} {f C fI : Addr} {fd fdI : FuncData}
abbrev sGr : Stmt := top 59
abbrev nGr : List Str := ["lines", "at", "ahead", "names", "taken", "totals", "behind", "found"]
abbrev pGr : List Str := ["lines", "at", "ahead"]
theorem scGr : FnScope nGr pGr (defScope sGr) := ⟨rfl, rfl, rfl, by decide +kernel, rfl, by decide +kernel, by decide +kernel⟩
section
variable {fA_ fB_ : Addr} {fdA_ fdB_ : FuncData}
theorem ok_Gr (F : Fun K "read_group" "read_group" sGr f fd) (T : Bt mg) {u3 u6 u8 uT : Tok} (m3 : mg "MOST_KEYS" = some (.int 3 u3)) (m6 : mg "MOST_TOTALS" = some (.int 6 u6)) (m8 : mg "MOST_COLUMNS" = some (.int 8 u8)) (mT : mg "TOTAL_BLANKS" = some (.str ⟨#[32, 32]⟩ uT)) (Z : ErF K mg "BadText" "position" C fI) (GI : FnOk P w K mg base CX0 1 fI fdI ["self", "position"] (spIni C "position")) (bI : Binds K fdI ["self", "position"] [])
    (GA_ : FnOk P w K mg base CX0 2 fA_ fdA_ ["words", "low", "high"] (spUn)) (mA_ : mg "are_unlike_names" = some (.ref fA_)) (kA_ : PySem.W.keepIn K (.ref fA_) = true) (bA_ : Binds K fdA_ ["words", "low", "high"] [])
    (GB_ : FnOk P w K mg base CX0 3 fB_ fdB_ ["line", "ahead"] (spTt)) (mB_ : mg "read_total" = some (.ref fB_)) (kB_ : PySem.W.keepIn K (.ref fB_) = true) (bB_ : Binds K fdB_ ["line", "ahead"] []) : FnOk P w K mg base (L2.CX P w) 4 f fd pGr (spGr C) := by
  refine F.okX scGr (fun vs H Q E h => ?_) (fun cdv A outer s H vs Q E hr h => ?_)
  · obtain ⟨L, ls, i, ah, l, r, rfl, _⟩ := h
    rfl
  · obtain ⟨L, ls, i, ah, l, r, rfl, hL, ok, hd, la, k⟩ := h
    have hrA_ : Room (2) _ := hr.mono (by first | decide | omega)
    have hrB_ : Room (3) _ := hr.mono (by first | decide | omega)
    have hrI : Room 2 _ := hr.mono (by first | decide | omega)
    refine ⟨_, (pss_cons (ps_set (i := 3) scGr.nd rfl (Or.inl rfl) (pe_slice sl_list (pe_m1 PySem.F.slot_str_split PySem.F.type_str_split mt_split (pe_m1 PySem.F.slot_str_removeprefix PySem.F.type_str_removeprefix mt_removeprefix (pe_ix ix_list (pv 0) (pv 1) (fun _ _ => rfl)) (pv 2)) pe_str) (po_some pe_int) po_none))
      (pss_cons (ps_if (pt_not (pt_val (pe_call GA_ hrA_ (by rfl) mA_ kA_ bA_ .nil pass0 (pa_cons (pv 3) (pa_cons pe_int (pa_cons (pe_glob (v := .int 3) (by rfl) m3 ⟨_, rfl⟩) pa_nil)))))) (pss_one (ps_raise (W := fun cls d _ H => E cls d H) rfl (takes_of rfl rfl rfl rfl) (pmk_oex Z.oex Z.iC Z.tI GI hrI bI .nil pass0 (by rfl) Z.gC (pa_cons (pv 1) pa_nil)))) pss_nil)
      (pss_cons (ps_set (i := 4) scGr.nd rfl (Or.inl rfl) (pe_callTy call_list_of (by rfl) T.list boot_list (pa_cons (pv 3) pa_nil)))
      (pss_cons (ps_set (i := 5) scGr.nd rfl (Or.inl rfl) (pe_lst pa_nil))
      (pss_cons (ps_set (i := 6) scGr.nd rfl (Or.inl rfl) (pe_op op_add (pv 1) pe_int))
      (pss_cons (ps_while (passes_of rfl) (PW.pt (pw_and (pt_cmpR op_lt (pv 6) (pe_callB call_len_seq (by rfl) T.len PySem.boot_len (pa_cons (pv 0) pa_nil)) (nomark _)) (pw_and (pt_cmpR op_lt (pe_callB call_len_seq (by rfl) T.len PySem.boot_len (pa_cons (pv 5) pa_nil)) (pe_glob (v := .int 6) (by rfl) m6 ⟨_, rfl⟩) (nomark _)) (pw_and1 (pt_cmpR op_lt (pe_callB call_len_seq (by rfl) T.len PySem.boot_len (pa_cons (pv 4) pa_nil)) (pe_glob (v := .int 8) (by rfl) m8 ⟨_, rfl⟩) (nomark _)))))) (pss_cons (ps_set (i := 7) scGr.nd rfl (Or.inl rfl) (pe_call GB_ hrB_ (by rfl) mB_ kB_ bB_ .nil pass0 (pa_cons (pe_ix ix_list (pv 0) (pv 6) (fun _ _ => rfl)) (pa_cons (pe_op op_add_str (pv 2) (pe_glob (v := .str ⟨#[32, 32]⟩) (by rfl) mT ⟨_, rfl⟩)) pa_nil))))
      (pss_cons (ps_if (PW.pt (pw_or (pt_cmpR op_isN (pv 7) pe_non (nomark _)) (pw_or1 (pt_cmpR op_in_seq (pe_ix ix_tup (pv 7) pe_int (fun _ _ => rfl)) (pv 4) (by rfl))))) (pss_one ps_break) pss_nil)
      (pss_cons (ps_expr (pe_bm PySem.F.plainAttrs_list PySem.F.slot_list_append PySem.F.type_list_append mt_append (pv 5) (pa_cons (pv 7) pa_nil)))
      (pss_cons (ps_expr (pe_bm PySem.F.plainAttrs_list PySem.F.slot_list_append PySem.F.type_list_append mt_append (pv 4) (pa_cons (pe_ix ix_tup (pv 7) pe_int (fun _ _ => rfl)) pa_nil)))
      (pss_one (ps_aug (i := 6) scGr.nd rfl (Or.inl rfl) pe_int ip_add (.inr rfl))))))))
      (pss_cons (ps_if (pt_cmpR op_eq (pe_callB call_len_seq (by rfl) T.len PySem.boot_len (pa_cons (pv 5) pa_nil)) pe_int (nomark _)) (pss_one (ps_raise (W := fun cls d _ H => E cls d H) rfl (takes_of rfl rfl rfl rfl) (pmk_oex Z.oex Z.iC Z.tI GI hrI bI .nil pass0 (by rfl) Z.gC (pa_cons (pv 6) pa_nil)))) pss_nil)
      (pss_one (ps_ret (pe_tup (pa_cons (pe_tup (pa_cons pe_str (pa_cons (pe_callTy call_tuple_of (by rfl) T.tuple boot_tuple (pa_cons (pv 3) pa_nil)) (pa_cons (pe_callTy call_tuple_of (by rfl) T.tuple boot_tuple (pa_cons (pv 5) pa_nil)) pa_nil)))) (pa_cons (pv 6) pa_nil)))))))))))), ?_⟩
    have two : 2 ≤ sizeLine := by decide
    have one : 1 ≤ sizeLine := by decide
    have three : 3 ≤ sizeLine := by decide
    obtain ⟨el, li, dn⟩ := drop_get hd
    have gl := vW_get el
    have lk := ok.each l (List.mem_of_getElem? el)
    have wk := lk.ws ah
    have bl : ((PySem.Str.ofString " ").length == 0) = false := by decide +kernel
    have ll : (Txt.removeprefix (TS l) (TS ah)).length + 2 ≤ sizeLine := by
      rw [prefix_TS, ts_len]
      have := (cutp_sub (CL (TS ah)) l).length_le
      have := lk.2
      exact Nat.le_trans (show _ ≤ 200 by omega) (by decide)
    unfold groupM at k
    refine ⟨_, rfl, _, rfl, L, _, _, .str (TS l), rfl, rfl, SqL.of hL, at_of (j := i) rfl gl, ⟨_, rfl⟩, _, rfl, _, _, rfl, rfl, lk.1.line, ⟨_, rfl⟩, _, _, rfl, rfl, bl, ll, fun W hW => ?_⟩
    rw [words_TS]
    generalize spl 32 (cutp ah l) = ws at wk k ⊢
    have zW := Same.upd (o := .lst (vW ws)) hW
    have eW : upd H W (.lst (vW ws)) W = some (.lst (vW ws)) := upd_same
    generalize upd H W (.lst (vW ws)) = H1 at zW eW ⊢
    refine ⟨1, rfl, W, _, rfl, SqL.of eW, fun N hN => ?_⟩
    rw [show cutV (vW ws) (some 1) none = vW (ws.drop 1) from cutW ws 1]
    have nk := wk.drop 1
    generalize ws.drop 1 = ns at nk k ⊢
    have zN := zW.trans (Same.upd (o := .lst (vW ns)) hN)
    have eN : upd H1 N (.lst (vW ns)) N = some (.lst (vW ns)) := upd_same
    have hN' : H N = none := by
      cases q : H N with
      | none => rfl
      | some o => rw [zW _ _ q] at hN; cases hN
    generalize upd H1 N (.lst (vW ns)) = H2 at zN eN ⊢
    unfold groupN at k
    refine ⟨_, rfl, N, ns, 0, 3, rfl, eN, nk, fun H3 s3 => ?_⟩
    have s03 := zN.trans s3
    have eN3 := s3 _ _ eN
    refine ⟨_, rfl, ?_⟩
    cases nm : namesM ns 0 3 with
    | false =>
      rw [nm] at k
      exact iteT ⟨_, rfl, by show 1 ≤ 1000; decide, tells_ofF (k H3 s03)⟩
    | true =>
    rw [nm, if_pos rfl] at k
    refine iteF ⟨_, rfl, N, _, rfl, .inl (SqL.of eN3), fun Tk hTk => ⟨Nat.zero_le _, fun Z hZ => ?_⟩⟩
    have zT := Same.upd (o := .lst (vW ns)) hTk
    have zZ := Same.upd (o := .lst []) hZ
    have hTk0 : H Tk = none := same_none s03 hTk
    have hZ0 : H Z = none := same_none (s03.trans zT) hZ
    have nZT : Z ≠ Tk := by
      rintro rfl
      rw [upd_same] at hZ
      cases hZ
    have eZ : upd (upd H3 Tk (.lst (vW ns))) Z (.lst []) Z = some (.lst []) := upd_same
    have eT : upd (upd H3 Tk (.lst (vW ns))) Z (.lst []) Tk = some (.lst (vW ns)) := zZ _ _ upd_same
    have eN4 := zZ _ _ (zT _ _ eN3)
    have s04 := (s03.trans zT).trans zZ
    have nNT : N ≠ Tk := ne_of_none eN3 hTk
    have nNZ : N ≠ Z := ne_of_none (zT _ _ eN3) hZ
    generalize upd (upd H3 Tk (.lst (vW ns))) Z (.lst []) = H4 at eZ eT eN4 s04
    refine ⟨_, rfl, _, _, rfl, rfl, ?_⟩
    have l1 := ok.len
    generalize hall : totsM (ah ++ [32, 32]) r ns 0 = all at k
    refine tw_of (fun m σ H' => ∃ (done : List T3) (rj : List LN) (us : List V) (x7 : Option V), m = rj.length ∧ σ = [some (.ref L), some (.int (i : Int)), some (.str (TS ah)), some (.ref N), some (.ref Tk), some (.ref Z), some (.int ((i + 1 + done.length : Nat) : Int)), x7] ∧ ls.drop (i + 1 + done.length) = rj ∧ done ++ totsM (ah ++ [32, 32]) rj (ns ++ done.map (·.1)) done.length = all ∧ H' Z = some (.lst us) ∧ H' Tk = some (.lst (vW (ns ++ done.map (·.1)))) ∧ H' N = some (.lst (vW ns)) ∧ DhAll H' us (done.map t3D) ∧ us.length = done.length ∧ done.length ≤ 6 ∧ Same H H')
      (fun σ H' => ∃ (us : List V) (x7 : Option V), σ = [some (.ref L), some (.int (i : Int)), some (.str (TS ah)), some (.ref N), some (.ref Tk), some (.ref Z), some (.int ((i + 1 + all.length : Nat) : Int)), x7] ∧ H' Z = some (.lst us) ∧ H' N = some (.lst (vW ns)) ∧ DhAll H' us (all.map t3D) ∧ us.length = all.length ∧ all.length ≤ 6 ∧ Same H H')
      ⟨_, [], r, [], none, rfl, rfl, dn, by rw [List.map_nil, List.append_nil]; exact hall, eZ, by rw [List.map_nil, List.append_nil]; exact eT, eN4, .nil, rfl, Nat.zero_le _, s04⟩ ?_ ?_
    · rintro σ H5 ⟨us, x7, rfl, eZ5, eN5, du, lu, l6, s5⟩
      refine ⟨_, rfl, Z, _, rfl, .inl (SqL.of eZ5), rfl, _, rfl, ?_⟩
      rw [lu]
      by_cases z : all.length = 0
      · rw [if_pos z] at k
        rw [show decide (V.int (all.length : Int) = V.int 0) = true by rw [z]; rfl]
        rw [show i + 1 + all.length = i + 1 by rw [z]] 
        exact iteT ⟨_, rfl, by show 1 ≤ 1000; decide, tells_ofF (k H5 s5)⟩
      · rw [if_neg z] at k
        rw [show decide (V.int (all.length : Int) = V.int 0) = false from decide_eq_false (fun h => z (by injection h with h; omega))]
        refine iteF ⟨_, rfl, N, _, rfl, .inl ⟨SqL.of eN5, fun p hp => ⟨_, rfl, Z, _, rfl, .inl ⟨SqL.of (Same.upd hp _ _ eZ5), fun q hq => ⟨three, fun g hg => ⟨_, rfl, two, fun b hb => ?_⟩⟩⟩⟩⟩⟩
        have z1 := Same.upd (o := .tup (vW ns)) hp
        have z2 := Same.upd (o := .tup us) hq
        have z3 := Same.upd (o := .tup [.str "group", .ref p, .ref q]) hg
        have z4 := Same.upd (o := .tup [.ref g, .int ((i + 1 + all.length : Nat) : Int)]) hb
        have z34 := z3.trans z4
        have z24 := z2.trans z34
        exact k b (.ref g) _ (s5.trans (z1.trans z24)) (by rw [← Nat.add_assoc]; exact upd_same) (.tup (z4 _ _ upd_same) (.cons (.str _) (.cons (.tup (z24 _ _ upd_same) (strs_dh ns)) (.cons (.tup (z34 _ _ upd_same) (du.same (z1.trans z24))) .nil))))
    · rintro nx hB m σ H5 ⟨done, rj, us, x7, rfl, rfl, dr, er, eZ5, eT5, eN5, du, lu, l6, s5⟩
      refine ⟨_, rfl, _, rfl, L, _, rfl, .inl (SqL.of (s5 _ _ hL)), _, _, rfl, rfl, _, rfl, ?_⟩
      rw [vW_len]
      have out : totsM (ah ++ [32, 32]) rj (ns ++ done.map (·.1)) done.length = [] → ∀ (y : Option V) (H6 : Hp), Same H5 H6 → nx [some (.ref L), some (.int (i : Int)), some (.str (TS ah)), some (.ref N), some (.ref Tk), some (.ref Z), some (.int ((i + 1 + done.length : Nat) : Int)), y] H6 := fun z y H6 s6 => by
        rw [z, List.append_nil] at er
        subst er
        exact hB _ _ ⟨us, y, rfl, s6 _ _ eZ5, s6 _ _ eN5, du.same s6, lu, l6, s5.trans s6⟩
      cases rj with
      | nil =>
        have : ls.length ≤ i + 1 + done.length := List.drop_eq_nil_iff.mp dr
        rw [decide_eq_false (by omega)]
        exact iteF (iteF (out rfl _ _ (Same.refl _)))
      | cons l1 r1 =>
      obtain ⟨e1, li1, dn1⟩ := drop_get dr
      rw [decide_eq_true (by omega)]
      refine iteT ⟨_, rfl, Z, _, rfl, .inl (SqL.of eZ5), _, _, rfl, rfl, _, rfl, ?_⟩
      rw [lu]
      rw [totsM] at er out
      by_cases c6 : done.length < 6
      · rw [decide_eq_true (by omega)]
        refine iteT ⟨_, rfl, Tk, _, rfl, .inl (SqL.of eT5), _, _, rfl, rfl, _, rfl, ?_⟩
        rw [vW_len]
        by_cases c8 : (ns ++ done.map (·.1)).length < 8
        · rw [decide_eq_true (by omega)]
          rw [if_pos ⟨c6, c8⟩] at er out
          refine iteT ?_
          refine ⟨_, fun _ _ h => h, ?_⟩
          refine ⟨_, rfl, _, rfl, L, _, _, .str (TS l1), rfl, rfl, SqL.of (s5 _ _ hL), at_of (j := i + 1 + done.length) rfl (vW_get e1), _, rfl, TS ah, ⟨#[32, 32]⟩, rfl, rfl, ?_, l1, ah ++ [32, 32], ?_, ok.each l1 (List.mem_of_getElem? e1), fun v H6 s6 hv => ?_⟩
          · rw [ts_len]
            exact Nat.le_trans (show _ ≤ 12 by show ah.length + 2 ≤ 12; omega) (by decide)
          · rw [← ts_app]
            rfl
          have eZ6 := s6 _ _ eZ5
          have eT6 := s6 _ _ eT5
          have eN6 := s6 _ _ eN5
          have dn2 : ls.drop (i + 1 + (done.length + 1)) = r1 := dn1
          generalize totalT (ah ++ [32, 32]) l1 = o at hv er out
          cases o with
          | none =>
            cases hv
            refine ⟨_, rfl, rfl, _, rfl, iteT (iteT ?_)⟩
            exact out rfl _ _ s6
          | some t =>
          obtain ⟨t1, t2, t4⟩ := t
          have hv0 := hv
          cases hv with
          | @tup q xs _ eq hxs =>
          cases hxs with
          | cons h1 hxs => cases hxs with
            | cons h2 hxs => cases hxs with
              | cons h3 hxs =>
                cases hxs
                cases h1
                cases h2
                cases h3
                refine ⟨_, rfl, rfl, _, rfl, iteF ⟨_, rfl, q, _, _, .str (TS t1), rfl, rfl, SqT.of eq, at_of (j := 0) rfl rfl, _, rfl, Tk, _, rfl, .inl (SqL.of eT6), rfl, vW_all _, ?_⟩⟩
                dsimp only at er out
                cases hin : inV (.str (TS t1)) (vW (ns ++ done.map (·.1))) with
                | true =>
                  rw [hin] at out
                  refine ⟨true, rfl, iteT ?_⟩
                  exact out rfl _ _ s6
                | false =>
                  rw [hin] at er
                  refine ⟨false, rfl, iteF ?_⟩
                  have b1 : us.length < sizeLine := Nat.lt_of_le_of_lt (show _ ≤ 6 by omega) (by decide)
                  refine ⟨_, rfl, .inl ⟨rfl, _, SqL.of eZ6⟩, _, rfl, Z, _, _, rfl, rfl, eZ6, b1, ?_⟩
                  have eT7 : upd H6 Z (.lst (us ++ [.ref q])) Tk = some (.lst (vW (ns ++ done.map (·.1)))) := by rw [upd_ne (Ne.symm nZT)]; exact eT6
                  have eq7 : upd H6 Z (.lst (us ++ [.ref q])) q = some (.tup [.str (TS t1), .str (TS t2), .str (TS t4)]) := by
                    rw [upd_ne (fun e => by rw [e, eZ6] at eq; cases eq)]
                    exact eq
                  refine ⟨_, rfl, .inl ⟨rfl, _, SqL.of eT7⟩, _, rfl, q, _, _, .str (TS t1), rfl, rfl, SqT.of eq7, at_of (j := 0) rfl rfl, Tk, _, _, rfl, rfl, eT7, ?_, ?_⟩
                  · exact Nat.lt_of_lt_of_le (show _ < 9 by rw [vW_len]; omega) (by decide)
                  refine ⟨_, rfl, _, _, rfl, rfl, ?_⟩
                  have ld : (done ++ [((t1, t2, t4) : T3)]).length = done.length + 1 := by rw [List.length_append]; rfl
                  have md : ns ++ (done ++ [((t1, t2, t4) : T3)]).map (·.1) = ns ++ done.map (·.1) ++ [t1] := by rw [List.map_append, ← List.append_assoc]; rfl
                  have s56 := s5.trans s6
                  have kt : SameT H6 (upd H6 Z (.lst (us ++ [.ref q]))) := SameT.lst eZ6
                  have kt2 : SameT (upd H6 Z (.lst (us ++ [.ref q]))) (upd (upd H6 Z (.lst (us ++ [.ref q]))) Tk (.lst (vW (ns ++ done.map (·.1)) ++ [.str (TS t1)]))) := SameT.lst eT7
                  have nl : noLs (done.map t3D) = true := noLs_all.mpr (fun d hd => by
                    obtain ⟨t, _, rfl⟩ := List.mem_map.mp hd
                    rfl)
                  have nl2 : noLs (done.map t3D ++ [t3D (t1, t2, t4)]) = true := noLs_all.mpr (fun d hd => by
                    rcases List.mem_append.mp hd with hd | hd
                    · exact noLs_all.mp nl d hd
                    · rw [List.mem_singleton.mp hd]; rfl)
                  refine ⟨r1.length, Nat.lt_succ_self _, done ++ [(t1, t2, t4)], r1, us ++ [.ref q], some (.ref q), rfl, ?_, by rw [ld]; exact dn2, by rw [ld, md, List.append_assoc]; exact er, by rw [upd_ne nZT]; exact upd_same, ?_, by rw [upd_ne nNT, upd_ne nNZ]; exact eN6, ?_, by rw [List.length_append, ld, lu]; rfl, by omega, fun b o eb => by rw [upd_ne (ne_of_none eb hTk0), upd_ne (ne_of_none eb hZ0)]; exact s56 _ _ eb⟩
                  · rw [ld]
                    rfl
                  · rw [md, upd_same]
                    show _ = some (HO.lst (List.map V.str (List.map TS (_ ++ [t1]))))
                    rw [List.map_append, List.map_append]
                    rfl
                  · rw [List.map_append]
                    exact DhAll.t kt2 (DhAll.append (DhAll.t kt (du.same s6) nl) (.cons (Dh.t kt hv0 rfl) .nil)) nl2
        · rw [decide_eq_false (by omega)]
          rw [if_neg (fun h => c8 h.2)] at out
          exact iteF (out rfl _ _ (Same.refl _))
      · rw [decide_eq_false (by omega)]
        rw [if_neg (fun h => c6 h.1)] at out
        exact iteF (iteF (out rfl _ _ (Same.refl _)))
end
end
end K79
set_option Elab.async false
set_option linter.all false
set_option maxRecDepth 100000
set_option maxHeartbeats 4000000
namespace K79
open PySem PySem.Spec PyProof.Rows L2 Lc
/-! ## steps -/
def readV (x : Str) : Option (List LN → PyData) := if x = "keep" then some keepM else if x = "set" then some setM else if x = "select" then some selectM else if x = "rename" then some renameM else if x = "sort" then some sortM else if x = "first" then some firstM else if x = "sample" then some sampleM else if x = "join" then some joinM else if x = "union" then some unionM else if x = "distinct" then some distinctM else none
def hdW (ws : List LN) : LN := ws.headD []
def readW (ws : List LN) : Out PyData := match readV (TS (hdW ws)) with
  | none => .err 0
  | some M => if isNo (M ws) = true then .err 0 else .ok (M ws) 1
def stepW (ah : LN) (ws r : List LN) : Out PyData := if TS (hdW ws) = "group" then groupN ah (ws.drop 1) r else readW ws
def stepM (ah l : LN) (r : List LN) : Out PyData := stepW ah (spl 32 (cutp ah l)) r
structure RdA (P : Program) (w : World) (K : PySem.W.Frag) (mg : Str → Option Value) (base : Heap) (rA : Addr) : Prop where
  g : mg "READERS" = some (.ref rA)
  d : ∃ es n, KDict K w rA es n
  at_ : ∀ x M, readV x = some M → ∃ g, KDct K w rA x (.ref g) ∧ PySem.W.nsIn K rA x = some (some (.ref g)) ∧ Held P w K mg base 25 g (spRd M)
  no : ∀ x, readV x = none → PySem.W.nsIn K rA x = some none
def spSp (C : Addr) : Sp := fun vs H Q E => ∃ (L : Addr) (ls : List LN) (i : Nat) (ah l : LN) (r : List LN), vs = [.ref L, .int (i : Int), .str (TS ah)] ∧ H L = some (.lst (vW ls)) ∧ LsOk ls ∧ ls.drop i = l :: r ∧ ah.length ≤ 10 ∧ OutQ C i (stepM ah l r) H Q E
section
variable {P : Program} {w : World} {K : PySem.W.Frag} {mg : Str → Option Value} {base : Heap} {f C fI : Addr} {fd fdI : FuncData}
abbrev sSp : Stmt := top 60
abbrev nSp : List Str := ["lines", "at", "ahead", "words", "reader", "step"]
abbrev pSp : List Str := ["lines", "at", "ahead"]
theorem scSp : FnScope nSp pSp (defScope sSp) := ⟨rfl, rfl, rfl, by decide +kernel, rfl, by decide +kernel, by decide +kernel⟩
section
variable {fA_ : Addr} {fdA_ : FuncData}
theorem ok_Sp (F : Fun K "read_step" "read_step" sSp f fd) (T : Bt mg) {rA : Addr} (RA : RdA P w K mg base rA) (Z : ErF K mg "BadText" "position" C fI) (GI : FnOk P w K mg base CX0 1 fI fdI ["self", "position"] (spIni C "position")) (bI : Binds K fdI ["self", "position"] [])
    (GA_ : FnOk P w K mg base (L2.CX P w) 4 fA_ fdA_ ["lines", "at", "ahead"] (spGr C)) (mA_ : mg "read_group" = some (.ref fA_)) (kA_ : PySem.W.keepIn K (.ref fA_) = true) (bA_ : Binds K fdA_ ["lines", "at", "ahead"] []) : FnOk P w K mg base (L2.CX P w) 26 f fd pSp (spSp C) := by
  refine F.okX scSp (fun vs H Q E h => ?_) (fun cdv A outer s H vs Q E hr h => ?_)
  · obtain ⟨L, ls, i, ah, l, r, rfl, _⟩ := h
    rfl
  · obtain ⟨L, ls, i, ah, l, r, rfl, hL, ok, hd, la, k⟩ := h
    have hrA_ : Room (4) _ := hr.mono (by first | decide | omega)
    have hrI : Room 2 _ := hr.mono (by first | decide | omega)
    obtain ⟨es, n0, KD⟩ := RA.d
    obtain ⟨g, hg⟩ : ∃ g : Addr, ∀ M, readV (TS (hdW (spl 32 (cutp ah l)))) = some M → KDct K w rA (TS (hdW (spl 32 (cutp ah l)))) (.ref g) ∧ PySem.W.nsIn K rA (TS (hdW (spl 32 (cutp ah l)))) = some (some (.ref g)) ∧ Held P w K mg base 25 g (spRd M) := by
      cases e : readV (TS (hdW (spl 32 (cutp ah l)))) with
      | none => exact ⟨C, nofun⟩
      | some M =>
        obtain ⟨g, h⟩ := RA.at_ _ M e
        exact ⟨g, fun M' e' => by cases e'; exact h⟩
    have hr25 : Room 25 _ := hr.mono (by decide)
    have AS : ∀ f sp, (fun q => if q = g then (readV (TS (hdW (spl 32 (cutp ah l))))).map spRd else none : Addr → Option Sp) f = some sp → Held P w K mg base 25 f sp := fun f sp e => by
      dsimp only at e
      by_cases z : f = g
      · subst z
        rw [if_pos rfl] at e
        obtain ⟨M, hM, rfl⟩ := Option.map_eq_some_iff.mp e
        exact (hg M hM).2.2
      · rw [if_neg z] at e
        cases e
    refine ⟨_, (pss_cons (ps_set (i := 3) scSp.nd rfl (Or.inl rfl) (pe_m1 PySem.F.slot_str_split PySem.F.type_str_split mt_split (pe_m1 PySem.F.slot_str_removeprefix PySem.F.type_str_removeprefix mt_removeprefix (pe_ix ix_list (pv 0) (pv 1) (fun _ _ => rfl)) (pv 2)) pe_str))
      (pss_cons (ps_if (pt_cmpR op_eq (pe_ix ix_list (pv 3) pe_int (fun _ _ => rfl)) pe_str (nomark _)) (pss_one (ps_ret (pe_callS GA_ hrA_ (by rfl) mA_ kA_ bA_ (fun σ => passAt (W := fun cls d _ H => E cls d H) (takes_of rfl rfl rfl rfl) σ) (pa_cons (pv 0) (pa_cons (pv 1) (pa_cons (pv 2) pa_nil)))))) pss_nil)
      (pss_cons (ps_if (pt_cmpR (op_notIn_kd KD) (pe_ix ix_list (pv 3) pe_int (fun _ _ => rfl)) (pe_glob (v := .ref rA) (by rfl) RA.g rfl) (by rfl)) (pss_one (ps_raise (W := fun cls d _ H => E cls d H) rfl (takes_of rfl rfl rfl rfl) (pmk_oex Z.oex Z.iC Z.tI GI hrI bI .nil pass0 (by rfl) Z.gC (pa_cons (pv 1) pa_nil)))) pss_nil)
      (pss_cons (ps_set (i := 4) scSp.nd rfl (Or.inl rfl) (pe_ix ix_kdict (pe_glob (v := .ref rA) (by rfl) RA.g rfl) (pe_ix ix_list (pv 3) pe_int (fun _ _ => rfl)) (fun _ _ => rfl)))
      (pss_cons (ps_set (i := 5) scSp.nd rfl (Or.inl rfl) (pe_callA (i := 4) AS hr25 rfl (Or.inl rfl) (pa_cons (pv 3) pa_nil)))
      (pss_cons (ps_if (pt_cmpR op_isN (pv 5) pe_non (nomark _)) (pss_one (ps_raise (W := fun cls d _ H => E cls d H) rfl (takes_of rfl rfl rfl rfl) (pmk_oex Z.oex Z.iC Z.tI GI hrI bI .nil pass0 (by rfl) Z.gC (pa_cons (pv 1) pa_nil)))) pss_nil)
      (pss_one (ps_ret (pe_tup (pa_cons (pv 5) (pa_cons (pe_op op_add (pv 1) pe_int) pa_nil))))))))))), ?_⟩
    have two : 2 ≤ sizeLine := by decide
    have one : 1 ≤ sizeLine := by decide
    have three : 3 ≤ sizeLine := by decide
    obtain ⟨el, li, dn⟩ := drop_get hd
    have gl := vW_get el
    have lk := ok.each l (List.mem_of_getElem? el)
    have wk := lk.ws ah
    have bl : ((PySem.Str.ofString " ").length == 0) = false := by decide +kernel
    have ll : (Txt.removeprefix (TS l) (TS ah)).length + 2 ≤ sizeLine := by
      rw [prefix_TS, ts_len]
      have := (cutp_sub (CL (TS ah)) l).length_le
      have := lk.2
      exact Nat.le_trans (show _ ≤ 200 by omega) (by decide)
    have ne : spl 32 (cutp ah l) ≠ [] := spl_ne _
    unfold stepM at k
    refine ⟨_, rfl, _, rfl, L, _, _, .str (TS l), rfl, rfl, SqL.of hL, at_of (j := i) rfl gl, ⟨_, rfl⟩, _, rfl, _, _, rfl, rfl, lk.1.line, ⟨_, rfl⟩, _, _, rfl, rfl, bl, ll, fun W hW => ?_⟩
    rw [words_TS]
    have zW := Same.upd (o := .lst (vW (spl 32 (cutp ah l)))) hW
    have eW : upd H W (.lst (vW (spl 32 (cutp ah l)))) W = some (.lst (vW (spl 32 (cutp ah l)))) := upd_same
    generalize upd H W (.lst (vW (spl 32 (cutp ah l)))) = H1 at zW eW ⊢
    have g0 : (vW (spl 32 (cutp ah l)))[0]? = some (.str (TS (hdW (spl 32 (cutp ah l))))) := by
      cases e : spl 32 (cutp ah l) with
      | nil => exact absurd e ne
      | cons a b => rfl
    refine ⟨_, rfl, W, _, _, .str (TS (hdW (spl 32 (cutp ah l)))), rfl, rfl, SqL.of eW, at_of (j := 0) rfl g0, rfl, _, rfl, ?_⟩
    by_cases hg0 : TS (hdW (spl 32 (cutp ah l))) = "group"
    · unfold stepW at k
      rw [if_pos hg0] at k
      rw [show decide (V.str (TS (hdW (spl 32 (cutp ah l)))) = V.str "group") = true by rw [hg0]; rfl]
      exact iteT ⟨_, rfl, _, rfl, _, rfl, L, ls, i, ah, l, r, rfl, zW _ _ hL, ok, hd, la, k.same zW⟩
    rw [show decide (V.str (TS (hdW (spl 32 (cutp ah l)))) = V.str "group") = false from decide_eq_false (fun h => hg0 (by injection h))]
    unfold stepW at k
    rw [if_neg hg0] at k
    unfold readW at k
    refine iteF ?_
    cases e : readV (TS (hdW (spl 32 (cutp ah l)))) with
    | none =>
      rw [e] at k
      exact ⟨_, rfl, W, _, _, .str (TS (hdW (spl 32 (cutp ah l)))), rfl, rfl, SqL.of eW, at_of (j := 0) rfl g0, TS (hdW (spl 32 (cutp ah l))), _, rfl, rfl, RA.no _ e, _, rfl, iteT ⟨_, rfl, by show 1 ≤ 1000; decide, tells_ofF (k H1 zW)⟩⟩
    | some M =>
      rw [e] at k
      obtain ⟨h1, h2, h3⟩ := hg M e
      refine ⟨_, rfl, W, _, _, .str (TS (hdW (spl 32 (cutp ah l)))), rfl, rfl, SqL.of eW, at_of (j := 0) rfl g0, TS (hdW (spl 32 (cutp ah l))), _, rfl, rfl, h2, _, rfl, iteF ⟨_, rfl, W, _, _, .str (TS (hdW (spl 32 (cutp ah l)))), rfl, rfl, SqL.of eW, at_of (j := 0) rfl g0, rA, TS (hdW (spl 32 (cutp ah l))), _, rfl, rfl, h1, ?_⟩⟩
      refine ⟨g, spRd M, rfl, if_pos rfl, _, rfl, W, _, rfl, eW, wk, ne, fun v H2 s2 hv => ?_⟩
      have s02 := zW.trans s2
      refine ⟨_, rfl, rfl, _, rfl, ?_⟩
      rw [dh_non hv]
      dsimp only at k
      cases z : isNo (M (spl 32 (cutp ah l))) with
      | true =>
        rw [z] at k
        exact iteT ⟨_, rfl, by show 1 ≤ 1000; decide, tells_ofF (k H2 s02)⟩
      | false =>
        rw [z] at k
        refine iteF ⟨_, rfl, _, rfl, _, _, rfl, rfl, two, fun b hb => ?_⟩
        exact k b v _ (s02.trans (Same.upd hb)) (by rw [upd_same]; rfl) (hv.same (Same.upd hb))
end
end
end K79
set_option Elab.async false
set_option linter.all false
set_option maxRecDepth 100000
set_option maxHeartbeats 4000000
namespace K79
open PySem PySem.Spec PyProof.Rows L2 Lc
/-! ## alternatives -/
def Out.pre {α : Type} (a : List α) (c : Nat) : Out (List α) → Out (List α)
  | .ok ds m => .ok (a ++ ds) (c + m)
  | .err m => .err (c + m)
theorem Out.pre_pre {α : Type} {a b : List α} {c d : Nat} (o : Out (List α)) : (o.pre b d).pre a c = o.pre (a ++ b) (c + d) := by
  cases o with
  | ok ds m =>
    show Out.ok (a ++ (b ++ ds)) (c + (d + m)) = Out.ok (a ++ b ++ ds) (c + d + m)
    rw [List.append_assoc, Nat.add_assoc]
  | err m =>
    show Out.err (c + (d + m)) = Out.err (c + d + m)
    rw [Nat.add_assoc]
def Out.tup : Out (List PyData) → Out PyData
  | .ok ds m => .ok (.tuple ds) m
  | .err m => .err m
/-- one part, and the others behind it -/
def Out.then {α β : Type} (o : Out α) (f : α → Nat → Out β) : Out β := match o with
  | .ok d n => f d n
  | .err n => .err n
def inL : LN := [32, 32, 32, 32]
def altM : Nat → List LN → Out (List PyData)
  | 0, _ => .ok [] 0
  | _ + 1, [] => .ok [] 0
  | k + 1, l :: r => if stw inL l = true then (stepM inL l r).then fun d n => (altM k ((l :: r).drop n)).pre [d] n else .ok [] 0
theorem re_noL (l : LN) : noL (reD l).1 = true := by
  unfold reD
  split
  · rfl
  split
  · rfl
  exact rd_noL _ _
theorem form_noL (ws : List LN) : noL (formM ws) = true := re_noL _
theorem read_noL {x : Str} {M : List LN → PyData} (h : readV x = some M) (ws : List LN) : noL (M ws) = true := by
  have h1 : noL (keepM ws) = true := by
    unfold keepM
    split
    · split
      · rfl
      · rw [noL, noLs, noLs, noLs, form_noL]; rfl
    · rfl
  have h2 : noL (setM ws) = true := by
    unfold setM
    split
    · split
      · rfl
      · split
        · rw [noL, noLs, noLs, noLs, noLs, form_noL]; rfl
        · rfl
    · rfl
  have h3 : noL (selectM ws) = true := by
    unfold selectM
    split
    · split
      · rw [noL, noLs, noLs, noLs, noL_strs]; rfl
      · rfl
    · rfl
  have h4 : noL (renameM ws) = true := by
    unfold renameM
    split
    · split
      · exact noL_strs _
      · rfl
    · rfl
  have h5 : noL (sortM ws) = true := by
    unfold sortM
    split
    · split
      · exact noL_strs _
      · rfl
    · rfl
  have h6 : noL (firstM ws) = true := by
    unfold firstM
    split
    · split <;> rfl
    · rfl
  have h7 : noL (sampleM ws) = true := by
    unfold sampleM
    split
    · split
      · split <;> rfl
      · rfl
    · rfl
  have h8 : noL (joinM ws) = true := by
    unfold joinM
    split
    · split
      · split
        · rw [noL, noLs, noLs, noLs, noLs, noL_strs]; rfl
        · rfl
      · rfl
    · rfl
  have h9 : noL (unionM ws) = true := by
    unfold unionM
    split
    · split
      · exact noL_strs _
      · rfl
    · rfl
  have h0 : noL (distinctM ws) = true := by
    unfold distinctM
    split
    · exact noL_strs _
    · rfl
  unfold readV at h
  repeat' split at h
  all_goals first | (cases h; assumption) | cases h
theorem group_noL (ns : List LN) (ts : List T3) : noL (groupD ns ts) = true := by
  have : noLs (ts.map t3D) = true := noLs_all.mpr (fun d hd => by
    obtain ⟨t, _, rfl⟩ := List.mem_map.mp hd
    rfl)
  unfold groupD
  rw [noL, noLs, noLs, noLs, noLs, noL_strs, noL, this]
  rfl
theorem step_noL {ah l : LN} {r : List LN} {d : PyData} {n : Nat} (h : stepM ah l r = .ok d n) : noL d = true ∧ 1 ≤ n := by
  unfold stepM stepW at h
  split at h
  · unfold groupN at h
    split at h
    · split at h
      · cases h
      · injection h with h1 h2
        rw [← h1, ← h2]
        exact ⟨group_noL _ _, by omega⟩
    · cases h
  · unfold readW at h
    split at h
    · cases h
    · rename_i M hM
      split at h
      · cases h
      · injection h with h1 h2
        rw [← h1, ← h2]
        exact ⟨read_noL hM _, Nat.le_refl _⟩
def spAl (C : Addr) : Sp := fun vs H Q E => ∃ (L : Addr) (ls : List LN) (i : Nat), vs = [.ref L, .int (i : Int)] ∧ H L = some (.lst (vW ls)) ∧ LsOk ls ∧ OutQ C i (altM 4 (ls.drop i)).tup H Q E
section
variable {P : Program} {w : World} {K : PySem.W.Frag} {mg : Str → Option Value} {base : Heap} {f C fI : Addr} {fd fdI : FuncData}
abbrev sAl : Stmt := top 61
abbrev nAl : List Str := ["lines", "at", "steps", "behind", "step"]
abbrev pAl : List Str := ["lines", "at"]
theorem scAl : FnScope nAl pAl (defScope sAl) := ⟨rfl, rfl, rfl, by decide +kernel, rfl, by decide +kernel, by decide +kernel⟩
section
variable {fA_ : Addr} {fdA_ : FuncData}
theorem ok_Al (F : Fun K "read_alternative" "read_alternative" sAl f fd) (T : Bt mg) {u4 uT : Tok} (m4 : mg "MOST_INNER_STEPS" = some (.int 4 u4)) (mI : mg "INNER_BLANKS" = some (.str (TS inL) uT)) 
    (GA_ : FnOk P w K mg base (L2.CX P w) 26 fA_ fdA_ ["lines", "at", "ahead"] (spSp C)) (mA_ : mg "read_step" = some (.ref fA_)) (kA_ : PySem.W.keepIn K (.ref fA_) = true) (bA_ : Binds K fdA_ ["lines", "at", "ahead"] []) : FnOk P w K mg base (L2.CX P w) 27 f fd pAl (spAl C) := by
  refine F.okX scAl (fun vs H Q E h => ?_) (fun cdv A outer s H vs Q E hr h => ?_)
  · obtain ⟨L, ls, i, rfl, _⟩ := h
    rfl
  · obtain ⟨L, ls, i, rfl, hL, ok, k⟩ := h
    have hrA_ : Room (26) _ := hr.mono (by first | decide | omega)
    refine ⟨_, (pss_cons (ps_set (i := 2) scAl.nd rfl (Or.inl rfl) (pe_lst pa_nil))
      (pss_cons (ps_set (i := 3) scAl.nd rfl (Or.inl rfl) (pv 1))
      (pss_cons (ps_while (passes_of rfl) (PW.pt (pw_and (pt_cmpR op_lt (pv 3) (pe_callB call_len_seq (by rfl) T.len PySem.boot_len (pa_cons (pv 0) pa_nil)) (nomark _)) (pw_and (pt_cmpR op_lt (pe_callB call_len_seq (by rfl) T.len PySem.boot_len (pa_cons (pv 2) pa_nil)) (pe_glob (v := .int 4) (by rfl) m4 ⟨_, rfl⟩) (nomark _)) (pw_and1 (pt_val (pe_m1 PySem.F.slot_str_startswith PySem.F.type_str_startswith mt_startswith (pe_ix ix_list (pv 0) (pv 3) (fun _ _ => rfl)) (pe_glob (v := .str (TS inL)) (by rfl) mI ⟨_, rfl⟩))))))) (pss_cons (ps_asg (pe_callS GA_ hrA_ (by rfl) mA_ kA_ bA_ (fun σ => passAt (W := fun cls d _ H => E cls d H) (takes_of rfl rfl rfl rfl) σ) (pa_cons (pv 0) (pa_cons (pv 3) (pa_cons (pe_glob (v := .str (TS inL)) (by rfl) mI ⟨_, rfl⟩) pa_nil)))) (pg_tup rfl (pgs_cons (pg_name (i := 4) scAl.nd rfl (.inl rfl)) (pgs_cons (pg_name (i := 3) scAl.nd rfl (.inl rfl)) pgs_nil))))
      (pss_one (ps_expr (pe_bm PySem.F.plainAttrs_list PySem.F.slot_list_append PySem.F.type_list_append mt_append (pv 2) (pa_cons (pv 4) pa_nil))))))
      (pss_one (ps_ret (pe_tup (pa_cons (pe_callTy call_tuple_of (by rfl) T.tuple boot_tuple (pa_cons (pv 2) pa_nil)) (pa_cons (pv 3) pa_nil)))))))), ?_⟩
    have two : 2 ≤ sizeLine := by decide
    have one : 1 ≤ sizeLine := by decide
    have three : 3 ≤ sizeLine := by decide
    refine ⟨Nat.zero_le _, fun Z hZ => ?_⟩
    have zZ := Same.upd (o := .lst []) hZ
    have eZ : upd H Z (.lst []) Z = some (.lst []) := upd_same
    generalize upd H Z (.lst []) = H1 at zZ eZ
    refine ⟨_, rfl, ?_⟩
    generalize ho : altM 4 (ls.drop i) = o at k
    refine tw_of (fun m σ H' => ∃ (done : List PyData) (c : Nat) (us : List V) (x4 : Option V), m = 4 - done.length ∧ σ = [some (.ref L), some (.int (i : Int)), some (.ref Z), some (.int ((i + c : Nat) : Int)), x4] ∧ (altM (4 - done.length) (ls.drop (i + c))).pre done c = o ∧ H' Z = some (.lst us) ∧ DhAll H' us done ∧ noLs done = true ∧ us.length = done.length ∧ done.length ≤ 4 ∧ Same H H')
      (fun σ H' => ∃ (us : List V) (done : List PyData) (c : Nat) (x4 : Option V), σ = [some (.ref L), some (.int (i : Int)), some (.ref Z), some (.int ((i + c : Nat) : Int)), x4] ∧ o = .ok done c ∧ H' Z = some (.lst us) ∧ DhAll H' us done ∧ us.length = done.length ∧ done.length ≤ 4 ∧ Same H H')
      ⟨_, [], 0, [], none, rfl, rfl, by rw [← ho]; show (altM 4 _).pre [] 0 = _; cases altM 4 (ls.drop (i + 0)) <;> simp [Out.pre], eZ, .nil, rfl, rfl, Nat.zero_le _, zZ⟩ ?_ ?_
    · rintro σ H5 ⟨us, done, c, x4, rfl, rfl, eZ5, du, lu, l6, s5⟩
      refine ⟨_, rfl, Z, _, rfl, .inl ⟨SqL.of eZ5, fun p hp => ⟨_, rfl, two, fun b hb => ?_⟩⟩⟩
      have z1 := Same.upd (o := .tup us) hp
      have z2 := Same.upd (o := .tup [.ref p, .int ((i + c : Nat) : Int)]) hb
      exact k b (.ref p) _ (s5.trans (z1.trans z2)) upd_same (.tup (z2 _ _ upd_same) (du.same (z1.trans z2)))
    · rintro nx hB m σ H5 ⟨done, c, us, x4, rfl, rfl, er, eZ5, du, nl, lu, l6, s5⟩
      have out : altM (4 - done.length) (ls.drop (i + c)) = .ok [] 0 → nx [some (.ref L), some (.int (i : Int)), some (.ref Z), some (.int ((i + c : Nat) : Int)), x4] H5 := fun z => by
        rw [z] at er
        exact hB _ _ ⟨us, done, c, x4, rfl, by rw [← er]; simp [Out.pre], eZ5, du, lu, l6, s5⟩
      refine ⟨_, rfl, _, rfl, L, _, rfl, .inl (SqL.of (s5 _ _ hL)), _, _, rfl, rfl, _, rfl, ?_⟩
      rw [vW_len]
      cases hrj : ls.drop (i + c) with
      | nil =>
        have : ls.length ≤ i + c := List.drop_eq_nil_iff.mp hrj
        rw [decide_eq_false (by omega)]
        refine iteF (iteF (out ?_))
        rw [hrj]
        cases 4 - done.length <;> rfl
      | cons l1 r1 =>
      obtain ⟨e1, li1, dn1⟩ := drop_get hrj
      rw [decide_eq_true (by omega)]
      refine iteT ⟨_, rfl, Z, _, rfl, .inl (SqL.of eZ5), _, _, rfl, rfl, _, rfl, ?_⟩
      rw [lu]
      by_cases c4 : done.length < 4
      · rw [decide_eq_true (by omega)]
        rw [hrj] at er out
        obtain ⟨q, hq⟩ : ∃ q, 4 - done.length = q + 1 := ⟨3 - done.length, by omega⟩
        rw [hq, altM] at er out
        refine iteT ⟨_, rfl, _, rfl, L, _, _, .str (TS l1), rfl, rfl, SqL.of (s5 _ _ hL), at_of (j := i + c) rfl (vW_get e1), ⟨_, rfl⟩, _, _, rfl, rfl, _, rfl, ?_⟩
        rw [starts_TS, cl_ts]
        cases sw : stw inL l1 with
        | false =>
          rw [sw] at out
          exact iteF (out rfl)
        | true =>
        rw [sw, if_pos rfl] at er
        refine iteT ?_
        refine ⟨_, fun _ _ h => h, ?_⟩
        refine ⟨_, rfl, _, rfl, L, ls, i + c, inL, l1, r1, rfl, s5 _ _ hL, ok, hrj, by decide, ?_⟩
        cases hs : stepM inL l1 r1 with
        | err n =>
          rw [hs] at er
          intro H6 s6
          have k' : OutQ C i (Out.err (c + n)) H Q E := by
            rw [← er] at k
            exact k
          have := k' H6 (s5.trans s6)
          rw [← Nat.add_assoc] at this
          exact this
        | ok d n =>
          rw [hs] at er
          have er : ((altM q ((l1 :: r1).drop n)).pre [d] n).pre done c = o := er
          rw [Out.pre_pre] at er
          intro p x H6 s6 hp hd
          have eZ6 := s6 _ _ eZ5
          have nd := (step_noL hs).1
          refine ⟨p, _, rfl, SqT.of hp, rfl, _, _, rfl, _, _, rfl, rfl, ?_⟩
          have b1 : us.length < sizeLine := Nat.lt_of_le_of_lt (show _ ≤ 4 by omega) (by decide)
          refine ⟨_, rfl, .inl ⟨rfl, _, SqL.of eZ6⟩, _, rfl, Z, _, _, rfl, rfl, eZ6, b1, ?_⟩
          have kt : SameT H6 (upd H6 Z (.lst (us ++ [x]))) := SameT.lst eZ6
          have s56 := s5.trans s6
          refine ⟨q, by omega, done ++ [d], c + n, us ++ [x], some x, ?_, ?_, ?_, upd_same, DhAll.append (DhAll.t kt (du.same s6) nl) (.cons (Dh.t kt hd nd) .nil), ?_, by rw [List.length_append, List.length_append, lu]; rfl, by rw [List.length_append]; show _ + 1 ≤ 4; omega, fun b o eb => by rw [upd_ne (ne_of_none eb hZ)]; exact s56 _ _ eb⟩
          · rw [List.length_append]; show q = 4 - (_ + 1); omega
          · rw [← Nat.add_assoc]; rfl
          · rw [List.length_append, show 4 - (done.length + [d].length) = q by show 4 - (_ + 1) = q; omega, ← er, ← Nat.add_assoc, ← List.drop_drop, hrj]
          · refine noLs_all.mpr fun e he => ?_
            rcases List.mem_append.mp he with he | he
            · exact noLs_all.mp nl e he
            · rw [List.mem_singleton.mp he]; exact nd
      · rw [decide_eq_false (by omega)]
        refine iteF (iteF (out ?_))
        rw [show 4 - done.length = 0 by omega]
        rfl
end
end
end K79
set_option Elab.async false
set_option linter.all false
set_option maxRecDepth 100000
set_option maxHeartbeats 4000000
namespace K79
open PySem PySem.Spec PyProof.Rows L2 Lc
/-! ## choose -/
def Out.sh {α : Type} : Out α → Out α
  | .ok d n => .ok d (1 + n)
  | .err n => .err (1 + n)
def altsM : Nat → List LN → Out (List PyData)
  | 0, _ => .ok [] 0
  | _ + 1, [] => .ok [] 0
  | k + 1, l :: r => if TS l = "  or" then (altM 4 r).sh.then fun ds n => (altsM k ((l :: r).drop n)).pre [.tuple ds] n else .ok [] 0
abbrev Nu : Type := List (LN × Nat)
def nuK (nu : Nu) : List (Key × V) := nu.map fun e => (Sum.inr (TS e.1), V.int e.2)
def getN (nu : Nu) (x : LN) (d : Nat) : Nat := ((nu.find? fun e => decide (e.1 = x)).map (·.2)).getD d
def putN (nu : Nu) (x : LN) (n : Nat) : Nu := if (nu.any fun e => decide (e.1 = x)) = true then nu.map (fun e => if e.1 = x then (e.1, n) else e) else nu ++ [(x, n)]
theorem key_ts {a b : LN} : ((Sum.inr (TS a) : Key) = Sum.inr (TS b)) ↔ a = b := ⟨fun q => by injection q with q; rw [← cl_ts a, ← cl_ts b, q], fun q => by rw [q]⟩
theorem nu_get (x : LN) (d : Nat) : ∀ nu : Nu, (valV (nuK nu) (Sum.inr (TS x))).getD (.int d) = .int (getN nu x d)
  | [] => rfl
  | e :: nu => by
    have ih := nu_get x d nu
    unfold nuK getN at ih ⊢
    rw [List.map_cons, List.find?_cons]
    by_cases q : e.1 = x
    · rw [valV_pos (key_ts.mpr q), decide_eq_true q]
      rfl
    · rw [valV_neg (fun w => q (key_ts.mp w)), decide_eq_false q]
      exact ih
theorem nu_any (x : LN) : ∀ nu : Nu, ((nuK nu).any fun kv => decide (kv.1 = (Sum.inr (TS x) : Key))) = nu.any fun e => decide (e.1 = x)
  | [] => rfl
  | e :: nu => by
    have ih := nu_any x nu
    unfold nuK at ih ⊢
    rw [List.map_cons, List.any_cons, List.any_cons, ih, decide_eq_decide.mpr key_ts]
theorem nu_put (x : LN) (n : Nat) (nu : Nu) : putK (nuK nu) (Sum.inr (TS x)) (.int n) = nuK (putN nu x n) := by
  unfold putK putN
  rw [nu_any]
  split
  · unfold nuK
    rw [List.map_map, List.map_map]
    refine List.map_congr_left fun e _ => ?_
    show (if (Sum.inr (TS e.1) : Key) = Sum.inr (TS x) then _ else _) = _
    by_cases q : e.1 = x
    · rw [if_pos (key_ts.mpr q)]
      show _ = (fun e : LN × Nat => ((Sum.inr (TS e.1) : Key), V.int e.2)) (if e.1 = x then (e.1, n) else e)
      rw [if_pos q]
    · rw [if_neg (fun w => q (key_ts.mp w))]
      show _ = (fun e : LN × Nat => ((Sum.inr (TS e.1) : Key), V.int e.2)) (if e.1 = x then (e.1, n) else e)
      rw [if_neg q]
  · unfold nuK
    rw [List.map_append]
    rfl
theorem putN_len (nu : Nu) (x : LN) (n : Nat) : (putN nu x n).length ≤ nu.length + 1 := by
  unfold putN
  split
  · rw [List.length_map]; omega
  · rw [List.length_append]; exact Nat.le_refl _
def chL : LN := [99, 104, 111, 111, 115, 101, 32]
def chooseD (c : LN × List PyData) : PyData := .tuple [.str "choose", strD c.1, .tuple c.2]
def chooseL (lb : LN) (r : List LN) (nu : Nu) : Out (LN × List PyData) := if nmL lb = true then (match altsM (getN nu lb 4) r with
  | .err n => .err (1 + n)
  | .ok as n => if as.length < getN nu lb 2 then .err (1 + n) else .ok (lb, as) (1 + n)) else .err 0
def chooseM (l : LN) (r : List LN) (nu : Nu) : Out (LN × List PyData) := chooseL (cutp chL l) r nu
def Out.map {α β : Type} (f : α → β) : Out α → Out β
  | .ok d n => .ok (f d) n
  | .err n => .err n
def spCh (C : Addr) : Sp := fun vs H Q E => ∃ (L D : Addr) (ls : List LN) (i : Nat) (l : LN) (r : List LN) (nu : Nu), vs = [.ref L, .int (i : Int), .ref D] ∧ H L = some (.lst (vW ls)) ∧ LsOk ls ∧ ls.drop i = l :: r ∧ H D = some (.dK (nuK nu)) ∧ OutQ C i ((chooseM l r nu).map chooseD) H Q E
theorem alt_noL {k : Nat} {r : List LN} {ds : List PyData} {n : Nat} : altM k r = .ok ds n → noLs ds = true := by
  induction k generalizing r ds n with
  | zero => intro h; unfold altM at h; injection h with h _; rw [← h]; rfl
  | succ k ih =>
    intro h
    cases r with
    | nil => unfold altM at h; injection h with h _; rw [← h]; rfl
    | cons l r =>
      rw [altM] at h
      split at h
      · cases e : stepM inL l r with
        | err m => rw [e] at h; cases h
        | ok d m =>
          rw [e] at h
          have h : (altM k ((l :: r).drop m)).pre [d] m = .ok ds n := h
          cases e2 : altM k ((l :: r).drop m) with
          | err q => rw [e2] at h; cases h
          | ok es q =>
            rw [e2] at h
            injection h with h _
            rw [← h]
            show noLs (d :: es) = true
            rw [noLs, (step_noL e).1, ih e2]
            rfl
      · injection h with h _; rw [← h]; rfl
section
variable {P : Program} {w : World} {K : PySem.W.Frag} {mg : Str → Option Value} {base : Heap} {f C fI : Addr} {fd fdI : FuncData}
abbrev sCh : Stmt := top 62
abbrev nCh : List Str := ["lines", "at", "numbers", "label", "alternatives", "behind", "most", "steps"]
abbrev pCh : List Str := ["lines", "at", "numbers"]
theorem scCh : FnScope nCh pCh (defScope sCh) := ⟨rfl, rfl, rfl, by decide +kernel, rfl, by decide +kernel, by decide +kernel⟩
section
variable {fA_ fB_ : Addr} {fdA_ fdB_ : FuncData}
theorem ok_Ch (F : Fun K "read_choose" "read_choose" sCh f fd) (T : Bt mg) {u2 u4 uT : Tok} (m2 : mg "LEAST_ALTERNATIVES" = some (.int 2 u2)) (m4 : mg "MOST_ALTERNATIVES" = some (.int 4 u4)) (mO : mg "OR_LINE" = some (.str (PySem.Str.ofString "  or") uT)) (Z : ErF K mg "BadText" "position" C fI) (GI : FnOk P w K mg base CX0 1 fI fdI ["self", "position"] (spIni C "position")) (bI : Binds K fdI ["self", "position"] [])
    (GA_ : FnOk P w K mg base CX0 1 fA_ fdA_ ["value"] (spName)) (mA_ : mg "is_name" = some (.ref fA_)) (kA_ : PySem.W.keepIn K (.ref fA_) = true) (bA_ : Binds K fdA_ ["value"] [])
    (GB_ : FnOk P w K mg base (L2.CX P w) 27 fB_ fdB_ ["lines", "at"] (spAl C)) (mB_ : mg "read_alternative" = some (.ref fB_)) (kB_ : PySem.W.keepIn K (.ref fB_) = true) (bB_ : Binds K fdB_ ["lines", "at"] []) : FnOk P w K mg base (L2.CX P w) 28 f fd pCh (spCh C) := by
  refine F.okX scCh (fun vs H Q E h => ?_) (fun cdv A outer s H vs Q E hr h => ?_)
  · obtain ⟨L, D, ls, i, l, r, nu, rfl, _⟩ := h
    rfl
  · obtain ⟨L, D, ls, i, l, r, nu, rfl, hL, ok, hd, hD, k⟩ := h
    have hrA_ : Room (1) _ := hr.mono (by first | decide | omega)
    have hrB_ : Room (27) _ := hr.mono (by first | decide | omega)
    have hrI : Room 2 _ := hr.mono (by first | decide | omega)
    refine ⟨_, (pss_cons (ps_set (i := 3) scCh.nd rfl (Or.inl rfl) (pe_m1 PySem.F.slot_str_removeprefix PySem.F.type_str_removeprefix mt_removeprefix (pe_ix ix_list (pv 0) (pv 1) (fun _ _ => rfl)) pe_str))
      (pss_cons (ps_if (pt_not (pt_val (pe_call GA_ hrA_ (by rfl) mA_ kA_ bA_ .nil pass0 (pa_cons (pv 3) pa_nil)))) (pss_one (ps_raise (W := fun cls d _ H => E cls d H) rfl (takes_of rfl rfl rfl rfl) (pmk_oex Z.oex Z.iC Z.tI GI hrI bI .nil pass0 (by rfl) Z.gC (pa_cons (pv 1) pa_nil)))) pss_nil)
      (pss_cons (ps_set (i := 4) scCh.nd rfl (Or.inl rfl) (pe_lst pa_nil))
      (pss_cons (ps_set (i := 5) scCh.nd rfl (Or.inl rfl) (pe_op op_add (pv 1) pe_int))
      (pss_cons (ps_set (i := 6) scCh.nd rfl (Or.inl rfl) (pe_dget2 (hu_of hr) (pv 2) (pv 3) (pe_glob (v := .int 4) (by rfl) m4 ⟨_, rfl⟩) ⟨rfl, rfl, rfl, rfl⟩))
      (pss_cons (ps_while (passes_of rfl) (PW.pt (pw_and (pt_cmpR op_lt (pv 5) (pe_callB call_len_seq (by rfl) T.len PySem.boot_len (pa_cons (pv 0) pa_nil)) (nomark _)) (pw_and (pt_cmpR op_lt (pe_callB call_len_seq (by rfl) T.len PySem.boot_len (pa_cons (pv 4) pa_nil)) (pv 6) (nomark _)) (pw_and1 (pt_cmpR op_eq (pe_ix ix_list (pv 0) (pv 5) (fun _ _ => rfl)) (pe_glob (v := .str (PySem.Str.ofString "  or")) (by rfl) mO ⟨_, rfl⟩) (nomark _)))))) (pss_cons (ps_asg (pe_callS GB_ hrB_ (by rfl) mB_ kB_ bB_ (fun σ => passAt (W := fun cls d _ H => E cls d H) (takes_of rfl rfl rfl rfl) σ) (pa_cons (pv 0) (pa_cons (pe_op op_add (pv 5) pe_int) pa_nil))) (pg_tup rfl (pgs_cons (pg_name (i := 7) scCh.nd rfl (.inl rfl)) (pgs_cons (pg_name (i := 5) scCh.nd rfl (.inl rfl)) pgs_nil))))
      (pss_one (ps_expr (pe_bm PySem.F.plainAttrs_list PySem.F.slot_list_append PySem.F.type_list_append mt_append (pv 4) (pa_cons (pv 7) pa_nil))))))
      (pss_cons (ps_if (pt_cmpR op_lt (pe_callB call_len_seq (by rfl) T.len PySem.boot_len (pa_cons (pv 4) pa_nil)) (pe_dget2 (hu_of hr) (pv 2) (pv 3) (pe_glob (v := .int 2) (by rfl) m2 ⟨_, rfl⟩) ⟨rfl, rfl, rfl, rfl⟩) (nomark _)) (pss_one (ps_raise (W := fun cls d _ H => E cls d H) rfl (takes_of rfl rfl rfl rfl) (pmk_oex Z.oex Z.iC Z.tI GI hrI bI .nil pass0 (by rfl) Z.gC (pa_cons (pv 5) pa_nil)))) pss_nil)
      (pss_one (ps_ret (pe_tup (pa_cons (pe_tup (pa_cons pe_str (pa_cons (pv 3) (pa_cons (pe_callTy call_tuple_of (by rfl) T.tuple boot_tuple (pa_cons (pv 4) pa_nil)) pa_nil)))) (pa_cons (pv 5) pa_nil)))))))))))), ?_⟩
    have two : 2 ≤ sizeLine := by decide
    have one : 1 ≤ sizeLine := by decide
    have three : 3 ≤ sizeLine := by decide
    obtain ⟨el, li, dn⟩ := drop_get hd
    have gl := vW_get el
    have lk := ok.each l (List.mem_of_getElem? el)
    have lt : Tx (cutp chL l) := lk.1.sub (cutp_sub _ _)
    have chE : CL (PySem.Str.ofString "choose ") = chL := by decide +kernel
    unfold chooseM at k
    refine ⟨_, rfl, _, rfl, L, _, _, .str (TS l), rfl, rfl, SqL.of hL, at_of (j := i) rfl gl, ⟨_, rfl⟩, _, _, rfl, rfl, lk.1.line, ?_⟩
    rw [prefix_TS, chE]
    generalize cutp chL l = lb at lt k ⊢
    refine ⟨_, rfl, .str (TS lb), "str", rfl, .str _, fun x e => by cases e; exact lt.line, fun H1 s1 => ⟨_, rfl, ?_⟩⟩
    rw [show nameB (.str (TS lb)) = nmL lb from rfl]
    unfold chooseL at k
    cases nb : nmL lb with
    | false =>
      rw [nb] at k
      exact iteT ⟨_, rfl, by show 1 ≤ 1000; decide, tells_ofF (k H1 s1)⟩
    | true =>
    rw [nb, if_pos rfl] at k
    refine iteF ⟨Nat.zero_le _, fun Z hZ => ?_⟩
    have hZ0 := same_none s1 hZ
    have zZ := s1.trans (Same.upd (o := .lst []) hZ)
    have eZ : upd H1 Z (.lst []) Z = some (.lst []) := upd_same
    generalize upd H1 Z (.lst []) = H2 at zZ eZ
    refine ⟨_, rfl, _, _, rfl, rfl, ?_⟩
    refine ⟨_, rfl, D, rfl, .inl ⟨_, .inl (zZ _ _ hD)⟩, _, rfl, _, DGet.k (k := Sum.inr (TS lb)) (zZ _ _ hD), ?_⟩
    rw [show (valV (nuK nu) (Sum.inr (TS lb))).getD (V.int 4) = V.int (getN nu lb 4) from nu_get lb 4 nu]
    generalize hM : getN nu lb 4 = M at k
    generalize ho : altsM M r = o at k
    refine tw_of (fun m σ H' => ∃ (done : List PyData) (c : Nat) (us : List V) (x7 : Option V), m = M - done.length ∧ σ = [some (.ref L), some (.int (i : Int)), some (.ref D), some (.str (TS lb)), some (.ref Z), some (.int ((i + 1 + c : Nat) : Int)), some (.int (M : Int)), x7] ∧ (altsM (M - done.length) (ls.drop (i + 1 + c))).pre done c = o ∧ H' Z = some (.lst us) ∧ DhAll H' us done ∧ noLs done = true ∧ us.length = done.length ∧ done.length ≤ c ∧ Same H H')
      (fun σ H' => ∃ (us : List V) (done : List PyData) (c : Nat) (x7 : Option V), σ = [some (.ref L), some (.int (i : Int)), some (.ref D), some (.str (TS lb)), some (.ref Z), some (.int ((i + 1 + c : Nat) : Int)), some (.int (M : Int)), x7] ∧ o = .ok done c ∧ H' Z = some (.lst us) ∧ DhAll H' us done ∧ us.length = done.length ∧ Same H H')
      ⟨_, [], 0, [], none, rfl, rfl, by rw [← ho]; show (altsM M (ls.drop (i + 1 + 0))).pre [] 0 = _; rw [Nat.add_zero, dn]; cases altsM M r <;> simp [Out.pre], eZ, .nil, rfl, rfl, Nat.zero_le _, zZ⟩ ?_ ?_
    · rintro σ H5 ⟨us, done, c, x7, rfl, rfl, eZ5, du, lu, s5⟩
      dsimp only at k
      refine ⟨_, rfl, Z, _, rfl, .inl (SqL.of eZ5), _, rfl, D, rfl, .inl ⟨_, .inl (s5 _ _ hD)⟩, _, rfl, _, DGet.k (k := Sum.inr (TS lb)) (s5 _ _ hD), ?_⟩
      rw [show (valV (nuK nu) (Sum.inr (TS lb))).getD (V.int 2) = V.int (getN nu lb 2) from nu_get lb 2 nu, lu]
      refine ⟨_, _, rfl, rfl, _, rfl, ?_⟩
      by_cases z : done.length < getN nu lb 2
      · rw [if_pos z] at k
        rw [decide_eq_true (by omega)]
        have := k H5 s5
        rw [← Nat.add_assoc] at this
        exact iteT ⟨_, rfl, by show 1 ≤ 1000; decide, tells_ofF this⟩
      · rw [if_neg z] at k
        rw [decide_eq_false (by omega)]
        refine iteF ⟨_, rfl, _, rfl, Z, _, rfl, .inl ⟨SqL.of eZ5, fun p hp => ⟨three, fun g hg => ⟨_, rfl, two, fun b hb => ?_⟩⟩⟩⟩
        have z1 := Same.upd (o := .tup us) hp
        have z2 := Same.upd (o := .tup [.str "choose", .str (TS lb), .ref p]) hg
        have z3 := Same.upd (o := .tup [.ref g, .int ((i + 1 + c : Nat) : Int)]) hb
        have z23 := z2.trans z3
        exact k b (.ref g) _ (s5.trans (z1.trans z23)) (by rw [← Nat.add_assoc]; exact upd_same) (.tup (z3 _ _ upd_same) (.cons (.str _) (.cons (.str _) (.cons (.tup (z23 _ _ upd_same) (du.same (z1.trans z23))) .nil))))
    · rintro nx hB m σ H5 ⟨done, c, us, x7, rfl, rfl, er, eZ5, du, nl, lu, lc, s5⟩
      have out : altsM (M - done.length) (ls.drop (i + 1 + c)) = .ok [] 0 → nx [some (.ref L), some (.int (i : Int)), some (.ref D), some (.str (TS lb)), some (.ref Z), some (.int ((i + 1 + c : Nat) : Int)), some (.int (M : Int)), x7] H5 := fun z => by
        rw [z] at er
        exact hB _ _ ⟨us, done, c, x7, rfl, by rw [← er]; simp [Out.pre], eZ5, du, lu, s5⟩
      refine ⟨_, rfl, _, rfl, L, _, rfl, .inl (SqL.of (s5 _ _ hL)), _, _, rfl, rfl, _, rfl, ?_⟩
      rw [vW_len]
      have l1 := ok.len
      cases hrj : ls.drop (i + 1 + c) with
      | nil =>
        have : ls.length ≤ i + 1 + c := List.drop_eq_nil_iff.mp hrj
        rw [decide_eq_false (by omega)]
        refine iteF (iteF (out ?_))
        rw [hrj]
        cases M - done.length <;> rfl
      | cons l1 r1 =>
      obtain ⟨e1, li1, dn1⟩ := drop_get hrj
      rw [decide_eq_true (by omega)]
      refine iteT ⟨_, rfl, Z, _, rfl, .inl (SqL.of eZ5), _, rfl, _, _, rfl, rfl, _, rfl, ?_⟩
      rw [lu]
      by_cases c4 : done.length < M
      · rw [decide_eq_true (by omega)]
        rw [hrj] at er out
        obtain ⟨q, hq⟩ : ∃ q, M - done.length = q + 1 := ⟨M - done.length - 1, by omega⟩
        rw [hq, altsM] at er out
        refine iteT ⟨_, rfl, _, rfl, L, _, _, .str (TS l1), rfl, rfl, SqL.of (s5 _ _ hL), at_of (j := i + 1 + c) rfl (vW_get e1), rfl, _, rfl, ?_⟩
        by_cases sw : ¬ TS l1 = "  or"
        · rw [if_neg sw] at out
          rw [show decide (V.str (TS l1) = V.str "  or") = false from decide_eq_false (fun h => sw (by injection h))]
          exact iteF (out rfl)
        have sw := Decidable.not_not.mp sw
        rw [show decide (V.str (TS l1) = V.str "  or") = true by rw [sw]; rfl]
        rw [if_pos sw] at er
        refine iteT ?_
        refine ⟨_, fun _ _ h => h, ?_⟩
        refine ⟨_, rfl, _, rfl, _, _, rfl, rfl, L, ls, i + 1 + c + 1, rfl, s5 _ _ hL, ok, ?_⟩
        rw [dn1]
        cases hs : altM 4 r1 with
        | err n =>
          rw [hs] at er
          intro H6 s6
          subst er
          have := k H6 (s5.trans s6)
          rw [show i + 1 + c + 1 + n = i + (1 + (c + (1 + n))) by omega]
          exact this
        | ok d n =>
          rw [hs] at er
          have er : ((altsM q ((l1 :: r1).drop (1 + n))).pre [.tuple d] (1 + n)).pre done c = o := er
          rw [Out.pre_pre] at er
          intro p x H6 s6 hp hd
          have eZ6 := s6 _ _ eZ5
          have nd : noL (.tuple d) = true := alt_noL hs
          refine ⟨p, _, rfl, SqT.of hp, rfl, _, _, rfl, _, _, rfl, rfl, ?_⟩
          have b1 : us.length < sizeLine := Nat.lt_of_le_of_lt (show _ ≤ 100 by omega) (by decide)
          refine ⟨_, rfl, .inl ⟨rfl, _, SqL.of eZ6⟩, _, rfl, Z, _, _, rfl, rfl, eZ6, b1, ?_⟩
          have kt : SameT H6 (upd H6 Z (.lst (us ++ [x]))) := SameT.lst eZ6
          have s56 := s5.trans s6
          refine ⟨q, by omega, done ++ [.tuple d], c + (1 + n), us ++ [x], some x, ?_, ?_, ?_, upd_same, DhAll.append (DhAll.t kt (du.same s6) nl) (.cons (Dh.t kt hd nd) .nil), ?_, by rw [List.length_append, List.length_append, lu]; rfl, by rw [List.length_append]; show _ + 1 ≤ _; omega, fun b o eb => by rw [upd_ne (ne_of_none eb hZ0)]; exact s56 _ _ eb⟩
          · rw [List.length_append]; show q = M - (_ + 1); omega
          · rw [show i + 1 + (c + (1 + n)) = i + 1 + c + 1 + n by omega]; rfl
          · rw [List.length_append, show M - (done.length + [PyData.tuple d].length) = q by show M - (_ + 1) = q; omega, ← er, ← Nat.add_assoc (i + 1), ← List.drop_drop, hrj]
          · refine noLs_all.mpr fun e he => ?_
            rcases List.mem_append.mp he with he | he
            · exact noLs_all.mp nl e he
            · rw [List.mem_singleton.mp he]; exact nd
      · rw [decide_eq_false (by omega)]
        refine iteF (iteF (out ?_))
        rw [show M - done.length = 0 by omega]
        rfl
end
end
end K79
set_option Elab.async false
set_option linter.all false
set_option maxRecDepth 100000
set_option maxHeartbeats 4000000
namespace K79
open PySem PySem.Spec PyProof.Rows L2 Lc
/-! ## the whole text -/
def frL : LN := [102, 114, 111, 109, 32]
def srcB (l : LN) : Bool := stw frL l && nmL (cutp frL l)
def stepsM : Nat → List LN → Nu → Out (List PyData)
  | _, [], _ => .ok [] 0
  | 0, _ :: _, _ => .err 0
  | k + 1, l :: r, nu => if stw chL l = true then (chooseM l r nu).then fun c n => (stepsM k ((l :: r).drop n) (putN nu c.1 c.2.length)).pre [chooseD c] n else (stepM [] l r).then fun d n => (stepsM k ((l :: r).drop n) nu).pre [d] n
def pipeM : List LN → Out (List PyData)
  | [] => .err 0
  | l :: r => if srcB l = true then (stepsM 10 r []).sh else .err 0
theorem pipe_cons (l : LN) (r : List LN) : pipeM (l :: r) = if srcB l = true then (stepsM 10 r []).sh else .err 0 := rfl
def Out.pos {α : Type} : Out α → Option Nat
  | .ok _ _ => none
  | .err n => some n
def spSo (C : Addr) : Sp := fun vs H Q E => ∃ (l : LN), vs = [.str (TS l)] ∧ Tx l ∧ (srcB l = true → ∀ v H', Same H H' → Q v H') ∧ (srcB l = false → ∀ H', Same H H' → TellsF C "position" H' (.int 0) E)
def spPl (C : Addr) : Sp := fun vs H Q E => ∃ (v : V), vs = [v] ∧ ((∃ t, TyN H v t ∧ t ≠ "str" ∧ TellsF C "position" H (.int 0) E) ∨ ∃ l, v = .str (TS l) ∧ LsOk (spl 10 l) ∧ l.length ≤ 100000 ∧ ((pipeM (spl 10 l)).pos = none → ∀ v H', Same H H' → Q v H') ∧ ∀ n, (pipeM (spl 10 l)).pos = some n → ∀ H', Same H H' → TellsF C "position" H' (.int (n : Int)) E)
theorem dhA_len {H : Hp} : ∀ {xs : List V} {ds : List PyData}, DhAll H xs ds → xs.length = ds.length
  | [], [], _ => rfl
  | _ :: xs, _ :: ds, h => by
    cases h with
    | cons _ r => rw [List.length_cons, List.length_cons, dhA_len r]
theorem SameT.dk {H : Hp} {a : Addr} {kvs : List (Key × V)} {o : HO} (h : H a = some (.dK kvs)) : SameT H (upd H a o) := fun b xs e => by rw [upd_ne (ne_of e h nofun)]; exact e
theorem alts_ok {k : Nat} {r : List LN} {ds : List PyData} {n : Nat} : altsM k r = .ok ds n → noLs ds = true := by
  induction k generalizing r ds n with
  | zero => intro h; unfold altsM at h; injection h with h _; rw [← h]; rfl
  | succ k ih =>
    intro h
    cases r with
    | nil => unfold altsM at h; injection h with h _; rw [← h]; rfl
    | cons l r =>
      rw [altsM] at h
      split at h
      · cases e : altM 4 r with
        | err m => rw [e] at h; cases h
        | ok d m =>
          rw [e] at h
          have h : (altsM k ((l :: r).drop (1 + m))).pre [.tuple d] (1 + m) = .ok ds n := h
          cases e2 : altsM k ((l :: r).drop (1 + m)) with
          | err q => rw [e2] at h; cases h
          | ok es q =>
            rw [e2] at h
            injection h with h _
            rw [← h]
            show noLs (.tuple d :: es) = true
            rw [noLs, noL, alt_noL e, ih e2]
            rfl
      · injection h with h _; rw [← h]; rfl
theorem choose_ok {l : LN} {r : List LN} {nu : Nu} {c : LN × List PyData} {n : Nat} (h : chooseM l r nu = .ok c n) : noL (chooseD c) = true ∧ 1 ≤ n := by
  unfold chooseM chooseL at h
  split at h
  · split at h
    · cases h
    · rename_i as m e
      split at h
      · cases h
      · injection h with h1 h2
        rw [← h1, ← h2]
        refine ⟨?_, Nat.le_add_right 1 m⟩
        show noL (.tuple [.str "choose", strD _, .tuple as]) = true
        rw [noL, noLs, noLs, noLs, noLs, noL, alts_ok e]
        rfl
  · cases h
section
variable {P : Program} {w : World} {K : PySem.W.Frag} {mg : Str → Option Value} {base : Heap} {f C fI : Addr} {fd fdI : FuncData}
abbrev sSo_ : Stmt := top 63
abbrev nSo_ : List Str := ["line", "source"]
abbrev pSo_ : List Str := ["line"]
theorem scSo_ : FnScope nSo_ pSo_ (defScope sSo_) := ⟨rfl, rfl, rfl, by decide +kernel, rfl, by decide +kernel, by decide +kernel⟩
section
variable {fA_ : Addr} {fdA_ : FuncData}
theorem ok_So_ (F : Fun K "read_source" "read_source" sSo_ f fd) (T : Bt mg) (Z : ErF K mg "BadText" "position" C fI) (GI : FnOk P w K mg base CX0 1 fI fdI ["self", "position"] (spIni C "position")) (bI : Binds K fdI ["self", "position"] [])
    (GA_ : FnOk P w K mg base CX0 1 fA_ fdA_ ["value"] (spName)) (mA_ : mg "is_name" = some (.ref fA_)) (kA_ : PySem.W.keepIn K (.ref fA_) = true) (bA_ : Binds K fdA_ ["value"] []) : FnOk P w K mg base (L2.CX P w) 3 f fd pSo_ (spSo C) := by
  refine F.okX scSo_ (fun vs H Q E h => ?_) (fun cdv A outer s H vs Q E hr h => ?_)
  · obtain ⟨l, rfl, _⟩ := h
    rfl
  · obtain ⟨l, rfl, tx, k1, k2⟩ := h
    have hrA_ : Room (1) _ := hr.mono (by first | decide | omega)
    have hrI : Room 2 _ := hr.mono (by first | decide | omega)
    refine ⟨_, (pss_cons (ps_set (i := 1) scSo_.nd rfl (Or.inl rfl) (pe_m1 PySem.F.slot_str_removeprefix PySem.F.type_str_removeprefix mt_removeprefix (pv 0) pe_str))
      (pss_cons (ps_if (PW.pt (pw_or (pt_not (pt_val (pe_m1 PySem.F.slot_str_startswith PySem.F.type_str_startswith mt_startswith (pv 0) pe_str))) (pw_or1 (pt_not (pt_val (pe_call GA_ hrA_ (by rfl) mA_ kA_ bA_ .nil pass0 (pa_cons (pv 1) pa_nil))))))) (pss_one (ps_raise (W := fun cls d _ H => E cls d H) rfl (takes_of rfl rfl rfl rfl) (pmk_oex Z.oex Z.iC Z.tI GI hrI bI .nil pass0 (by rfl) Z.gC (pa_cons pe_int pa_nil)))) pss_nil)
      (pss_one (ps_ret (pv 1))))), ?_⟩
    have two : 2 ≤ sizeLine := by decide
    have one : 1 ≤ sizeLine := by decide
    have three : 3 ≤ sizeLine := by decide
    have frE : CL (PySem.Str.ofString "from ") = frL := by decide +kernel
    have lt : Tx (cutp frL l) := tx.sub (cutp_sub _ _)
    unfold srcB at k1 k2
    refine ⟨_, rfl, ⟨_, rfl⟩, _, _, rfl, rfl, tx.line, ?_⟩
    rw [prefix_TS, frE]
    refine ⟨_, rfl, ⟨_, rfl⟩, _, _, rfl, rfl, _, rfl, ?_⟩
    rw [starts_TS, frE]
    cases sw : stw frL l with
    | false =>
      rw [sw] at k2
      exact iteT (iteT ⟨by show 1 ≤ 1000; decide, tells_ofF (k2 rfl H (Same.refl H))⟩)
    | true =>
    rw [sw] at k1 k2
    generalize cutp frL l = lb at lt k1 k2 ⊢
    refine iteF ⟨_, rfl, .str (TS lb), "str", rfl, .str _, fun x e => by cases e; exact lt.line, fun H1 s1 => ⟨_, rfl, ?_⟩⟩
    rw [show nameB (.str (TS lb)) = nmL lb from rfl]
    cases nb : nmL lb with
    | false =>
      rw [nb] at k2
      exact iteT ⟨by show 1 ≤ 1000; decide, tells_ofF (k2 rfl H1 s1)⟩
    | true =>
      rw [nb] at k1
      exact iteF ⟨_, rfl, k1 rfl _ H1 s1⟩
end
abbrev sPl : Stmt := top 64
abbrev nPl : List Str := ["text", "lines", "source", "steps", "numbers", "behind", "step"]
abbrev pPl : List Str := ["text"]
theorem scPl : FnScope nPl pPl (defScope sPl) := ⟨rfl, rfl, rfl, by decide +kernel, rfl, by decide +kernel, by decide +kernel⟩
section
variable {fA_ fB_ fC_ : Addr} {fdA_ fdB_ fdC_ : FuncData}
theorem ok_Pl (F : Fun K "read_pipeline" "read_pipeline" sPl f fd) (T : Bt mg) {ut : Tok} (mt : mg "MOST_STEPS" = some (.int 10 ut)) (Z : ErF K mg "BadText" "position" C fI) (GI : FnOk P w K mg base CX0 1 fI fdI ["self", "position"] (spIni C "position")) (bI : Binds K fdI ["self", "position"] [])
    (GA_ : FnOk P w K mg base (L2.CX P w) 3 fA_ fdA_ ["line"] (spSo C)) (mA_ : mg "read_source" = some (.ref fA_)) (kA_ : PySem.W.keepIn K (.ref fA_) = true) (bA_ : Binds K fdA_ ["line"] [])
    (GB_ : FnOk P w K mg base (L2.CX P w) 26 fB_ fdB_ ["lines", "at", "ahead"] (spSp C)) (mB_ : mg "read_step" = some (.ref fB_)) (kB_ : PySem.W.keepIn K (.ref fB_) = true) (bB_ : Binds K fdB_ ["lines", "at", "ahead"] [])
    (GC_ : FnOk P w K mg base (L2.CX P w) 28 fC_ fdC_ ["lines", "at", "numbers"] (spCh C)) (mC_ : mg "read_choose" = some (.ref fC_)) (kC_ : PySem.W.keepIn K (.ref fC_) = true) (bC_ : Binds K fdC_ ["lines", "at", "numbers"] []) : FnOk P w K mg base (L2.CX P w) 30 f fd pPl (spPl C) := by
  refine F.okX scPl (fun vs H Q E h => ?_) (fun cdv A outer s H vs Q E hr h => ?_)
  · obtain ⟨v, rfl, _⟩ := h
    rfl
  · obtain ⟨v, rfl, k⟩ := h
    have hrA_ : Room (3) _ := hr.mono (by first | decide | omega)
    have hrB_ : Room (26) _ := hr.mono (by first | decide | omega)
    have hrC_ : Room (28) _ := hr.mono (by first | decide | omega)
    have hrI : Room 2 _ := hr.mono (by first | decide | omega)
    refine ⟨_, (pss_cons (ps_if (pt_not (pt_val (pe_callB call_isi (by rfl) T.isi boot_isinstance (pa_cons (pv 0) (pa_cons (pe_bltn (v := .ty "str") (by rfl) T.str boot_str rfl) pa_nil))))) (pss_one (ps_raise (W := fun cls d _ H => E cls d H) rfl (takes_of rfl rfl rfl rfl) (pmk_oex Z.oex Z.iC Z.tI GI hrI bI .nil pass0 (by rfl) Z.gC (pa_cons pe_int pa_nil)))) pss_nil)
      (pss_cons (ps_set (i := 1) scPl.nd rfl (Or.inl rfl) (pe_m1 PySem.F.slot_str_split PySem.F.type_str_split mt_split (pv 0) pe_str))
      (pss_cons (ps_set (i := 2) scPl.nd rfl (Or.inl rfl) (pe_callS GA_ hrA_ (by rfl) mA_ kA_ bA_ (fun σ => passAt (W := fun cls d _ H => E cls d H) (takes_of rfl rfl rfl rfl) σ) (pa_cons (pe_ix ix_list (pv 1) pe_int (fun _ _ => rfl)) pa_nil)))
      (pss_cons (ps_set (i := 3) scPl.nd rfl (Or.inl rfl) (pe_lst pa_nil))
      (pss_cons (ps_set (i := 4) scPl.nd rfl (Or.inl rfl) pe_dnewK)
      (pss_cons (ps_set (i := 5) scPl.nd rfl (Or.inl rfl) pe_int)
      (pss_cons (ps_while (passes_of rfl) (pt_cmpR op_lt (pv 5) (pe_callB call_len_seq (by rfl) T.len PySem.boot_len (pa_cons (pv 1) pa_nil)) (nomark _)) (pss_cons (ps_if (pt_cmpR op_eq (pe_callB call_len_seq (by rfl) T.len PySem.boot_len (pa_cons (pv 3) pa_nil)) (pe_glob (v := .int 10) (by rfl) mt ⟨_, rfl⟩) (nomark _)) (pss_one (ps_raise (W := fun cls d _ H => E cls d H) rfl (takes_of rfl rfl rfl rfl) (pmk_oex Z.oex Z.iC Z.tI GI hrI bI .nil pass0 (by rfl) Z.gC (pa_cons (pv 5) pa_nil)))) pss_nil)
      (pss_cons (ps_if (pt_val (pe_m1 PySem.F.slot_str_startswith PySem.F.type_str_startswith mt_startswith (pe_ix ix_list (pv 1) (pv 5) (fun _ _ => rfl)) pe_str)) (pss_cons (ps_asg (pe_callS GC_ hrC_ (by rfl) mC_ kC_ bC_ (fun σ => passAt (W := fun cls d _ H => E cls d H) (takes_of rfl rfl rfl rfl) σ) (pa_cons (pv 1) (pa_cons (pv 5) (pa_cons (pv 4) pa_nil)))) (pg_tup rfl (pgs_cons (pg_name (i := 6) scPl.nd rfl (.inl rfl)) (pgs_cons (pg_name (i := 5) scPl.nd rfl (.inl rfl)) pgs_nil))))
      (pss_one (ps_dput (hu_of hr) (pv 4) (pe_ix ix_tup (pv 6) pe_int (fun _ _ => rfl)) (pe_callB call_len_seq (by rfl) T.len PySem.boot_len (pa_cons (pe_ix ix_tup (pv 6) pe_int (fun _ _ => rfl)) pa_nil)) (by rfl)))) (pss_one (ps_asg (pe_callS GB_ hrB_ (by rfl) mB_ kB_ bB_ (fun σ => passAt (W := fun cls d _ H => E cls d H) (takes_of rfl rfl rfl rfl) σ) (pa_cons (pv 1) (pa_cons (pv 5) (pa_cons pe_str pa_nil)))) (pg_tup rfl (pgs_cons (pg_name (i := 6) scPl.nd rfl (.inl rfl)) (pgs_cons (pg_name (i := 5) scPl.nd rfl (.inl rfl)) pgs_nil))))))
      (pss_one (ps_expr (pe_bm PySem.F.plainAttrs_list PySem.F.slot_list_append PySem.F.type_list_append mt_append (pv 3) (pa_cons (pv 6) pa_nil)))))))
      (pss_one (ps_ret (pe_tup (pa_cons (pv 2) (pa_cons (pe_callTy call_tuple_of (by rfl) T.tuple boot_tuple (pa_cons (pv 3) pa_nil)) pa_nil)))))))))))), ?_⟩
    have two : 2 ≤ sizeLine := by decide
    have one : 1 ≤ sizeLine := by decide
    have three : 3 ≤ sizeLine := by decide
    rcases k with ⟨t, ty, nt, k⟩ | ⟨l, rfl, ok, ll, k1, k2⟩
    · refine ⟨_, rfl, v, .ty "str", _, _, _, rfl, .ty "str", ty.x, kit_str ty.mem, _, rfl, ?_⟩
      rw [show (t == "str") = false by simpa using nt]
      exact iteT ⟨by show 1 ≤ 1000; decide, tells_ofF k⟩
    have ts : TyN H (.str (TS l)) "str" := .str _
    refine ⟨_, rfl, _, .ty "str", _, _, _, rfl, .ty "str", ts.x, kit_str ts.mem, _, rfl, iteF ?_⟩
    have bl : ((PySem.Str.ofString "\n").length == 0) = false := by decide +kernel
    have nE : (PySem.Str.ofString "\n") = ⟨#[10]⟩ := by decide +kernel
    refine ⟨_, rfl, ⟨_, rfl⟩, _, _, rfl, rfl, bl, by rw [ts_len]; exact Nat.le_trans (show _ ≤ 100002 by omega) (by decide), fun L hL => ?_⟩
    rw [nE, split_TS]
    have ne : spl 10 l ≠ [] := spl_ne _
    generalize spl 10 l = ls at ok k1 k2 ne ⊢
    have zL := Same.upd (o := .lst (vW ls)) hL
    have eL : upd H L (.lst (vW ls)) L = some (.lst (vW ls)) := upd_same
    generalize upd H L (.lst (vW ls)) = H1 at zL eL ⊢
    cases ls with
    | nil => exact absurd rfl ne
    | cons l0 r =>
    have l0t := (ok.each l0 (List.mem_cons_self)).1
    have lk := ok.len
    refine ⟨_, rfl, L, _, _, .str (TS l0), rfl, rfl, SqL.of eL, at_of (j := 0) rfl rfl, l0, rfl, l0t, fun sb v0 H2 s2 => ?_, fun sb H2 s2 => k2 0 (by rw [pipe_cons, if_neg (by rw [sb]; decide)]; rfl) H2 (zL.trans s2)⟩
    have eL2 := s2 _ _ eL
    have s02 := zL.trans s2
    rw [pipe_cons, if_pos sb] at k1 k2
    refine ⟨Nat.zero_le _, fun Z1 hZ => ?_⟩
    have hZ0 := same_none s02 hZ
    have s03 := s02.trans (Same.upd (o := .lst []) hZ)
    have eZ : upd H2 Z1 (.lst []) Z1 = some (.lst []) := upd_same
    have eL3 := (Same.upd (o := .lst []) hZ) _ _ eL2
    generalize upd H2 Z1 (.lst []) = H3 at s03 eZ eL3 ⊢
    refine fun D hD => ?_
    have hD0 := same_none s03 hD
    have nZD : Z1 ≠ D := ne_of_none eZ hD
    have s04 := s03.trans (Same.upd (o := .dK []) hD)
    have eZ4 := (Same.upd (o := .dK []) hD) _ _ eZ
    have eL4 := (Same.upd (o := .dK []) hD) _ _ eL3
    have eD : upd H3 D (.dK []) D = some (.dK []) := upd_same
    generalize upd H3 D (.dK []) = H4 at s04 eZ4 eL4 eD ⊢
    have nLZ : L ≠ Z1 := ne_of_none eL2 hZ
    have nLD : L ≠ D := ne_of_none eL3 hD
    generalize ho : stepsM 10 r [] = o at k1 k2
    refine tw_of (fun m σ H' => ∃ (done : List PyData) (c : Nat) (us : List V) (nu : Nu) (x6 : Option V), m = r.length - c ∧ σ = [some (.str (TS l)), some (.ref L), some v0, some (.ref Z1), some (.ref D), some (.int ((1 + c : Nat) : Int)), x6] ∧ (stepsM (10 - done.length) (r.drop c) nu).pre done c = o ∧ H' Z1 = some (.lst us) ∧ H' D = some (.dK (nuK nu)) ∧ H' L = some (.lst (vW (l0 :: r))) ∧ DhAll H' us done ∧ noLs done = true ∧ us.length = done.length ∧ done.length ≤ 10 ∧ nu.length ≤ done.length ∧ Same H H')
      (fun σ H' => ∃ (us : List V) (done : List PyData) (c : Nat) (x6 : Option V), σ = [some (.str (TS l)), some (.ref L), some v0, some (.ref Z1), some (.ref D), some (.int ((1 + c : Nat) : Int)), x6] ∧ o = .ok done c ∧ H' Z1 = some (.lst us) ∧ us.length = done.length ∧ Same H H')
      ⟨_, [], 0, [], [], none, rfl, rfl, by rw [← ho]; show (stepsM 10 r []).pre [] 0 = _; cases stepsM 10 r [] <;> simp [Out.pre], eZ4, eD, eL4, .nil, rfl, rfl, Nat.zero_le _, Nat.zero_le _, s04⟩ ?_ ?_
    · rintro σ H5 ⟨us, done, c, x6, rfl, rfl, eZ5, lu, s5⟩
      exact ⟨_, rfl, _, rfl, Z1, _, rfl, .inl ⟨SqL.of eZ5, fun p hp => ⟨two, fun b hb => k1 rfl _ _ (s5.trans ((Same.upd hp).trans (Same.upd hb)))⟩⟩⟩
    · rintro nx hB m σ H5 ⟨done, c, us, nu, x6, rfl, rfl, er, eZ5, eD5, eL5, du, nl, lu, l10, ln, s5⟩
      refine ⟨_, rfl, _, rfl, L, _, rfl, .inl (SqL.of eL5), _, _, rfl, rfl, _, rfl, ?_⟩
      rw [vW_len, List.length_cons]
      cases hrj : r.drop c with
      | nil =>
        have : r.length ≤ c := List.drop_eq_nil_iff.mp hrj
        rw [decide_eq_false (by omega)]
        rw [hrj] at er
        have er : (Out.ok [] 0 : Out (List PyData)).pre done c = o := by
          rw [← er]
          cases 10 - done.length <;> rfl
        exact iteF (hB _ _ ⟨us, done, c, x6, rfl, by rw [← er]; simp [Out.pre], eZ5, lu, s5⟩)
      | cons l1 r1 =>
      obtain ⟨e1, li1, dn1⟩ := drop_get hrj
      have e1' : (l0 :: r)[1 + c]? = some l1 := by rw [Nat.add_comm, List.getElem?_cons_succ]; exact e1
      have hrj' : (l0 :: r).drop (1 + c) = l1 :: r1 := by rw [Nat.add_comm, List.drop_succ_cons]; exact hrj
      have l1k := ok.each l1 (List.mem_of_getElem? e1')
      rw [decide_eq_true (by omega)]
      rw [hrj] at er
      refine iteT ⟨_, fun _ _ h => h, ?_⟩
      refine ⟨_, rfl, Z1, _, rfl, .inl (SqL.of eZ5), rfl, _, rfl, ?_⟩
      rw [lu]
      by_cases c10 : done.length = 10
      · rw [show decide (V.int (done.length : Int) = V.int 10) = true by rw [c10]; rfl]
        rw [c10] at er
        have er : (Out.err 0 : Out (List PyData)).pre done c = o := er
        have := k2 (1 + c) (by rw [← er]; rfl) H5 s5
        exact iteT ⟨_, rfl, by show 1 ≤ 1000; decide, tells_ofF this⟩
      rw [show decide (V.int (done.length : Int) = V.int 10) = false from decide_eq_false (fun h => c10 (by injection h with h; omega))]
      obtain ⟨q, hq⟩ : ∃ q, 10 - done.length = q + 1 := ⟨10 - done.length - 1, by omega⟩
      rw [hq, stepsM] at er
      refine iteF ⟨_, rfl, _, rfl, L, _, _, .str (TS l1), rfl, rfl, SqL.of eL5, at_of (j := 1 + c) rfl (vW_get e1'), ⟨_, rfl⟩, _, _, rfl, rfl, _, rfl, ?_⟩
      have chE : CL (PySem.Str.ofString "choose ") = chL := by decide +kernel
      rw [starts_TS, chE]
      have b1 : us.length < sizeLine := Nat.lt_of_le_of_lt (show _ ≤ 10 by omega) (by decide)
      cases sw : stw chL l1 with
      | false =>
        rw [sw, if_neg (by decide)] at er
        refine iteF ⟨_, rfl, _, rfl, L, l0 :: r, 1 + c, [], l1, r1, rfl, eL5, ok, hrj', by decide, ?_⟩
        cases hs : stepM [] l1 r1 with
        | err n =>
          rw [hs] at er
          have er : (Out.err n : Out (List PyData)).pre done c = o := er
          intro H6 s6
          have := k2 (1 + c + n) (by rw [← er, Nat.add_assoc]; rfl) H6 (s5.trans s6)
          exact this
        | ok d n =>
          rw [hs] at er
          have er : ((stepsM q ((l1 :: r1).drop n) nu).pre [d] n).pre done c = o := er
          rw [Out.pre_pre] at er
          intro p x H6 s6 hp hd
          have eZ6 := s6 _ _ eZ5
          obtain ⟨nd, n1⟩ := step_noL hs
          refine ⟨p, _, rfl, SqT.of hp, rfl, _, _, rfl, _, _, rfl, rfl, ?_⟩
          refine ⟨_, rfl, .inl ⟨rfl, _, SqL.of eZ6⟩, _, rfl, Z1, _, _, rfl, rfl, eZ6, b1, ?_⟩
          have kt : SameT H6 (upd H6 Z1 (.lst (us ++ [x]))) := SameT.lst eZ6
          have s56 := s5.trans s6
          refine ⟨r.length - (c + n), by omega, done ++ [d], c + n, us ++ [x], nu, some x, rfl, ?_, ?_, upd_same, by rw [upd_ne (Ne.symm nZD)]; exact s6 _ _ eD5, by rw [upd_ne nLZ]; exact s6 _ _ eL5, DhAll.append (DhAll.t kt (du.same s6) nl) (.cons (Dh.t kt hd nd) .nil), ?_, by rw [List.length_append, List.length_append, lu]; rfl, by rw [List.length_append]; show _ + 1 ≤ 10; omega, by rw [List.length_append]; show _ ≤ _ + 1; omega, fun b o eb => by rw [upd_ne (ne_of_none eb hZ0)]; exact s56 _ _ eb⟩
          · rw [← Nat.add_assoc]; rfl
          · rw [List.length_append, show 10 - (done.length + [d].length) = q by show 10 - (_ + 1) = q; omega, ← er, ← List.drop_drop, hrj]
          · refine noLs_all.mpr fun e he => ?_
            rcases List.mem_append.mp he with he | he
            · exact noLs_all.mp nl e he
            · rw [List.mem_singleton.mp he]; exact nd
      | true =>
        rw [sw, if_pos rfl] at er
        refine iteT ⟨_, rfl, _, rfl, _, rfl, L, D, l0 :: r, 1 + c, l1, r1, nu, rfl, eL5, ok, hrj', eD5, ?_⟩
        cases hs : chooseM l1 r1 nu with
        | err n =>
          rw [hs] at er
          have er : (Out.err n : Out (List PyData)).pre done c = o := er
          intro H6 s6
          have := k2 (1 + c + n) (by rw [← er, Nat.add_assoc]; rfl) H6 (s5.trans s6)
          exact this
        | ok ca n =>
          rw [hs] at er
          have er : ((stepsM q ((l1 :: r1).drop n) (putN nu ca.1 ca.2.length)).pre [chooseD ca] n).pre done c = o := er
          rw [Out.pre_pre] at er
          obtain ⟨lb, as⟩ := ca
          intro p x H6 s6 hp hd
          have eZ6 := s6 _ _ eZ5
          have eD6 := s6 _ _ eD5
          obtain ⟨nd, n1⟩ := choose_ok hs
          have hd0 : Dh H6 x (chooseD (lb, as)) := hd
          cases hd with
          | @tup q1 xs _ eq hxs =>
          cases hxs with
          | cons h1 hxs => cases hxs with
            | cons h2 hxs => cases hxs with
              | cons h3 hxs =>
          cases hxs
          cases h1
          cases h2
          cases h3 with
          | @tup q2 ys _ eq2 hys =>
          have ly : ys.length = as.length := dhA_len hys
          refine ⟨p, _, rfl, SqT.of hp, rfl, _, _, rfl, _, _, rfl, rfl, ?_⟩
          refine ⟨_, rfl, q1, _, _, .ref q2, rfl, rfl, SqT.of eq, at_of (j := 2) rfl rfl, q2, _, rfl, .inr (SqT.of eq2), _, rfl, _, rfl, q1, _, _, .str (TS lb), rfl, rfl, SqT.of eq, at_of (j := 1) rfl rfl, D, _, rfl, DPut.k (k := Sum.inr (TS lb)) eD6 ?_, ?_⟩
          · unfold nuK
            rw [List.length_map]
            exact Nat.lt_of_le_of_lt (show _ ≤ 10 by omega) (by decide)
          rw [ly, nu_put]
          have eD7 : upd H6 D (.dK (nuK (putN nu lb as.length))) D = some (.dK (nuK (putN nu lb as.length))) := upd_same
          have kt0 : SameT H6 (upd H6 D (.dK (nuK (putN nu lb as.length)))) := SameT.dk eD6
          have eZ7 : upd H6 D (.dK (nuK (putN nu lb as.length))) Z1 = some (.lst us) := by rw [upd_ne nZD]; exact eZ6
          have eL7 : upd H6 D (.dK (nuK (putN nu lb as.length))) L = some (.lst (vW (l0 :: r))) := by rw [upd_ne nLD]; exact s6 _ _ eL5
          have s67 : ∀ b o, H b = some o → upd H6 D (.dK (nuK (putN nu lb as.length))) b = some o := fun b o eb => by rw [upd_ne (ne_of_none eb hD0)]; exact s6 _ _ (s5 _ _ eb)
          have du7 := DhAll.t kt0 (du.same s6) nl
          have hd7 := Dh.t kt0 hd0 nd
          generalize upd H6 D (.dK (nuK (putN nu lb as.length))) = H7 at eD7 eZ7 eL7 s67 du7 hd7 ⊢
          refine ⟨_, rfl, .inl ⟨rfl, _, SqL.of eZ7⟩, _, rfl, Z1, _, _, rfl, rfl, eZ7, b1, ?_⟩
          have kt : SameT H7 (upd H7 Z1 (.lst (us ++ [.ref q1]))) := SameT.lst eZ7
          have pl := putN_len nu lb as.length
          refine ⟨r.length - (c + n), by omega, done ++ [chooseD (lb, as)], c + n, us ++ [.ref q1], putN nu lb as.length, some (.ref q1), rfl, ?_, ?_, upd_same, by rw [upd_ne (Ne.symm nZD)]; exact eD7, by rw [upd_ne nLZ]; exact eL7, DhAll.append (DhAll.t kt du7 nl) (.cons (Dh.t kt hd7 nd) .nil), ?_, by rw [List.length_append, List.length_append, lu]; rfl, by rw [List.length_append]; show _ + 1 ≤ 10; omega, by rw [List.length_append]; show _ ≤ _ + 1; omega, fun b o eb => by rw [upd_ne (ne_of_none eb hZ0)]; exact s67 _ _ eb⟩
          · rw [← Nat.add_assoc]; rfl
          · rw [List.length_append, show 10 - (done.length + [chooseD (lb, as)].length) = q by show 10 - (_ + 1) = q; omega, ← er, ← List.drop_drop, hrj]
          · refine noLs_all.mpr fun e he => ?_
            rcases List.mem_append.mp he with he | he
            · exact noLs_all.mp nl e he
            · rw [List.mem_singleton.mp he]; exact nd
end
end
end K79
set_option Elab.async false
set_option linter.all false
set_option maxRecDepth 100000
set_option maxHeartbeats 4000000
namespace K79
open PySem PySem.Spec PyProof.Rows L2 Lc
/-! ## data that does not reach a list that changes -/
def dl (t : Addr) (H : Hp) : Hp := fun b => if b = t then none else H b
theorem dl_at {t a : Addr} {H : Hp} {o : HO} (n : a ≠ t) (e : H a = some o) : dl t H a = some o := by
  unfold dl
  rw [if_neg n]
  exact e
theorem dl_of {t a : Addr} {H : Hp} {o : HO} (e : dl t H a = some o) : a ≠ t ∧ H a = some o := by
  unfold dl at e
  by_cases q : a = t
  · rw [if_pos q] at e; cases e
  · rw [if_neg q] at e; exact ⟨q, e⟩
theorem dl_same {t : Addr} {H H' : Hp} (s : SameB t H H') : Same (dl t H) (dl t H') := fun b o e => dl_at (dl_of e).1 (s b o (dl_of e).1 (dl_of e).2)
theorem dl_here {t : Addr} {H : Hp} : Same (dl t H) H := fun b o e => (dl_of e).2
abbrev DhT (t : Addr) (H : Hp) (v : V) (d : PyData) : Prop := Dh (dl t H) v d
theorem dts {t : Addr} {H H1 : Hp} {v : V} {d : PyData} (h : DhT t H v d) (s : Same H H1) : DhT t H1 v d := h.same (dl_same (Same.b t s))
theorem dtsA {t : Addr} {H H1 : Hp} {vs : List V} {ds : List PyData} (h : DhAll (dl t H) vs ds) (s : Same H H1) : DhAll (dl t H1) vs ds := h.same (dl_same (Same.b t s))
/-- a term that is a display of data -/
def Lit (Z : Addr) (σ : L2.St) (H0 : Hp) (te : TE) (d : PyData) : Prop := ∀ (H : Hp) (Q : VK), Same H0 H → (∀ v H', DhT Z H' v d → Same H H' → Q v H') → te σ H Q
def LitA (Z : Addr) (σ : L2.St) (H0 : Hp) (ta : TA) (ds : List PyData) : Prop := ∀ (H : Hp) (Q : List V → Hp → Prop), Same H0 H → (∀ vs H', DhAll (dl Z H') vs ds → Same H H' → Q vs H') → ta σ H Q
section
variable {Z : Addr} {σ : L2.St} {H0 : Hp}
theorem lit_non : Lit Z σ H0 (tC .non) .none := fun H Q s k => k _ _ .non (Same.refl _)
theorem lit_int {i : Int} : Lit Z σ H0 (tC (.int i)) (.int i) := fun H Q s k => k _ _ (.int _) (Same.refl _)
theorem lit_str {z : Str} : Lit Z σ H0 (tC (.str z)) (.str z) := fun H Q s k => k _ _ (.str _) (Same.refl _)
theorem lit_bl {b : Bool} : Lit Z σ H0 (tC (.bl b)) (.bool b) := fun H Q s k => k _ _ (.bl _) (Same.refl _)
theorem lita_nil : LitA Z σ H0 tNil [] := fun H Q s k => k _ _ .nil (Same.refl _)
theorem lita_cons {te : TE} {ta : TA} {d : PyData} {ds : List PyData} (h : Lit Z σ H0 te d) (r : LitA Z σ H0 ta ds) : LitA Z σ H0 (tCons te ta) (d :: ds) := fun H Q s k => h H _ s fun v H1 d1 s1 => r H1 _ (s.trans s1) fun vs H2 d2 s2 => k _ _ (.cons (dts d1 s2) d2) (s1.trans s2)
theorem lit_lst (hZ : ∃ o, H0 Z = some o) {ta : TA} {ds : List PyData} (h : LitA Z σ H0 ta ds) (l : ds.length ≤ sizeLine := by decide) : Lit Z σ H0 (tLst ta) (.list ds) := fun H Q s k => h H _ s fun vs H1 d1 s1 => ⟨by rw [d1.len]; exact l, fun p hp => by
  obtain ⟨o, hZ⟩ := hZ
  have zp := Same.upd (o := .lst vs) hp
  exact k _ _ (.lst (dl_at (Ne.symm (ne_of_none (s1 _ _ (s _ _ hZ)) hp)) upd_same) (dtsA d1 zp)) (s1.trans zp)⟩
theorem lit_var {i : Nat} {v : V} {d : PyData} (hi : σ[i]? = some (some v)) (h : DhT Z H0 v d) : Lit Z σ H0 (tVar i) d := fun H Q s k => ⟨v, hi, k v H (dts h s) (Same.refl _)⟩
theorem lit_cat (hZ : ∃ o, H0 Z = some o) {ta tb : TE} {ds es : List PyData} (h : Lit Z σ H0 ta (.list ds)) (g : Lit Z σ H0 tb (.list es)) (l : ds.length + es.length ≤ sizeLine := by decide) : Lit Z σ H0 (tOp rCat ta tb) (.list (ds ++ es)) := fun H Q s k => h H _ s fun v H1 d1 s1 => g H1 _ (s.trans s1) fun u H2 d2 s2 => by
  cases dts d1 s2 with
  | @lst a xs _ e1 e2 =>
  cases d2 with
  | @lst b ys _ g1 g2 =>
  refine ⟨_, _, _, _, rfl, rfl, (dl_of e1).2, (dl_of g1).2, by rw [e2.len, g2.len]; exact l, fun p hp => ?_⟩
  obtain ⟨o, hZ⟩ := hZ
  have zp := Same.upd (o := .lst (xs ++ ys)) hp
  exact k _ _ (.lst (dl_at (Ne.symm (ne_of_none (s2 _ _ (s1 _ _ (s _ _ hZ))) hp)) upd_same) (dtsA (e2.append g2) zp)) (s1.trans (s2.trans zp))
theorem dh_rep {H : Hp} {xs : List V} {ds : List PyData} (h : DhAll H xs ds) : ∀ n : Nat, DhAll H (List.replicate n xs).flatten (List.replicate n ds).flatten
  | 0 => .nil
  | n + 1 => by
    rw [List.replicate_succ, List.replicate_succ, List.flatten_cons, List.flatten_cons]
    exact h.append (dh_rep h n)
theorem lit_rep (hZ : ∃ o, H0 Z = some o) {ta tb : TE} {ds : List PyData} {n : Nat} (h : Lit Z σ H0 ta (.list ds)) (g : ∀ H Q, Q (.int (n : Int)) H → tb σ H Q) (l : ds.length * n ≤ 1000) (hn : n ≤ 1000) : Lit Z σ H0 (tOp rRep ta tb) (.list (List.replicate n ds).flatten) := fun H Q s k => h H _ s fun v H1 d1 s1 => g H1 _ (by
  have d0 := d1
  cases d1 with
  | @lst a xs _ e1 e2 =>
  have lx := e2.len
  refine ⟨_, _, _, rfl, rfl, (dl_of e1).2, by omega, by omega, by rw [lx, Int.toNat_natCast]; exact Nat.le_trans l (by decide), fun p hp => ?_⟩
  obtain ⟨o, hZ⟩ := hZ
  have zp := Same.upd (o := .lst (List.replicate (n : Int).toNat xs).flatten) hp
  exact k _ _ (.lst (dl_at (Ne.symm (ne_of_none (s1 _ _ (s _ _ hZ)) hp)) upd_same) (dtsA (dh_rep e2 n) zp)) (s1.trans zp))
end
/-- a local that holds a list, and a display -/
theorem cat_go {i : Nat} {σ : L2.St} {H : Hp} {Q : VK} {a : Addr} {xs ys : List V} {ta : TA} (hi : σ[i]? = some (some (.ref a))) (ha : H a = some (.lst xs)) (hta : ∀ Q : List V → Hp → Prop, Q ys H → ta σ H Q) (l : xs.length + ys.length ≤ sizeLine := by decide +kernel) (ly : ys.length ≤ sizeLine := by decide +kernel)
    (k : ∀ p H', H p = none → Same H H' → H' p = some (.lst (xs ++ ys)) → Q (.ref p) H') : tOp rCat (tVar i) (tLst ta) σ H Q := by
  refine ⟨_, hi, hta _ ⟨ly, fun q hq => ⟨_, _, _, _, rfl, rfl, Same.upd hq _ _ ha, upd_same, l, fun p hp => ?_⟩⟩⟩
  have s1 := Same.upd (o := .lst ys) hq
  exact k _ _ (same_none s1 hp) (s1.trans (Same.upd hp)) upd_same
abbrev vS (ss : List Str) : List V := ss.map V.str
abbrev sD (ss : List Str) : PyData := .list (ss.map PyData.str)
theorem dh_strs {H : Hp} {ss : List Str} {vs : List V} (h : DhAll H vs (ss.map PyData.str)) : vs = vS ss := by
  induction ss generalizing vs with
  | nil => cases h; rfl
  | cons z ss ih =>
    cases h with
    | cons h1 h2 =>
      cases h1
      rw [ih h2]
      rfl
theorem dh_sD {H : Hp} {ss : List Str} {v : V} (h : Dh H v (sD ss)) : ∃ a, v = .ref a ∧ H a = some (.lst (vS ss)) := by
  cases h with
  | @lst a xs _ e1 e2 => exact ⟨a, rfl, by rw [e1, dh_strs e2]⟩
theorem sD_dh {H : Hp} {a : Addr} (ss : List Str) (h : H a = some (.lst (vS ss))) : Dh H (.ref a) (sD ss) := .lst h (by
  clear h
  induction ss with
  | nil => exact .nil
  | cons z ss ih => exact .cons (.str _) ih)
/-! ## lines of the law -/
def lineB (z : Str) : Bool := (CL z).all (fun c => decide (32 ≤ c) && decide (c < 127)) && decide ((CL z).length ≤ 40)
structure LsB (ss : List Str) : Prop where
  ne : ss ≠ []
  len : ss.length ≤ 100
  ok : ss.all lineB = true
theorem LsB.app {a b : List Str} (h : LsB a) (l : a.length + b.length ≤ 100) (g : b.all lineB = true) : LsB (a ++ b) := ⟨fun e => h.ne (List.append_eq_nil_iff.mp e).1, by rw [List.length_append]; exact l, by rw [List.all_append, h.ok, g]; rfl⟩
theorem line_ok {z : Str} (h : lineB z = true) : LineOk (CL z) ∧ 10 ∉ CL z ∧ (CL z).length ≤ 40 := by
  unfold lineB at h
  rw [Bool.and_eq_true, decide_eq_true_eq, List.all_eq_true] at h
  have a : ∀ c ∈ CL z, 32 ≤ c ∧ c < 127 := fun c hc => by
    have := h.1 c hc
    rw [Bool.and_eq_true, decide_eq_true_eq, decide_eq_true_eq] at this
    exact this
  exact ⟨⟨⟨by omega, fun c hc => by have := a c hc; omega⟩, by omega⟩, fun m => by have := a 10 m; omega, h.2⟩
theorem LsB.spl {ss : List Str} (h : LsB ss) : spl 10 (jn 10 (ss.map CL)) = ss.map CL := spl_jn (fun e => h.ne (List.map_eq_nil_iff.mp e)) fun w hw => by
  obtain ⟨z, hz, rfl⟩ := List.mem_map.mp hw
  exact (line_ok (List.all_eq_true.mp h.ok z hz)).2.1
theorem LsB.ls {ss : List Str} (h : LsB ss) : LsOk (ss.map CL) := ⟨fun w hw => by
  obtain ⟨z, hz, rfl⟩ := List.mem_map.mp hw
  exact (line_ok (List.all_eq_true.mp h.ok z hz)).1, by rw [List.length_map]; exact h.len⟩
theorem jn_le {c : Nat} : ∀ (ws : List LN), (∀ w ∈ ws, w.length ≤ 40) → (jn c ws).length ≤ ws.length * 41
  | [], _ => Nat.zero_le _
  | [w], h => by have := h w (List.mem_cons_self); show w.length ≤ 1 * 41; omega
  | w :: u :: ws, h => by
    have ih := jn_le (c := c) (u :: ws) fun w hw => h w (List.mem_cons_of_mem _ hw)
    have := h w (List.mem_cons_self)
    rw [jn_cons (List.cons_ne_nil _ _), List.length_append]
    simp only [List.length_cons] at ih ⊢
    omega
theorem LsB.jlen {ss : List Str} (h : LsB ss) : (jn 10 (ss.map CL)).length ≤ 4100 := by
  have := jn_le (c := 10) (ss.map CL) fun w hw => by
    obtain ⟨z, hz, rfl⟩ := List.mem_map.mp hw
    exact (line_ok (List.all_eq_true.mp h.ok z hz)).2.2
  rw [List.length_map] at this
  have := h.len
  omega
def tx (ss : List Str) : LN := jn 10 (ss.map CL)
theorem join_tx (ss : List Str) : Txt.join (PySem.Str.ofString "\n") ss = TS (tx ss) := by
  have nE : (PySem.Str.ofString "\n") = ⟨#[10]⟩ := by decide +kernel
  have e : ss = (ss.map CL).map TS := by
    rw [List.map_map]
    refine (List.map_id'' (fun z => ts_cl z) ss).symm
  rw [nE]
  unfold tx
  refine Eq.trans (congrArg _ e) ((StrLaws.glued_eq_join _ _).trans (join_TS _))
def posS (ss : List Str) : Option Nat := (pipeM (ss.map CL)).pos
def toldD : Option Nat → PyData
  | none => .str "read"
  | some n => .list [.int (n : Int), .bool true]
def badS : List Str := (["", " distinct", "distinct ", "distinct x", "Distinct", "keep", "keep ", "keep (not a"] : List Str) ++ (["keep a b", "set", "set a", "set A b", "set a ", "select", "select a b c d e f g h i", "select a a"] : List Str) ++ (["select A", "select a  b", "rename a", "rename a b c", "sort a", "sort a Up", "sort a up up", "first"] : List Str) ++ (["first -1", "first 01", "first 1001", "first x", "sample 1 2", "sample 3 2 0", "sample 0 0 0", "sample 1 1001 0"] : List Str) ++ (["sample 1 2 1000000001", "join b", "join b on", "join b on a a", "join b on a b c d", "join B on a", "join b in a", "union"] : List Str) ++ (["union B", "union a b", "group a a", "group A", "group a b c d", "choose", "choose X", "choose a b"] : List Str) ++ (["  or", "    distinct", "total a sum b", "from b", "choosex a", "or"] : List Str)
def totS : List Str := (["  total", "  total s", "  total s sum", "  total s sum v w", "  total S sum v", "  total s add v", "  total s sum V", "total s sum v"] : List Str) ++ ([" total s sum v", "   total s sum v", "  totals s sum v", ""] : List Str)
def goodS : List (List Str) := [(["distinct"] : List Str), (["keep (less a =1/2)"] : List Str), (["set b a"] : List Str), (["select a b c d e f g h"] : List Str), (["rename a b"] : List Str), (["sort a down"] : List Str), (["first 1000"] : List Str), (["sample 0 1 1000000000"] : List Str), (["join b on a"] : List Str), (["union b"] : List Str), (["group", "  total s sum v"] : List Str), (["group a b c", "  total d count a", "  total e mean v"] : List Str)]
theorem bad_line : badS.all lineB = true := by decide +kernel
theorem tot_line : totS.all lineB = true := by decide +kernel
theorem good_line : goodS.all (fun g => g.all lineB) = true := by decide +kernel
theorem dhA_get {H : Hp} {xs : List V} {ds : List PyData} (h : DhAll H xs ds) {d : PyData} : ∀ {j : Nat}, ds[j]? = some d → ∃ x, xs[j]? = some x ∧ Dh H x d := by
  intro j e
  have lj := (List.getElem?_eq_some_iff.mp e).1
  have lx : j < xs.length := by rw [h.len]; exact lj
  obtain ⟨d', e1, e2⟩ := h.get j _ (List.getElem?_eq_getElem lx)
  rw [e] at e1
  cases e1
  exact ⟨_, List.getElem?_eq_getElem lx, e2⟩
theorem big20 {n : Int} (h1 : 0 < n) (h2 : n ≤ 1000) : n.natAbs < 2 ^ 4000 := by
  have : (1000 : Nat) < 2 ^ 4000 := by decide +kernel
  omega
def spLs (ss : List Str) : Sp := fun vs H Q _ => vs = [] ∧ ∀ p H', H p = none → Same H H' → H' p = some (.lst (vS ss)) → Q (.ref p) H'
def spGd : Sp := fun vs H Q _ => ∃ (t c : Addr), vs = [.ref t] ∧ TapeL c H t ∧ ∀ g ∈ goodS, ∀ p H', p ≠ t → H' p = some (.lst (vS g)) → TapeL c H' t → SameB t H H' → Q (.ref p) H'
def spTo : Sp := fun vs H Q _ => ∃ (v : V), vs = [v] ∧ ((∃ t, TyN H v t ∧ t ≠ "str" ∧ ∀ u H', Same H H' → Dh H' u (toldD (some 0)) → Q u H') ∨ ∃ ss, v = .str (TS (tx ss)) ∧ LsB ss ∧ ∀ u H', Same H H' → Dh H' u (toldD (posS ss)) → Q u H')
def spAt : Sp := fun vs H Q _ => ∃ (L : Addr) (ss : List Str) (n : Nat), vs = [.ref L, .int (n : Int)] ∧ H L = some (.lst (vS ss)) ∧ LsB ss ∧ posS ss = some n ∧ ∀ H', Same H H' → Q (.bl true) H'
section
variable {P : Program} {w : World} {K : PySem.W.Frag} {mg : Str → Option Value} {base : Heap} {f : Addr} {fd : FuncData}
abbrev sBl : Stmt := top 68
abbrev nBl : List Str := ["_law_some"]
abbrev pBl : List Str := []
theorem scBl : FnScope nBl pBl (defScope sBl) := ⟨rfl, rfl, rfl, by decide +kernel, rfl, by decide +kernel, by decide +kernel⟩
section
theorem ok_Bl (F : Fun K "_law_bad_lines" "_law_bad_lines" sBl f fd) (T : Bt mg) : FnOk P w K mg base CX0 1 f fd pBl (spLs badS) := by
  refine F.ok scBl (fun vs H Q E h => ?_) (fun cdv A outer s H vs Q E hr h => ?_)
  · obtain ⟨rfl, _⟩ := h
    rfl
  · obtain ⟨rfl, k⟩ := h
    refine ⟨_, (pss_cons (ps_set (i := 0) scBl.nd rfl (Or.inl rfl) (pe_lst (pa_cons pe_str (pa_cons pe_str (pa_cons pe_str (pa_cons pe_str (pa_cons pe_str (pa_cons pe_str (pa_cons pe_str (pa_cons pe_str pa_nil))))))))))
      (pss_cons (ps_set (i := 0) scBl.nd rfl (Or.inl rfl) (pe_op op_cat (pv 0) (pe_lst (pa_cons pe_str pa_nil))))
      (pss_cons (ps_set (i := 0) scBl.nd rfl (Or.inl rfl) (pe_op op_cat (pv 0) (pe_lst (pa_cons pe_str (pa_cons pe_str (pa_cons pe_str (pa_cons pe_str (pa_cons pe_str (pa_cons pe_str pa_nil)))))))))
      (pss_cons (ps_set (i := 0) scBl.nd rfl (Or.inl rfl) (pe_op op_cat (pv 0) (pe_lst (pa_cons pe_str (pa_cons pe_str pa_nil)))))
      (pss_cons (ps_set (i := 0) scBl.nd rfl (Or.inl rfl) (pe_op op_cat (pv 0) (pe_lst (pa_cons pe_str pa_nil))))
      (pss_cons (ps_set (i := 0) scBl.nd rfl (Or.inl rfl) (pe_op op_cat (pv 0) (pe_lst (pa_cons pe_str (pa_cons pe_str (pa_cons pe_str (pa_cons pe_str (pa_cons pe_str (pa_cons pe_str pa_nil)))))))))
      (pss_cons (ps_set (i := 0) scBl.nd rfl (Or.inl rfl) (pe_op op_cat (pv 0) (pe_lst (pa_cons pe_str pa_nil))))
      (pss_cons (ps_set (i := 0) scBl.nd rfl (Or.inl rfl) (pe_op op_cat (pv 0) (pe_lst (pa_cons pe_str (pa_cons pe_str (pa_cons pe_str pa_nil))))))
      (pss_cons (ps_set (i := 0) scBl.nd rfl (Or.inl rfl) (pe_op op_cat (pv 0) (pe_lst (pa_cons pe_str (pa_cons pe_str (pa_cons pe_str (pa_cons pe_str pa_nil)))))))
      (pss_cons (ps_set (i := 0) scBl.nd rfl (Or.inl rfl) (pe_op op_cat (pv 0) (pe_lst (pa_cons pe_str pa_nil))))
      (pss_cons (ps_set (i := 0) scBl.nd rfl (Or.inl rfl) (pe_op op_cat (pv 0) (pe_lst (pa_cons pe_str (pa_cons pe_str (pa_cons pe_str (pa_cons pe_str (pa_cons pe_str pa_nil))))))))
      (pss_cons (ps_set (i := 0) scBl.nd rfl (Or.inl rfl) (pe_op op_cat (pv 0) (pe_lst (pa_cons pe_str pa_nil))))
      (pss_cons (ps_set (i := 0) scBl.nd rfl (Or.inl rfl) (pe_op op_cat (pv 0) (pe_lst (pa_cons pe_str (pa_cons pe_str (pa_cons pe_str (pa_cons pe_str (pa_cons pe_str (pa_cons pe_str (pa_cons pe_str pa_nil))))))))))
      (pss_cons (ps_set (i := 0) scBl.nd rfl (Or.inl rfl) (pe_op op_cat (pv 0) (pe_lst (pa_cons pe_str pa_nil))))
      (pss_cons (ps_expr (pe_bm PySem.F.plainAttrs_list PySem.F.slot_list_append PySem.F.type_list_append mt_append (pv 0) (pa_cons pe_str pa_nil)))
      (pss_one (ps_ret (pe_op op_cat (pv 0) (pe_lst (pa_cons pe_str (pa_cons pe_str (pa_cons pe_str (pa_cons pe_str (pa_cons pe_str (pa_cons pe_str pa_nil))))))))))))))))))))))))), ?_⟩
    refine ⟨by show 8 ≤ sizeLine; decide, fun p0 h0 => ?_⟩
    have s0 := Same.upd (H := H) (o := .lst [.str "", .str " distinct", .str "distinct ", .str "distinct x", .str "Distinct", .str "keep", .str "keep ", .str "keep (not a"]) h0
    have e0 : upd H p0 (.lst [.str "", .str " distinct", .str "distinct ", .str "distinct x", .str "Distinct", .str "keep", .str "keep ", .str "keep (not a"]) p0 = some (.lst [.str "", .str " distinct", .str "distinct ", .str "distinct x", .str "Distinct", .str "keep", .str "keep ", .str "keep (not a"]) := upd_same
    generalize upd H p0 (.lst [.str "", .str " distinct", .str "distinct ", .str "distinct x", .str "Distinct", .str "keep", .str "keep ", .str "keep (not a"]) = H0 at s0 e0 ⊢
    refine cat_go (i := 0) rfl e0 (fun Q h => h) (k := fun p1 H1 h1 s1 e1 => ?_)
    have s0 := s0.trans s1
    refine cat_go (i := 0) rfl e1 (fun Q h => h) (k := fun p2 H2 h2 s2 e2 => ?_)
    have s0 := s0.trans s2
    refine cat_go (i := 0) rfl e2 (fun Q h => h) (k := fun p3 H3 h3 s3 e3 => ?_)
    have s0 := s0.trans s3
    refine cat_go (i := 0) rfl e3 (fun Q h => h) (k := fun p4 H4 h4 s4 e4 => ?_)
    have s0 := s0.trans s4
    refine cat_go (i := 0) rfl e4 (fun Q h => h) (k := fun p5 H5 h5 s5 e5 => ?_)
    have s0 := s0.trans s5
    refine cat_go (i := 0) rfl e5 (fun Q h => h) (k := fun p6 H6 h6 s6 e6 => ?_)
    have s0 := s0.trans s6
    refine cat_go (i := 0) rfl e6 (fun Q h => h) (k := fun p7 H7 h7 s7 e7 => ?_)
    have s0 := s0.trans s7
    refine cat_go (i := 0) rfl e7 (fun Q h => h) (k := fun p8 H8 h8 s8 e8 => ?_)
    have s0 := s0.trans s8
    refine cat_go (i := 0) rfl e8 (fun Q h => h) (k := fun p9 H9 h9 s9 e9 => ?_)
    have s0 := s0.trans s9
    refine cat_go (i := 0) rfl e9 (fun Q h => h) (k := fun p10 H10 h10 s10 e10 => ?_)
    have s0 := s0.trans s10
    refine cat_go (i := 0) rfl e10 (fun Q h => h) (k := fun p11 H11 h11 s11 e11 => ?_)
    have s0 := s0.trans s11
    refine cat_go (i := 0) rfl e11 (fun Q h => h) (k := fun p12 H12 h12 s12 e12 => ?_)
    have s0 := s0.trans s12
    refine cat_go (i := 0) rfl e12 (fun Q h => h) (k := fun p13 H13 h13 s13 e13 => ?_)
    have s00 := s0
    have s0 := s0.trans s13
    refine ⟨_, rfl, .inl ⟨rfl, _, SqL.of e13⟩, p13, _, _, rfl, rfl, e13, by decide +kernel, ?_⟩
    have hq : H p13 = none := same_none s00 h13
    refine cat_go (i := 0) rfl upd_same (fun Q h => h) (k := fun p H' hp s e => ?_)
    have ss : Same H H' := fun b o eb => s _ _ (by rw [upd_ne (ne_of_none eb hq)]; exact s0 _ _ eb)
    exact k p H' (same_none (fun b o eb => by rw [upd_ne (ne_of_none eb hq)]; exact s0 _ _ eb) hp) ss (by rw [e]; rfl)
end
abbrev sBtt : Stmt := top 69
abbrev nBtt : List Str := ["_law_some"]
abbrev pBtt : List Str := []
theorem scBtt : FnScope nBtt pBtt (defScope sBtt) := ⟨rfl, rfl, rfl, by decide +kernel, rfl, by decide +kernel, by decide +kernel⟩
section
theorem ok_Btt (F : Fun K "_law_bad_totals" "_law_bad_totals" sBtt f fd) (T : Bt mg) : FnOk P w K mg base CX0 1 f fd pBtt (spLs totS) := by
  refine F.ok scBtt (fun vs H Q E h => ?_) (fun cdv A outer s H vs Q E hr h => ?_)
  · obtain ⟨rfl, _⟩ := h
    rfl
  · obtain ⟨rfl, k⟩ := h
    refine ⟨_, (pss_cons (ps_set (i := 0) scBtt.nd rfl (Or.inl rfl) (pe_lst (pa_cons pe_str (pa_cons pe_str (pa_cons pe_str (pa_cons pe_str (pa_cons pe_str pa_nil)))))))
      (pss_cons (ps_set (i := 0) scBtt.nd rfl (Or.inl rfl) (pe_op op_cat (pv 0) (pe_lst (pa_cons pe_str pa_nil))))
      (pss_one (ps_ret (pe_op op_cat (pv 0) (pe_lst (pa_cons pe_str (pa_cons pe_str (pa_cons pe_str (pa_cons pe_str (pa_cons pe_str (pa_cons pe_str pa_nil)))))))))))), ?_⟩
    refine ⟨by show 5 ≤ sizeLine; decide, fun p0 h0 => ?_⟩
    have s0 := Same.upd (H := H) (o := .lst [.str "  total", .str "  total s", .str "  total s sum", .str "  total s sum v w", .str "  total S sum v"]) h0
    have e0 : upd H p0 (.lst [.str "  total", .str "  total s", .str "  total s sum", .str "  total s sum v w", .str "  total S sum v"]) p0 = some (.lst [.str "  total", .str "  total s", .str "  total s sum", .str "  total s sum v w", .str "  total S sum v"]) := upd_same
    generalize upd H p0 (.lst [.str "  total", .str "  total s", .str "  total s sum", .str "  total s sum v w", .str "  total S sum v"]) = H0 at s0 e0 ⊢
    refine cat_go (i := 0) rfl e0 (fun Q h => h) (k := fun p1 H1 h1 s1 e1 => ?_)
    have s0 := s0.trans s1
    refine cat_go (i := 0) rfl e1 (fun Q h => h) (k := fun p H' hp s e => ?_)
    exact k p H' (same_none s0 hp) (s0.trans s) (by rw [e]; rfl)
end
abbrev sGd : Stmt := top 70
abbrev nGd : List Str := ["_law_tape_here", "_law_some"]
abbrev pGd : List Str := ["_law_tape_here"]
theorem scGd : FnScope nGd pGd (defScope sGd) := ⟨rfl, rfl, rfl, by decide +kernel, rfl, by decide +kernel, by decide +kernel⟩
section
variable {fA_ : Addr} {fdA_ : FuncData}
theorem ok_Gd (F : Fun K "_law_good" "_law_good" sGd f fd) (T : Bt mg)
    (GA_ : FnOk P w K mg base CX0 1 fA_ fdA_ ["_law_tape_here", "_law_many"] (spDrawL)) (mA_ : mg "_law_draw" = some (.ref fA_)) (kA_ : PySem.W.keepIn K (.ref fA_) = true) (bA_ : Binds K fdA_ ["_law_tape_here", "_law_many"] []) : FnOk P w K mg base CX0 2 f fd pGd (spGd) := by
  refine F.ok scGd (fun vs H Q E h => ?_) (fun cdv A outer s H vs Q E hr h => ?_)
  · obtain ⟨t, c, rfl, _⟩ := h
    rfl
  · obtain ⟨t, c, rfl, hT, k⟩ := h
    have hrA_ : Room (1) _ := hr.mono (by first | decide | omega)
    refine ⟨_, (pss_cons (ps_set (i := 1) scGd.nd rfl (Or.inl rfl) (pe_lst (pa_cons (pe_lst (pa_cons pe_str pa_nil)) (pa_cons (pe_lst (pa_cons pe_str pa_nil)) (pa_cons (pe_lst (pa_cons pe_str pa_nil)) (pa_cons (pe_lst (pa_cons pe_str pa_nil)) pa_nil))))))
      (pss_cons (ps_set (i := 1) scGd.nd rfl (Or.inl rfl) (pe_op op_cat (pv 1) (pe_lst (pa_cons (pe_lst (pa_cons pe_str pa_nil)) pa_nil))))
      (pss_cons (ps_set (i := 1) scGd.nd rfl (Or.inl rfl) (pe_op op_cat (pv 1) (pe_lst (pa_cons (pe_lst (pa_cons pe_str pa_nil)) pa_nil))))
      (pss_cons (ps_set (i := 1) scGd.nd rfl (Or.inl rfl) (pe_op op_cat (pv 1) (pe_lst (pa_cons (pe_lst (pa_cons pe_str pa_nil)) (pa_cons (pe_lst (pa_cons pe_str pa_nil)) (pa_cons (pe_lst (pa_cons pe_str pa_nil)) (pa_cons (pe_lst (pa_cons pe_str pa_nil)) pa_nil)))))))
      (pss_cons (ps_set (i := 1) scGd.nd rfl (Or.inl rfl) (pe_op op_cat (pv 1) (pe_lst (pa_cons (pe_lst (pa_cons pe_str (pa_cons pe_str pa_nil))) pa_nil))))
      (pss_cons (ps_set (i := 1) scGd.nd rfl (Or.inl rfl) (pe_op op_cat (pv 1) (pe_lst (pa_cons (pe_lst (pa_cons pe_str (pa_cons pe_str (pa_cons pe_str pa_nil)))) pa_nil))))
      (pss_one (ps_ret (pe_ix ix_list (pv 1) (pe_call GA_ hrA_ (by rfl) mA_ kA_ bA_ .nil pass0 (pa_cons (pv 0) (pa_cons pe_int pa_nil))) (fun _ _ => rfl)))))))))), ?_⟩
    have hZ : ∃ o, H t = some o := by obtain ⟨_, _, _, _, h1, _⟩ := hT; exact ⟨_, h1⟩
    have S0 := Same.refl H
    unfold tSeq tAsg
    refine ((lit_lst hZ (lita_cons (lit_lst hZ (lita_cons lit_str lita_nil) (l := by show 1 ≤ sizeLine; decide)) (lita_cons (lit_lst hZ (lita_cons lit_str lita_nil) (l := by show 1 ≤ sizeLine; decide)) (lita_cons (lit_lst hZ (lita_cons lit_str lita_nil) (l := by show 1 ≤ sizeLine; decide)) (lita_cons (lit_lst hZ (lita_cons lit_str lita_nil) (l := by show 1 ≤ sizeLine; decide)) lita_nil)))) (l := by show 4 ≤ sizeLine; decide))) _ _ (Same.refl _) fun v1 H1 d1 s1 => ?_
    have S0 := S0.trans s1
    have hZ : ∃ o, H1 t = some o := by obtain ⟨o, e⟩ := hZ; exact ⟨o, s1 _ _ e⟩
    refine (lit_cat hZ (lit_var (i := 1) rfl d1) (lit_lst hZ (lita_cons (lit_lst hZ (lita_cons lit_str lita_nil) (l := by show 1 ≤ sizeLine; decide)) lita_nil) (l := by show 1 ≤ sizeLine; decide)) (l := by show 4 + 1 ≤ sizeLine; decide)) _ _ (Same.refl _) fun v2 H2 d2 s2 => ?_
    have S0 := S0.trans s2
    have hZ : ∃ o, H2 t = some o := by obtain ⟨o, e⟩ := hZ; exact ⟨o, s2 _ _ e⟩
    refine (lit_cat hZ (lit_var (i := 1) rfl d2) (lit_lst hZ (lita_cons (lit_lst hZ (lita_cons lit_str lita_nil) (l := by show 1 ≤ sizeLine; decide)) lita_nil) (l := by show 1 ≤ sizeLine; decide)) (l := by show 5 + 1 ≤ sizeLine; decide)) _ _ (Same.refl _) fun v3 H3 d3 s3 => ?_
    have S0 := S0.trans s3
    have hZ : ∃ o, H3 t = some o := by obtain ⟨o, e⟩ := hZ; exact ⟨o, s3 _ _ e⟩
    refine (lit_cat hZ (lit_var (i := 1) rfl d3) (lit_lst hZ (lita_cons (lit_lst hZ (lita_cons lit_str lita_nil) (l := by show 1 ≤ sizeLine; decide)) (lita_cons (lit_lst hZ (lita_cons lit_str lita_nil) (l := by show 1 ≤ sizeLine; decide)) (lita_cons (lit_lst hZ (lita_cons lit_str lita_nil) (l := by show 1 ≤ sizeLine; decide)) (lita_cons (lit_lst hZ (lita_cons lit_str lita_nil) (l := by show 1 ≤ sizeLine; decide)) lita_nil)))) (l := by show 4 ≤ sizeLine; decide)) (l := by show 6 + 4 ≤ sizeLine; decide)) _ _ (Same.refl _) fun v4 H4 d4 s4 => ?_
    have S0 := S0.trans s4
    have hZ : ∃ o, H4 t = some o := by obtain ⟨o, e⟩ := hZ; exact ⟨o, s4 _ _ e⟩
    refine (lit_cat hZ (lit_var (i := 1) rfl d4) (lit_lst hZ (lita_cons (lit_lst hZ (lita_cons lit_str (lita_cons lit_str lita_nil)) (l := by show 2 ≤ sizeLine; decide)) lita_nil) (l := by show 1 ≤ sizeLine; decide)) (l := by show 10 + 1 ≤ sizeLine; decide)) _ _ (Same.refl _) fun v5 H5 d5 s5 => ?_
    have S0 := S0.trans s5
    have hZ : ∃ o, H5 t = some o := by obtain ⟨o, e⟩ := hZ; exact ⟨o, s5 _ _ e⟩
    refine (lit_cat hZ (lit_var (i := 1) rfl d5) (lit_lst hZ (lita_cons (lit_lst hZ (lita_cons lit_str (lita_cons lit_str (lita_cons lit_str lita_nil))) (l := by show 3 ≤ sizeLine; decide)) lita_nil) (l := by show 1 ≤ sizeLine; decide)) (l := by show 11 + 1 ≤ sizeLine; decide)) _ _ (Same.refl _) fun v6 H6 d6 s6 => ?_
    have S0 := S0.trans s6
    have hZ : ∃ o, H6 t = some o := by obtain ⟨o, e⟩ := hZ; exact ⟨o, s6 _ _ e⟩
    have d6 : DhT t H6 v6 (.list (goodS.map sD)) := d6
    cases d6 with
    | @lst A xs _ eA dA =>
    obtain ⟨nA, eA⟩ := dl_of eA
    refine ⟨_, rfl, _, rfl, t, c, _, rfl, hT.same S0, by decide, big20 (by decide) (by decide), fun k3 H7 u3 w3 T7 S7 => ?_⟩
    have lj : k3.toNat < (goodS.map sD).length := by show k3.toNat < 12; omega
    have hj : k3.toNat < goodS.length := by show k3.toNat < 12; omega
    have gj : (goodS.map sD)[k3.toNat]? = some (sD (goodS[k3.toNat]'hj)) := by rw [List.getElem?_map, List.getElem?_eq_getElem hj]; rfl
    obtain ⟨x, hx, dx⟩ := dhA_get dA gj
    obtain ⟨p, rfl, ep⟩ := dh_sD dx
    obtain ⟨np, ep⟩ := dl_of ep
    exact ⟨_, _, _, _, rfl, rfl, SqL.of (S7 _ _ nA eA), at_of (j := k3.toNat) (by omega) hx, k _ (List.getElem_mem hj) p H7 np (S7 _ _ np ep) T7 ((Same.b t S0).trans S7)⟩
end
end
end K79
set_option Elab.async false
set_option linter.all false
set_option maxRecDepth 100000
set_option maxHeartbeats 4000000
namespace K79
open PySem PySem.Spec PyProof.Rows L2 Lc
/-! ## where the faults are due -/
def NT : List LN → Prop
  | [] => True
  | l :: _ => totalT [32, 32] l = none
def wsL (l : LN) : List LN := spl 32 (cutp [] l)
def isOk1 : Out PyData → Bool
  | .ok _ 1 => true
  | _ => false
def isErr0 : Out PyData → Bool
  | .err 0 => true
  | _ => false
def goodB : List LN → Bool
  | [] => false
  | l :: r => !stw chL l && (totalT [32, 32] l).isNone && (if TS (hdW (wsL l)) = "group" then namesM ((wsL l).drop 1) 0 3 && decide (r ≠ []) && decide ((totsM [32, 32] r ((wsL l).drop 1) 0).length = r.length) else decide (r = []) && isOk1 (readW (wsL l)))
def badB (l : LN) : Bool := (totalT [32, 32] l).isNone && (if stw chL l = true then !nmL (cutp chL l) else (if TS (hdW (wsL l)) = "group" then !namesM ((wsL l).drop 1) 0 3 else isErr0 (readW (wsL l))))
theorem tots_stop {r : List LN} (h : NT r) (tk : List LN) (n : Nat) : totsM [32, 32] r tk n = [] := by
  cases r with
  | nil => rfl
  | cons l r =>
    have h : totalT [32, 32] l = none := h
    rw [totsM, h]
    split <;> rfl
theorem tots_app {rest : List LN} (h : NT rest) : ∀ (r tk : List LN) (n : Nat), (totsM [32, 32] r tk n).length = r.length → totsM [32, 32] (r ++ rest) tk n = totsM [32, 32] r tk n
  | [], tk, n, _ => by rw [List.nil_append, tots_stop h]; rfl
  | l :: r, tk, n, e => by
    rw [List.cons_append, totsM, totsM]
    rw [totsM] at e
    split
    · rename_i c
      rw [if_pos c] at e
      cases q : totalT [32, 32] l with
      | none => simp [q] at e
      | some t =>
        rw [q] at e
        dsimp only at e ⊢
        split
        · rfl
        · rename_i c2
          rw [if_neg c2] at e
          rw [tots_app h r _ _ (by simp only [List.length_cons] at e; omega)]
    · rfl
theorem good_step {l : LN} {r : List LN} (h : goodB (l :: r) = true) {rest : List LN} (nt : NT rest) : ∃ d, stepM [] l (r ++ rest) = .ok d (1 + r.length) := by
  unfold goodB at h
  rw [Bool.and_eq_true, Bool.and_eq_true] at h
  obtain ⟨_, h⟩ := h
  show ∃ d, stepW [] (wsL l) (r ++ rest) = _
  unfold stepW
  split at h
  · rename_i g
    rw [if_pos g]
    rw [Bool.and_eq_true, Bool.and_eq_true, decide_eq_true_eq, decide_eq_true_eq] at h
    obtain ⟨⟨h1, h2⟩, h3⟩ := h
    unfold groupN
    rw [h1, if_pos rfl]
    have e := tots_app nt r _ 0 h3
    have e : totsM ([] ++ [32, 32]) (r ++ rest) ((wsL l).drop 1) 0 = totsM [32, 32] r ((wsL l).drop 1) 0 := e
    rw [e, if_neg (by rw [h3]; cases r with
      | nil => exact absurd rfl h2
      | cons a b => simp), h3]
    exact ⟨_, rfl⟩
  · rename_i g
    rw [if_neg g]
    rw [Bool.and_eq_true, decide_eq_true_eq] at h
    obtain ⟨rfl, h⟩ := h
    cases e : readW (wsL l) with
    | err n => rw [e] at h; cases h
    | ok d n =>
      rw [e] at h
      match n, h with
      | 1, _ => exact ⟨d, rfl⟩
theorem good_head {l : LN} {r : List LN} (h : goodB (l :: r) = true) : stw chL l = false ∧ totalT [32, 32] l = none := by
  unfold goodB at h
  rw [Bool.and_eq_true, Bool.and_eq_true] at h
  exact ⟨by simpa using h.1.1, by simpa using h.1.2⟩
theorem pre_pos {α : Type} {a : List α} {c : Nat} (o : Out (List α)) : (o.pre a c).pos = o.pos.map (c + ·) := by cases o <;> rfl
theorem pos_good {g : List LN} (h : goodB g = true) {rest : List LN} (nt : NT rest) (k : Nat) (nu : Nu) : (stepsM (k + 1) (g ++ rest) nu).pos = (stepsM k rest nu).pos.map (g.length + ·) := by
  cases g with
  | nil => cases h
  | cons l r =>
    obtain ⟨h1, _⟩ := good_head h
    obtain ⟨d, e⟩ := good_step h nt
    rw [List.cons_append, stepsM, h1, if_neg (by decide), e]
    show ((stepsM k ((l :: (r ++ rest)).drop (1 + r.length)) nu).pre [d] (1 + r.length)).pos = _
    rw [pre_pos, Nat.add_comm 1 r.length, List.drop_succ_cons, List.drop_left]
    rfl
theorem bad_pos {l : LN} (h : badB l = true) (k : Nat) (r : List LN) (nu : Nu) : (stepsM (k + 1) (l :: r) nu).pos = some 0 := by
  unfold badB at h
  rw [Bool.and_eq_true] at h
  obtain ⟨_, h⟩ := h
  rw [stepsM]
  split at h
  · rename_i c
    rw [if_pos c]
    unfold chooseM chooseL
    rw [if_neg (by simpa using h)]
    rfl
  · rename_i c
    rw [if_neg c]
    have e : stepM [] l r = .err 0 := by
      show stepW [] (wsL l) r = _
      unfold stepW
      split at h
      · rename_i g
        rw [if_pos g]
        unfold groupN
        rw [if_neg (by simpa using h)]
      · rename_i g
        rw [if_neg g]
        cases e : readW (wsL l) with
        | ok d n => rw [e] at h; cases h
        | err n =>
          rw [e] at h
          match n, h with
          | 0, _ => rfl
    rw [e]
    rfl
theorem bad_nt {l : LN} (h : badB l = true) (r : List LN) : NT (l :: r) := by
  unfold badB at h
  rw [Bool.and_eq_true] at h
  show totalT [32, 32] l = none
  simpa using h.1
theorem good_all : goodS.all (fun g => goodB (g.map CL)) = true := by decide +kernel
theorem bad_all : badS.all (fun z => badB (CL z)) = true := by decide +kernel
theorem tot_all : totS.all (fun z => badB (CL z)) = true := by decide +kernel
/-- the first lines: a source, and up to six steps -/
def lead (gs : List (List Str)) : List Str := "from a" :: gs.flatten
structure Gs (gs : List (List Str)) : Prop where
  len : gs.length ≤ 6
  ok : ∀ g ∈ gs, g ∈ goodS
theorem good_of {g : List Str} (h : g ∈ goodS) : goodB (g.map CL) = true ∧ g.all lineB = true ∧ g.length ≤ 3 :=
  ⟨List.all_eq_true.mp good_all g h, List.all_eq_true.mp good_line g h, of_decide_eq_true (List.all_eq_true.mp (show goodS.all (fun g => decide (g.length ≤ 3)) = true by decide +kernel) g h)⟩
theorem nt_good {g : List LN} (h : goodB g = true) (rest : List LN) : NT (g ++ rest) := by
  cases g with
  | nil => cases h
  | cons l r => exact (good_head h).2
theorem nt_flat : ∀ (gs : List (List Str)), (∀ g ∈ gs, g ∈ goodS) → ∀ {rest : List LN}, NT rest → NT (gs.flatten.map CL ++ rest)
  | [], _, rest, h => h
  | g :: gs, hg, rest, h => by
    rw [List.flatten_cons, List.map_append, List.append_assoc]
    exact nt_good (good_of (hg g (List.mem_cons_self))).1 _
theorem pos_flat (nu : Nu) : ∀ (gs : List (List Str)), (∀ g ∈ gs, g ∈ goodS) → ∀ {rest : List LN}, NT rest → ∀ k, (stepsM (k + gs.length) (gs.flatten.map CL ++ rest) nu).pos = (stepsM k rest nu).pos.map (gs.flatten.length + ·)
  | [], _, rest, h, k => by
    show (stepsM k rest nu).pos = (stepsM k rest nu).pos.map (0 + ·)
    cases (stepsM k rest nu).pos with
    | none => rfl
    | some n => show some n = some (0 + n); rw [Nat.zero_add]
  | g :: gs, hg, rest, h, k => by
    have hg1 := fun g h => hg g (List.mem_cons_of_mem _ h)
    rw [List.flatten_cons, List.map_append, List.append_assoc, List.length_cons, ← Nat.add_assoc, pos_good (good_of (hg g (List.mem_cons_self))).1 (nt_flat gs hg1 h), pos_flat nu gs hg1 h k, List.length_append, List.length_map]
    cases (stepsM k rest nu).pos with
    | none => rfl
    | some n => show some (g.length + (gs.flatten.length + n)) = some (g.length + gs.flatten.length + n); rw [Nat.add_assoc]
theorem src_a : srcB (CL "from a") = true := by decide +kernel
theorem pos_base {gs : List (List Str)} (G : Gs gs) {rest : List Str} (h : NT (rest.map CL)) : posS (lead gs ++ rest) = (stepsM (10 - gs.length) (rest.map CL) []).pos.map ((lead gs).length + ·) := by
  unfold posS lead
  rw [List.cons_append, List.map_cons, pipe_cons, src_a, if_pos rfl, List.map_append]
  have e := pos_flat [] gs G.ok h (10 - gs.length)
  rw [show 10 - gs.length + gs.length = 10 by have := G.len; omega] at e
  generalize stepsM 10 (gs.flatten.map CL ++ rest.map CL) [] = o at e ⊢
  have e2 : o.sh.pos = o.pos.map (1 + ·) := by cases o <;> rfl
  rw [e2, e]
  cases (stepsM (10 - gs.length) (rest.map CL) []).pos with
  | none => rfl
  | some n => show some (1 + (gs.flatten.length + n)) = some (gs.flatten.length + 1 + n); congr 1; omega
theorem flat_len : ∀ (gs : List (List Str)), (∀ g ∈ gs, g ∈ goodS) → gs.flatten.length ≤ gs.length * 3 ∧ gs.flatten.all lineB = true
  | [], _ => ⟨Nat.le_refl _, rfl⟩
  | g :: gs, h => by
    obtain ⟨h1, h2⟩ := flat_len gs fun g q => h g (List.mem_cons_of_mem _ q)
    obtain ⟨_, h3, h4⟩ := good_of (h g (List.mem_cons_self))
    rw [List.flatten_cons, List.length_append, List.length_cons, List.all_append, h2, h3]
    exact ⟨by omega, rfl⟩
theorem lead_len {gs : List (List Str)} (G : Gs gs) : (lead gs).length ≤ 19 := by
  have := (flat_len gs G.ok).1
  have := G.len
  unfold lead
  rw [List.length_cons]
  omega
theorem lead_ok {gs : List (List Str)} (G : Gs gs) : LsB (lead gs) := ⟨List.cons_ne_nil _ _, Nat.le_trans (lead_len G) (by decide), by
  unfold lead
  rw [List.all_cons, (flat_len gs G.ok).2]
  exact (by decide +kernel : (lineB "from a" && true) = true)⟩
/-- behind the first lines: a fixed part -/
def dueB (rest : List Str) (x : Option Nat) : Bool := rest.all lineB && decide (rest.length ≤ 30) && (match rest with
  | [] => true
  | z :: _ => (totalT [32, 32] (CL z)).isNone) && ((List.range 7).all fun j => decide ((stepsM (4 + j) (rest.map CL) []).pos = x))
theorem due_base {gs : List (List Str)} (G : Gs gs) {rest : List Str} {x : Option Nat} (h : dueB rest x = true) : LsB (lead gs ++ rest) ∧ posS (lead gs ++ rest) = x.map ((lead gs).length + ·) := by
  unfold dueB at h
  rw [Bool.and_eq_true, Bool.and_eq_true, Bool.and_eq_true, decide_eq_true_eq] at h
  obtain ⟨⟨⟨h1, h2⟩, h3⟩, h4⟩ := h
  have := lead_len G
  have l6 := G.len
  refine ⟨(lead_ok G).app (by omega) h1, ?_⟩
  have nt : NT (rest.map CL) := by
    cases rest with
    | nil => exact True.intro
    | cons z r =>
      show totalT [32, 32] (CL z) = none
      simpa using h3
  rw [pos_base G nt]
  have := of_decide_eq_true (List.all_eq_true.mp h4 (6 - gs.length) (List.mem_range.mpr (by omega)))
  rw [show 4 + (6 - gs.length) = 10 - gs.length by omega] at this
  rw [this]
end K79
set_option Elab.async false
set_option linter.all false
set_option maxRecDepth 100000
set_option maxHeartbeats 4000000
namespace K79
open PySem PySem.Spec PyProof.Rows L2 Lc
/-! ## what is told -/
/-- what the written part says of the class C where it is caught -/
structure ExB (K : PySem.W.Frag) (C : Addr) : Prop where
  xf : XfC K C
  xc : XisC K C
  cc : PySem.W.exmOne K (.ref C) (.ref C) = some true
  cv : PySem.W.kitOne K (.ref C) (.type "ValueError") = some true
def tsX (K : PySem.W.Frag) (C : Addr) : Addr → Value → Option Addr → L2.TS := fun a cls d => tRet (tLst (tCons (tXf a cls d C "position" (tVar 1)) (tCons (tCB (rIsX K cls d C a) (tCons (tVar 1) (tCons (tC (.ty "ValueError")) tNil))) tNil)))
theorem tsX_go {K : PySem.W.Frag} {C a d : Addr} {D : Ends} {σ : L2.St} {H : Hp} {x : Int} (X : ExB K C) (hi : σ[1]? = some (some (.ref a))) (hx : H d = some (.xd [("position", .int x)])) (k : ∀ u H', Same H H' → Dh H' u (.list [.int x, .bool true]) → D.rt u H') : tsX K C a (.ref C) (some d) D σ H := by
  have dd : ∀ dd, some d = some dd → ∃ fs, H dd = some (.xd fs) := fun dd e => by cases e; exact ⟨_, hx⟩
  have two : 2 ≤ sizeLine := by decide
  refine ⟨_, hi, rfl, rfl, d, _, _, rfl, hx, by simp [List.lookup], _, hi, rfl, _, _, _, rfl, .ty "ValueError", dd, X.cv, two, fun r hr => k _ _ (Same.upd hr) (.lst upd_same (.cons (.int _) (.cons (.bl _) .nil)))⟩
section
variable {P : Program} {w : World} {K : PySem.W.Frag} {mg : Str → Option Value} {base : Heap} {f C fI fC : Addr} {fd fdC : FuncData}
abbrev sTold : Stmt := top 71
theorem scTold : FnScope ["_law_text", "e"] ["_law_text"] (defScope sTold) := ⟨rfl, rfl, rfl, by decide +kernel, rfl, by decide +kernel, by decide +kernel⟩
theorem ok_Told (F : Fun K "_law_told" "_law_told" sTold f fd) (T : Bt mg) (R : ErF K mg "BadText" "position" C fI) (X : ExB K C)
    (GC : FnOk P w K mg base (L2.CX P w) 30 fC fdC ["text"] (spPl C)) (mC : mg "read_pipeline" = some (.ref fC)) (kC : PySem.W.keepIn K (.ref fC) = true) (bC : Binds K fdC ["text"] []) : FnOk P w K mg base CX0 31 f fd ["_law_text"] spTo := by
  refine F.ok scTold (fun vs H Q E h => ?_) (fun cdv A outer s H vs Q E hr h => ?_)
  · obtain ⟨v, rfl, _⟩ := h
    rfl
  · obtain ⟨v, rfl, k⟩ := h
    refine ⟨_, pss_cons (ps_tryL (Wout := fun _ _ _ _ => False) (tb := fun W => tDrop (tCallS (spPl C) (WE W) (tCons (tVar 0) tNil))) (l := [⟨.ref C, some 1, tsX K C⟩]) rfl rfl takes0
        (fun W pn xe tk _ => pss_one (ps_expr (pe_callS GC hr (by rfl) mC kC bC (fun σ => passAt tk σ) (pa_cons (pv 0) pa_nil))))
        (.named (i := 1) ⟨rfl, by decide, Or.inl R.gC⟩ rfl scTold.nd rfl rfl (fun a ob cls d pn hz hf => pss_one (ps_ret (pe_lst (pa_cons (pe_xf X.xf R.nG hz hf (pv 1)) (pa_cons
            (pe_callB (call_isX X.xc hz hf) (by rfl) T.isi boot_isinstance (pa_cons (pv 1) (pa_cons (pe_bltn (v := .ty "ValueError") (by rfl) T.ve PyProof.Rows.Boot.«ValueError» rfl) pa_nil))) pa_nil))))) .nil))
      (pss_one (ps_ret pe_str)), ?_⟩
    dsimp only [tNil]
    rcases k with ⟨t, ty, nt, k⟩ | ⟨ss, rfl, ok, k⟩
    · refine ⟨_, rfl, v, rfl, .inl ⟨t, ty, nt, fun d H2 s2 hd2 hx => ?_⟩⟩
      refine ⟨true, X.cc, fun _ a ha => ?_, nofun⟩
      exact tsX_go X rfl hx fun u H' s hu => k u H' (s2.trans s) hu
    · have e10 : spl 10 (tx ss) = ss.map CL := ok.spl
      refine ⟨_, rfl, _, rfl, .inr ⟨tx ss, rfl, by rw [e10]; exact ok.ls, Nat.le_trans ok.jlen (by decide), fun z v H1 s1 => ?_, fun n z H1 s1 d H2 s2 hd2 hx => ?_⟩⟩
      · rw [e10] at z
        have z : posS ss = none := z
        rw [z] at k
        exact k _ _ s1 (.str _)
      · rw [e10] at z
        have z : posS ss = some n := z
        rw [z] at k
        refine ⟨true, X.cc, fun _ a ha => ?_, nofun⟩
        exact tsX_go X rfl hx fun u H' s hu => k u H' (s1.trans (s2.trans s)) hu
end
section
variable {P : Program} {w : World} {K : PySem.W.Frag} {mg : Str → Option Value} {base : Heap} {f : Addr} {fd : FuncData}
abbrev sAt_ : Stmt := top 72
abbrev nAt_ : List Str := ["_law_lines", "_law_due"]
abbrev pAt_ : List Str := ["_law_lines", "_law_due"]
theorem scAt_ : FnScope nAt_ pAt_ (defScope sAt_) := ⟨rfl, rfl, rfl, by decide +kernel, rfl, by decide +kernel, by decide +kernel⟩
section
variable {fA_ : Addr} {fdA_ : FuncData}
theorem ok_At_ (F : Fun K "_law_at" "_law_at" sAt_ f fd) (T : Bt mg)
    (GA_ : FnOk P w K mg base CX0 31 fA_ fdA_ ["_law_text"] (spTo)) (mA_ : mg "_law_told" = some (.ref fA_)) (kA_ : PySem.W.keepIn K (.ref fA_) = true) (bA_ : Binds K fdA_ ["_law_text"] []) : FnOk P w K mg base CX0 32 f fd pAt_ (spAt) := by
  refine F.ok scAt_ (fun vs H Q E h => ?_) (fun cdv A outer s H vs Q E hr h => ?_)
  · obtain ⟨L, ss, n, rfl, _⟩ := h
    rfl
  · obtain ⟨L, ss, n, rfl, hL, ok, hp, k⟩ := h
    have hrA_ : Room (31) _ := hr.mono (by first | decide | omega)
    refine ⟨_, (pss_one (ps_ret (pe_cmpR (op_eqD hr.units) (pe_call GA_ hrA_ (by rfl) mA_ kA_ bA_ .nil pass0 (pa_cons (pe_m1 PySem.F.slot_str_join PySem.F.type_str_join mt_join pe_str (pv 0)) pa_nil)) (pe_lst (pa_cons (pv 1) (pa_cons pe_bl pa_nil))) (nomark _)))), ?_⟩
    have two : 2 ≤ sizeLine := by decide
    have one : 1 ≤ sizeLine := by decide
    have three : 3 ≤ sizeLine := by decide
    have sum := jn_sum (c := 10) (ss.map CL)
    have jl := ok.jlen
    have em : (ss.map CL).map TS = ss := by
      rw [List.map_map]
      exact List.map_id'' (fun z => ts_cl z) ss
    rw [em] at sum
    refine ⟨⟨_, rfl⟩, _, rfl, _, L, ss, rfl, rfl, .inl (SqL.of hL), ?_, ?_⟩
    · have : (PySem.Str.ofString "\n").length = 1 := by decide +kernel
      rw [this]
      rw [List.length_map] at sum
      omega
    rw [join_tx]
    refine ⟨_, rfl, .inr ⟨ss, rfl, ok, fun u H1 s1 hu => ?_⟩⟩
    rw [hp] at hu
    refine ⟨_, rfl, two, fun r hr => ?_⟩
    have zr := Same.upd (o := .lst [.int (n : Int), .bl true]) hr
    have hb : Dh (upd H1 r (.lst [.int (n : Int), .bl true])) (.ref r) (toldD (some n)) := .lst upd_same (.cons (.int _) (.cons (.bl _) .nil))
    refine ⟨_, _, (hu.same zr).dp rfl, hb.dp rfl, rfl, rfl, ?_⟩
    rw [show PyData.eqv (toldD (some n)) (toldD (some n)) = true by simp [toldD, PyData.eqv, PyData.eqvAll]]
    exact k _ (s1.trans zr)
end
end
end K79
set_option Elab.async false
set_option linter.all false
set_option maxRecDepth 100000
set_option maxHeartbeats 4000000
namespace K79
open PySem PySem.Spec PyProof.Rows L2 Lc
/-! ## the law's parts -/
def twoS : List Str := ["choose x", "  or", "    first 1", "  or"]
def chS : List (List Str × Nat) := [(["choose x"], 1), (["choose x", "  or"], 2), (["choose x", "distinct"], 1), (["choose x", "  or", "distinct"], 2), (["choose x", "  or", "  distinct"], 2), ((["choose x"] : List Str) ++ (List.replicate 5 (["  or"] : List Str)).flatten, 5), ((["choose x", "  or"] : List Str) ++ (List.replicate 5 (["    distinct"] : List Str)).flatten, 6), (["choose x", "  or", "    choose y", "    or"], 2), (["choose x", "  or ", "  or"], 1), (twoS ++ twoS ++ (["  or"] : List Str), 8), (twoS ++ (["choose x", "  or", "distinct"] : List Str), 6), (["choose x", "  or", "    group a", "  total s sum v"], 3), (["choose x", "  or", "    group a", "      total s sum v", "      total s sum v"], 4)]
theorem ch_due : chS.all (fun c => dueB c.1 (some c.2)) = true := by decide +kernel
theorem two_due : dueB (twoS ++ twoS) none = true := by decide +kernel
def caseD (n : Nat) (c : List Str × Nat) : PyData := .list [sD c.1, .int ((n : Int) + (c.2 : Int))]
section
variable {Z : Addr} {σ : L2.St} {H : Hp}
theorem lit_add {i : Nat} {n k : Int} (hi : σ[i]? = some (some (.int n))) : Lit Z σ H (tOp (rI0 fun i j => V.int (i + j)) (tVar i) (tC (.int k))) (.int (n + k)) := fun H Q s q => ⟨_, hi, _, _, rfl, rfl, q _ _ (.int _) (Same.refl _)⟩
theorem seq_lit {i : Nat} {te : TE} {d : PyData} {rest : L2.TS} {D : Ends} (h : Lit Z σ H te d) (k : ∀ v H', DhT Z H' v d → Same H H' → rest D (σ.set i (some v)) H') : tSeq (tAsg te (gName i)) rest D σ H := h H _ (Same.refl H) k
theorem seq_lst {i : Nat} {ta : TA} {ds : List PyData} {rest : L2.TS} {D : Ends} (h : LitA Z σ H ta ds) (l : ds.length ≤ 1000) (k : ∀ W us H', H' W = some (.lst us) → DhAll (dl W H') us ds → H W = none → Same H H' → rest D (σ.set i (some (.ref W))) H') : tSeq (tAsg (tLst ta) (gName i)) rest D σ H := h H _ (Same.refl H) fun us H1 d1 s1 => ⟨by rw [d1.len]; exact Nat.le_trans l (by decide), fun W hW => by
  have zW := Same.upd (o := .lst us) hW
  refine k W us _ upd_same ?_ (same_none s1 hW) (s1.trans zW)
  exact (d1.same dl_here).same fun b o e => dl_at (ne_of_none e hW) (zW b o e)⟩
theorem seq_app {z : Nat} {te : TE} {d : PyData} {ds : List PyData} {us : List V} {K : PySem.W.Frag} {rest : L2.TS} {D : Ends} (hz : σ[z]? = some (some (.ref Z))) (e : H Z = some (.lst us)) (du : DhAll (dl Z H) us ds) (l : ds.length ≤ 1000) (h : Lit Z σ H te d)
    (k : ∀ us' H', H' Z = some (.lst us') → DhAll (dl Z H') us' (ds ++ [d]) → SameB Z H H' → rest D σ H') : tSeq (tDrop (tBM K "list" rAppend (tVar z) (tCons te tNil))) rest D σ H := ⟨_, hz, .inl ⟨rfl, _, SqL.of e⟩, h H _ (Same.refl H) fun v H1 d1 s1 => by
  have e1 := s1 _ _ e
  refine ⟨Z, _, _, rfl, rfl, e1, Nat.lt_of_le_of_lt (show _ ≤ 1000 by rw [du.len]; exact l) (by decide), ?_⟩
  refine k _ _ upd_same ?_ (fun b o n eb => by rw [upd_ne n]; exact s1 _ _ eb)
  exact (DhAll.append (du.same (dl_same (Same.b Z s1))) (.cons d1 .nil)).same (dl_same SameB.upd)⟩
end
theorem vS_app (a b : List Str) : vS (a ++ b) = vS a ++ vS b := List.map_append
theorem LsB.join {ss : List Str} (ok : LsB ss) : (ss.map (·.length)).sum + ss.length * (PySem.Str.ofString "\n").length ≤ 16777216 := by
  have sum := jn_sum (c := 10) (ss.map CL)
  have jl := ok.jlen
  have em : (ss.map CL).map TS = ss := by
    rw [List.map_map]
    exact List.map_id'' (fun z => ts_cl z) ss
  rw [em] at sum
  have : (PySem.Str.ofString "\n").length = 1 := by decide +kernel
  rw [this]
  rw [List.length_map] at sum
  omega
def spCr : Sp := fun vs H Q _ => ∃ (L : Addr) (gs : List (List Str)), vs = [.ref L] ∧ Gs gs ∧ H L = some (.lst (vS (lead gs))) ∧ ∀ H', Same H H' → Q (.bl true) H'
section
variable {P : Program} {w : World} {K : PySem.W.Frag} {mg : Str → Option Value} {base : Heap} {f : Addr} {fd : FuncData}
abbrev sCr : Stmt := top 73
abbrev nCr : List Str := ["_law_lines", "_law_at_here", "_law_two", "_law_cases", "_law_some", "_law_due"]
abbrev pCr : List Str := ["_law_lines"]
theorem scCr : FnScope nCr pCr (defScope sCr) := ⟨rfl, rfl, rfl, by decide +kernel, rfl, by decide +kernel, by decide +kernel⟩
section
variable {fA_ fB_ : Addr} {fdA_ fdB_ : FuncData}
theorem ok_Cr (F : Fun K "_law_choose_right" "_law_choose_right" sCr f fd) (T : Bt mg)
    (GA_ : FnOk P w K mg base CX0 32 fA_ fdA_ ["_law_lines", "_law_due"] (spAt)) (mA_ : mg "_law_at" = some (.ref fA_)) (kA_ : PySem.W.keepIn K (.ref fA_) = true) (bA_ : Binds K fdA_ ["_law_lines", "_law_due"] [])
    (GB_ : FnOk P w K mg base CX0 31 fB_ fdB_ ["_law_text"] (spTo)) (mB_ : mg "_law_told" = some (.ref fB_)) (kB_ : PySem.W.keepIn K (.ref fB_) = true) (bB_ : Binds K fdB_ ["_law_text"] []) : FnOk P w K mg base CX0 33 f fd pCr (spCr) := by
  refine F.ok scCr (fun vs H Q E h => ?_) (fun cdv A outer s H vs Q E hr h => ?_)
  · obtain ⟨L, gs, rfl, _⟩ := h
    rfl
  · obtain ⟨L, gs, rfl, G, hL, k⟩ := h
    have hrA_ : Room (32) _ := hr.mono (by first | decide | omega)
    have hrB_ : Room (31) _ := hr.mono (by first | decide | omega)
    refine ⟨_, (pss_cons (ps_set (i := 1) scCr.nd rfl (Or.inl rfl) (pe_callB call_len_seq (by rfl) T.len PySem.boot_len (pa_cons (pv 0) pa_nil)))
      (pss_cons (ps_set (i := 2) scCr.nd rfl (Or.inl rfl) (pe_lst (pa_cons pe_str (pa_cons pe_str (pa_cons pe_str (pa_cons pe_str pa_nil))))))
      (pss_cons (ps_set (i := 3) scCr.nd rfl (Or.inl rfl) (pe_lst (pa_cons (pe_lst (pa_cons (pe_lst (pa_cons pe_str pa_nil)) (pa_cons (pe_op op_add (pv 1) pe_int) pa_nil))) (pa_cons (pe_lst (pa_cons (pe_lst (pa_cons pe_str (pa_cons pe_str pa_nil))) (pa_cons (pe_op op_add (pv 1) pe_int) pa_nil))) (pa_cons (pe_lst (pa_cons (pe_lst (pa_cons pe_str (pa_cons pe_str pa_nil))) (pa_cons (pe_op op_add (pv 1) pe_int) pa_nil))) pa_nil)))))
      (pss_cons (ps_expr (pe_bm PySem.F.plainAttrs_list PySem.F.slot_list_append PySem.F.type_list_append mt_append (pv 3) (pa_cons (pe_lst (pa_cons (pe_lst (pa_cons pe_str (pa_cons pe_str (pa_cons pe_str pa_nil)))) (pa_cons (pe_op op_add (pv 1) pe_int) pa_nil))) pa_nil)))
      (pss_cons (ps_expr (pe_bm PySem.F.plainAttrs_list PySem.F.slot_list_append PySem.F.type_list_append mt_append (pv 3) (pa_cons (pe_lst (pa_cons (pe_lst (pa_cons pe_str (pa_cons pe_str (pa_cons pe_str pa_nil)))) (pa_cons (pe_op op_add (pv 1) pe_int) pa_nil))) pa_nil)))
      (pss_cons (ps_expr (pe_bm PySem.F.plainAttrs_list PySem.F.slot_list_append PySem.F.type_list_append mt_append (pv 3) (pa_cons (pe_lst (pa_cons (pe_op op_cat (pe_lst (pa_cons pe_str pa_nil)) (pe_op op_rep (pe_lst (pa_cons pe_str pa_nil)) pe_int)) (pa_cons (pe_op op_add (pv 1) pe_int) pa_nil))) pa_nil)))
      (pss_cons (ps_expr (pe_bm PySem.F.plainAttrs_list PySem.F.slot_list_append PySem.F.type_list_append mt_append (pv 3) (pa_cons (pe_lst (pa_cons (pe_op op_cat (pe_lst (pa_cons pe_str (pa_cons pe_str pa_nil))) (pe_op op_rep (pe_lst (pa_cons pe_str pa_nil)) pe_int)) (pa_cons (pe_op op_add (pv 1) pe_int) pa_nil))) pa_nil)))
      (pss_cons (ps_expr (pe_bm PySem.F.plainAttrs_list PySem.F.slot_list_append PySem.F.type_list_append mt_append (pv 3) (pa_cons (pe_lst (pa_cons (pe_lst (pa_cons pe_str (pa_cons pe_str (pa_cons pe_str (pa_cons pe_str pa_nil))))) (pa_cons (pe_op op_add (pv 1) pe_int) pa_nil))) pa_nil)))
      (pss_cons (ps_expr (pe_bm PySem.F.plainAttrs_list PySem.F.slot_list_append PySem.F.type_list_append mt_append (pv 3) (pa_cons (pe_lst (pa_cons (pe_lst (pa_cons pe_str (pa_cons pe_str (pa_cons pe_str pa_nil)))) (pa_cons (pe_op op_add (pv 1) pe_int) pa_nil))) pa_nil)))
      (pss_cons (ps_expr (pe_bm PySem.F.plainAttrs_list PySem.F.slot_list_append PySem.F.type_list_append mt_append (pv 3) (pa_cons (pe_lst (pa_cons (pe_op op_cat (pe_op op_cat (pv 2) (pv 2)) (pe_lst (pa_cons pe_str pa_nil))) (pa_cons (pe_op op_add (pv 1) pe_int) pa_nil))) pa_nil)))
      (pss_cons (ps_expr (pe_bm PySem.F.plainAttrs_list PySem.F.slot_list_append PySem.F.type_list_append mt_append (pv 3) (pa_cons (pe_lst (pa_cons (pe_op op_cat (pv 2) (pe_lst (pa_cons pe_str (pa_cons pe_str (pa_cons pe_str pa_nil))))) (pa_cons (pe_op op_add (pv 1) pe_int) pa_nil))) pa_nil)))
      (pss_cons (ps_expr (pe_bm PySem.F.plainAttrs_list PySem.F.slot_list_append PySem.F.type_list_append mt_append (pv 3) (pa_cons (pe_lst (pa_cons (pe_lst (pa_cons pe_str (pa_cons pe_str (pa_cons pe_str (pa_cons pe_str pa_nil))))) (pa_cons (pe_op op_add (pv 1) pe_int) pa_nil))) pa_nil)))
      (pss_cons (ps_expr (pe_bm PySem.F.plainAttrs_list PySem.F.slot_list_append PySem.F.type_list_append mt_append (pv 3) (pa_cons (pe_lst (pa_cons (pe_lst (pa_cons pe_str (pa_cons pe_str (pa_cons pe_str (pa_cons pe_str (pa_cons pe_str pa_nil)))))) (pa_cons (pe_op op_add (pv 1) pe_int) pa_nil))) pa_nil)))
      (pss_cons (ps_for PassesOwn.never rfl (pi_list (pv 3)) (pg_lst rfl (pgs_cons (pg_name (i := 4) scCr.nd rfl (.inl rfl)) (pgs_cons (pg_name (i := 5) scCr.nd rfl (.inl rfl)) pgs_nil))) (pss_one (ps_if (pt_not (pt_val (pe_call GA_ hrA_ (by rfl) mA_ kA_ bA_ .nil pass0 (pa_cons (pe_op op_cat (pv 0) (pv 4)) (pa_cons (pv 5) pa_nil))))) (pss_one (ps_ret pe_bl)) pss_nil)))
      (pss_one (ps_ret (pe_cmpR op_eq (pe_call GB_ hrB_ (by rfl) mB_ kB_ bB_ .nil pass0 (pa_cons (pe_m1 PySem.F.slot_str_join PySem.F.type_str_join mt_join pe_str (pe_op op_cat (pe_op op_cat (pv 0) (pv 2)) (pv 2))) pa_nil)) pe_str (nomark _)))))))))))))))))), ?_⟩
    have two : 2 ≤ sizeLine := by decide
    have one : 1 ≤ sizeLine := by decide
    have three : 3 ≤ sizeLine := by decide
    have B := lead_ok G
    have bl := lead_len G
    refine ⟨_, rfl, L, _, rfl, .inl (SqL.of hL), ?_⟩
    rw [show ((vS (lead gs)).length : Int) = ((lead gs).length : Int) by rw [List.length_map]]
    generalize hn : (lead gs).length = n at bl
    have hZ : ∃ o, H L = some o := ⟨_, hL⟩
    refine seq_lit (Z := L) (d := sD twoS) (lit_lst hZ (lita_cons lit_str (lita_cons lit_str (lita_cons lit_str (lita_cons lit_str lita_nil)))) (l := by show 4 ≤ sizeLine; decide)) fun v2 H1 dT s1 => ?_
    have hL := s1 _ _ hL
    have hZ : ∃ o, H1 L = some o := ⟨_, hL⟩
    obtain ⟨W2, rfl, eW2⟩ := dh_sD dT
    obtain ⟨n2, eW2⟩ := dl_of eW2
    refine seq_lst (Z := L) (ds := (chS.take 3).map (caseD n)) (lita_cons (lit_lst hZ (lita_cons (lit_lst hZ (lita_cons lit_str lita_nil) (l := by show 1 ≤ sizeLine; decide)) (lita_cons (lit_add rfl) lita_nil)) (l := by show 2 ≤ sizeLine; decide)) (lita_cons (lit_lst hZ (lita_cons (lit_lst hZ (lita_cons lit_str (lita_cons lit_str lita_nil)) (l := by show 2 ≤ sizeLine; decide)) (lita_cons (lit_add rfl) lita_nil)) (l := by show 2 ≤ sizeLine; decide)) (lita_cons (lit_lst hZ (lita_cons (lit_lst hZ (lita_cons lit_str (lita_cons lit_str lita_nil)) (l := by show 2 ≤ sizeLine; decide)) (lita_cons (lit_add rfl) lita_nil)) (l := by show 2 ≤ sizeLine; decide)) lita_nil))) (by show 3 ≤ 1000; decide) fun Z us H2 eZ dZ nZ s2 => ?_
    have nL : L ≠ Z := ne_of_none hL nZ
    have nW : W2 ≠ Z := ne_of_none eW2 nZ
    have hL := s2 _ _ hL
    have eW2 := s2 _ _ eW2
    have hZ0 : H Z = none := same_none s1 nZ
    have S : Same H H2 := s1.trans s2
    have dT : DhT Z H2 (.ref W2) (sD twoS) := sD_dh twoS (dl_at nW eW2)
    have hZ : ∃ o, H2 Z = some o := ⟨_, eZ⟩
    refine seq_app (z := 3) rfl eZ dZ (by show 3 ≤ 1000; decide) (lit_lst hZ (lita_cons (lit_lst hZ (lita_cons lit_str (lita_cons lit_str (lita_cons lit_str lita_nil))) (l := by show 3 ≤ sizeLine; decide)) (lita_cons (lit_add rfl) lita_nil)) (l := by show 2 ≤ sizeLine; decide)) fun us H3 eZ dZ sB => ?_
    have hL := sB _ _ nL hL
    have eW2 := sB _ _ nW eW2
    have dT : DhT Z H3 (.ref W2) (sD twoS) := dT.same (dl_same sB)
    have S : Same H H3 := fun b o eb => sB _ _ (ne_of_none eb hZ0) (S _ _ eb)
    have hZ : ∃ o, H3 Z = some o := ⟨_, eZ⟩
    refine seq_app (z := 3) rfl eZ dZ (by show 4 ≤ 1000; decide) (lit_lst hZ (lita_cons (lit_lst hZ (lita_cons lit_str (lita_cons lit_str (lita_cons lit_str lita_nil))) (l := by show 3 ≤ sizeLine; decide)) (lita_cons (lit_add rfl) lita_nil)) (l := by show 2 ≤ sizeLine; decide)) fun us H4 eZ dZ sB => ?_
    have hL := sB _ _ nL hL
    have eW2 := sB _ _ nW eW2
    have dT : DhT Z H4 (.ref W2) (sD twoS) := dT.same (dl_same sB)
    have S : Same H H4 := fun b o eb => sB _ _ (ne_of_none eb hZ0) (S _ _ eb)
    have hZ : ∃ o, H4 Z = some o := ⟨_, eZ⟩
    refine seq_app (z := 3) rfl eZ dZ (by show 5 ≤ 1000; decide) (lit_lst hZ (lita_cons (lit_cat hZ (lit_lst hZ (lita_cons lit_str lita_nil) (l := by show 1 ≤ sizeLine; decide)) (lit_rep hZ (n := 5) (lit_lst hZ (lita_cons lit_str lita_nil) (l := by show 1 ≤ sizeLine; decide)) (fun H Q h => h) (by show 1 * 5 ≤ 1000; decide) (by decide)) (l := by show 6 ≤ sizeLine; decide)) (lita_cons (lit_add rfl) lita_nil)) (l := by show 2 ≤ sizeLine; decide)) fun us H5 eZ dZ sB => ?_
    have hL := sB _ _ nL hL
    have eW2 := sB _ _ nW eW2
    have dT : DhT Z H5 (.ref W2) (sD twoS) := dT.same (dl_same sB)
    have S : Same H H5 := fun b o eb => sB _ _ (ne_of_none eb hZ0) (S _ _ eb)
    have hZ : ∃ o, H5 Z = some o := ⟨_, eZ⟩
    refine seq_app (z := 3) rfl eZ dZ (by show 6 ≤ 1000; decide) (lit_lst hZ (lita_cons (lit_cat hZ (lit_lst hZ (lita_cons lit_str (lita_cons lit_str lita_nil)) (l := by show 2 ≤ sizeLine; decide)) (lit_rep hZ (n := 5) (lit_lst hZ (lita_cons lit_str lita_nil) (l := by show 1 ≤ sizeLine; decide)) (fun H Q h => h) (by show 1 * 5 ≤ 1000; decide) (by decide)) (l := by show 7 ≤ sizeLine; decide)) (lita_cons (lit_add rfl) lita_nil)) (l := by show 2 ≤ sizeLine; decide)) fun us H6 eZ dZ sB => ?_
    have hL := sB _ _ nL hL
    have eW2 := sB _ _ nW eW2
    have dT : DhT Z H6 (.ref W2) (sD twoS) := dT.same (dl_same sB)
    have S : Same H H6 := fun b o eb => sB _ _ (ne_of_none eb hZ0) (S _ _ eb)
    have hZ : ∃ o, H6 Z = some o := ⟨_, eZ⟩
    refine seq_app (z := 3) rfl eZ dZ (by show 7 ≤ 1000; decide) (lit_lst hZ (lita_cons (lit_lst hZ (lita_cons lit_str (lita_cons lit_str (lita_cons lit_str (lita_cons lit_str lita_nil)))) (l := by show 4 ≤ sizeLine; decide)) (lita_cons (lit_add rfl) lita_nil)) (l := by show 2 ≤ sizeLine; decide)) fun us H7 eZ dZ sB => ?_
    have hL := sB _ _ nL hL
    have eW2 := sB _ _ nW eW2
    have dT : DhT Z H7 (.ref W2) (sD twoS) := dT.same (dl_same sB)
    have S : Same H H7 := fun b o eb => sB _ _ (ne_of_none eb hZ0) (S _ _ eb)
    have hZ : ∃ o, H7 Z = some o := ⟨_, eZ⟩
    refine seq_app (z := 3) rfl eZ dZ (by show 8 ≤ 1000; decide) (lit_lst hZ (lita_cons (lit_lst hZ (lita_cons lit_str (lita_cons lit_str (lita_cons lit_str lita_nil))) (l := by show 3 ≤ sizeLine; decide)) (lita_cons (lit_add rfl) lita_nil)) (l := by show 2 ≤ sizeLine; decide)) fun us H8 eZ dZ sB => ?_
    have hL := sB _ _ nL hL
    have eW2 := sB _ _ nW eW2
    have dT : DhT Z H8 (.ref W2) (sD twoS) := dT.same (dl_same sB)
    have S : Same H H8 := fun b o eb => sB _ _ (ne_of_none eb hZ0) (S _ _ eb)
    have hZ : ∃ o, H8 Z = some o := ⟨_, eZ⟩
    refine seq_app (z := 3) rfl eZ dZ (by show 9 ≤ 1000; decide) (lit_lst hZ (lita_cons (lit_cat hZ (lit_cat hZ (lit_var (i := 2) rfl dT) (lit_var (i := 2) rfl dT) (l := by show 8 ≤ sizeLine; decide)) (lit_lst hZ (lita_cons lit_str lita_nil) (l := by show 1 ≤ sizeLine; decide)) (l := by show 9 ≤ sizeLine; decide)) (lita_cons (lit_add rfl) lita_nil)) (l := by show 2 ≤ sizeLine; decide)) fun us H9 eZ dZ sB => ?_
    have hL := sB _ _ nL hL
    have eW2 := sB _ _ nW eW2
    have dT : DhT Z H9 (.ref W2) (sD twoS) := dT.same (dl_same sB)
    have S : Same H H9 := fun b o eb => sB _ _ (ne_of_none eb hZ0) (S _ _ eb)
    have hZ : ∃ o, H9 Z = some o := ⟨_, eZ⟩
    refine seq_app (z := 3) rfl eZ dZ (by show 10 ≤ 1000; decide) (lit_lst hZ (lita_cons (lit_cat hZ (lit_var (i := 2) rfl dT) (lit_lst hZ (lita_cons lit_str (lita_cons lit_str (lita_cons lit_str lita_nil))) (l := by show 3 ≤ sizeLine; decide)) (l := by show 7 ≤ sizeLine; decide)) (lita_cons (lit_add rfl) lita_nil)) (l := by show 2 ≤ sizeLine; decide)) fun us H10 eZ dZ sB => ?_
    have hL := sB _ _ nL hL
    have eW2 := sB _ _ nW eW2
    have dT : DhT Z H10 (.ref W2) (sD twoS) := dT.same (dl_same sB)
    have S : Same H H10 := fun b o eb => sB _ _ (ne_of_none eb hZ0) (S _ _ eb)
    have hZ : ∃ o, H10 Z = some o := ⟨_, eZ⟩
    refine seq_app (z := 3) rfl eZ dZ (by show 11 ≤ 1000; decide) (lit_lst hZ (lita_cons (lit_lst hZ (lita_cons lit_str (lita_cons lit_str (lita_cons lit_str (lita_cons lit_str lita_nil)))) (l := by show 4 ≤ sizeLine; decide)) (lita_cons (lit_add rfl) lita_nil)) (l := by show 2 ≤ sizeLine; decide)) fun us H11 eZ dZ sB => ?_
    have hL := sB _ _ nL hL
    have eW2 := sB _ _ nW eW2
    have dT : DhT Z H11 (.ref W2) (sD twoS) := dT.same (dl_same sB)
    have S : Same H H11 := fun b o eb => sB _ _ (ne_of_none eb hZ0) (S _ _ eb)
    have hZ : ∃ o, H11 Z = some o := ⟨_, eZ⟩
    refine seq_app (z := 3) rfl eZ dZ (by show 12 ≤ 1000; decide) (lit_lst hZ (lita_cons (lit_lst hZ (lita_cons lit_str (lita_cons lit_str (lita_cons lit_str (lita_cons lit_str (lita_cons lit_str lita_nil))))) (l := by show 5 ≤ sizeLine; decide)) (lita_cons (lit_add rfl) lita_nil)) (l := by show 2 ≤ sizeLine; decide)) fun us H12 eZ dZ sB => ?_
    have hL := sB _ _ nL hL
    have eW2 := sB _ _ nW eW2
    have dT : DhT Z H12 (.ref W2) (sD twoS) := dT.same (dl_same sB)
    have S : Same H H12 := fun b o eb => sB _ _ (ne_of_none eb hZ0) (S _ _ eb)
    have dZ : DhAll (dl Z H12) us (chS.map (caseD n)) := dZ
    have lt4 : twoS.length = 4 := rfl
    refine ⟨_, rfl, Z, rfl, ⟨_, SqL.of eZ⟩, for_list (K := K) (a := Z) (xs := us) (fun j σ H' => (∃ (x4 x5 : Option V), σ = [some (.ref L), some (.int (n : Int)), some (.ref W2), some (.ref Z), x4, x5]) ∧ Same H12 H') ⟨⟨none, none, rfl⟩, Same.refl _⟩ (fun j σ H' _ pr => SqL.of (pr.2 _ _ eZ)) ?_ ?_⟩
    · rintro j x σ H5 hj ⟨⟨x4, x5, rfl⟩, s5⟩
      obtain ⟨d, ed, dx⟩ := dZ.get j x hj
      obtain ⟨c, ec, rfl⟩ : ∃ c, chS[j]? = some c ∧ caseD n c = d := by
        rw [List.getElem?_map] at ed
        exact Option.map_eq_some_iff.mp ed
      have du := List.all_eq_true.mp ch_due c (List.mem_of_getElem? ec)
      have du := due_base G du
      rw [hn] at du
      obtain ⟨ok1, ps1⟩ := du
      cases dx with
      | @lst a xs _ ea exs =>
      cases exs with
      | cons h1 exs => cases exs with
        | cons h2 exs =>
      cases exs
      cases h2
      obtain ⟨p, rfl, ep⟩ := dh_sD h1
      have ea := (dl_of ea).2
      have ep := (dl_of ep).2
      refine ⟨a, _, rfl, SqL.of (s5 _ _ ea), rfl, _, _, rfl, _, _, rfl, rfl, ?_⟩
      have ll : (vS (lead gs)).length + (vS c.1).length ≤ sizeLine := by
        have := ok1.len
        rw [List.length_append] at this
        rw [List.length_map, List.length_map]
        exact Nat.le_trans this (by decide)
      refine ⟨_, rfl, _, rfl, _, _, _, _, rfl, rfl, s5 _ _ hL, s5 _ _ ep, ll, fun q hq => ⟨_, rfl, q, lead gs ++ c.1, n + c.2, rfl, by rw [upd_same, vS_app], ok1, ps1, fun H6 s6 => ⟨_, rfl, iteF ?_⟩⟩⟩
      exact ⟨⟨_, _, rfl⟩, s5.trans ((Same.upd hq).trans s6)⟩
    · rintro σ H5 ⟨⟨x4, x5, rfl⟩, s5⟩
      obtain ⟨ok1, ps1⟩ := due_base G two_due
      have ll : (vS (lead gs)).length + (vS twoS).length ≤ sizeLine := by
        rw [List.length_map, List.length_map, hn]
        exact Nat.le_trans (show n + 4 ≤ 100 by omega) (by decide)
      have ll2 : (vS (lead gs) ++ vS twoS).length + (vS twoS).length ≤ sizeLine := by
        rw [List.length_append, List.length_map, List.length_map, hn]
        exact Nat.le_trans (show n + 4 + 4 ≤ 100 by omega) (by decide)
      refine ⟨⟨_, rfl⟩, _, rfl, _, rfl, _, _, _, _, rfl, rfl, s5 _ _ hL, s5 _ _ eW2, ll, fun q hq => ⟨_, rfl, _, _, _, _, rfl, rfl, upd_same, Same.upd hq _ _ (s5 _ _ eW2), ll2, fun q2 hq2 => ⟨_, q2, lead gs ++ (twoS ++ twoS), rfl, rfl, .inl (SqL.of (by rw [upd_same, ← List.append_assoc, List.map_append, List.map_append])), ok1.join, ?_⟩⟩⟩
      rw [join_tx]
      refine ⟨_, rfl, .inr ⟨_, rfl, ok1, fun u H6 s6 hu => ?_⟩⟩
      rw [ps1] at hu
      cases hu
      refine ⟨rfl, ?_⟩
      exact k H6 (S.trans (s5.trans ((Same.upd hq).trans ((Same.upd hq2).trans s6))))
end
end
end K79
set_option Elab.async false
set_option linter.all false
set_option maxRecDepth 100000
set_option maxHeartbeats 4000000
namespace K79
open PySem PySem.Spec PyProof.Rows L2 Lc
/-! ## where the faults stand -/
def sevS : List Str := ["  total t0 sum v", "  total t1 sum v", "  total t2 sum v", "  total t3 sum v", "  total t4 sum v", "  total t5 sum v", "  total t6 sum v"]
theorem sev_at : ∀ i : Nat, i < 7 → (PySem.Str.ofString "  total t" ++ PySem.Str.ofString (toString ((0 : Int) + (i : Int))) ++ PySem.Str.ofString " sum v") = sevS.getD i "" := by decide +kernel
abbrev teSv : TE := tOp (fun x y H Q => ∃ i j, x = .str i ∧ y = .str j ∧ i.length + j.length ≤ sizeLine ∧ Q (.str (i ++ j)) H) (tOp (fun x y H Q => ∃ i j, x = .str i ∧ y = .str j ∧ i.length + j.length ≤ sizeLine ∧ Q (.str (i ++ j)) H) (tC (.str "  total t")) (tCB (fun xs H Q => ∃ i, xs = [.int i] ∧ i.natAbs.log2 < 1920 ∧ Q (.str (toString i)) H) (tCons (tVar 7) tNil))) (tC (.str " sum v"))
/-- a term that gives a list of texts -/
def LS (σ : L2.St) (H0 : Hp) (te : TE) (ss : List Str) : Prop := ∀ (H : Hp) (Q : VK), Same H0 H → (∀ p H', Same H H' → H' p = some (.lst (vS ss)) → Q (.ref p) H') → te σ H Q
section
variable {σ : L2.St} {H : Hp}
theorem ls_var {i : Nat} {L : Addr} {ss : List Str} (hi : σ[i]? = some (some (.ref L))) (h : H L = some (.lst (vS ss))) : LS σ H (tVar i) ss := fun H1 Q s k => ⟨_, hi, k L H1 (Same.refl _) (s _ _ h)⟩
theorem ls_lst {ta : TA} (ss : List Str) (h : ∀ H (Q : List V → Hp → Prop), Q (vS ss) H → ta σ H Q) (l : ss.length ≤ 1000) : LS σ H (tLst ta) ss := fun H1 Q s k => h H1 _ ⟨by rw [List.length_map]; exact Nat.le_trans l (by decide), fun p hp => k p _ (Same.upd hp) upd_same⟩
theorem ls_cat {ta tb : TE} {as bs : List Str} (h : LS σ H ta as) (g : LS σ H tb bs) (l : as.length + bs.length ≤ 1000) : LS σ H (tOp rCat ta tb) (as ++ bs) := fun H1 Q s k => h H1 _ s fun p H2 s2 e2 => g H2 _ (s.trans s2) fun q H3 s3 e3 => ⟨_, _, _, _, rfl, rfl, s3 _ _ e2, e3, by rw [List.length_map, List.length_map]; exact Nat.le_trans l (by decide), fun r hr => k r _ (s2.trans (s3.trans (Same.upd hr))) (by rw [upd_same, vS_app])⟩
theorem ls_rep {ta tb : TE} {ss : List Str} {n : Nat} (h : LS σ H ta ss) (g : ∀ H Q, Q (.int (n : Int)) H → tb σ H Q) (l : ss.length * n ≤ 1000) (hn : n ≤ 1000) : LS σ H (tOp rRep ta tb) (List.replicate n ss).flatten := fun H1 Q s k => h H1 _ s fun p H2 s2 e2 => g H2 _ ⟨_, _, _, rfl, rfl, e2, by omega, by omega, by rw [List.length_map, Int.toNat_natCast]; exact Nat.le_trans l (by decide), fun r hr => k r _ (s2.trans (Same.upd hr)) (by
  rw [upd_same, Int.toNat_natCast]
  unfold vS
  rw [List.map_flatten, List.map_replicate])⟩
theorem at_go {te tn : TE} {ss : List Str} {n : Nat} {E0 : XK} {Q : VK} (h : LS σ H te ss) (hn : ∀ H Q, Q (.int (n : Int)) H → tn σ H Q) (ok : LsB ss) (ps : posS ss = some n) (k : ∀ H', Same H H' → Q (.bl true) H') : tCall spAt [] E0 (tCons te (tCons tn tNil)) σ H Q := h H _ (Same.refl H) fun p H1 s1 e1 => hn H1 _ ⟨p, ss, n, rfl, e1, ok, ps, fun H' s => k H' (s1.trans s)⟩
theorem told_go {K : PySem.W.Frag} {te : TE} {ss : List Str} {E0 : XK} {Q : VK} (h : LS σ H te ss) (ok : LsB ss) (ps : posS ss = none) (k : ∀ H', Same H H' → Q (.str "read") H') : tCall spTo [] E0 (tCons (tM1 (rJn K) (tC (.str "\n")) te) tNil) σ H Q := ⟨⟨_, rfl⟩, h H _ (Same.refl H) fun p H1 s1 e1 => ⟨_, p, ss, rfl, rfl, .inl (SqL.of e1), ok.join, by
  rw [join_tx]
  refine ⟨_, rfl, .inr ⟨ss, rfl, ok, fun u H' s hu => ?_⟩⟩
  rw [ps] at hu
  cases hu
  exact k H' (s1.trans s)⟩⟩
end
theorem group_err (r : List LN) (h : NT r) : stepM [] (CL "group a") r = .err 1 := by
  show stepW [] (wsL (CL "group a")) r = _
  unfold stepW
  rw [if_pos (by decide +kernel)]
  unfold groupN
  rw [if_pos (by decide +kernel)]
  have e : totsM ([] ++ [32, 32]) r ((wsL (CL "group a")).drop 1) 0 = [] := tots_stop h _ _
  rw [e]
  rfl
theorem app_ok {gs : List (List Str)} (G : Gs gs) {r g : List Str} (hr : r.all lineB = true) (lr : r.length ≤ 10) (hg : g ∈ goodS) : LsB (lead gs ++ r ++ g) := by
  obtain ⟨_, h2, h3⟩ := good_of hg
  have := lead_len G
  exact ((lead_ok G).app (by omega) hr).app (by rw [List.length_append]; omega) h2
theorem due_bad {gs : List (List Str)} (G : Gs gs) {z : Str} (hz : badB (CL z) = true) (hl : lineB z = true) {g : List Str} (hg : g ∈ goodS) : LsB (lead gs ++ [z] ++ g) ∧ posS (lead gs ++ [z] ++ g) = some (lead gs).length := by
  refine ⟨app_ok G (by rw [List.all_cons, hl]; rfl) (by show 1 ≤ 10; decide) hg, ?_⟩
  have l6 := G.len
  rw [List.append_assoc, pos_base G (rest := [z] ++ g) (bad_nt hz _)]
  obtain ⟨k, hk⟩ : ∃ k, 10 - gs.length = k + 1 := ⟨9 - gs.length, by omega⟩
  rw [hk]
  have e := bad_pos hz k (g.map CL) []
  rw [show ([z] ++ g).map CL = CL z :: g.map CL from rfl, e]
  rfl
def grA (z : Str) : List Str := ["group a", z]
def grB (z : Str) : List Str := ["group a", "  total t sum v", z]
theorem due_tot1 {gs : List (List Str)} (G : Gs gs) {z : Str} (hz : badB (CL z) = true) (hl : lineB z = true) {g : List Str} (hg : g ∈ goodS) : LsB (lead gs ++ grA z ++ g) ∧ posS (lead gs ++ grA z ++ g) = some ((lead gs).length + 1) := by
  refine ⟨app_ok G (by unfold grA; rw [List.all_cons, List.all_cons, hl]; decide +kernel) (by show 2 ≤ 10; decide) hg, ?_⟩
  have l6 := G.len
  have gn : totalT [32, 32] (CL "group a") = none := by decide +kernel
  rw [List.append_assoc, pos_base G (rest := grA z ++ g) gn]
  obtain ⟨k, hk⟩ : ∃ k, 10 - gs.length = k + 1 := ⟨9 - gs.length, by omega⟩
  have sc : stw chL (CL "group a") = false := by decide +kernel
  rw [hk, show (grA z ++ g).map CL = CL "group a" :: CL z :: g.map CL from rfl, stepsM, sc, if_neg (by decide), group_err _ (bad_nt hz _)]
  rfl
theorem gt_good : goodB [CL "group a", CL "  total t sum v"] = true := by decide +kernel
theorem due_tot2 {gs : List (List Str)} (G : Gs gs) {z : Str} (hz : badB (CL z) = true) (hl : lineB z = true) {g : List Str} (hg : g ∈ goodS) : LsB (lead gs ++ grB z ++ g) ∧ posS (lead gs ++ grB z ++ g) = some ((lead gs).length + 2) := by
  refine ⟨app_ok G (by unfold grB; rw [List.all_cons, List.all_cons, List.all_cons, hl]; decide +kernel) (by show 3 ≤ 10; decide) hg, ?_⟩
  have l6 := G.len
  have gn : totalT [32, 32] (CL "group a") = none := by decide +kernel
  rw [List.append_assoc, pos_base G (rest := grB z ++ g) gn]
  obtain ⟨k, hk⟩ : ∃ k, 10 - gs.length = k + 1 + 1 := ⟨8 - gs.length, by omega⟩
  have e := pos_good gt_good (rest := CL z :: g.map CL) (bad_nt hz _) (k + 1) []
  rw [hk, show (grB z ++ g).map CL = [CL "group a", CL "  total t sum v"] ++ (CL z :: g.map CL) from rfl, e, bad_pos hz]
  rfl
theorem due_g1 : dueB ["group a"] (some 1) = true := by decide +kernel
theorem due_g2 : dueB ["group s", "  total s sum v"] (some 1) = true := by decide +kernel
theorem due_g3 : dueB ((["group a b c"] : List Str) ++ sevS.take 6) (some 6) = true := by decide +kernel
theorem due_g4 : dueB ((["group a b c"] : List Str) ++ sevS.take 5) none = true := by decide +kernel
theorem due_g5 : dueB ((["group"] : List Str) ++ sevS.take 6) none = true := by decide +kernel
theorem due_g6 : dueB ((["group"] : List Str) ++ sevS) (some 7) = true := by decide +kernel
def spPr : Sp := fun vs H Q _ => ∃ (t : V) (L : Addr) (gs : List (List Str)) (R : Addr) (g : List Str), vs = [t, .ref L, .int ((lead gs).length : Int), .ref R] ∧ Gs gs ∧ g ∈ goodS ∧ H L = some (.lst (vS (lead gs))) ∧ H R = some (.lst (vS g)) ∧ ∀ H', Same H H' → Q (.bl true) H'
section
variable {P : Program} {w : World} {K : PySem.W.Frag} {mg : Str → Option Value} {base : Heap} {f : Addr} {fd : FuncData}
abbrev sPr : Stmt := top 74
abbrev nPr : List Str := ["_law_tape_here", "_law_lines", "_law_at_here", "_law_tail", "_law_bad", "_law_due", "_law_seven", "_law_k"]
abbrev pPr : List Str := ["_law_tape_here", "_law_lines", "_law_at_here", "_law_tail"]
theorem scPr : FnScope nPr pPr (defScope sPr) := ⟨rfl, rfl, rfl, by decide +kernel, rfl, by decide +kernel, by decide +kernel⟩
section
variable {fA_ fB_ fC_ fD_ : Addr} {fdA_ fdB_ fdC_ fdD_ : FuncData}
theorem ok_Pr (F : Fun K "_law_places_right" "_law_places_right" sPr f fd) (T : Bt mg)
    (GA_ : FnOk P w K mg base CX0 1 fA_ fdA_ [] (spLs badS)) (mA_ : mg "_law_bad_lines" = some (.ref fA_)) (kA_ : PySem.W.keepIn K (.ref fA_) = true) (bA_ : Binds K fdA_ [] [])
    (GB_ : FnOk P w K mg base CX0 1 fB_ fdB_ [] (spLs totS)) (mB_ : mg "_law_bad_totals" = some (.ref fB_)) (kB_ : PySem.W.keepIn K (.ref fB_) = true) (bB_ : Binds K fdB_ [] [])
    (GC_ : FnOk P w K mg base CX0 32 fC_ fdC_ ["_law_lines", "_law_due"] (spAt)) (mC_ : mg "_law_at" = some (.ref fC_)) (kC_ : PySem.W.keepIn K (.ref fC_) = true) (bC_ : Binds K fdC_ ["_law_lines", "_law_due"] [])
    (GD_ : FnOk P w K mg base CX0 31 fD_ fdD_ ["_law_text"] (spTo)) (mD_ : mg "_law_told" = some (.ref fD_)) (kD_ : PySem.W.keepIn K (.ref fD_) = true) (bD_ : Binds K fdD_ ["_law_text"] []) : FnOk P w K mg base CX0 33 f fd pPr (spPr) := by
  refine F.ok scPr (fun vs H Q E h => ?_) (fun cdv A outer s H vs Q E hr h => ?_)
  · obtain ⟨t, L, gs, R, g, rfl, _⟩ := h
    rfl
  · obtain ⟨t, L, gs, R, g, rfl, G, hg, hL, hR, k⟩ := h
    have hrA_ : Room (1) _ := hr.mono (by first | decide | omega)
    have hrB_ : Room (1) _ := hr.mono (by first | decide | omega)
    have hrC_ : Room (32) _ := hr.mono (by first | decide | omega)
    have hrD_ : Room (31) _ := hr.mono (by first | decide | omega)
    refine ⟨_, (pss_cons (ps_for PassesOwn.never rfl (pi_list (pe_call0 GA_ hrA_ (by rfl) mA_ kA_ bA_ .nil pass0)) (pg_name (i := 4) scPr.nd rfl (.inl rfl)) (pss_cons (ps_set (i := 5) scPr.nd rfl (Or.inl rfl) (pv 2))
      (pss_one (ps_if (pt_not (pt_val (pe_call GC_ hrC_ (by rfl) mC_ kC_ bC_ .nil pass0 (pa_cons (pe_op op_cat (pe_op op_cat (pv 1) (pe_lst (pa_cons (pv 4) pa_nil))) (pv 3)) (pa_cons (pv 5) pa_nil))))) (pss_one (ps_ret pe_bl)) pss_nil))))
      (pss_cons (ps_for PassesOwn.never rfl (pi_list (pe_call0 GB_ hrB_ (by rfl) mB_ kB_ bB_ .nil pass0)) (pg_name (i := 4) scPr.nd rfl (.inl rfl)) (pss_cons (ps_if (pt_not (pt_val (pe_call GC_ hrC_ (by rfl) mC_ kC_ bC_ .nil pass0 (pa_cons (pe_op op_cat (pe_op op_cat (pv 1) (pe_lst (pa_cons pe_str (pa_cons (pv 4) pa_nil)))) (pv 3)) (pa_cons (pe_op op_add (pv 2) pe_int) pa_nil))))) (pss_one (ps_ret pe_bl)) pss_nil)
      (pss_one (ps_if (pt_not (pt_val (pe_call GC_ hrC_ (by rfl) mC_ kC_ bC_ .nil pass0 (pa_cons (pe_op op_cat (pe_op op_cat (pv 1) (pe_lst (pa_cons pe_str (pa_cons pe_str (pa_cons (pv 4) pa_nil))))) (pv 3)) (pa_cons (pe_op op_add (pv 2) pe_int) pa_nil))))) (pss_one (ps_ret pe_bl)) pss_nil))))
      (pss_cons (ps_if (PW.pt (pw_or (pt_not (pt_val (pe_call GC_ hrC_ (by rfl) mC_ kC_ bC_ .nil pass0 (pa_cons (pe_op op_cat (pv 1) (pe_lst (pa_cons pe_str pa_nil))) (pa_cons (pe_op op_add (pv 2) pe_int) pa_nil))))) (pw_or1 (pt_not (pt_val (pe_call GC_ hrC_ (by rfl) mC_ kC_ bC_ .nil pass0 (pa_cons (pe_op op_cat (pv 1) (pe_lst (pa_cons pe_str (pa_cons pe_str pa_nil)))) (pa_cons (pe_op op_add (pv 2) pe_int) pa_nil)))))))) (pss_one (ps_ret pe_bl)) pss_nil)
      (pss_cons (ps_setLc (i := 6) (own := [("_law_k", 7)]) (g := (gName 7)) (tt := tYes) (te := teSv) (by rfl) scPr.nd rfl rfl (sw_true rfl rfl rfl (by decide +kernel)) (pi_range1 (by rfl) T.range (pa_cons pe_int pa_nil)) (blkOk_by (own := [("_law_k", 7)]) (N := nPr) (sc := defScope sPr) (by decide +kernel)) (fun _ _ _ _ _ => (pg_name (i := 7) scPr.nd rfl (.inl rfl))) (fun _ _ _ _ _ => pts_nil) (fun _ _ _ _ _ => (pe_op op_add_str (pe_op op_add_str pe_str (pe_callTy call_str_int (by rfl) T.str boot_str (pa_cons (pv 7) pa_nil))) pe_str)))
      (pss_cons (ps_if (pt_not (pt_val (pe_call GC_ hrC_ (by rfl) mC_ kC_ bC_ .nil pass0 (pa_cons (pe_op op_cat (pe_op op_cat (pv 1) (pe_lst (pa_cons pe_str pa_nil))) (pe_slice sl_list (pv 6) po_none (po_some pe_int))) (pa_cons (pe_op op_add (pv 2) pe_int) pa_nil))))) (pss_one (ps_ret pe_bl)) pss_nil)
      (pss_cons (ps_if (pt_cmpR op_ne (pe_call GD_ hrD_ (by rfl) mD_ kD_ bD_ .nil pass0 (pa_cons (pe_m1 PySem.F.slot_str_join PySem.F.type_str_join mt_join pe_str (pe_op op_cat (pe_op op_cat (pv 1) (pe_lst (pa_cons pe_str pa_nil))) (pe_slice sl_list (pv 6) po_none (po_some pe_int)))) pa_nil)) pe_str (nomark _)) (pss_one (ps_ret pe_bl)) pss_nil)
      (pss_cons (ps_if (pt_cmpR op_ne (pe_call GD_ hrD_ (by rfl) mD_ kD_ bD_ .nil pass0 (pa_cons (pe_m1 PySem.F.slot_str_join PySem.F.type_str_join mt_join pe_str (pe_op op_cat (pe_op op_cat (pv 1) (pe_lst (pa_cons pe_str pa_nil))) (pe_slice sl_list (pv 6) po_none (po_some pe_int)))) pa_nil)) pe_str (nomark _)) (pss_one (ps_ret pe_bl)) pss_nil)
      (pss_one (ps_ret (pe_call GC_ hrC_ (by rfl) mC_ kC_ bC_ .nil pass0 (pa_cons (pe_op op_cat (pe_op op_cat (pv 1) (pe_lst (pa_cons pe_str pa_nil))) (pv 6)) (pa_cons (pe_op op_add (pv 2) pe_int) pa_nil)))))))))))), ?_⟩
    have two : 2 ≤ sizeLine := by decide
    have one : 1 ≤ sizeLine := by decide
    have three : 3 ≤ sizeLine := by decide
    have B := lead_ok G
    have bl := lead_len G
    have hg3 := (good_of hg).2.2
    generalize hn : (lead gs).length = n at bl
    refine ⟨rfl, fun W H1 hW s1 eW => ⟨W, rfl, ⟨_, SqL.of eW⟩, for_list (K := K) (a := W) (xs := vS badS) (fun j σ H' => (∃ (x4 x5 : Option V), σ = [some t, some (.ref L), some (.int (n : Int)), some (.ref R), x4, x5, none, none]) ∧ Same H1 H') ⟨⟨none, none, rfl⟩, Same.refl _⟩ (fun j σ H' _ pr => SqL.of (pr.2 _ _ eW)) ?_ ?_⟩⟩
    · rintro j x σ H2 hj ⟨⟨x4, x5, rfl⟩, s2⟩
      have s02 := s1.trans s2
      obtain ⟨z, ez, rfl⟩ : ∃ z, badS[j]? = some z ∧ V.str z = x := by
        rw [List.getElem?_map] at hj
        exact Option.map_eq_some_iff.mp hj
      have mz := List.mem_of_getElem? ez
      obtain ⟨ok1, ps1⟩ := due_bad G (List.all_eq_true.mp bad_all z mz) (List.all_eq_true.mp bad_line z mz) hg
      rw [hn] at ps1
      refine ⟨_, rfl, ?_⟩
      refine at_go (ls_cat (ls_cat (ls_var rfl (s02 _ _ hL)) (ls_lst [z] (fun H Q h => ⟨_, rfl, h⟩) (by show 1 ≤ 1000; decide)) (by show _ + 1 ≤ 1000; omega)) (ls_var rfl (s02 _ _ hR)) (by rw [List.length_append]; show _ + 1 + _ ≤ 1000; omega)) (fun H Q h => ⟨_, rfl, h⟩) ok1 ps1 fun H3 s3 => ⟨_, rfl, iteF ?_⟩
      exact ⟨⟨_, _, rfl⟩, s2.trans s3⟩
    rintro σ H2 ⟨⟨x4, x5, rfl⟩, s2⟩
    have s02 := s1.trans s2
    have hL2 := s02 _ _ hL
    have hR2 := s02 _ _ hR
    refine ⟨rfl, fun W2 H3 hW2 s3 eW2 => ⟨W2, rfl, ⟨_, SqL.of eW2⟩, for_list (K := K) (a := W2) (xs := vS totS) (fun j σ H' => (∃ (x4 : Option V), σ = [some t, some (.ref L), some (.int (n : Int)), some (.ref R), x4, x5, none, none]) ∧ Same H3 H') ⟨⟨x4, rfl⟩, Same.refl _⟩ (fun j σ H' _ pr => SqL.of (pr.2 _ _ eW2)) ?_ ?_⟩⟩
    · clear s02
      rintro j x σ H4 hj ⟨⟨x4, rfl⟩, s4⟩
      have s34 := s3.trans s4
      obtain ⟨z, ez, rfl⟩ : ∃ z, totS[j]? = some z ∧ V.str z = x := by
        rw [List.getElem?_map] at hj
        exact Option.map_eq_some_iff.mp hj
      have mz := List.mem_of_getElem? ez
      obtain ⟨ok1, ps1⟩ := due_tot1 G (List.all_eq_true.mp tot_all z mz) (List.all_eq_true.mp tot_line z mz) hg
      obtain ⟨ok2, ps2⟩ := due_tot2 G (List.all_eq_true.mp tot_all z mz) (List.all_eq_true.mp tot_line z mz) hg
      rw [hn] at ps1 ps2
      have hL4 := s34 _ _ hL2
      have hR4 := s34 _ _ hR2
      refine at_go (ls_cat (ls_cat (ls_var rfl hL4) (ls_lst (grA z) (fun H Q h => ⟨_, rfl, h⟩) (by show 2 ≤ 1000; decide)) (by show _ + 2 ≤ 1000; omega)) (ls_var rfl hR4) (by rw [List.length_append]; show _ + 2 + _ ≤ 1000; omega)) (fun H Q h => ⟨_, rfl, _, _, rfl, rfl, h⟩) ok1 ps1 fun H5 s5 => ⟨_, rfl, iteF ?_⟩
      refine at_go (ls_cat (ls_cat (ls_var rfl (s5 _ _ hL4)) (ls_lst (grB z) (fun H Q h => ⟨_, rfl, h⟩) (by show 3 ≤ 1000; decide)) (by show _ + 3 ≤ 1000; omega)) (ls_var rfl (s5 _ _ hR4)) (by rw [List.length_append]; show _ + 3 + _ ≤ 1000; omega)) (fun H Q h => ⟨_, rfl, _, _, rfl, rfl, h⟩) ok2 ps2 fun H6 s6 => ⟨_, rfl, iteF ?_⟩
      exact ⟨⟨_, rfl⟩, s4.trans (s5.trans s6)⟩
    rintro σ H4 ⟨⟨x4, rfl⟩, s4⟩
    have s04 := s02.trans (s3.trans s4)
    have hL4 := s04 _ _ hL
    have hR4 := s04 _ _ hR
    clear s02 s3 s4 eW eW2 hW hW2 s1 s2
    have pad : ∀ {r : List Str} {x : Option Nat}, dueB r x = true → LsB (lead gs ++ r) ∧ posS (lead gs ++ r) = x.map (n + ·) := fun h => by
      have := due_base G h
      rw [hn] at this
      exact this
    refine at_go (ls_cat (ls_var rfl hL4) (ls_lst ["group a"] (fun H Q h => h) (by decide)) (by show _ + 1 ≤ 1000; omega)) (fun H Q h => ⟨_, rfl, _, _, rfl, rfl, h⟩) (n := n + 1) (pad due_g1).1 (pad due_g1).2 fun H5 s5 => ⟨_, rfl, iteF ?_⟩
    refine at_go (ls_cat (ls_var rfl (s5 _ _ hL4)) (ls_lst ["group s", "  total s sum v"] (fun H Q h => h) (by decide)) (by show _ + 2 ≤ 1000; omega)) (fun H Q h => ⟨_, rfl, _, _, rfl, rfl, h⟩) (n := n + 1) (pad due_g2).1 (pad due_g2).2 fun H6 s6 => ⟨_, rfl, iteF ?_⟩
    have s06 := s04.trans (s5.trans s6)
    have hL6 := s06 _ _ hL
    refine ⟨7, rfl, by decide, by decide, fun D hD => lc_range (lo := 0) (n := 7) (fun i H' => H' D = some (.lst ((vS sevS).take i)) ∧ Same H6 H') ⟨upd_same, Same.upd hD⟩ ?_ ?_⟩
    · rintro i H7 hi ⟨e7, s7⟩
      refine ⟨rfl, ?_⟩
      dsimp only [tYes]
      refine iteT ?_
      change teSv _ _ _
      have cs : i = 0 ∨ i = 1 ∨ i = 2 ∨ i = 3 ∨ i = 4 ∨ i = 5 ∨ i = 6 := by omega
      rcases cs with rfl | rfl | rfl | rfl | rfl | rfl | rfl
      all_goals exact ⟨_, rfl, _, rfl, by decide +kernel, _, _, rfl, rfl, by decide +kernel, _, _, rfl, rfl, by decide +kernel, _, e7, by decide +kernel, by rw [upd_same, sev_at _ (by decide)]; rfl, fun b o eb => by rw [upd_ne (ne_of_none eb hD)]; exact s7 b o eb⟩
    rintro H7 ⟨e7, s7⟩
    have e7 : H7 D = some (.lst (vS sevS)) := e7
    have S7 := s06.trans s7
    have hL7 := S7 _ _ hL
    have cut6 : cutV (vS sevS) none (some 6) = vS (sevS.take 6) := rfl
    have cut5 : cutV (vS sevS) none (some 5) = vS (sevS.take 5) := rfl
    have l6 : ∀ {σ : L2.St} {H : Hp} (hi : σ[6]? = some (some (.ref D))) (h : H D = some (.lst (vS sevS))), LS σ H (tSl (rSlL K) (tVar 6) tNoPart (tPart (tC (.int 6)))) (sevS.take 6) := fun hi h H1 Q s k => ⟨_, hi, 6, rfl, D, _, rfl, SqL.of (s _ _ h), fun p hp => k p _ (Same.upd hp) (by rw [upd_same, cut6])⟩
    have l5 : ∀ {σ : L2.St} {H : Hp} (hi : σ[6]? = some (some (.ref D))) (h : H D = some (.lst (vS sevS))), LS σ H (tSl (rSlL K) (tVar 6) tNoPart (tPart (tC (.int 5)))) (sevS.take 5) := fun hi h H1 Q s k => ⟨_, hi, 5, rfl, D, _, rfl, SqL.of (s _ _ h), fun p hp => k p _ (Same.upd hp) (by rw [upd_same, cut5])⟩
    refine at_go (ls_cat (ls_cat (ls_var rfl hL7) (ls_lst ["group a b c"] (fun H Q h => h) (by decide)) (by show _ + 1 ≤ 1000; omega)) (l6 rfl e7) (by rw [List.length_append]; show _ + 1 + 6 ≤ 1000; omega)) (fun H Q h => ⟨_, rfl, _, _, rfl, rfl, h⟩) (n := n + 6) (by rw [List.append_assoc]; exact (pad due_g3).1) (by rw [List.append_assoc]; exact (pad due_g3).2) fun H8 s8 => ⟨_, rfl, iteF ?_⟩
    have e8 := s8 _ _ e7
    have hL8 := s8 _ _ hL7
    refine told_go (ls_cat (ls_cat (ls_var rfl hL8) (ls_lst ["group a b c"] (fun H Q h => h) (by decide)) (by show _ + 1 ≤ 1000; omega)) (l5 rfl e8) (by rw [List.length_append]; show _ + 1 + 5 ≤ 1000; omega)) (by rw [List.append_assoc]; exact (pad due_g4).1) (by rw [List.append_assoc]; exact (pad due_g4).2) fun H9 s9 => ⟨rfl, _, rfl, iteF ?_⟩
    have e9 := s9 _ _ e8
    have hL9 := s9 _ _ hL8
    refine told_go (ls_cat (ls_cat (ls_var rfl hL9) (ls_lst ["group"] (fun H Q h => h) (by decide)) (by show _ + 1 ≤ 1000; omega)) (l6 rfl e9) (by rw [List.length_append]; show _ + 1 + 6 ≤ 1000; omega)) (by rw [List.append_assoc]; exact (pad due_g5).1) (by rw [List.append_assoc]; exact (pad due_g5).2) fun HA sA => ⟨rfl, _, rfl, iteF ?_⟩
    have eA := sA _ _ e9
    have hLA := sA _ _ hL9
    refine at_go (ls_cat (ls_cat (ls_var rfl hLA) (ls_lst ["group"] (fun H Q h => h) (by decide)) (by show _ + 1 ≤ 1000; omega)) (ls_var rfl eA) (by rw [List.length_append]; show _ + 1 + 7 ≤ 1000; omega)) (fun H Q h => ⟨_, rfl, _, _, rfl, rfl, h⟩) (n := n + 7) (by rw [List.append_assoc]; exact (pad due_g6).1) (by rw [List.append_assoc]; exact (pad due_g6).2) fun HB sB => ?_
    exact k HB (S7.trans (s8.trans (s9.trans (sA.trans sB))))
end
end
end K79
set_option Elab.async false
set_option linter.all false
set_option maxRecDepth 100000
set_option maxHeartbeats 4000000
namespace K79
open PySem PySem.Spec PyProof.Rows L2 Lc
/-! ## the law -/
def spLaw (K : PySem.W.Frag) : Sp := fun vs H Q _ => ∃ (a : Addr) (ns : List Int), vs = [.ref a] ∧ SqL K H a (ns.map V.int) ∧ ∀ H', Q (.bl true) H'
theorem lit_tup {Z : Addr} {σ : L2.St} {H0 : Hp} (hZ : ∃ o, H0 Z = some o) {ta : TA} {ds : List PyData} (h : LitA Z σ H0 ta ds) (l : ds.length ≤ sizeLine := by decide) : Lit Z σ H0 (tTup ta) (.tuple ds) := fun H Q s k => h H _ s fun vs H1 d1 s1 => ⟨by rw [d1.len]; exact l, fun p hp => by
  obtain ⟨o, hZ⟩ := hZ
  have zp := Same.upd (o := .tup vs) hp
  exact k _ _ (.tup (dl_at (Ne.symm (ne_of_none (s1 _ _ (s _ _ hZ)) hp)) upd_same) (dtsA d1 zp)) (s1.trans zp)⟩
def oddD : List PyData := [.none, .int 5, .list [.str "from a"], .tuple [.str "from a"], .bool true, .str "", .str "from", .str "from A", .str "from a b", .str "From a"] ++ [.str " from a", .str "distinct"]
def oddZ (z : Str) : Bool := lineB z && decide (posS [z] = some 0)
theorem odd_all : oddD.all (fun d => match d with
  | .str z => oddZ z
  | _ => true) = true := by decide +kernel
theorem odd_told {H : Hp} {x : V} {d : PyData} (h : Dh H x d) (hd : d ∈ oddD) : (∃ t, TyN H x t ∧ t ≠ "str") ∨ ∃ z, x = .str z ∧ LsB [z] ∧ posS [z] = some 0 := by
  have o := List.all_eq_true.mp odd_all d hd
  cases h with
  | non => exact .inl ⟨_, .non, by decide⟩
  | int i => exact .inl ⟨_, .int i, by decide⟩
  | bl b => exact .inl ⟨_, .bl b, by decide⟩
  | lst e _ => exact .inl ⟨_, .lst e, by decide⟩
  | tup e _ => exact .inl ⟨_, .tup e, by decide⟩
  | str z =>
    have o : oddZ z = true := o
    unfold oddZ at o
    rw [Bool.and_eq_true, decide_eq_true_eq] at o
    exact .inr ⟨z, rfl, ⟨List.cons_ne_nil _ _, by show 1 ≤ 100; decide, by rw [List.all_cons, o.1]; rfl⟩, o.2⟩
  | _ => exact absurd hd (by unfold oddD; simp)
theorem due_good {gs : List (List Str)} (G : Gs gs) {g : List Str} (hg : g ∈ goodS) : LsB (lead gs ++ g) ∧ posS (lead gs ++ g) = none := by
  obtain ⟨h1, h2, h3⟩ := good_of hg
  have := lead_len G
  have l6 := G.len
  refine ⟨(lead_ok G).app (by omega) h2, ?_⟩
  have nt := nt_good h1 []
  rw [List.append_nil] at nt
  rw [pos_base G nt]
  obtain ⟨k, hk⟩ : ∃ k, 10 - gs.length = k + 1 := ⟨9 - gs.length, by omega⟩
  have e := pos_good h1 (rest := []) True.intro k []
  rw [List.append_nil] at e
  rw [hk, e]
  cases k <;> rfl
def fullS (n : Nat) : List Str := (List.replicate n (["first 1"] : List Str)).flatten
def fullB (m : Nat) : Bool := (fullS (10 - m)).all lineB && decide ((fullS (10 - m)).length = 10 - m) && decide ((stepsM (10 - m) ((fullS (10 - m)).map CL) []).pos = none) && decide ((stepsM (10 - m) ((fullS (10 - m) ++ (["first 1"] : List Str)).map CL) []).pos = some (10 - m)) && (match (fullS (10 - m)).map CL with
  | [] => true
  | l :: _ => (totalT [32, 32] l).isNone)
theorem full_all : (List.range 7).all fullB = true := by decide +kernel
theorem due_full {gs : List (List Str)} (G : Gs gs) : (LsB (lead gs ++ fullS (10 - gs.length)) ∧ posS (lead gs ++ fullS (10 - gs.length)) = none) ∧ (LsB (lead gs ++ fullS (10 - gs.length) ++ (["first 1"] : List Str)) ∧ posS (lead gs ++ fullS (10 - gs.length) ++ (["first 1"] : List Str)) = some ((lead gs).length + (10 - gs.length))) ∧ (fullS (10 - gs.length)).length = 10 - gs.length := by
  have l6 := G.len
  have := lead_len G
  have h := List.all_eq_true.mp full_all gs.length (List.mem_range.mpr (by omega))
  unfold fullB at h
  generalize fullS (10 - gs.length) = F at h ⊢
  simp only [Bool.and_eq_true, decide_eq_true_eq] at h
  obtain ⟨⟨⟨⟨h1, h2⟩, h3⟩, h4⟩, h5⟩ := h
  have nF : F ≠ [] := fun e => by rw [e] at h2; simp at h2; omega
  have nt : ∀ r : List LN, NT (F.map CL ++ r) := fun r => by
    cases F with
    | nil => exact absurd rfl nF
    | cons a b =>
      show totalT [32, 32] (CL a) = none
      simpa using h5
  have nt0 := nt []
  rw [List.append_nil] at nt0
  have ok1 := (lead_ok G).app (b := F) (by omega) h1
  have f1 : ([("first 1" : Str)]).all lineB = true := by decide +kernel
  refine ⟨⟨ok1, by rw [pos_base G nt0, h3]; rfl⟩, ⟨ok1.app (by rw [List.length_append]; show _ + 1 ≤ 100; omega) f1, ?_⟩, h2⟩
  rw [List.append_assoc, pos_base G (by rw [List.map_append]; exact nt _), h4]
  rfl
theorem due_e : dueB [""] (some 0) = true := by decide +kernel
theorem pos_e {gs : List (List Str)} (G : Gs gs) : LsB (("" : Str) :: lead gs) ∧ posS (("" : Str) :: lead gs) = some 0 := by
  have B := lead_ok G
  have := lead_len G
  have e0 : lineB "" = true := by decide +kernel
  refine ⟨⟨List.cons_ne_nil _ _, by rw [List.length_cons]; omega, by rw [List.all_cons, e0, B.ok]; rfl⟩, ?_⟩
  have s0 : srcB (CL "") = false := by decide +kernel
  unfold posS
  rw [List.map_cons, pipe_cons, s0, if_neg (by decide)]
  rfl
theorem at_go2 {σ : L2.St} {H : Hp} {te tn : TE} {ss : List Str} {n : Nat} {E0 : XK} {Q : VK} (h : LS σ H te ss) (hn : ∀ H' Q, Same H H' → Q (.int (n : Int)) H' → tn σ H' Q) (ok : LsB ss) (ps : posS ss = some n) (k : ∀ H', Same H H' → Q (.bl true) H') : tCall spAt [] E0 (tCons te (tCons tn tNil)) σ H Q := h H _ (Same.refl H) fun p H1 s1 e1 => hn H1 _ s1 ⟨p, ss, n, rfl, e1, ok, ps, fun H' s => k H' (s1.trans s)⟩
theorem seq_ls {i : Nat} {te : TE} {ss : List Str} {σ : L2.St} {H : Hp} {rest : L2.TS} {D : Ends} (h : LS σ H te ss) (k : ∀ p H', Same H H' → H' p = some (.lst (vS ss)) → rest D (σ.set i (some (.ref p))) H') : tSeq (tAsg te (gName i)) rest D σ H := h H _ (Same.refl H) k
section
variable {P : Program} {w : World} {K : PySem.W.Frag} {mg : Str → Option Value} {base : Heap} {f : Addr} {fd : FuncData}
abbrev sLaw : Stmt := top 75
abbrev nLaw : List Str := ["_law_script", "_law_tape_here", "_law_odds", "_law_odd", "_law_turn", "_law_lines", "_law_many", "_law_again", "_law_tail", "_law_full"]
abbrev pLaw : List Str := ["_law_script"]
theorem scLaw : FnScope nLaw pLaw (defScope sLaw) := ⟨rfl, rfl, rfl, by decide +kernel, rfl, by decide +kernel, by decide +kernel⟩
section
variable {fA_ fB_ fC_ fD_ fE_ fF_ fG_ : Addr} {fdA_ fdB_ fdC_ fdD_ fdE_ fdF_ fdG_ : FuncData}
theorem ok_Law (F : Fun K "law" "law" sLaw f fd) (T : Bt mg)
    (GA_ : FnOk P w K mg base CX0 1 fA_ fdA_ ["_law_script"] (spTape K)) (mA_ : mg "_law_tape" = some (.ref fA_)) (kA_ : PySem.W.keepIn K (.ref fA_) = true) (bA_ : Binds K fdA_ ["_law_script"] [])
    (GB_ : FnOk P w K mg base CX0 1 fB_ fdB_ ["_law_tape_here", "_law_many"] (spDrawL)) (mB_ : mg "_law_draw" = some (.ref fB_)) (kB_ : PySem.W.keepIn K (.ref fB_) = true) (bB_ : Binds K fdB_ ["_law_tape_here", "_law_many"] [])
    (GC_ : FnOk P w K mg base CX0 2 fC_ fdC_ ["_law_tape_here"] (spGd)) (mC_ : mg "_law_good" = some (.ref fC_)) (kC_ : PySem.W.keepIn K (.ref fC_) = true) (bC_ : Binds K fdC_ ["_law_tape_here"] [])
    (GD_ : FnOk P w K mg base CX0 31 fD_ fdD_ ["_law_text"] (spTo)) (mD_ : mg "_law_told" = some (.ref fD_)) (kD_ : PySem.W.keepIn K (.ref fD_) = true) (bD_ : Binds K fdD_ ["_law_text"] [])
    (GE_ : FnOk P w K mg base CX0 32 fE_ fdE_ ["_law_lines", "_law_due"] (spAt)) (mE_ : mg "_law_at" = some (.ref fE_)) (kE_ : PySem.W.keepIn K (.ref fE_) = true) (bE_ : Binds K fdE_ ["_law_lines", "_law_due"] [])
    (GF_ : FnOk P w K mg base CX0 33 fF_ fdF_ ["_law_tape_here", "_law_lines", "_law_at_here", "_law_tail"] (spPr)) (mF_ : mg "_law_places_right" = some (.ref fF_)) (kF_ : PySem.W.keepIn K (.ref fF_) = true) (bF_ : Binds K fdF_ ["_law_tape_here", "_law_lines", "_law_at_here", "_law_tail"] [])
    (GG_ : FnOk P w K mg base CX0 33 fG_ fdG_ ["_law_lines"] (spCr)) (mG_ : mg "_law_choose_right" = some (.ref fG_)) (kG_ : PySem.W.keepIn K (.ref fG_) = true) (bG_ : Binds K fdG_ ["_law_lines"] []) : FnG P w K mg base 34 f fd pLaw (spLaw K) := by
  refine Lc.Fun.okG F scLaw (fun vs H Q E h => ?_) (fun cdv A outer s H vs Q E hg hr h => ?_)
  · obtain ⟨a0, ns, rfl, _⟩ := h
    rfl
  · obtain ⟨a0, ns, rfl, hS, k⟩ := h
    have hrA_ : Room (1) _ := hr.mono (by first | decide | omega)
    have hrB_ : Room (1) _ := hr.mono (by first | decide | omega)
    have hrC_ : Room (2) _ := hr.mono (by first | decide | omega)
    have hrD_ : Room (31) _ := hr.mono (by first | decide | omega)
    have hrE_ : Room (32) _ := hr.mono (by first | decide | omega)
    have hrF_ : Room (33) _ := hr.mono (by first | decide | omega)
    have hrG_ : Room (33) _ := hr.mono (by first | decide | omega)
    refine ⟨_, (pss_cons (ps_set (i := 1) scLaw.nd rfl (Or.inl rfl) (pe_call GA_ hrA_ (by rfl) mA_ kA_ bA_ .nil pass0 (pa_cons (pv 0) pa_nil)))
      (pss_cons (ps_set (i := 2) scLaw.nd rfl (Or.inl rfl) (pe_lst (pa_cons pe_non (pa_cons pe_int (pa_cons (pe_lst (pa_cons pe_str pa_nil)) (pa_cons (pe_tup (pa_cons pe_str pa_nil)) (pa_cons pe_bl (pa_cons pe_str (pa_cons pe_str (pa_cons pe_str (pa_cons pe_str (pa_cons pe_str pa_nil))))))))))))
      (Evl.pss_cut (ps_for PassesOwn.never rfl (pi_list (pe_op op_cat (pv 2) (pe_lst (pa_cons pe_str (pa_cons pe_str pa_nil))))) (pg_name (i := 3) scLaw.nd rfl (.inl rfl)) (pss_one (ps_if (pt_cmpR (op_neD hr.units) (pe_call GD_ hrD_ (by rfl) mD_ kD_ bD_ .nil pass0 (pa_cons (pv 3) pa_nil)) (pe_lst (pa_cons pe_int (pa_cons pe_bl pa_nil))) (nomark _)) (pss_one (ps_ret pe_bl)) pss_nil)))
      (Evl.pss_cut (ps_for PassesOwn.never rfl (pi_range1 (by rfl) T.range (pa_cons pe_int pa_nil)) (pg_name (i := 4) scLaw.nd rfl (.inl rfl)) (pss_cons (ps_par (i := 5) (j := 6) (by rfl) scLaw.nd rfl rfl (by decide) rfl rfl (pa_cons (pe_lst (pa_cons pe_str pa_nil)) (pa_cons pe_int pa_nil)) (by rfl))
      (Evl.pss_cut (ps_for PassesOwn.never rfl (pi_range1 (by rfl) T.range (pa_cons (pe_call GB_ hrB_ (by rfl) mB_ kB_ bB_ .nil pass0 (pa_cons (pv 1) (pa_cons pe_int pa_nil))) pa_nil)) (pg_name (i := 7) scLaw.nd rfl (.inl rfl)) (pss_cons (ps_set (i := 5) scLaw.nd rfl (Or.inl rfl) (pe_op op_cat (pv 5) (pe_call GC_ hrC_ (by rfl) mC_ kC_ bC_ .nil pass0 (pa_cons (pv 1) pa_nil))))
      (pss_one (ps_set (i := 6) scLaw.nd rfl (Or.inl rfl) (pe_op op_add (pv 6) pe_int)))))
      (pss_cons (ps_set (i := 8) scLaw.nd rfl (Or.inl rfl) (pe_call GC_ hrC_ (by rfl) mC_ kC_ bC_ .nil pass0 (pa_cons (pv 1) pa_nil)))
      (pss_cons (ps_if (pt_cmpR op_ne (pe_call GD_ hrD_ (by rfl) mD_ kD_ bD_ .nil pass0 (pa_cons (pe_m1 PySem.F.slot_str_join PySem.F.type_str_join mt_join pe_str (pe_op op_cat (pv 5) (pv 8))) pa_nil)) pe_str (nomark _)) (pss_one (ps_ret pe_bl)) pss_nil)
      (pss_cons (ps_if (PW.pt (pw_or (pt_not (pt_val (pe_call GF_ hrF_ (by rfl) mF_ kF_ bF_ .nil pass0 (pa_cons (pv 1) (pa_cons (pv 5) (pa_cons (pe_callB call_len_seq (by rfl) T.len PySem.boot_len (pa_cons (pv 5) pa_nil)) (pa_cons (pv 8) pa_nil))))))) (pw_or1 (pt_not (pt_val (pe_call GG_ hrG_ (by rfl) mG_ kG_ bG_ .nil pass0 (pa_cons (pv 5) pa_nil))))))) (pss_one (ps_ret pe_bl)) pss_nil)
      (pss_cons (ps_set (i := 9) scLaw.nd rfl (Or.inl rfl) (pe_op op_cat (pv 5) (pe_op op_rep (pe_lst (pa_cons pe_str pa_nil)) (pe_op op_sub pe_int (pv 6)))))
      (pss_cons (ps_if (PW.pt (pw_or (pt_cmpR op_ne (pe_call GD_ hrD_ (by rfl) mD_ kD_ bD_ .nil pass0 (pa_cons (pe_m1 PySem.F.slot_str_join PySem.F.type_str_join mt_join pe_str (pv 9)) pa_nil)) pe_str (nomark _)) (pw_or1 (pt_not (pt_val (pe_call GE_ hrE_ (by rfl) mE_ kE_ bE_ .nil pass0 (pa_cons (pe_op op_cat (pv 9) (pe_lst (pa_cons pe_str pa_nil))) (pa_cons (pe_callB call_len_seq (by rfl) T.len PySem.boot_len (pa_cons (pv 9) pa_nil)) pa_nil)))))))) (pss_one (ps_ret pe_bl)) pss_nil)
      (pss_one (ps_if (PW.pt (pw_or (pt_not (pt_val (pe_call GE_ hrE_ (by rfl) mE_ kE_ bE_ .nil pass0 (pa_cons (pe_op op_cat (pv 5) (pe_lst (pa_cons pe_str pa_nil))) (pa_cons (pe_callB call_len_seq (by rfl) T.len PySem.boot_len (pa_cons (pv 5) pa_nil)) pa_nil))))) (pw_or1 (pt_not (pt_val (pe_call GE_ hrE_ (by rfl) mE_ kE_ bE_ .nil pass0 (pa_cons (pe_op op_cat (pe_lst (pa_cons pe_str pa_nil)) (pv 5)) (pa_cons pe_int pa_nil)))))))) (pss_one (ps_ret pe_bl)) pss_nil))))))))))
      (pss_one (ps_ret pe_bl)))))), ?_⟩
    have two : 2 ≤ sizeLine := by decide
    have one : 1 ≤ sizeLine := by decide
    have three : 3 ≤ sizeLine := by decide
    refine ⟨_, rfl, a0, ns, rfl, hS, fun t H1 s1 nt T1 => ?_⟩
    obtain ⟨c, T1⟩ := T1
    have T1 : TapeL c H1 t := T1
    have hZ : ∃ o, H1 t = some o := by obtain ⟨_, _, _, _, h1, _⟩ := T1; exact ⟨_, h1⟩
    refine seq_lit (Z := t) (d := .list [.none, .int 5, .list [.str "from a"], .tuple [.str "from a"], .bool true, .str "", .str "from", .str "from A", .str "from a b", .str "From a"]) (lit_lst hZ (lita_cons lit_non (lita_cons lit_int (lita_cons (lit_lst hZ (lita_cons lit_str lita_nil)) (lita_cons (lit_tup hZ (lita_cons lit_str lita_nil)) (lita_cons lit_bl (lita_cons lit_str (lita_cons lit_str (lita_cons lit_str (lita_cons lit_str (lita_cons lit_str lita_nil)))))))))) (l := by show 10 ≤ sizeLine; decide)) fun v2 H2 d2 s2 => ?_
    have T2 := T1.same s2
    have hZ : ∃ o, H2 t = some o := by obtain ⟨_, _, _, _, h1, _⟩ := T2; exact ⟨_, h1⟩
    refine ⟨fun σ H' => (∃ (x3 : Option V), σ = [some (.ref a0), some (.ref t), some v2, x3, none, none, none, none, none, none]) ∧ TapeL c H' t, ?_, ?_⟩
    · refine (lit_cat (ds := [.none, .int 5, .list [.str "from a"], .tuple [.str "from a"], .bool true, .str "", .str "from", .str "from A", .str "from a b", .str "From a"]) (es := [.str " from a", .str "distinct"]) hZ (lit_var (i := 2) rfl d2) (lit_lst hZ (lita_cons lit_str (lita_cons lit_str lita_nil))) (l := by show 10 + 2 ≤ sizeLine; decide)) _ _ (Same.refl _) fun W H3 dW s3 => ?_
      have dW : DhT t H3 W (.list oddD) := dW
      cases dW with
      | @lst W xs _ eW dx =>
      obtain ⟨nW, eW⟩ := dl_of eW
      have T3 := T2.same s3
      refine ⟨W, rfl, ⟨_, SqL.of eW⟩, for_list (K := K) (a := W) (xs := xs) (fun j σ H' => (∃ (x3 : Option V), σ = [some (.ref a0), some (.ref t), some v2, x3, none, none, none, none, none, none]) ∧ Same H3 H') ⟨⟨none, rfl⟩, Same.refl _⟩ (fun j σ H' _ pr => SqL.of (pr.2 _ _ eW)) ?_ (fun σ H' pr => ⟨pr.1, T3.same pr.2⟩)⟩
      rintro j x σ H4 hj ⟨⟨x3, rfl⟩, s4⟩
      obtain ⟨d, ed, hd⟩ := dx.get j x hj
      have od := odd_told ((hd.same dl_here).same s4) (List.mem_of_getElem? ed)
      have fin : ∀ (u : V) (H5 : Hp), Same H4 H5 → Dh H5 u (toldD (some 0)) → ∀ r, H5 r = none → ∃ (d e : PyData), Dp K (upd H5 r (.lst [.int 0, .bl true])) u d ∧ Dp K (upd H5 r (.lst [.int 0, .bl true])) (.ref r) e ∧ SeqAt.shaped d = true ∧ SeqAt.shaped e = true ∧ PyData.eqv d e = true ∧ Same H3 (upd H5 r (.lst [.int 0, .bl true])) := fun u H5 s5 hu r hr => by
        have zr := Same.upd (o := .lst [.int 0, .bl true]) hr
        have hb : Dh (upd H5 r (.lst [.int 0, .bl true])) (.ref r) (toldD (some 0)) := .lst upd_same (.cons (.int _) (.cons (.bl _) .nil))
        exact ⟨_, _, (hu.same zr).dp rfl, hb.dp rfl, by decide +kernel, by decide +kernel, by decide +kernel, s4.trans (s5.trans zr)⟩
      rcases od with ⟨ty, h1, h2⟩ | ⟨z, rfl, ok, ps⟩
      · refine ⟨_, rfl, x, rfl, .inl ⟨ty, h1, h2, fun u H5 s5 hu => ⟨two, fun r hr => ?_⟩⟩⟩
        obtain ⟨d, e, f1, f2, f3, f4, f5, f6⟩ := fin u H5 s5 hu r hr
        refine ⟨d, e, f1, f2, f3, f4, _, rfl, ?_⟩
        rw [f5]
        exact iteF ⟨⟨_, rfl⟩, f6⟩
      · have ez : V.str z = V.str (TS (tx [z])) := by
          show _ = V.str (TS (CL z))
          rw [ts_cl]
        refine ⟨_, rfl, _, rfl, .inr ⟨[z], ez, ok, fun u H5 s5 hu => ⟨two, fun r hr => ?_⟩⟩⟩
        rw [ps] at hu
        obtain ⟨d, e, f1, f2, f3, f4, f5, f6⟩ := fin u H5 s5 hu r hr
        refine ⟨d, e, f1, f2, f3, f4, _, rfl, ?_⟩
        rw [f5]
        exact iteF ⟨⟨_, rfl⟩, f6⟩
    clear d2 hZ T2
    rintro σ H3 ⟨⟨x3, rfl⟩, T3⟩
    refine ⟨fun σ H' => True, ?_, fun σ H' _ => k H'⟩
    refine ⟨2, rfl, by decide, by decide, for_range (n := 2) (fun i σ H' => (∃ (x4 x5 x6 x7 x8 x9 : Option V), σ = [some (.ref a0), some (.ref t), some v2, x3, x4, x5, x6, x7, x8, x9]) ∧ TapeL c H' t) ⟨⟨_, _, _, _, _, _, rfl⟩, T3⟩ ?_ (fun _ _ _ => True.intro)⟩
    clear T3
    rintro i σ H4 hi ⟨⟨x4, x5, x6, x7, x8, x9, rfl⟩, T4⟩
    refine ⟨one, fun L0 hL0 => ?_⟩
    have zL := Same.upd (o := .lst (vS (lead []))) hL0
    have nL0 := T4.tape.ne hL0
    have T5 := T4.same zL
    have eL0 : upd H4 L0 (.lst (vS (lead []))) L0 = some (.lst (vS (lead []))) := upd_same
    refine ⟨_, _, rfl, ?_⟩
    refine ⟨fun σ H' => (∃ (L : Addr) (gs : List (List Str)) (x7 : Option V), σ = [some (.ref a0), some (.ref t), some v2, x3, some (.int ((0 : Int) + (i : Int))), some (.ref L), some (.int (gs.length : Int)), x7, x8, x9] ∧ Gs gs ∧ L ≠ t ∧ H' L = some (.lst (vS (lead gs)))) ∧ TapeL c H' t, ?_, ?_⟩
    · refine ⟨_, rfl, t, c, _, rfl, T5, by decide, big20 (by decide) (by decide), fun m H6 m0 m7 T6 S6 => ⟨m, rfl, by omega, by omega, for_range (n := m.toNat) (fun j σ H' => (∃ (L : Addr) (gs : List (List Str)) (x7 : Option V), σ = [some (.ref a0), some (.ref t), some v2, x3, some (.int ((0 : Int) + (i : Int))), some (.ref L), some (.int (gs.length : Int)), x7, x8, x9] ∧ gs.length = j ∧ (∀ g ∈ gs, g ∈ goodS) ∧ L ≠ t ∧ H' L = some (.lst (vS (lead gs)))) ∧ TapeL c H' t) ⟨⟨L0, [], x7, rfl, rfl, nofun, nL0, S6 _ _ nL0 eL0⟩, T6⟩ ?_ ?_⟩⟩
      · rintro j σ H7 hj ⟨⟨L, gs, y7, rfl, lg, ok, nL, eL⟩, T7⟩
        have fl := flat_len gs ok
        refine ⟨_, rfl, _, rfl, t, c, rfl, T7, fun g hg p H8 np ep T8 S8 => ⟨_, _, _, _, rfl, rfl, S8 _ _ nL eL, ep, ?_, fun q hq => ?_⟩⟩
        · rw [List.length_map, List.length_map]
          have := (good_of hg).2.2
          refine Nat.le_trans (show _ ≤ 100 from ?_) (by decide)
          show gs.flatten.length + 1 + _ ≤ 100
          omega
        have zq := Same.upd (o := .lst (vS (lead gs) ++ vS g)) hq
        refine ⟨_, rfl, _, _, rfl, rfl, ⟨q, gs ++ [g], some (.int ((0 : Int) + (j : Int))), ?_, by rw [List.length_append, lg]; rfl, fun g' h' => ?_, T8.tape.ne hq, ?_⟩, T8.same zq⟩
        · rw [List.length_append]
          rfl
        · rcases List.mem_append.mp h' with h' | h'
          · exact ok g' h'
          · rw [List.mem_singleton.mp h']; exact hg
        · rw [upd_same]
          unfold lead
          rw [List.flatten_append, List.flatten_singleton, ← List.cons_append, vS_app]
      · rintro σ H7 ⟨⟨L, gs, y7, rfl, lg, ok, nL, eL⟩, T7⟩
        exact ⟨⟨L, gs, y7, rfl, ⟨by omega, ok⟩, nL, eL⟩, T7⟩
    clear T5 zL eL0 hL0
    rintro σ H5 ⟨⟨L, gs, y7, rfl, G, nL, eL⟩, T5⟩
    have B := lead_ok G
    have bl := lead_len G
    have l6 := G.len
    refine ⟨_, rfl, t, c, rfl, T5, fun g hg R H6 nR eR T6 S6 => ?_⟩
    have gl := (good_of hg).2.2
    have eL6 := S6 _ _ nL eL
    obtain ⟨ok1, ps1⟩ := due_good G hg
    refine told_go (ls_cat (ls_var rfl eL6) (ls_var rfl eR) (by omega)) ok1 ps1 fun H7 s7 => ⟨rfl, _, rfl, iteF ?_⟩
    have eL7 := s7 _ _ eL6
    have eR7 := s7 _ _ eR
    refine ⟨_, rfl, _, rfl, _, rfl, L, _, rfl, .inl (SqL.of eL7), _, rfl, .ref t, L, gs, R, g, by rw [List.length_map]; rfl, G, hg, eL7, eR7, fun H8 s8 => ⟨_, rfl, iteF ?_⟩⟩
    refine ⟨_, rfl, L, gs, rfl, G, s8 _ _ eL7, fun H9 s9 => ⟨_, rfl, iteF ?_⟩⟩
    have s79 := s7.trans (s8.trans s9)
    have eL9 := s79 _ _ eL6
    obtain ⟨⟨okf, psf⟩, ⟨okg, psg⟩, lf⟩ := due_full G
    refine seq_ls (ls_cat (ls_var rfl eL9) (ls_rep (n := 10 - gs.length) (ls_lst ["first 1"] (fun H Q h => h) (by decide)) (fun H Q h => ⟨_, rfl, _, _, rfl, rfl, by show Q (.int ((10 : Int) - (gs.length : Int))) H; rw [show (10 : Int) - (gs.length : Int) = ((10 - gs.length : Nat) : Int) by omega]; exact h⟩) (by show 1 * _ ≤ 1000; omega) (by omega)) (by show _ + (fullS (10 - gs.length)).length ≤ 1000; rw [lf]; omega)) fun F HA sA eF => ?_
    have eF : HA F = some (.lst (vS (lead gs ++ fullS (10 - gs.length)))) := eF
    refine told_go (ls_var rfl eF) okf psf fun HB sB => ⟨rfl, _, rfl, iteF ?_⟩
    have eFB := sB _ _ eF
    have lenF : (vS (lead gs ++ fullS (10 - gs.length))).length = (lead gs).length + (10 - gs.length) := by rw [List.length_map, List.length_append, lf]
    refine at_go2 (ls_cat (ls_var rfl eFB) (ls_lst ["first 1"] (fun H Q h => h) (by decide)) (by rw [List.length_append, lf]; show _ + 1 ≤ 1000; omega)) (fun H Q s h => ⟨_, rfl, F, _, rfl, .inl (SqL.of (s _ _ eFB)), by rw [lenF]; exact h⟩) okg psg fun HC sC => ⟨_, rfl, iteF ?_⟩
    have sAC := sA.trans (sB.trans sC)
    have eLC := sAC _ _ eL9
    have de := due_base G due_e
    have lenL : (vS (lead gs)).length = (lead gs).length + 0 := by rw [List.length_map]; rfl
    refine at_go2 (ls_cat (ls_var rfl eLC) (ls_lst [""] (fun H Q h => h) (by decide)) (by show _ + 1 ≤ 1000; omega)) (fun H Q s h => ⟨_, rfl, L, _, rfl, .inl (SqL.of (s _ _ eLC)), by rw [lenL]; exact h⟩) de.1 (n := (lead gs).length + 0) de.2 fun HD sD => ⟨_, rfl, iteF ?_⟩
    have eLD := sD _ _ eLC
    have pe := pos_e G
    refine at_go (ls_cat (ls_lst [""] (fun H Q h => h) (by decide)) (ls_var rfl eLD) (by show 1 + _ ≤ 1000; omega)) (n := 0) (fun H Q h => h) pe.1 pe.2 fun HE sE => ⟨_, rfl, iteF ?_⟩
    exact ⟨⟨_, _, _, _, _, _, rfl⟩, T6.same (s79.trans (sAC.trans (sD.trans sE)))⟩
end
end
end K79
set_option Elab.async false
set_option linter.all false
set_option maxRecDepth 100000
set_option maxHeartbeats 4000000
namespace K79
open PySem PySem.Spec PyProof.Rows L2 Lc
section
variable {P : Program} {w : World} {K : PySem.W.Frag} {mg : Str → Option Value} {base : Heap} {f C fI oA : Addr} {fd fdI : FuncData} {u1 : Tok}
abbrev sCp : Stmt := top 25
abbrev nCp : List Str := ["pieces", "at", "wanted", "position", "piece"]
abbrev pCp : List Str := ["pieces", "at", "wanted"]
theorem scCp : FnScope nCp pCp (defScope sCp) := ⟨rfl, rfl, rfl, by decide +kernel, rfl, by decide +kernel, by decide +kernel⟩
section
theorem ok_Cp (F : Fun K "check_piece" "check_piece" sCp f fd) (T : Bt mg) (Z : ErF K mg "BadText" "position" C fI) (GI : FnOk P w K mg base CX0 1 fI fdI ["self", "position"] (spIni C "position")) (bI : Binds K fdI ["self", "position"] []) : FnOk P w K mg base (L2.CX P w) 3 f fd pCp (spCp C) := by
  refine F.okX scCp (fun vs H Q E h => ?_) (fun cdv A outer s H vs Q E hr h => ?_)
  · obtain ⟨P, rs, l, j, p, tk, rfl, _⟩ := h
    rfl
  · obtain ⟨P, rs, l, j, p, tk, rfl, pc, dj, lp, k1, k2⟩ := h
    have hrI : Room 2 _ := hr.mono (by first | decide | omega)
    refine ⟨_, (pss_cons (ps_asg (pe_ix ix_list (pv 0) (pv 1) (fun _ _ => rfl)) (pg_tup rfl (pgs_cons (pg_name (i := 3) scCp.nd rfl (.inl rfl)) (pgs_cons (pg_name (i := 4) scCp.nd rfl (.inl rfl)) pgs_nil))))
      (pss_one (ps_if (pt_cmpR op_ne (pv 4) (pv 2) (nomark _)) (pss_one (ps_raise (W := fun cls d _ H => E cls d H) rfl (takes_of rfl rfl rfl rfl) (pmk_oex Z.oex Z.iC Z.tI GI hrI bI .nil pass0 (by rfl) Z.gC (pa_cons (pv 3) pa_nil)))) pss_nil))), ?_⟩
    obtain ⟨r, e1, e2⟩ := pcs_at pc (pf_at lp dj)
    refine ⟨_, rfl, _, rfl, P, _, _, .ref r, rfl, rfl, SqL.of pc.1, at_of (j := j) rfl e1, r, _, rfl, SqT.of e2, rfl, _, _, rfl, _, _, rfl, rfl, ?_⟩
    refine ⟨_, rfl, _, rfl, rfl, _, rfl, ?_⟩
    show if (!decide (V.str (TS (hdL l p)) = V.str (TS tk))) = true then _ else _
    by_cases h : hdL l p = tk
    · rw [decide_eq_true (ts_eq.mpr h)]
      exact iteF (k1 h)
    · rw [decide_eq_false (fun q => h (ts_eq.mp q))]
      exact iteT ⟨_, rfl, by show 1 ≤ 1000; decide, tells_ofF (k2 h)⟩
end
abbrev sRf : Stmt := top 26
abbrev nRf : List Str := ["pieces", "at", "depth", "position", "piece", "leaf"]
abbrev pRf : List Str := ["pieces", "at", "depth"]
theorem scRf : FnScope nRf pRf (defScope sRf) := ⟨rfl, rfl, rfl, by decide +kernel, rfl, by decide +kernel, by decide +kernel⟩
section
variable {fA_ fB_ : Addr} {fdA_ fdB_ : FuncData}
theorem ok_Rf (F : Fun K "read_form" "read_form" sRf f fd) (T : Bt mg) (n : Nat) (mP : mg "DEEPEST" = some (.int 8 u1)) (Z : ErF K mg "BadText" "position" C fI) (GI : FnOk P w K mg base CX0 1 fI fdI ["self", "position"] (spIni C "position")) (bI : Binds K fdI ["self", "position"] [])
    (GA_ : FnOk P w K mg base (L2.CX P w) (5 + 2 * n) fA_ fdA_ ["pieces", "at", "depth"] (spRoP C n)) (mA_ : mg "read_operation" = some (.ref fA_)) (kA_ : PySem.W.keepIn K (.ref fA_) = true) (bA_ : Binds K fdA_ ["pieces", "at", "depth"] [])
    (GB_ : FnOk P w K mg base CX0 5 fB_ fdB_ ["token"] (spRl)) (mB_ : mg "read_leaf" = some (.ref fB_)) (kB_ : PySem.W.keepIn K (.ref fB_) = true) (bB_ : Binds K fdB_ ["token"] []) : FnOk P w K mg base (L2.CX P w) (5 + 2 * n + 1) f fd pRf (spRf C n) := by
  refine F.okX scRf (fun vs H Q E h => ?_) (fun cdv A outer s H vs Q E hr h => ?_)
  · obtain ⟨P, rs, l, i, p, dp, rfl, _⟩ := h
    rfl
  · obtain ⟨P, rs, l, i, p, dp, rfl, pc, di, lp, tx, ld, ko⟩ := h
    have hrA_ : Room ((5 + 2 * n)) _ := hr.mono (by first | decide | omega)
    have hrB_ : Room (5) _ := hr.mono (by first | decide | omega)
    have hrI : Room 2 _ := hr.mono (by first | decide | omega)
    refine ⟨_, (pss_cons (ps_asg (pe_ix ix_list (pv 0) (pv 1) (fun _ _ => rfl)) (pg_tup rfl (pgs_cons (pg_name (i := 3) scRf.nd rfl (.inl rfl)) (pgs_cons (pg_name (i := 4) scRf.nd rfl (.inl rfl)) pgs_nil))))
      (pss_cons (ps_if (pt_cmpR op_gt (pv 2) (pe_glob (v := .int 8) (by rfl) mP ⟨_, rfl⟩) (nomark _)) (pss_one (ps_raise (W := fun cls d _ H => E cls d H) rfl (takes_of rfl rfl rfl rfl) (pmk_oex Z.oex Z.iC Z.tI GI hrI bI .nil pass0 (by rfl) Z.gC (pa_cons (pv 3) pa_nil)))) pss_nil)
      (pss_cons (ps_if (pt_cmpR op_eq (pv 4) pe_str (nomark _)) (pss_one (ps_ret (pe_callS GA_ hrA_ (by rfl) mA_ kA_ bA_ (fun σ => passAt (W := fun cls d _ H => E cls d H) (takes_of rfl rfl rfl rfl) σ) (pa_cons (pv 0) (pa_cons (pe_op op_add (pv 1) pe_int) (pa_cons (pv 2) pa_nil)))))) pss_nil)
      (pss_cons (ps_set (i := 5) scRf.nd rfl (Or.inl rfl) (pe_call GB_ hrB_ (by rfl) mB_ kB_ bB_ .nil pass0 (pa_cons (pv 4) pa_nil)))
      (pss_cons (ps_if (pt_cmpR op_isN (pv 5) pe_non (nomark _)) (pss_one (ps_raise (W := fun cls d _ H => E cls d H) rfl (takes_of rfl rfl rfl rfl) (pmk_oex Z.oex Z.iC Z.tI GI hrI bI .nil pass0 (by rfl) Z.gC (pa_cons (pv 3) pa_nil)))) pss_nil)
      (pss_one (ps_ret (pe_tup (pa_cons (pv 5) (pa_cons (pe_op op_add (pv 1) pe_int) pa_nil)))))))))), ?_⟩
    have two : 2 ≤ sizeLine := by decide
    have par : CL (PySem.Str.ofString "(") = [40] := by decide +kernel
    obtain ⟨r, e1, e2⟩ := pcs_at pc (pf_at lp di)
    refine ⟨_, rfl, _, rfl, P, _, _, .ref r, rfl, rfl, SqL.of pc.1, at_of (j := i) rfl e1, r, _, rfl, SqT.of e2, rfl, _, _, rfl, _, _, rfl, rfl, ?_⟩
    refine ⟨_, rfl, _, _, rfl, rfl, _, rfl, ?_⟩
    cases n with
    | zero =>
      rw [decide_eq_true (by omega)]
      exact iteT ⟨_, rfl, by show 1 ≤ 1000; decide, tells_ofF (ko.bad rfl H (Same.refl H))⟩
    | succ n =>
    rw [decide_eq_false (by omega)]
    refine iteF ⟨_, rfl, rfl, _, rfl, ?_⟩
    rw [dec_ts par]
    have rdS : rd l (n + 1) p = if l.length ≤ p then (.none, p) else if l[p]? = some 40 then rdo (rd l n) l (p + 1) else if isNo (leafD (tokL l p)) = true then (.none, p) else (leafD (tokL l p), p + (tokL l p).length) := by rw [rd]
    by_cases op : hdL l p = [40]
    · rw [decide_eq_true op]
      have e40 := (hd_is (.inl rfl)).mp op
      have lt : p < l.length := (List.getElem?_eq_some_iff.mp e40).1
      have st := pf_step lt di
      rw [op] at st
      rw [rdS, if_neg (by omega), if_pos e40] at ko
      exact iteT ⟨_, rfl, _, rfl, _, _, rfl, rfl, _, rfl, P, rs, l, i + 1, p + 1, dp, by rw [show ((i + 1 : Nat) : Int) = (i : Int) + 1 by omega] <;> rfl, pc, st, lt, tx, by omega, ko⟩
    · rw [decide_eq_false op]
      have n40 : ¬ l[p]? = some 40 := fun z => op ((hd_is (.inl rfl)).mpr z)
      have th : Tx (hdL l p) := by
        cases e : l[p]? with
        | none => rw [hd_none (List.getElem?_eq_none_iff.mp e)]; exact ⟨Nat.zero_le _, nofun⟩
        | some c =>
          by_cases s : sgl c
          · rw [hd_sgl e s]
            exact ⟨by show 1 ≤ 400000; decide, fun x hx => by rw [List.mem_singleton.mp hx]; exact tx.ok c (List.mem_of_getElem? e)⟩
          · rw [hd_tok e s]
            exact tx.sub ((List.takeWhile_sublist _).trans (List.drop_sublist _ _))
      refine iteF ⟨_, rfl, hdL l p, rfl, th, fun v H' s' hv => ⟨_, rfl, rfl, _, rfl, ?_⟩⟩
      rw [dh_non hv]
      rw [leaf_hd] at hv
      cases z : isNo (leafD (hdL l p)) with
      | true =>
        refine iteT ⟨_, rfl, by show 1 ≤ 1000; decide, tells_ofF ?_⟩
        have q : rd l (n + 1) p = (.none, p) := by
          rw [rdS]
          by_cases ge : l.length ≤ p
          · rw [if_pos ge]
          · rw [if_neg ge, if_neg n40, if_pos (by rw [← leaf_hd]; exact z)]
        have := ko.bad
        rw [q] at this
        exact this rfl H' s'
      | false =>
        have z2 : isNo (leafD (tokL l p)) = false := by rw [← leaf_hd]; exact z
        have lt : p < l.length := by
          by_cases lt : p < l.length
          · exact lt
          · rw [tok_none (by omega)] at z2
            exact absurd z2 (by decide +kernel)
        have ht : hdL l p = tokL l p := by
          by_cases s : sgl (l[p]'lt)
          · rw [tok_sgl (List.getElem?_eq_getElem lt) s] at z2
            exact absurd z2 (by decide +kernel)
          · exact hd_tok (List.getElem?_eq_getElem lt) s
        have q : rd l (n + 1) p = (leafD (tokL l p), p + (tokL l p).length) := by
          rw [rdS, if_neg (by omega), if_neg n40, if_neg (by rw [z2]; decide)]
        have kg := ko.good
        rw [q] at kg
        have st := pf_step lt di
        rw [ht] at st
        refine iteF ⟨_, rfl, _, rfl, _, _, rfl, rfl, two, fun q hq => ?_⟩
        have zq := Same.upd (o := .tup [v, .int ((i : Int) + 1)]) hq
        exact kg z2 q v (i + 1) _ (s'.trans zq) (by rw [upd_same]; rfl) (hv.same zq) st (tok_len (Nat.le_of_lt lt))
end
end
end K79
set_option Elab.async false
set_option linter.all false
set_option maxRecDepth 100000
set_option maxHeartbeats 4000000
namespace K79
open PySem PySem.Spec PyProof.Rows L2 Lc
section
variable {P : Program} {w : World} {K : PySem.W.Frag} {mg : Str → Option Value} {base : Heap} {f C fI oA : Addr} {fd fdI : FuncData} {u1 : Tok}
abbrev sRo : Stmt := top 27
abbrev nRo : List Str := ["pieces", "at", "depth", "position", "word", "parts", "behind", "kind", "operand"]
abbrev pRo : List Str := ["pieces", "at", "depth"]
theorem scRo : FnScope nRo pRo (defScope sRo) := ⟨rfl, rfl, rfl, by decide +kernel, rfl, by decide +kernel, by decide +kernel⟩
section
variable {fA_ fB_ : Addr} {fdA_ fdB_ : FuncData}
theorem ok_Ro (F : Fun K "read_operation" "read_operation" sRo f fd) (T : Bt mg) (n : Nat) (OA : OpsA K w mg oA) (Z : ErF K mg "BadText" "position" C fI) (GI : FnOk P w K mg base CX0 1 fI fdI ["self", "position"] (spIni C "position")) (bI : Binds K fdI ["self", "position"] [])
    (GA_ : FnOk P w K mg base (L2.CX P w) 3 fA_ fdA_ ["pieces", "at", "wanted"] (spCp C)) (mA_ : mg "check_piece" = some (.ref fA_)) (kA_ : PySem.W.keepIn K (.ref fA_) = true) (bA_ : Binds K fdA_ ["pieces", "at", "wanted"] [])
    (GB_ : FnOk P w K mg base (L2.CX P w) (5 + 2 * n + 1) fB_ fdB_ ["pieces", "at", "depth"] (spRf C n)) (mB_ : mg "read_form" = some (.ref fB_)) (kB_ : PySem.W.keepIn K (.ref fB_) = true) (bB_ : Binds K fdB_ ["pieces", "at", "depth"] []) : FnOk P w K mg base (L2.CX P w) (5 + 2 * n + 1 + 1) f fd pRo (spRo C n) := by
  refine F.okX scRo (fun vs H Q E h => ?_) (fun cdv A outer s H vs Q E hr h => ?_)
  · obtain ⟨P, rs, l, i, p, dp, rfl, _⟩ := h
    rfl
  · obtain ⟨P, rs, l, i, p, dp, rfl, pc, di, lp, tx, ld, ko⟩ := h
    have hrA_ : Room (3) _ := hr.mono (by first | decide | omega)
    have hrB_ : Room ((5 + 2 * n + 1)) _ := hr.mono (by first | decide | omega)
    have hrI : Room 2 _ := hr.mono (by first | decide | omega)
    obtain ⟨es, nn, KD⟩ := OA.d
    refine ⟨_, (pss_cons (ps_asg (pe_ix ix_list (pv 0) (pv 1) (fun _ _ => rfl)) (pg_tup rfl (pgs_cons (pg_name (i := 3) scRo.nd rfl (.inl rfl)) (pgs_cons (pg_name (i := 4) scRo.nd rfl (.inl rfl)) pgs_nil))))
      (pss_cons (ps_if (pt_cmpR (op_notIn_kd KD) (pv 4) (pe_glob (v := .ref oA) (by rfl) OA.g rfl) (by rfl)) (pss_one (ps_raise (W := fun cls d _ H => E cls d H) rfl (takes_of rfl rfl rfl rfl) (pmk_oex Z.oex Z.iC Z.tI GI hrI bI .nil pass0 (by rfl) Z.gC (pa_cons (pv 3) pa_nil)))) pss_nil)
      (pss_cons (ps_set (i := 5) scRo.nd rfl (Or.inl rfl) (pe_lst (pa_cons (pv 4) pa_nil)))
      (pss_cons (ps_set (i := 6) scRo.nd rfl (Or.inl rfl) (pe_op op_add (pv 1) pe_int))
      (pss_cons (ps_for (passes_of rfl) rfl (pi_tup (pe_ix ix_kdict (pe_glob (v := .ref oA) (by rfl) OA.g rfl) (pv 4) (fun _ _ => rfl))) (pg_name (i := 7) scRo.nd rfl (.inl rfl)) (pss_cons (ps_expr (pe_callS GA_ hrA_ (by rfl) mA_ kA_ bA_ (fun σ => passAt (W := fun cls d _ H => E cls d H) (takes_of rfl rfl rfl rfl) σ) (pa_cons (pv 0) (pa_cons (pv 6) (pa_cons pe_str pa_nil)))))
      (pss_cons (ps_asg (pe_callS GB_ hrB_ (by rfl) mB_ kB_ bB_ (fun σ => passAt (W := fun cls d _ H => E cls d H) (takes_of rfl rfl rfl rfl) σ) (pa_cons (pv 0) (pa_cons (pe_op op_add (pv 6) pe_int) (pa_cons (pe_op op_add (pv 2) pe_int) pa_nil)))) (pg_tup rfl (pgs_cons (pg_name (i := 8) scRo.nd rfl (.inl rfl)) (pgs_cons (pg_name (i := 6) scRo.nd rfl (.inl rfl)) pgs_nil))))
      (pss_one (ps_expr (pe_bm PySem.F.plainAttrs_list PySem.F.slot_list_append PySem.F.type_list_append mt_append (pv 5) (pa_cons (pv 8) pa_nil)))))))
      (pss_cons (ps_expr (pe_callS GA_ hrA_ (by rfl) mA_ kA_ bA_ (fun σ => passAt (W := fun cls d _ H => E cls d H) (takes_of rfl rfl rfl rfl) σ) (pa_cons (pv 0) (pa_cons (pv 6) (pa_cons pe_str pa_nil)))))
      (pss_one (ps_ret (pe_tup (pa_cons (pe_callTy call_tuple_of (by rfl) T.tuple boot_tuple (pa_cons (pv 5) pa_nil)) (pa_cons (pe_op op_add (pv 6) pe_int) pa_nil))))))))))), ?_⟩
    have two : 2 ≤ sizeLine := by decide
    obtain ⟨r, e1, e2⟩ := pcs_at pc (pf_at lp di)
    refine ⟨_, rfl, _, rfl, P, _, _, .ref r, rfl, rfl, SqL.of pc.1, at_of (j := i) rfl e1, r, _, rfl, SqT.of e2, rfl, _, _, rfl, _, _, rfl, rfl, ?_⟩
    cases ops : opsV (TS (hdL l p)) with
    | none =>
      refine ⟨_, rfl, TS (hdL l p), _, rfl, rfl, OA.no _ ops, _, rfl, iteT ⟨_, rfl, by show 1 ≤ 1000; decide, tells_ofF ?_⟩⟩
      have q : rdo (rd l n) l p = (.none, p) := by
        unfold rdo
        rw [if_pos (nops_none (by rw [← ops_hd]; exact ops))]
      have := ko.bad
      rw [q] at this
      exact this rfl H (Same.refl H)
    | some os =>
    obtain ⟨ht, lt⟩ := ops_tok ops
    obtain ⟨_, _, l1, l3, _⟩ := opsV_words ops
    have st := pf_step lt di
    obtain ⟨oa, kd1, kd2, hoa⟩ := OA.at_ _ os ops
    have q0 : rdo (rd l n) l p = rds (rd l n) l os.length (p + (tokL l p).length) [.str (TS (tokL l p))] := by
      unfold rdo
      rw [nops_some (by rw [← ht]; exact ops), if_neg (by omega)]
    rw [q0] at ko
    have lt2 := tok_len (Nat.le_of_lt lt)
    rw [ht] at ops kd1 kd2 st ⊢
    have tks : Tx (tokL l p) := tx.sub ((List.takeWhile_sublist _).trans (List.drop_sublist _ _))
    generalize tokL l p = wd at *
    generalize hres : rds (rd l n) l os.length (p + wd.length) [.str (TS wd)] = res at ko
    refine ⟨_, rfl, TS wd, _, rfl, rfl, kd2, _, rfl, iteF ?_⟩
    refine ⟨_, rfl, by show 1 ≤ sizeLine; decide, fun Z hZ => ?_⟩
    have zZ := Same.upd (o := .lst [.str (TS wd)]) hZ
    refine ⟨_, rfl, _, _, rfl, rfl, ?_⟩
    refine ⟨_, rfl, oA, TS wd, _, rfl, rfl, kd1, oa, rfl, ⟨_, hoa _⟩, for_tup (K := K) (a := oa) (xs := os) (fun j σ H' => ∃ (us : List V) (acc : List PyData) (b q : Nat) (x7 x8 : Option V), σ = [some (.ref P), some (.int (i : Int)), some (.int (dp : Int)), some (.int (p : Int)), some (.str (TS wd)), some (.ref Z), some (.int (b : Int)), x7, x8] ∧ (PF l 0).drop b = PF l q ∧ q ≤ l.length ∧ rds (rd l n) l (os.length - j) q acc = res ∧ H' Z = some (.lst us) ∧ DhAll H' us acc ∧ (∀ d ∈ acc, noL d = true) ∧ us.length = j + 1 ∧ Same H H') ⟨[.str (TS wd)], [.str (TS wd)], i + 1, p + wd.length, none, none, by rw [show ((i + 1 : Nat) : Int) = (i : Int) + 1 by omega] <;> rfl, st, lt2, hres, upd_same, .cons (.str _) .nil, fun d hd => by rw [List.mem_singleton.mp hd]; rfl, rfl, zZ⟩ (fun _ _ H' _ _ => hoa H') ?_ ?_⟩
    · rintro j x σ H1 hx ⟨us, acc, b, q, x7, x8, rfl, dq, lq, er, hZ1, du, nl, lu, s1⟩
      have lj : j < os.length := (List.getElem?_eq_some_iff.mp hx).1
      rw [show os.length - j = (os.length - (j + 1)) + 1 by omega, rds] at er
      have pc1 := pc.same s1
      have sp : PySem.Str.ofString " " = TS [32] := by decide +kernel
      refine ⟨_, rfl, _, rfl, P, rs, l, b, q, [32], by rw [sp] <;> rfl, pc1, dq, lq, fun h32 => ?_, fun h32 => ?_⟩
      · have e32 := (hd_is (.inr (.inr rfl))).mp h32
        have ltq : q < l.length := (List.getElem?_eq_some_iff.mp e32).1
        have st1 := pf_step ltq dq
        rw [h32] at st1
        rw [if_pos e32] at er
        refine ⟨_, rfl, _, rfl, _, _, rfl, rfl, _, rfl, _, _, rfl, rfl, P, rs, l, b + 1, q + 1, dp + 1, by rw [show ((b + 1 : Nat) : Int) = (b : Int) + 1 by omega, show ((dp + 1 : Nat) : Int) = (dp : Int) + 1 by omega] <;> rfl, pc1, st1, ltq, tx, by omega, fun z r2 e b2 H2 s2 hr2 he d2 l2 => ?_, fun z H2 s2 => ?_⟩
        · rw [if_neg (by rw [z]; decide)] at er
          refine ⟨r2, _, rfl, SqT.of hr2, rfl, _, _, rfl, _, _, rfl, rfl, ?_⟩
          have hZ2 := s2 _ _ hZ1
          refine ⟨_, rfl, .inl ⟨rfl, _, SqL.of hZ2⟩, _, rfl, Z, _, _, rfl, rfl, hZ2, Nat.lt_of_le_of_lt (show _ ≤ 4 by omega) (by decide), ?_⟩
          have kt : SameT H2 (upd H2 Z (.lst (us ++ [e]))) := SameT.lst hZ2
          have nr : noL (rd l n (q + 1)).1 = true := rd_noL n _
          refine ⟨us ++ [e], _, b2, _, _, _, rfl, d2, l2, er, upd_same, DhAll.append (DhAll.t kt (DhAll.same s2 du) (noLs_all.mpr nl)) (.cons (he.t kt nr) .nil), fun d hd => ?_, by rw [List.length_append, lu]; rfl, fun b' o' eb' => by rw [upd_ne (ne_of_none eb' hZ)]; exact s2 _ _ (s1 _ _ eb')⟩
          rcases List.mem_append.mp hd with hd | hd
          · exact nl d hd
          · rw [List.mem_singleton.mp hd]; exact nr
        · rw [if_pos z] at er
          have := ko.bad
          rw [← er] at this
          exact this rfl H2 (s1.trans s2)
      · have n32 : ¬ l[q]? = some 32 := fun z => h32 ((hd_is (.inr (.inr rfl))).mpr z)
        rw [if_neg n32] at er
        have := ko.bad
        rw [← er] at this
        exact this rfl H1 s1
    · rintro σ H1 ⟨us, acc, b, q, x7, x8, rfl, dq, lq, er, hZ1, du, nl, lu, s1⟩
      rw [Nat.sub_self, rds] at er
      have sp : PySem.Str.ofString ")" = TS [41] := by decide +kernel
      refine ⟨_, rfl, _, rfl, P, rs, l, b, q, [41], by rw [sp] <;> rfl, pc.same s1, dq, lq, fun h41 => ?_, fun h41 => ?_⟩
      · have e41 := (hd_is (.inr (.inl rfl))).mp h41
        have ltq : q < l.length := (List.getElem?_eq_some_iff.mp e41).1
        have st1 := pf_step ltq dq
        rw [h41] at st1
        rw [if_pos e41] at er
        have kg := ko.good
        rw [← er] at kg
        refine ⟨_, rfl, Z, _, rfl, .inl ⟨SqL.of hZ1, fun q' hq => ?_⟩⟩
        have zq := Same.upd (o := .tup us) hq
        refine ⟨_, rfl, _, _, rfl, rfl, two, fun u hu => ?_⟩
        have zu := Same.upd (o := .tup [.ref q', .int ((b : Int) + 1)]) hu
        exact kg rfl u (.ref q') (b + 1) _ ((s1.trans zq).trans zu) (by rw [upd_same]; rfl) (.tup (zu _ _ upd_same) (DhAll.same (zq.trans zu) du)) st1 ltq
      · have n41 : ¬ l[q]? = some 41 := fun z => h41 ((hd_is (.inr (.inl rfl))).mpr z)
        rw [if_neg n41] at er
        have := ko.bad
        rw [← er] at this
        exact this rfl H1 s1
end
abbrev sRe : Stmt := top 28
abbrev nRe : List Str := ["text", "pieces", "expression", "behind"]
abbrev pRe : List Str := ["text"]
theorem scRe : FnScope nRe pRe (defScope sRe) := ⟨rfl, rfl, rfl, by decide +kernel, rfl, by decide +kernel, by decide +kernel⟩
section
variable {fA_ fB_ fC_ : Addr} {fdA_ fdB_ fdC_ : FuncData}
theorem ok_Re (F : Fun K "read_expression" "read_expression" sRe f fd) (T : Bt mg) (Z : ErF K mg "BadText" "position" C fI) (GI : FnOk P w K mg base CX0 1 fI fdI ["self", "position"] (spIni C "position")) (bI : Binds K fdI ["self", "position"] [])
    (GA_ : FnOk P w K mg base CX0 1 fA_ fdA_ ["text"] (spPo)) (mA_ : mg "pieces_of" = some (.ref fA_)) (kA_ : PySem.W.keepIn K (.ref fA_) = true) (bA_ : Binds K fdA_ ["text"] [])
    (GB_ : FnOk P w K mg base (L2.CX P w) 22 fB_ fdB_ ["pieces", "at", "depth"] (spRf C 8)) (mB_ : mg "read_form" = some (.ref fB_)) (kB_ : PySem.W.keepIn K (.ref fB_) = true) (bB_ : Binds K fdB_ ["pieces", "at", "depth"] [])
    (GC_ : FnOk P w K mg base (L2.CX P w) 3 fC_ fdC_ ["pieces", "at", "wanted"] (spCp C)) (mC_ : mg "check_piece" = some (.ref fC_)) (kC_ : PySem.W.keepIn K (.ref fC_) = true) (bC_ : Binds K fdC_ ["pieces", "at", "wanted"] []) : FnOk P w K mg base (L2.CX P w) 23 f fd pRe (spRe C) := by
  refine F.okX scRe (fun vs H Q E h => ?_) (fun cdv A outer s H vs Q E hr h => ?_)
  · obtain ⟨v, rfl, _⟩ := h
    rfl
  · obtain ⟨v, rfl, k⟩ := h
    have hrA_ : Room (1) _ := hr.mono (by first | decide | omega)
    have hrB_ : Room (22) _ := hr.mono (by first | decide | omega)
    have hrC_ : Room (3) _ := hr.mono (by first | decide | omega)
    have hrI : Room 2 _ := hr.mono (by first | decide | omega)
    refine ⟨_, (pss_cons (ps_if (pt_not (pt_val (pe_callB call_isi (by rfl) T.isi boot_isinstance (pa_cons (pv 0) (pa_cons (pe_bltn (v := .ty "str") (by rfl) T.str boot_str rfl) pa_nil))))) (pss_one (ps_raise (W := fun cls d _ H => E cls d H) rfl (takes_of rfl rfl rfl rfl) (pmk_oex Z.oex Z.iC Z.tI GI hrI bI .nil pass0 (by rfl) Z.gC (pa_cons pe_int pa_nil)))) pss_nil)
      (pss_cons (ps_set (i := 1) scRe.nd rfl (Or.inl rfl) (pe_call GA_ hrA_ (by rfl) mA_ kA_ bA_ .nil pass0 (pa_cons (pv 0) pa_nil)))
      (pss_cons (ps_asg (pe_callS GB_ hrB_ (by rfl) mB_ kB_ bB_ (fun σ => passAt (W := fun cls d _ H => E cls d H) (takes_of rfl rfl rfl rfl) σ) (pa_cons (pv 1) (pa_cons pe_int (pa_cons pe_int pa_nil)))) (pg_tup rfl (pgs_cons (pg_name (i := 2) scRe.nd rfl (.inl rfl)) (pgs_cons (pg_name (i := 3) scRe.nd rfl (.inl rfl)) pgs_nil))))
      (pss_cons (ps_expr (pe_callS GC_ hrC_ (by rfl) mC_ kC_ bC_ (fun σ => passAt (W := fun cls d _ H => E cls d H) (takes_of rfl rfl rfl rfl) σ) (pa_cons (pv 1) (pa_cons (pv 3) (pa_cons pe_str pa_nil)))))
      (pss_one (ps_ret (pv 2))))))), ?_⟩
    rcases k with ⟨t, ty, nt, k⟩ | ⟨l, rfl, tx, k1, k2⟩
    · refine ⟨_, rfl, v, .ty "str", _, _, _, rfl, .ty "str", ty.x, kit_str ty.mem, _, rfl, ?_⟩
      rw [show (t == "str") = false by simpa using nt]
      exact iteT ⟨by show 1 ≤ 1000; decide, tells_ofF k⟩
    · have ts : TyN H (.str (TS l)) "str" := .str _
      refine ⟨_, rfl, _, .ty "str", _, _, _, rfl, .ty "str", ts.x, kit_str ts.mem, _, rfl, iteF ?_⟩
      refine ⟨_, rfl, l, rfl, tx.len, fun P rs H1 s1 pc => ?_⟩
      have pc : PcsH H1 P rs (PF l 0) := pc
      have lr : (rd l 8 0).2 ≤ l.length → (rd l 8 0).2 = l.length ∨ (rd l 8 0).2 < l.length := fun h => by omega
      refine ⟨_, rfl, P, rs, l, 0, 0, 1, rfl, pc, List.drop_zero, Nat.zero_le _, tx, by omega, fun z r e b H2 s2 hr he db lb => ?_, fun z H2 s2 => ?_⟩
      · refine ⟨r, _, rfl, SqT.of hr, rfl, _, _, rfl, _, _, rfl, rfl, ?_⟩
        have em : PySem.Str.ofString "" = TS [] := by decide +kernel
        refine ⟨_, rfl, _, rfl, P, rs, l, b, (rd l 8 0).2, [], by rw [em] <;> rfl, pc.same s2, db, lb, fun hn => ?_, fun hn => ?_⟩
        · have ll := hd_nil.mp hn
          have q : reD l = rd l 8 0 := by unfold reD; rw [if_neg (by rw [z]; decide), if_neg (by omega)]
          rw [q] at k1
          exact ⟨_, rfl, k1 z e H2 (s1.trans s2) he⟩
        · have ll : (rd l 8 0).2 < l.length := by
            by_cases ll : (rd l 8 0).2 < l.length
            · exact ll
            · exact absurd (hd_nil.mpr (by omega)) hn
          have q : reD l = (.none, (rd l 8 0).2) := by unfold reD; rw [if_neg (by rw [z]; decide), if_pos ll]
          rw [q] at k2
          exact k2 rfl H2 (s1.trans s2)
      · have q : reD l = (.none, (rd l 8 0).2) := by unfold reD; rw [if_pos z]
        rw [q] at k2
        exact k2 rfl H2 (s1.trans s2)
end
theorem fn_noneX {CX : CXT} {f : Addr} {fd : FuncData} {ps : List Str} {k : Nat} : FnOk P w K mg base CX k f fd ps (spRoP C 0) := ⟨fun _ _ _ _ h => h.elim, fun _ _ _ _ _ _ _ _ _ _ _ _ _ h => h.elim⟩
theorem ok_RfN {fO fC fL : Addr} {fdO fdC fdL : FuncData} (F : Fun K "read_form" "read_form" sRf f fd) (FO : Fun K "read_operation" "read_operation" sRo fO fdO) (T : Bt mg) (OA : OpsA K w mg oA) (mP : mg "DEEPEST" = some (.int 8 u1)) (Z : ErF K mg "BadText" "position" C fI) (GI : FnOk P w K mg base CX0 1 fI fdI ["self", "position"] (spIni C "position")) (bI : Binds K fdI ["self", "position"] [])
    (GC : FnOk P w K mg base (L2.CX P w) 3 fC fdC ["pieces", "at", "wanted"] (spCp C)) (mC : mg "check_piece" = some (.ref fC)) (kC : PySem.W.keepIn K (.ref fC) = true) (bC : Binds K fdC ["pieces", "at", "wanted"] [])
    (GL : FnOk P w K mg base CX0 5 fL fdL ["token"] spRl) (mL : mg "read_leaf" = some (.ref fL)) (kL : PySem.W.keepIn K (.ref fL) = true) (bL : Binds K fdL ["token"] [])
    (mF : mg "read_form" = some (.ref f)) (kF : PySem.W.keepIn K (.ref f) = true) (bF : Binds K fd ["pieces", "at", "depth"] []) (mO : mg "read_operation" = some (.ref fO)) (kO : PySem.W.keepIn K (.ref fO) = true) (bO : Binds K fdO ["pieces", "at", "depth"] []) : ∀ n : Nat, FnOk P w K mg base (L2.CX P w) (5 + 2 * n + 1) f fd ["pieces", "at", "depth"] (spRf C n)
  | 0 => ok_Rf F T 0 mP Z GI bI (fn_noneX) mO kO bO GL mL kL bL
  | n + 1 => by
    have G := ok_RfN F FO T OA mP Z GI bI GC mC kC bC GL mL kL bL mF kF bF mO kO bO n
    have GO := ok_Ro FO T n OA Z GI bI GC mC kC bC G mF kF bF
    rw [show 5 + 2 * n + 1 + 1 = 5 + 2 * (n + 1) by omega] at GO
    exact ok_Rf F T (n + 1) mP Z GI bI GO mO kO bO GL mL kL bL
end
end K79
set_option Elab.async false
set_option linter.all false
set_option maxRecDepth 100000
set_option maxHeartbeats 4000000
namespace Lc
open PySem PySem.Spec PyProof.Rows L2 He
/-! ## The head's facts, with one more Bool -/
abbrev AlE : Type := AlD × Bool
def obsE (n : Nat) (fa : List Fa) (fn : List DefD) (ex : PySem.W.Frag → Bool) (g : Addr → Option Obj) : AlE := (obsD fa fn (frG g (asD g n)), ex (frG g (asD g n)))
def hookE (n : Nat) (fa : List Fa) (fn : List DefD) (ex : PySem.W.Frag → Bool) : PySem.W.Hook where
  α := AlE
  obs := fun s => obsE n fa fn ex s.heap.get?
  val := fun _ => (valD fn, true)
  says := fun _ h => ∃ K : PySem.W.Frag, K.In h ∧ SaysD fa fn K ∧ ex K = true
  of := fun _ _ e => ⟨_, frG_in, congrArg (fun z : AlE => z.1) e, congrArg (fun z : AlE => z.2) e⟩
  keeps := fun _ _ _ ⟨K, hK, c⟩ k => ⟨K, PySem.W.Frag.In.keeps hK k, c⟩
theorem obsE_eq {n : Nat} {fa : List Fa} {fn : List DefD} {ex : PySem.W.Frag → Bool} {g : Addr → Option Obj} {s : Shared} (h : ∀ a, g a = s.heap.get? a) : obsE n fa fn ex g = (hookE n fa fn ex).obs s := by
  have e : g = s.heap.get? := funext h
  rw [e] <;> rfl
/-! ## What is asked of the error classes -/
def optB (a b : Option Bool) : Bool := decide (a = b)
def optV (a b : Option Value) : Bool := decide (a = b)
def oexB (K : PySem.W.Frag) (C : Addr) : Bool := (match K.lookup C with
  | some ⟨.type "type", _, .cls cd, sl⟩ => (match cd.mro, sl.toList with
    | .ref C' :: bm, [_, _, _, _, some (.builtin n), _] => C' == C && n == "ValueError.__new__" && !cd.hasDel && cd.hasDict && PySem.HandSPX.refsVE bm
    | _, _ => false)
  | _ => false) && (eqO (PySem.W.findIn K (.ref C) "__setattr__") (some (some (.builtin "object.__setattr__"))) && (optB (PySem.W.subIn K (.ref C) (.type "BaseException")) (some true) && (optV (PySem.W.typeIn K (.ref C)) (some (.type "type")) && PySem.W.keepIn K (.ref C))))
theorem oexB_ok {K : PySem.W.Frag} {C : Addr} (h : oexB K C = true) : OexC K C := by
  obtain ⟨q, h⟩ := ba h
  obtain ⟨h1, h⟩ := ba h
  obtain ⟨h2, h⟩ := ba h
  obtain ⟨h3, h4⟩ := ba h
  refine ⟨?_, eqO_ok h1, of_decide_eq_true h2, of_decide_eq_true h3, h4⟩
  split at q
  · rename_i dd cd sl ho
    split at q
    · rename_i C' bm k0 k1 k2 k3 n k5 hm hs
      simp only [Bool.and_eq_true, beq_iff_eq, Bool.not_eq_true'] at q
      obtain ⟨⟨⟨⟨rfl, rfl⟩, hdel⟩, hdi⟩, ht⟩ := q
      obtain ⟨nm, bs, mro, ns, qn, hd, sn, sub, ab, col, del⟩ := cd
      dsimp only at hm hdel hdi
      subst hm hdel hdi
      have hsl : sl = #[k0, k1, k2, k3, some (.builtin "ValueError.__new__"), k5] := by
        obtain ⟨l⟩ := sl
        simp only at hs
        rw [hs]
      subst hsl
      exact ⟨nm, qn, ns, bs, bm, sn, sub, ab, col, dd, k0, k1, k2, k3, k5, ho, ht⟩
    · cases q
  · cases q
def xisB (K : PySem.W.Frag) (C : Addr) : Bool := (PySem.W.clsIn K C).isSome && (eqO (PySem.W.findIn K (.ref C) "__getattribute__") (some (some (.builtin "BaseException.__getattribute__"))) && (eqO (PySem.W.findIn K (.ref C) "__getattr__") (some none) &&
  (optB (PySem.W.subIn K (.ref C) (.type "BaseException")) (some true) && (eqO (PySem.W.findIn K (.ref C) "__class__") (some (some (.builtin "object.__class__"))) && (eqO (PySem.W.specialIn K (.builtin "object.__class__") "__get__") (some (some (.builtin "getset_descriptor.__get__"))) &&
  (optB (PySem.W.takesIn K (.builtin "object.__class__")) (some true) && optB (PySem.W.mroIn K C (.type "object")) (some true)))))))
theorem xisB_ok {K : PySem.W.Frag} {C : Addr} (h : xisB K C = true) : XisC K C := by
  obtain ⟨h1, h⟩ := ba h
  obtain ⟨h2, h⟩ := ba h
  obtain ⟨h3, h⟩ := ba h
  obtain ⟨h4, h⟩ := ba h
  obtain ⟨h5, h⟩ := ba h
  obtain ⟨h6, h⟩ := ba h
  obtain ⟨h7, h8⟩ := ba h
  exact ⟨h1, eqO_ok h2, eqO_ok h3, of_decide_eq_true h4, eqO_ok h5, eqO_ok h6, of_decide_eq_true h7, of_decide_eq_true h8⟩
/-- a def without defaults -/
theorem fun_of {K : PySem.W.Frag} {x qual : Str} {st : Stmt} {f : Addr} {fd : FuncData} (F : FunD K x qual (defArgs st) (defBody st) (defScope st) [] [] f fd) : Fun K x qual st f fd := by
  obtain ⟨oc, od, dV, kV, doc, pm, an, cdv, ct, osl, rfl, lk, hcd, hD, hK⟩ := F.ex
  rcases hD with ⟨_, rfl⟩ | ⟨e, _⟩
  · exact ⟨⟨oc, od, kV, doc, pm, an, cdv, ct, osl, rfl, lk, hcd⟩, F.kp⟩
  · exact absurd rfl e
/-! ## The end of a law whose defs are promised where no repr is under way -/
theorem walk_GE {l : PySem.W.OpenLaw} {n k : Nat} {q : Program} {loose : List Str} {XP : (Str → Option Value) → Heap → Prop} {YP : World → Heap → Prop} {d : DefRec} {x : Str}
    (hn : l.most = some n) (hn2 : n ≤ sizeLine) (hdf : d.params.defaults = []) (hr : Room k callerA)
    (F : ∀ (w : World) (mg : Str → Option Value) (fa : Addr) (h : Heap), YP w h → h.Ns mainGlobals mg → mg d.name = some (.ref fa) →
      ∃ (K : PySem.W.Frag) (fd : FuncData) (sp : Sp), K.In h ∧ (∀ (s : Shared) (u : Value), BindsTo s fd ⟨[u], []⟩ [(x, u)]) ∧
        (∀ (H : Hp) (a : Addr) (ns : List Int), ns.length ≤ n → SqL K H a (ns.map V.int) → sp [.ref a] H (fun v _ => v = .bl true) fun _ _ _ => False) ∧
        ∀ base : Heap, K.In base → base.Ns mainGlobals mg → FnG l.prog w K mg base k fa fd [x] sp) :
    PySem.W.WalkO q loose XP YP l.row.toRowW d [] (fun f vs => PySem.call f vs) := by
  refine Att.attach_call hn hdf fun w _ s mg mb fa _ _ _ _ a vs ns G Y _ _ _ hmg hobj hints hlen hg => ?_
  obtain ⟨K, fd, sp, KX, hb, hsp, hF⟩ := F w mg fa _ Y G.T.g hmg
  exact law_callG KX G.T.g G.T.b G.T.builtins G.T.nolimit hg hobj hints (Nat.le_trans hlen hn2) hr hF hb fun H hS => hsp H a ns hlen hS
end Lc
namespace Lc
theorem all_at {l : List Bool} (h : l.all id = true) (i : Nat) {b : Bool} (e : l[i]? = some b := by rfl) : b = true := List.all_eq_true.mp h b (List.mem_of_getElem? e)
end Lc
set_option Elab.async false
set_option linter.all false
set_option maxRecDepth 100000
set_option maxHeartbeats 4000000
namespace Lc
open PySem PySem.Spec PyProof.Rows L2 He
/-! ## The head's facts, with dicts of the module that have text keys -/
abbrev AlF : Type := AlE × List (Option (List (Option (Str × Int))))
def obsF (n : Nat) (fa : List Fa) (fn : List DefD) (ex : PySem.W.Frag → Bool) (ts : List Tab) (g : Addr → Option Obj) : AlF := (obsE n fa fn ex g, ts.map fun t => dicW (frG g (asD g n)) (t.1 (frG g (asD g n))))
def TabsOk (ts : List Tab) (w : World) (K : PySem.W.Frag) : Prop := ∀ (i : Nat) (t : Tab), ts[i]? = some t → ∃ es n, KDict K w (t.1 K) es n
theorem tabs_of {ts : List Tab} {w : World} {K : PySem.W.Frag} (e : ts.map (fun t => dicW K (t.1 K)) = ts.map fun t => some (keysIn w.params t.2)) : TabsOk ts w K := by
  intro i t h
  have e2 : (ts.map fun t => dicW K (t.1 K))[i]? = (ts.map fun t => some (keysIn w.params t.2))[i]? := congrArg (fun l => l[i]?) e
  rw [List.getElem?_map, h, List.getElem?_map, h] at e2
  exact dicW_ok (Option.some.inj e2)
def hookF (n : Nat) (fa : List Fa) (fn : List DefD) (ex : PySem.W.Frag → Bool) (ts : List Tab) : PySem.W.Hook where
  α := AlF
  obs := fun s => obsF n fa fn ex ts s.heap.get?
  val := fun w => ((valD fn, true), ts.map fun t : Tab => some (keysIn w.params t.2))
  says := fun w h => ∃ K : PySem.W.Frag, K.In h ∧ SaysD fa fn K ∧ ex K = true ∧ TabsOk ts w K
  of := fun _ _ e => ⟨_, frG_in, congrArg (fun z : AlF => z.1.1) e, congrArg (fun z : AlF => z.1.2) e, tabs_of (show _ = _ from congrArg (fun z : AlF => z.2) e)⟩
  keeps := fun _ _ _ ⟨K, hK, c⟩ k => ⟨K, PySem.W.Frag.In.keeps hK k, c⟩
theorem obsF_eq {n : Nat} {fa : List Fa} {fn : List DefD} {ex : PySem.W.Frag → Bool} {ts : List Tab} {g : Addr → Option Obj} {s : Shared} (h : ∀ a, g a = s.heap.get? a) : obsF n fa fn ex ts g = (hookF n fa fn ex ts).obs s := by
  have e : g = s.heap.get? := funext h
  rw [e] <;> rfl
/-! ## what stands in such a dict -/
def atD (K : PySem.W.Frag) (d : Addr) (x : Str) : Addr := match PySem.W.nsIn K d x with
  | some (some (.ref a)) => a
  | _ => 0
def tupA (K : PySem.W.Frag) (a : Addr) (vs : List Dv) : Bool := match K.lookup a with
  | some ⟨.type c, _, .seq its _, _⟩ => decide (c = "tuple") && (decide (its.size ≤ sizeLine) && relAll (vs.map (Dv.v K)) its.toList)
  | _ => false
theorem tupA_ok {K : PySem.W.Frag} {a : Addr} {vs : List Dv} (h : tupA K a vs = true) (H : Hp) : SqT K H a (vs.map (Dv.v K)) := by
  unfold tupA at h
  split at h
  · rename_i c od its n osl q
    obtain ⟨h1, h2⟩ := ba h
    obtain ⟨h3, h4⟩ := ba h2
    exact .inr ⟨_, its, n, q, congrArg Value.type (of_decide_eq_true h1), rfl, of_decide_eq_true h3, relAll_ok h4⟩
  · cases h
/-- at the key x a tuple of these -/
def dtB (K : PySem.W.Frag) (d : Addr) (x : Str) (vs : List Dv) : Bool := eqO (PySem.W.nsIn K d x) (some (some (.ref (atD K d x)))) && tupA K (atD K d x) vs
theorem kdct_of {K : PySem.W.Frag} {w : World} {d a : Addr} {x : Str} (D : ∃ es n, KDict K w d es n) (h : PySem.W.nsIn K d x = some (some (.ref a))) : KDct K w d x (.ref a) := by
  obtain ⟨es, n, D⟩ := D
  exact ⟨es, n, _, D.at_, D.lit, h, rfl⟩
theorem dt_ok {K : PySem.W.Frag} {w : World} {d : Addr} {x : Str} {vs : List Dv} (D : ∃ es n, KDict K w d es n) (h : dtB K d x vs = true) : ∃ a, KDct K w d x (.ref a) ∧ PySem.W.nsIn K d x = some (some (.ref a)) ∧ ∀ H, SqT K H a (vs.map (Dv.v K)) := by
  obtain ⟨h1, h2⟩ := ba h
  exact ⟨_, kdct_of D (eqO_ok h1), eqO_ok h1, fun H => tupA_ok h2 H⟩
/-- at the key x the def y -/
def dfB (K : PySem.W.Frag) (d : Addr) (x y : Str) : Bool := eqO (PySem.W.nsIn K d x) (some (some (.ref (ga K y))))
def dnB (K : PySem.W.Frag) (d : Addr) (x : Str) : Bool := eqO (PySem.W.nsIn K d x) (some none)
end Lc
set_option Elab.async false
set_option linter.all false
set_option maxRecDepth 100000
set_option maxHeartbeats 4000000
namespace Lc
open PySem PySem.Spec PyProof.Rows L2 He
/-! ## what does not stand in a dict of the module with text keys -/
def keysB (K : PySem.W.Frag) (d : Addr) (ks : List Str) : Bool := match K.lookup d with
  | some ⟨_, _, .dict es _, _⟩ => es.toList.all fun e => match e.key with
    | .str x _ => ks.contains x
    | _ => false
  | _ => false
theorem keys_no {K : PySem.W.Frag} {d : Addr} {ks : List Str} (h : keysB K d ks = true) {x : Str} (hx : x ∉ ks) : PySem.W.nsIn K d x = some none := by
  unfold keysB at h
  unfold PySem.W.nsIn
  split at h
  · rename_i ty o es n sl q
    rw [q]
    have key := List.all_eq_true.mp h
    have f : es.toList.find? (·.key.isStr x) = none := List.find?_eq_none.mpr fun e he hs => by
      have k := key e he
      split at k
      · rename_i y t qk
        rw [qk] at hs
        have e1 : y = x := by simpa [Value.isStr] using hs
        rw [e1] at k
        exact hx (by simpa using k)
      · cases k
    have g : es.toList.any (·.refKey) = false := by
      rw [List.any_eq_false]
      intro e he hs
      have k := key e he
      unfold DictEntry.refKey at hs
      split at k
      · rename_i y t qk
        rw [qk] at hs
        cases hs
      · cases k
    dsimp only
    rw [f, g]
    rfl
  · cases h
end Lc
set_option Elab.async false
set_option linter.all false
set_option maxRecDepth 100000
set_option maxHeartbeats 4000000
namespace Lc
open PySem PySem.Spec PyProof.Rows L2 He
/-! ## The head's facts from a few globals alone: what is reached from the named ones, but not through the globals' own dict -/
def growN (g : Addr → Option Obj) (as : List Addr) : List Addr := ((as ++ as.flatMap fun a => match g a with
  | some o => refsD o
  | none => []).filter fun a => !Nat.beq a mainGlobals).eraseDups
def asN (names : List Str) (g : Addr → Option Obj) : Nat → List Addr
  | 0 => (names.map fun x => ga (frG g [mainGlobals]) x).eraseDups
  | n + 1 => growN g (asN names g n)
def asM (sm : Bool) (names : List Str) (g : Addr → Option Obj) (n : Nat) : List Addr := mainGlobals :: (if sm = true then [sysModules] else []) ++ asN names g n
def obsK (fa : List Fa) (fn : List DefD) (ex : PySem.W.Frag → Bool) (ts : List Tab) (K : PySem.W.Frag) : AlF := ((obsD fa fn K, ex K), ts.map fun t => dicW K (t.1 K))
def obsN (sm : Bool) (names : List Str) (n : Nat) (fa : List Fa) (fn : List DefD) (ex : PySem.W.Frag → Bool) (ts : List Tab) (g : Addr → Option Obj) : AlF := obsK fa fn ex ts (frG g (asM sm names g n))
def hookN (sm : Bool) (names : List Str) (n : Nat) (fa : List Fa) (fn : List DefD) (ex : PySem.W.Frag → Bool) (ts : List Tab) : PySem.W.Hook where
  α := AlF
  obs := fun s => obsN sm names n fa fn ex ts s.heap.get?
  val := fun w => ((valD fn, true), ts.map fun t : Tab => some (keysIn w.params t.2))
  says := fun w h => ∃ K : PySem.W.Frag, K.In h ∧ SaysD fa fn K ∧ ex K = true ∧ TabsOk ts w K
  of := fun _ _ e => ⟨_, frG_in, congrArg (fun z : AlF => z.1.1) e, congrArg (fun z : AlF => z.1.2) e, tabs_of (show _ = _ from congrArg (fun z : AlF => z.2) e)⟩
  keeps := fun _ _ _ ⟨K, hK, c⟩ k => ⟨K, PySem.W.Frag.In.keeps hK k, c⟩
theorem obsN_eq {sm : Bool} {names : List Str} {n : Nat} {fa : List Fa} {fn : List DefD} {ex : PySem.W.Frag → Bool} {ts : List Tab} {g : Addr → Option Obj} {s : Shared} (h : ∀ a, g a = s.heap.get? a) : obsN sm names n fa fn ex ts g = (hookN sm names n fa fn ex ts).obs s := by
  have e : g = s.heap.get? := funext h
  rw [e] <;> rfl
theorem smN_of {K : PySem.W.Frag} (h : (K.lookup sysModules).isSome = true) : ∃ o, K.lookup sysModules = some o := Option.isSome_iff_exists.mp h
end Lc
set_option Elab.async false
set_option linter.all false
set_option maxRecDepth 100000
set_option maxHeartbeats 8000000
namespace K79
open PySem PySem.Spec PyProof.Rows L2 Lc He
/-! ## the head -/
def dOf (x : Str) (st : Stmt) : DefD := ⟨(x, none), x, x, defArgs st, defBody st, defScope st, [], []⟩
def dMt (c m q : Str) (st : Stmt) : DefD := ⟨(c, some m), m, q, defArgs st, defBody st, defScope st, [], []⟩
def dKw (x : Str) (st : Stmt) (kw : List (Str × Dv)) : DefD := ⟨(x, none), x, x, defArgs st, defBody st, defScope st, [], kw⟩
def dDf (x : Str) (st : Stmt) (df : List Dv) : DefD := ⟨(x, none), x, x, defArgs st, defBody st, defScope st, df, []⟩
def dMd (c m q : Str) (st : Stmt) (df : List Dv) : DefD := ⟨(c, some m), m, q, defArgs st, defBody st, defScope st, df, []⟩
def fn : List DefD := [dMt "BadText" "__init__" "BadText.__init__" sIni, dOf "is_whole" sWhole, dOf "common_divisor" sCd, dOf "is_rational" sIsR, dOf "is_name" sName, dOf "within_limit" sWithin, dOf "read_whole" sRw, dOf "read_rational" sRr, dOf "read_value" sRv, dOf "read_leaf" sRl, dOf "pieces_of" sPo, dOf "check_piece" sCp, dOf "read_form" sRf, dOf "read_operation" sRo, dOf "read_expression" sRe, dOf "are_unlike_names" sUn, dOf "whole_or_none" sWn, dOf "form_or_none" sFm, dOf "read_keep" sKp, dOf "read_set" sSt, dOf "read_select" sSl, dOf "read_rename" sRn, dOf "read_sort" sSo, dOf "read_first" sFi, dOf "read_sample" sSm, dOf "read_join" sJo, dOf "read_union" sUo, dOf "read_distinct" sDi, dOf "read_total" sTt, dOf "read_group" sGr, dOf "read_step" sSp, dOf "read_alternative" sAl, dOf "read_choose" sCh, dOf "read_source" sSo_, dOf "read_pipeline" sPl, dOf "_law_tape" sTape, dOf "_law_draw" sDraw, dOf "_law_bad_lines" sBl, dOf "_law_bad_totals" sBtt, dOf "_law_good" sGd, dOf "_law_told" sTold, dOf "_law_at" sAt_, dOf "_law_choose_right" sCr, dOf "_law_places_right" sPr, dOf "law" sLaw]
def gl : List Str := (["BadText", "OPERANDS", "READERS", "ORDERS", "FUNCTIONS", "is_whole", "common_divisor", "is_rational", "is_name", "within_limit", "read_whole", "read_rational", "read_value", "read_leaf", "pieces_of", "check_piece", "read_form", "read_operation", "read_expression", "are_unlike_names"] : List Str) ++ (["whole_or_none", "form_or_none", "read_keep", "read_set", "read_select", "read_rename", "read_sort", "read_first", "read_sample", "read_join", "read_union", "read_distinct", "read_total", "read_group", "read_step", "read_alternative", "read_choose", "read_source", "read_pipeline", "_law_tape"] : List Str) ++ (["_law_draw", "_law_bad_lines", "_law_bad_totals", "_law_good", "_law_told", "_law_at", "_law_choose_right", "_law_places_right"] : List Str)
def loose : List Str := gl ++ (["LETTERS", "NAME_SIGNS", "LONGEST_NAME", "LIMIT", "MOST_COLUMNS", "DEEPEST", "DIGITS", "MOST_DIGITS", "SINGLE_SIGNS", "MOST_STEPS", "MOST_COUNT", "MOST_WHOLE", "MOST_SEED", "MOST_KEYS", "MOST_TOTALS", "LEAST_ALTERNATIVES", "MOST_ALTERNATIVES", "MOST_INNER_STEPS", "OR_LINE", "INNER_BLANKS"] : List Str) ++ (["TOTAL_BLANKS"] : List Str)
def fa : List Fa := (.glo "law") :: gl.map Fa.glo ++ (btNames ++ (["set"] : List Str)).map Fa.free ++ [.str "LETTERS" letters, .str "NAME_SIGNS" signs, .int "LONGEST_NAME" 12, .int "LIMIT" lim, .int "DEEPEST" 8, .str "DIGITS" ten10, .int "MOST_DIGITS" 41, .str "SINGLE_SIGNS" sgs, .int "MOST_COLUMNS" 8, .int "MOST_STEPS" 10, .int "MOST_COUNT" 1000, .int "MOST_WHOLE" 1000, .int "MOST_SEED" 1000000000, .int "MOST_KEYS" 3, .int "MOST_TOTALS" 6, .int "LEAST_ALTERNATIVES" 2, .int "MOST_ALTERNATIVES" 4, .int "MOST_INNER_STEPS" 4, .str "OR_LINE" "  or", .str "INNER_BLANKS" (TS inL), .str "TOTAL_BLANKS" ⟨#[32, 32]⟩]
def exL (K : PySem.W.Frag) : List Bool := [oexB K (ga K "BadText"), eqO (PySem.W.findIn K (.ref (ga K "BadText")) "__init__") (some (some (.ref (ma K (ga K "BadText") "__init__")))), Lc.optV (PySem.W.typeIn K (.ref (ma K (ga K "BadText") "__init__"))) (some (.type "function")), eqO (PySem.W.findIn K (.ref (ga K "BadText")) "position") (some none), xfB K (ga K "BadText"), xisB K (ga K "BadText"), optB (PySem.W.exmOne K (.ref (ga K "BadText")) (.ref (ga K "BadText"))) (some true), optB (PySem.W.kitOne K (.ref (ga K "BadText")) (.type "ValueError")) (some true), keysB K (ga K "OPERANDS") ["plus", "minus", "times", "over", "less", "same", "both", "either", "not", "missing", "if"], dtB K (ga K "OPERANDS") "plus" [.str "number", .str "number"], dtB K (ga K "OPERANDS") "minus" [.str "number", .str "number"], dtB K (ga K "OPERANDS") "times" [.str "number", .str "number"], dtB K (ga K "OPERANDS") "over" [.str "number", .str "number"], dtB K (ga K "OPERANDS") "less" [.str "number", .str "number"], dtB K (ga K "OPERANDS") "same" [.non, .non], dtB K (ga K "OPERANDS") "both" [.str "flag", .str "flag"], dtB K (ga K "OPERANDS") "either" [.str "flag", .str "flag"], dtB K (ga K "OPERANDS") "not" [.str "flag"], dtB K (ga K "OPERANDS") "missing" [.non], dtB K (ga K "OPERANDS") "if" [.str "flag", .non, .non], tupB K "ORDERS" [.str "up", .str "down"], tupB K "FUNCTIONS" [.str "count", .str "sum", .str "mean", .str "median", .str "least", .str "greatest"], keysB K (ga K "READERS") ["keep", "set", "select", "rename", "sort", "first", "sample", "join", "union", "distinct"], dfB K (ga K "READERS") "keep" "read_keep", dfB K (ga K "READERS") "set" "read_set", dfB K (ga K "READERS") "select" "read_select", dfB K (ga K "READERS") "rename" "read_rename", dfB K (ga K "READERS") "sort" "read_sort", dfB K (ga K "READERS") "first" "read_first", dfB K (ga K "READERS") "sample" "read_sample", dfB K (ga K "READERS") "join" "read_join", dfB K (ga K "READERS") "union" "read_union", dfB K (ga K "READERS") "distinct" "read_distinct"]
def ex (K : PySem.W.Frag) : Bool := (exL K).all id
def ts : List Tab := [((fun K => ga K "OPERANDS"), ["plus", "minus", "times", "over", "less", "same", "both", "either", "not", "missing", "if"]), ((fun K => ga K "READERS"), ["keep", "set", "select", "rename", "sort", "first", "sample", "join", "union", "distinct"])]
abbrev R : PySem.W.OpenRow := PySem.W.OpenLaw.row PySem.Challenge.rw_liveclaims_k79_lines_that_are_not_read
abbrev hk : PySem.W.Hook := hookN false ("law" :: gl) 4 fa fn ex ts
def ob (s : PySem.W.SharedT) : AlF := obsN false ("law" :: gl) 4 fa fn ex ts (HandSHeadRun.getT s)
theorem ob_eq (s : PySem.W.SharedT) : ob s = hk.obs s.abs := obsN_eq (HandSHeadRun.getT_eq s)
theorem run_false (w : World) : HandSHeadRun.RunEq R (PySem.W.view R.prog [75]) hk ob 20000 loose (w.withFollow "special-get-raises" false) := by
  intro os
  kernel_rfl
theorem run_true (w : World) : HandSHeadRun.RunEq R (PySem.W.view R.prog [75]) hk ob 20000 loose (w.withFollow "special-get-raises" true) := by
  intro os
  kernel_rfl
theorem run (w : World) : HandSHeadRun.RunEq R (PySem.W.view R.prog [75]) hk ob 20000 loose w := PySem.W.byRow2 "special-get-raises" (P := fun w => HandSHeadRun.RunEq R (PySem.W.view R.prog [75]) hk ob 20000 loose w) run_false run_true w
theorem facts {P : Program} {w : World} {K : PySem.W.Frag} {h : Heap} {mg : Str → Option Value} {f : Addr} (X : K.In h) (G : h.Ns mainGlobals mg) (hfa : mg ("law" : Str) = some (.ref f)) (c : SaysD fa fn K) (e : ex K = true) (tb : TabsOk ts w K) :
    ∃ fd : FuncData, (∀ (s : Shared) (v : Value), BindsTo s fd ⟨[v], []⟩ [("_law_script", v)]) ∧ ∀ base : Heap, K.In base → base.Ns mainGlobals mg → FnG P w K mg base 34 f fd ["_law_script"] (spLaw K) := by
  obtain ⟨fd0, D0⟩ := c.def_ 0 (d := dMt "BadText" "__init__" "BadText.__init__" sIni) rfl
  obtain ⟨fd1, D1⟩ := c.def_ 1 (d := dOf "is_whole" sWhole) rfl
  obtain ⟨fd2, D2⟩ := c.def_ 2 (d := dOf "common_divisor" sCd) rfl
  obtain ⟨fd3, D3⟩ := c.def_ 3 (d := dOf "is_rational" sIsR) rfl
  obtain ⟨fd4, D4⟩ := c.def_ 4 (d := dOf "is_name" sName) rfl
  obtain ⟨fd5, D5⟩ := c.def_ 5 (d := dOf "within_limit" sWithin) rfl
  obtain ⟨fd6, D6⟩ := c.def_ 6 (d := dOf "read_whole" sRw) rfl
  obtain ⟨fd7, D7⟩ := c.def_ 7 (d := dOf "read_rational" sRr) rfl
  obtain ⟨fd8, D8⟩ := c.def_ 8 (d := dOf "read_value" sRv) rfl
  obtain ⟨fd9, D9⟩ := c.def_ 9 (d := dOf "read_leaf" sRl) rfl
  obtain ⟨fd10, D10⟩ := c.def_ 10 (d := dOf "pieces_of" sPo) rfl
  obtain ⟨fd11, D11⟩ := c.def_ 11 (d := dOf "check_piece" sCp) rfl
  obtain ⟨fd12, D12⟩ := c.def_ 12 (d := dOf "read_form" sRf) rfl
  obtain ⟨fd13, D13⟩ := c.def_ 13 (d := dOf "read_operation" sRo) rfl
  obtain ⟨fd14, D14⟩ := c.def_ 14 (d := dOf "read_expression" sRe) rfl
  obtain ⟨fd15, D15⟩ := c.def_ 15 (d := dOf "are_unlike_names" sUn) rfl
  obtain ⟨fd16, D16⟩ := c.def_ 16 (d := dOf "whole_or_none" sWn) rfl
  obtain ⟨fd17, D17⟩ := c.def_ 17 (d := dOf "form_or_none" sFm) rfl
  obtain ⟨fd18, D18⟩ := c.def_ 18 (d := dOf "read_keep" sKp) rfl
  obtain ⟨fd19, D19⟩ := c.def_ 19 (d := dOf "read_set" sSt) rfl
  obtain ⟨fd20, D20⟩ := c.def_ 20 (d := dOf "read_select" sSl) rfl
  obtain ⟨fd21, D21⟩ := c.def_ 21 (d := dOf "read_rename" sRn) rfl
  obtain ⟨fd22, D22⟩ := c.def_ 22 (d := dOf "read_sort" sSo) rfl
  obtain ⟨fd23, D23⟩ := c.def_ 23 (d := dOf "read_first" sFi) rfl
  obtain ⟨fd24, D24⟩ := c.def_ 24 (d := dOf "read_sample" sSm) rfl
  obtain ⟨fd25, D25⟩ := c.def_ 25 (d := dOf "read_join" sJo) rfl
  obtain ⟨fd26, D26⟩ := c.def_ 26 (d := dOf "read_union" sUo) rfl
  obtain ⟨fd27, D27⟩ := c.def_ 27 (d := dOf "read_distinct" sDi) rfl
  obtain ⟨fd28, D28⟩ := c.def_ 28 (d := dOf "read_total" sTt) rfl
  obtain ⟨fd29, D29⟩ := c.def_ 29 (d := dOf "read_group" sGr) rfl
  obtain ⟨fd30, D30⟩ := c.def_ 30 (d := dOf "read_step" sSp) rfl
  obtain ⟨fd31, D31⟩ := c.def_ 31 (d := dOf "read_alternative" sAl) rfl
  obtain ⟨fd32, D32⟩ := c.def_ 32 (d := dOf "read_choose" sCh) rfl
  obtain ⟨fd33, D33⟩ := c.def_ 33 (d := dOf "read_source" sSo_) rfl
  obtain ⟨fd34, D34⟩ := c.def_ 34 (d := dOf "read_pipeline" sPl) rfl
  obtain ⟨fd35, D35⟩ := c.def_ 35 (d := dOf "_law_tape" sTape) rfl
  obtain ⟨fd36, D36⟩ := c.def_ 36 (d := dOf "_law_draw" sDraw) rfl
  obtain ⟨fd37, D37⟩ := c.def_ 37 (d := dOf "_law_bad_lines" sBl) rfl
  obtain ⟨fd38, D38⟩ := c.def_ 38 (d := dOf "_law_bad_totals" sBtt) rfl
  obtain ⟨fd39, D39⟩ := c.def_ 39 (d := dOf "_law_good" sGd) rfl
  obtain ⟨fd40, D40⟩ := c.def_ 40 (d := dOf "_law_told" sTold) rfl
  obtain ⟨fd41, D41⟩ := c.def_ 41 (d := dOf "_law_at" sAt_) rfl
  obtain ⟨fd42, D42⟩ := c.def_ 42 (d := dOf "_law_choose_right" sCr) rfl
  obtain ⟨fd43, D43⟩ := c.def_ 43 (d := dOf "_law_places_right" sPr) rfl
  obtain ⟨fd44, D44⟩ := c.def_ 44 (d := dOf "law" sLaw) rfl
  have ef := hfa.symm.trans (glo_ok X G (c.fact 0 (f := .glo "law") rfl))
  cases ef
  have g : ∀ (i : Nat) (x : Str), fa[i]? = some (.glo x) → mg x = some (.ref (ga K x)) := fun i x z => glo_ok X G (c.fact i (f := .glo x) z)
  have z : ∀ (i : Nat) (x : Str), fa[i]? = some (.free x) → mg x = none := fun i x z => free_ok X G (c.fact i (f := .free x) z)
  have T : Bt mg := ⟨z 49 _ rfl, z 50 _ rfl, z 51 _ rfl, z 52 _ rfl, z 53 _ rfl, z 54 _ rfl, z 55 _ rfl, z 56 _ rfl, z 57 _ rfl, z 58 _ rfl, z 59 _ rfl, z 60 _ rfl, z 61 _ rfl, z 62 _ rfl, z 63 _ rfl, z 64 _ rfl, z 65 _ rfl, z 66 _ rfl⟩
  obtain ⟨uc0, mc0⟩ := str_ok X G (c.fact 68 (f := .str "LETTERS" letters) rfl)
  obtain ⟨uc1, mc1⟩ := str_ok X G (c.fact 69 (f := .str "NAME_SIGNS" signs) rfl)
  obtain ⟨uc2, mc2⟩ := int_ok X G (c.fact 70 (f := .int "LONGEST_NAME" 12) rfl)
  obtain ⟨uc3, mc3⟩ := int_ok X G (c.fact 71 (f := .int "LIMIT" lim) rfl)
  obtain ⟨uc4, mc4⟩ := int_ok X G (c.fact 72 (f := .int "DEEPEST" 8) rfl)
  obtain ⟨uc5, mc5⟩ := str_ok X G (c.fact 73 (f := .str "DIGITS" ten10) rfl)
  obtain ⟨uc6, mc6⟩ := int_ok X G (c.fact 74 (f := .int "MOST_DIGITS" 41) rfl)
  obtain ⟨uc7, mc7⟩ := str_ok X G (c.fact 75 (f := .str "SINGLE_SIGNS" sgs) rfl)
  obtain ⟨uc8, mc8⟩ := int_ok X G (c.fact 76 (f := .int "MOST_COLUMNS" 8) rfl)
  obtain ⟨uc9, mc9⟩ := int_ok X G (c.fact 77 (f := .int "MOST_STEPS" 10) rfl)
  obtain ⟨uc10, mc10⟩ := int_ok X G (c.fact 78 (f := .int "MOST_COUNT" 1000) rfl)
  obtain ⟨uc11, mc11⟩ := int_ok X G (c.fact 79 (f := .int "MOST_WHOLE" 1000) rfl)
  obtain ⟨uc12, mc12⟩ := int_ok X G (c.fact 80 (f := .int "MOST_SEED" 1000000000) rfl)
  obtain ⟨uc13, mc13⟩ := int_ok X G (c.fact 81 (f := .int "MOST_KEYS" 3) rfl)
  obtain ⟨uc14, mc14⟩ := int_ok X G (c.fact 82 (f := .int "MOST_TOTALS" 6) rfl)
  obtain ⟨uc15, mc15⟩ := int_ok X G (c.fact 83 (f := .int "LEAST_ALTERNATIVES" 2) rfl)
  obtain ⟨uc16, mc16⟩ := int_ok X G (c.fact 84 (f := .int "MOST_ALTERNATIVES" 4) rfl)
  obtain ⟨uc17, mc17⟩ := int_ok X G (c.fact 85 (f := .int "MOST_INNER_STEPS" 4) rfl)
  obtain ⟨uc18, mc18⟩ := str_ok X G (c.fact 86 (f := .str "OR_LINE" "  or") rfl)
  obtain ⟨uc19, mc19⟩ := str_ok X G (c.fact 87 (f := .str "INNER_BLANKS" (TS inL)) rfl)
  obtain ⟨uc20, mc20⟩ := str_ok X G (c.fact 88 (f := .str "TOTAL_BLANKS" ⟨#[32, 32]⟩) rfl)
  have a : ∀ (i : Nat) {b : Bool}, (exL K)[i]? = some b → b = true := fun i _ z => all_at e i z
  have b0 : Binds K fd0 ["self", "position"] [] := D0.bindsN fun _ _ _ _ _ _ us hl => match us, hl with | [_, _], _ => rfl
  have b1 : Binds K fd1 ["value"] [] := D1.bindsN fun _ _ _ _ _ _ us hl => match us, hl with | [_], _ => rfl
  have b2 : Binds K fd2 ["a", "b"] [] := D2.bindsN fun _ _ _ _ _ _ us hl => match us, hl with | [_, _], _ => rfl
  have b3 : Binds K fd3 ["value"] [] := D3.bindsN fun _ _ _ _ _ _ us hl => match us, hl with | [_], _ => rfl
  have b4 : Binds K fd4 ["value"] [] := D4.bindsN fun _ _ _ _ _ _ us hl => match us, hl with | [_], _ => rfl
  have b5 : Binds K fd5 ["number"] [] := D5.bindsN fun _ _ _ _ _ _ us hl => match us, hl with | [_], _ => rfl
  have b6 : Binds K fd6 ["text"] [] := D6.bindsN fun _ _ _ _ _ _ us hl => match us, hl with | [_], _ => rfl
  have b7 : Binds K fd7 ["text"] [] := D7.bindsN fun _ _ _ _ _ _ us hl => match us, hl with | [_], _ => rfl
  have b8 : Binds K fd8 ["text"] [] := D8.bindsN fun _ _ _ _ _ _ us hl => match us, hl with | [_], _ => rfl
  have b9 : Binds K fd9 ["token"] [] := D9.bindsN fun _ _ _ _ _ _ us hl => match us, hl with | [_], _ => rfl
  have b10 : Binds K fd10 ["text"] [] := D10.bindsN fun _ _ _ _ _ _ us hl => match us, hl with | [_], _ => rfl
  have b11 : Binds K fd11 ["pieces", "at", "wanted"] [] := D11.bindsN fun _ _ _ _ _ _ us hl => match us, hl with | [_, _, _], _ => rfl
  have b12 : Binds K fd12 ["pieces", "at", "depth"] [] := D12.bindsN fun _ _ _ _ _ _ us hl => match us, hl with | [_, _, _], _ => rfl
  have b13 : Binds K fd13 ["pieces", "at", "depth"] [] := D13.bindsN fun _ _ _ _ _ _ us hl => match us, hl with | [_, _, _], _ => rfl
  have b14 : Binds K fd14 ["text"] [] := D14.bindsN fun _ _ _ _ _ _ us hl => match us, hl with | [_], _ => rfl
  have b15 : Binds K fd15 ["words", "low", "high"] [] := D15.bindsN fun _ _ _ _ _ _ us hl => match us, hl with | [_, _, _], _ => rfl
  have b16 : Binds K fd16 ["word", "low", "high"] [] := D16.bindsN fun _ _ _ _ _ _ us hl => match us, hl with | [_, _, _], _ => rfl
  have b17 : Binds K fd17 ["words"] [] := D17.bindsN fun _ _ _ _ _ _ us hl => match us, hl with | [_], _ => rfl
  have b18 : Binds K fd18 ["words"] [] := D18.bindsN fun _ _ _ _ _ _ us hl => match us, hl with | [_], _ => rfl
  have b19 : Binds K fd19 ["words"] [] := D19.bindsN fun _ _ _ _ _ _ us hl => match us, hl with | [_], _ => rfl
  have b20 : Binds K fd20 ["words"] [] := D20.bindsN fun _ _ _ _ _ _ us hl => match us, hl with | [_], _ => rfl
  have b21 : Binds K fd21 ["words"] [] := D21.bindsN fun _ _ _ _ _ _ us hl => match us, hl with | [_], _ => rfl
  have b22 : Binds K fd22 ["words"] [] := D22.bindsN fun _ _ _ _ _ _ us hl => match us, hl with | [_], _ => rfl
  have b23 : Binds K fd23 ["words"] [] := D23.bindsN fun _ _ _ _ _ _ us hl => match us, hl with | [_], _ => rfl
  have b24 : Binds K fd24 ["words"] [] := D24.bindsN fun _ _ _ _ _ _ us hl => match us, hl with | [_], _ => rfl
  have b25 : Binds K fd25 ["words"] [] := D25.bindsN fun _ _ _ _ _ _ us hl => match us, hl with | [_], _ => rfl
  have b26 : Binds K fd26 ["words"] [] := D26.bindsN fun _ _ _ _ _ _ us hl => match us, hl with | [_], _ => rfl
  have b27 : Binds K fd27 ["words"] [] := D27.bindsN fun _ _ _ _ _ _ us hl => match us, hl with | [_], _ => rfl
  have b28 : Binds K fd28 ["line", "ahead"] [] := D28.bindsN fun _ _ _ _ _ _ us hl => match us, hl with | [_, _], _ => rfl
  have b29 : Binds K fd29 ["lines", "at", "ahead"] [] := D29.bindsN fun _ _ _ _ _ _ us hl => match us, hl with | [_, _, _], _ => rfl
  have b30 : Binds K fd30 ["lines", "at", "ahead"] [] := D30.bindsN fun _ _ _ _ _ _ us hl => match us, hl with | [_, _, _], _ => rfl
  have b31 : Binds K fd31 ["lines", "at"] [] := D31.bindsN fun _ _ _ _ _ _ us hl => match us, hl with | [_, _], _ => rfl
  have b32 : Binds K fd32 ["lines", "at", "numbers"] [] := D32.bindsN fun _ _ _ _ _ _ us hl => match us, hl with | [_, _, _], _ => rfl
  have b33 : Binds K fd33 ["line"] [] := D33.bindsN fun _ _ _ _ _ _ us hl => match us, hl with | [_], _ => rfl
  have b34 : Binds K fd34 ["text"] [] := D34.bindsN fun _ _ _ _ _ _ us hl => match us, hl with | [_], _ => rfl
  have b35 : Binds K fd35 ["_law_script"] [] := D35.bindsN fun _ _ _ _ _ _ us hl => match us, hl with | [_], _ => rfl
  have b36 : Binds K fd36 ["_law_tape_here", "_law_many"] [] := D36.bindsN fun _ _ _ _ _ _ us hl => match us, hl with | [_, _], _ => rfl
  have b37 : Binds K fd37 [] [] := D37.bindsN fun _ _ _ _ _ _ us hl => match us, hl with | [], _ => rfl
  have b38 : Binds K fd38 [] [] := D38.bindsN fun _ _ _ _ _ _ us hl => match us, hl with | [], _ => rfl
  have b39 : Binds K fd39 ["_law_tape_here"] [] := D39.bindsN fun _ _ _ _ _ _ us hl => match us, hl with | [_], _ => rfl
  have b40 : Binds K fd40 ["_law_text"] [] := D40.bindsN fun _ _ _ _ _ _ us hl => match us, hl with | [_], _ => rfl
  have b41 : Binds K fd41 ["_law_lines", "_law_due"] [] := D41.bindsN fun _ _ _ _ _ _ us hl => match us, hl with | [_, _], _ => rfl
  have b42 : Binds K fd42 ["_law_lines"] [] := D42.bindsN fun _ _ _ _ _ _ us hl => match us, hl with | [_], _ => rfl
  have b43 : Binds K fd43 ["_law_tape_here", "_law_lines", "_law_at_here", "_law_tail"] [] := D43.bindsN fun _ _ _ _ _ _ us hl => match us, hl with | [_, _, _, _], _ => rfl
  have bl := FunD.bindsA (ps := ["_law_script"]) D44 fun _ _ _ _ _ _ us hl => match us, hl with | [_], _ => rfl
  refine ⟨fd44, fun s v => bl s [v] rfl, fun base _ _ => ?_⟩
  have m_BadText : mg "BadText" = some (.ref (ga K "BadText")) := g 1 _ rfl
  have m_OPERANDS : mg "OPERANDS" = some (.ref (ga K "OPERANDS")) := g 2 _ rfl
  have m_READERS : mg "READERS" = some (.ref (ga K "READERS")) := g 3 _ rfl
  have m_ORDERS : mg "ORDERS" = some (.ref (ga K "ORDERS")) := g 4 _ rfl
  have m_FUNCTIONS : mg "FUNCTIONS" = some (.ref (ga K "FUNCTIONS")) := g 5 _ rfl
  have m_is_whole : mg "is_whole" = some (.ref (ga K "is_whole")) := g 6 _ rfl
  have m_common_divisor : mg "common_divisor" = some (.ref (ga K "common_divisor")) := g 7 _ rfl
  have m_is_rational : mg "is_rational" = some (.ref (ga K "is_rational")) := g 8 _ rfl
  have m_is_name : mg "is_name" = some (.ref (ga K "is_name")) := g 9 _ rfl
  have m_within_limit : mg "within_limit" = some (.ref (ga K "within_limit")) := g 10 _ rfl
  have m_read_whole : mg "read_whole" = some (.ref (ga K "read_whole")) := g 11 _ rfl
  have m_read_rational : mg "read_rational" = some (.ref (ga K "read_rational")) := g 12 _ rfl
  have m_read_value : mg "read_value" = some (.ref (ga K "read_value")) := g 13 _ rfl
  have m_read_leaf : mg "read_leaf" = some (.ref (ga K "read_leaf")) := g 14 _ rfl
  have m_pieces_of : mg "pieces_of" = some (.ref (ga K "pieces_of")) := g 15 _ rfl
  have m_check_piece : mg "check_piece" = some (.ref (ga K "check_piece")) := g 16 _ rfl
  have m_read_form : mg "read_form" = some (.ref (ga K "read_form")) := g 17 _ rfl
  have m_read_operation : mg "read_operation" = some (.ref (ga K "read_operation")) := g 18 _ rfl
  have m_read_expression : mg "read_expression" = some (.ref (ga K "read_expression")) := g 19 _ rfl
  have m_are_unlike_names : mg "are_unlike_names" = some (.ref (ga K "are_unlike_names")) := g 20 _ rfl
  have m_whole_or_none : mg "whole_or_none" = some (.ref (ga K "whole_or_none")) := g 21 _ rfl
  have m_form_or_none : mg "form_or_none" = some (.ref (ga K "form_or_none")) := g 22 _ rfl
  have m_read_keep : mg "read_keep" = some (.ref (ga K "read_keep")) := g 23 _ rfl
  have m_read_set : mg "read_set" = some (.ref (ga K "read_set")) := g 24 _ rfl
  have m_read_select : mg "read_select" = some (.ref (ga K "read_select")) := g 25 _ rfl
  have m_read_rename : mg "read_rename" = some (.ref (ga K "read_rename")) := g 26 _ rfl
  have m_read_sort : mg "read_sort" = some (.ref (ga K "read_sort")) := g 27 _ rfl
  have m_read_first : mg "read_first" = some (.ref (ga K "read_first")) := g 28 _ rfl
  have m_read_sample : mg "read_sample" = some (.ref (ga K "read_sample")) := g 29 _ rfl
  have m_read_join : mg "read_join" = some (.ref (ga K "read_join")) := g 30 _ rfl
  have m_read_union : mg "read_union" = some (.ref (ga K "read_union")) := g 31 _ rfl
  have m_read_distinct : mg "read_distinct" = some (.ref (ga K "read_distinct")) := g 32 _ rfl
  have m_read_total : mg "read_total" = some (.ref (ga K "read_total")) := g 33 _ rfl
  have m_read_group : mg "read_group" = some (.ref (ga K "read_group")) := g 34 _ rfl
  have m_read_step : mg "read_step" = some (.ref (ga K "read_step")) := g 35 _ rfl
  have m_read_alternative : mg "read_alternative" = some (.ref (ga K "read_alternative")) := g 36 _ rfl
  have m_read_choose : mg "read_choose" = some (.ref (ga K "read_choose")) := g 37 _ rfl
  have m_read_source : mg "read_source" = some (.ref (ga K "read_source")) := g 38 _ rfl
  have m_read_pipeline : mg "read_pipeline" = some (.ref (ga K "read_pipeline")) := g 39 _ rfl
  have m__law_tape : mg "_law_tape" = some (.ref (ga K "_law_tape")) := g 40 _ rfl
  have m__law_draw : mg "_law_draw" = some (.ref (ga K "_law_draw")) := g 41 _ rfl
  have m__law_bad_lines : mg "_law_bad_lines" = some (.ref (ga K "_law_bad_lines")) := g 42 _ rfl
  have m__law_bad_totals : mg "_law_bad_totals" = some (.ref (ga K "_law_bad_totals")) := g 43 _ rfl
  have m__law_good : mg "_law_good" = some (.ref (ga K "_law_good")) := g 44 _ rfl
  have m__law_told : mg "_law_told" = some (.ref (ga K "_law_told")) := g 45 _ rfl
  have m__law_at : mg "_law_at" = some (.ref (ga K "_law_at")) := g 46 _ rfl
  have m__law_choose_right : mg "_law_choose_right" = some (.ref (ga K "_law_choose_right")) := g 47 _ rfl
  have m__law_places_right : mg "_law_places_right" = some (.ref (ga K "_law_places_right")) := g 48 _ rfl
  have mf_set : mg "set" = none := z 67 _ rfl
  have x1 : ErF K mg "BadText" "position" (ga K "BadText") _ := ⟨oexB_ok (a 0 rfl), eqO_ok (a 1 rfl), of_decide_eq_true (a 2 rfl), eqO_ok (a 3 rfl), m_BadText⟩
  have x2 : ExB K (ga K "BadText") := ⟨xfB_ok (a 4 rfl), xisB_ok (a 5 rfl), of_decide_eq_true (a 6 rfl), of_decide_eq_true (a 7 rfl)⟩
  have G0 : FnOk P w K mg base CX0 (1) _ fd0 ["self", "position"] (spIni (ga K "BadText") "position") := ok_ini (fun_of D0) x1
  have G1 : FnOk P w K mg base CX0 (1) _ fd1 ["value"] (spWhole) := ok_whole (fun_of D1) T
  have G2 : FnOk P w K mg base CX0 (1) _ fd2 ["a", "b"] (spCd) := ok_cd (fun_of D2)
  have G3 : FnOk P w K mg base CX0 (2) _ fd3 ["value"] (spIsR) := ok_isr (fun_of D3) T G1 m_is_whole D1.kp b1 G2 m_common_divisor D2.kp b2
  have G4 : FnOk P w K mg base CX0 (1) _ fd4 ["value"] (spName) := ok_name (fun_of D4) T mc0 mc1 mc2
  have G5 : FnOk P w K mg base CX0 (1) _ fd5 ["number"] (spWithin) := ok_within (fun_of D5) T mc3
  have G6 : FnOk P w K mg base CX0 (1) _ fd6 ["text"] (spDg) := ok_Rw (fun_of D6) T mc5 mc6
  have G7 : FnOk P w K mg base CX0 (3) _ fd7 ["text"] (spNm) := ok_Rr (fun_of D7) T G6 m_read_whole D6.kp b6 G3 m_is_rational D3.kp b3 G5 m_within_limit D5.kp b5
  have G8 : FnOk P w K mg base CX0 (4) _ fd8 ["text"] (spRv) := ok_Rv (fun_of D8) T G4 m_is_name D4.kp b4 G7 m_read_rational D7.kp b7
  have G9 : FnOk P w K mg base CX0 (5) _ fd9 ["token"] (spRl) := ok_Rl (fun_of D9) T G4 m_is_name D4.kp b4 G8 m_read_value D8.kp b8
  have G10 : FnOk P w K mg base CX0 (1) _ fd10 ["text"] (spPo) := ok_Po (fun_of D10) T mc7
  have G11 : FnOk P w K mg base (L2.CX P w) (3) _ fd11 ["pieces", "at", "wanted"] (spCp (ga K "BadText")) := ok_Cp (fun_of D11) T x1 G0 b0
  have tO := tb 0 _ rfl
  have tR : ∃ es n, KDict K w (ga K "READERS") es n := tb 1 _ rfl
  have ops_key : ∀ {x : Str}, opsV x = none → x ∈ (["plus", "minus", "times", "over", "less", "same", "both", "either", "not", "missing", "if"] : List Str) → False := fun {x} hx hm => by
    have key : ∀ x ∈ (["plus", "minus", "times", "over", "less", "same", "both", "either", "not", "missing", "if"] : List Str), (opsV x).isSome = true := by decide +kernel
    have := key x hm
    rw [hx] at this
    cases this
  have OA : OpsA K w mg (ga K "OPERANDS") := ⟨m_OPERANDS, tO, opsV_all (dt_ok tO (a 9 rfl)) (dt_ok tO (a 10 rfl)) (dt_ok tO (a 11 rfl)) (dt_ok tO (a 12 rfl)) (dt_ok tO (a 13 rfl)) (dt_ok tO (a 14 rfl)) (dt_ok tO (a 15 rfl)) (dt_ok tO (a 16 rfl)) (dt_ok tO (a 17 rfl)) (dt_ok tO (a 18 rfl)) (dt_ok tO (a 19 rfl)), fun x hx => keys_no (ks := ["plus", "minus", "times", "over", "less", "same", "both", "either", "not", "missing", "if"]) (a 8 rfl) fun hm => ops_key hx hm⟩
  have G12 : FnOk P w K mg base (L2.CX P w) (5 + 2 * 8 + 1) _ fd12 ["pieces", "at", "depth"] (spRf (ga K "BadText") 8) := ok_RfN (fun_of D12) (fun_of D13) T OA mc4 x1 G0 b0 G11 m_check_piece D11.kp b11 G9 m_read_leaf D9.kp b9 m_read_form D12.kp b12 m_read_operation D13.kp b13 8
  have G14 : FnOk P w K mg base (L2.CX P w) (23) _ fd14 ["text"] (spRe (ga K "BadText")) := ok_Re (fun_of D14) T x1 G0 b0 G10 m_pieces_of D10.kp b10 G12 m_read_form D12.kp b12 G11 m_check_piece D11.kp b11
  have G15 : FnOk P w K mg base CX0 (2) _ fd15 ["words", "low", "high"] (spUn) := ok_Un (fun_of D15) T mf_set G4 m_is_name D4.kp b4
  have G16 : FnOk P w K mg base CX0 (2) _ fd16 ["word", "low", "high"] (spWn) := ok_Wn (fun_of D16) T G6 m_read_whole D6.kp b6
  have G17 : FnOk P w K mg base CX0 (24) _ fd17 ["words"] (spFm) := ok_Fm (fun_of D17) T x1 ⟨(x2).cc⟩ G14 m_read_expression D14.kp b14
  have G18 : FnOk P w K mg base CX0 (25) _ fd18 ["words"] (spRd keepM) := ok_Kp (fun_of D18) T G17 m_form_or_none D17.kp b17
  have G19 : FnOk P w K mg base CX0 (25) _ fd19 ["words"] (spRd setM) := ok_St (fun_of D19) T G17 m_form_or_none D17.kp b17 G4 m_is_name D4.kp b4
  have G20 : FnOk P w K mg base CX0 (25) _ fd20 ["words"] (spRd selectM) := ok_Sl (fun_of D20) T mc8 G15 m_are_unlike_names D15.kp b15
  have G21 : FnOk P w K mg base CX0 (25) _ fd21 ["words"] (spRd renameM) := ok_Rn (fun_of D21) T G4 m_is_name D4.kp b4
  have G22 : FnOk P w K mg base CX0 (25) _ fd22 ["words"] (spRd sortM) := ok_So (fun_of D22) T m_ORDERS (fun H => tupB_ok (a 20 rfl) H) G4 m_is_name D4.kp b4
  have G23 : FnOk P w K mg base CX0 (25) _ fd23 ["words"] (spRd firstM) := ok_Fi (fun_of D23) T mc10 G16 m_whole_or_none D16.kp b16
  have G24 : FnOk P w K mg base CX0 (25) _ fd24 ["words"] (spRd sampleM) := ok_Sm (fun_of D24) T mc11 mc12 G16 m_whole_or_none D16.kp b16
  have G25 : FnOk P w K mg base CX0 (25) _ fd25 ["words"] (spRd joinM) := ok_Jo (fun_of D25) T mc13 G4 m_is_name D4.kp b4 G15 m_are_unlike_names D15.kp b15
  have G26 : FnOk P w K mg base CX0 (25) _ fd26 ["words"] (spRd unionM) := ok_Uo (fun_of D26) T G4 m_is_name D4.kp b4
  have G27 : FnOk P w K mg base CX0 (25) _ fd27 ["words"] (spRd distinctM) := ok_Di (fun_of D27) T
  have rd_key : ∀ {x : Str}, readV x = none → x ∈ (["keep", "set", "select", "rename", "sort", "first", "sample", "join", "union", "distinct"] : List Str) → False := fun {x} hx hm => by
    have key : ∀ x ∈ (["keep", "set", "select", "rename", "sort", "first", "sample", "join", "union", "distinct"] : List Str), (readV x).isSome = true := by decide +kernel
    have := key x hm
    rw [hx] at this
    cases this
  have RA : RdA P w K mg base (ga K "READERS") := by
    refine ⟨m_READERS, tR, fun x M h => ?_, fun x hx => keys_no (ks := ["keep", "set", "select", "rename", "sort", "first", "sample", "join", "union", "distinct"]) (a 22 rfl) fun hm => rd_key hx hm⟩
    unfold readV at h
    split at h
    · rename_i e
      subst e
      obtain rfl := Option.some.inj h
      exact ⟨_, kdct_of tR (eqO_ok (a 23 rfl)), eqO_ok (a 23 rfl), ⟨⟨_, _, G18, D18.kp, b18⟩⟩⟩
    split at h
    · rename_i e
      subst e
      obtain rfl := Option.some.inj h
      exact ⟨_, kdct_of tR (eqO_ok (a 24 rfl)), eqO_ok (a 24 rfl), ⟨⟨_, _, G19, D19.kp, b19⟩⟩⟩
    split at h
    · rename_i e
      subst e
      obtain rfl := Option.some.inj h
      exact ⟨_, kdct_of tR (eqO_ok (a 25 rfl)), eqO_ok (a 25 rfl), ⟨⟨_, _, G20, D20.kp, b20⟩⟩⟩
    split at h
    · rename_i e
      subst e
      obtain rfl := Option.some.inj h
      exact ⟨_, kdct_of tR (eqO_ok (a 26 rfl)), eqO_ok (a 26 rfl), ⟨⟨_, _, G21, D21.kp, b21⟩⟩⟩
    split at h
    · rename_i e
      subst e
      obtain rfl := Option.some.inj h
      exact ⟨_, kdct_of tR (eqO_ok (a 27 rfl)), eqO_ok (a 27 rfl), ⟨⟨_, _, G22, D22.kp, b22⟩⟩⟩
    split at h
    · rename_i e
      subst e
      obtain rfl := Option.some.inj h
      exact ⟨_, kdct_of tR (eqO_ok (a 28 rfl)), eqO_ok (a 28 rfl), ⟨⟨_, _, G23, D23.kp, b23⟩⟩⟩
    split at h
    · rename_i e
      subst e
      obtain rfl := Option.some.inj h
      exact ⟨_, kdct_of tR (eqO_ok (a 29 rfl)), eqO_ok (a 29 rfl), ⟨⟨_, _, G24, D24.kp, b24⟩⟩⟩
    split at h
    · rename_i e
      subst e
      obtain rfl := Option.some.inj h
      exact ⟨_, kdct_of tR (eqO_ok (a 30 rfl)), eqO_ok (a 30 rfl), ⟨⟨_, _, G25, D25.kp, b25⟩⟩⟩
    split at h
    · rename_i e
      subst e
      obtain rfl := Option.some.inj h
      exact ⟨_, kdct_of tR (eqO_ok (a 31 rfl)), eqO_ok (a 31 rfl), ⟨⟨_, _, G26, D26.kp, b26⟩⟩⟩
    split at h
    · rename_i e
      subst e
      obtain rfl := Option.some.inj h
      exact ⟨_, kdct_of tR (eqO_ok (a 32 rfl)), eqO_ok (a 32 rfl), ⟨⟨_, _, G27, D27.kp, b27⟩⟩⟩
    cases h
  have G28 : FnOk P w K mg base CX0 (3) _ fd28 ["line", "ahead"] (spTt) := ok_Tt (fun_of D28) T m_FUNCTIONS (fun H => tupB_ok (a 21 rfl) H) G4 m_is_name D4.kp b4
  have G29 : FnOk P w K mg base (L2.CX P w) (4) _ fd29 ["lines", "at", "ahead"] (spGr (ga K "BadText")) := ok_Gr (fun_of D29) T mc13 mc14 mc8 mc20 x1 G0 b0 G15 m_are_unlike_names D15.kp b15 G28 m_read_total D28.kp b28
  have G30 : FnOk P w K mg base (L2.CX P w) (26) _ fd30 ["lines", "at", "ahead"] (spSp (ga K "BadText")) := ok_Sp (fun_of D30) T RA x1 G0 b0 G29 m_read_group D29.kp b29
  have G31 : FnOk P w K mg base (L2.CX P w) (27) _ fd31 ["lines", "at"] (spAl (ga K "BadText")) := ok_Al (fun_of D31) T mc17 mc19 G30 m_read_step D30.kp b30
  have G32 : FnOk P w K mg base (L2.CX P w) (28) _ fd32 ["lines", "at", "numbers"] (spCh (ga K "BadText")) := ok_Ch (fun_of D32) T mc15 mc16 mc18 x1 G0 b0 G4 m_is_name D4.kp b4 G31 m_read_alternative D31.kp b31
  have G33 : FnOk P w K mg base (L2.CX P w) (3) _ fd33 ["line"] (spSo (ga K "BadText")) := ok_So_ (fun_of D33) T x1 G0 b0 G4 m_is_name D4.kp b4
  have G34 : FnOk P w K mg base (L2.CX P w) (30) _ fd34 ["text"] (spPl (ga K "BadText")) := ok_Pl (fun_of D34) T mc9 x1 G0 b0 G33 m_read_source D33.kp b33 G30 m_read_step D30.kp b30 G32 m_read_choose D32.kp b32
  have G35 : FnOk P w K mg base CX0 (1) _ fd35 ["_law_script"] (spTape K) := ok_tape (fun_of D35) T
  have G36 : FnOk P w K mg base CX0 (1) _ fd36 ["_law_tape_here", "_law_many"] (spDrawL) := ok_draw (fun_of D36) T
  have G37 : FnOk P w K mg base CX0 (1) _ fd37 [] (spLs badS) := ok_Bl (fun_of D37) T
  have G38 : FnOk P w K mg base CX0 (1) _ fd38 [] (spLs totS) := ok_Btt (fun_of D38) T
  have G39 : FnOk P w K mg base CX0 (2) _ fd39 ["_law_tape_here"] (spGd) := ok_Gd (fun_of D39) T G36 m__law_draw D36.kp b36
  have G40 : FnOk P w K mg base CX0 (31) _ fd40 ["_law_text"] (spTo) := ok_Told (fun_of D40) T x1 x2 G34 m_read_pipeline D34.kp b34
  have G41 : FnOk P w K mg base CX0 (32) _ fd41 ["_law_lines", "_law_due"] (spAt) := ok_At_ (fun_of D41) T G40 m__law_told D40.kp b40
  have G42 : FnOk P w K mg base CX0 (33) _ fd42 ["_law_lines"] (spCr) := ok_Cr (fun_of D42) T G41 m__law_at D41.kp b41 G40 m__law_told D40.kp b40
  have G43 : FnOk P w K mg base CX0 (33) _ fd43 ["_law_tape_here", "_law_lines", "_law_at_here", "_law_tail"] (spPr) := ok_Pr (fun_of D43) T G37 m__law_bad_lines D37.kp b37 G38 m__law_bad_totals D38.kp b38 G41 m__law_at D41.kp b41 G40 m__law_told D40.kp b40
  exact ok_Law (fun_of D44) T G35 m__law_tape D35.kp b35 G36 m__law_draw D36.kp b36 G39 m__law_good D39.kp b39 G40 m__law_told D40.kp b40 G41 m__law_at D41.kp b41 G43 m__law_places_right D43.kp b43 G42 m__law_choose_right D42.kp b42
end K79
open PySem PySem.W PySem.Calls PyProof.Rows
theorem PySem.Challenge.cw_liveclaims_k79_lines_that_are_not_read_holds : PySem.Challenge.rw_liveclaims_k79_lines_that_are_not_read.Holds := by
  w_on; o_law
  refine HandSHeadRun.head_any (r := OpenLaw.row PySem.Challenge.rw_liveclaims_k79_lines_that_are_not_read) (q := view (OpenLaw.row PySem.Challenge.rw_liveclaims_k79_lines_that_are_not_read).prog [75]) (H := K79.hk) (ob := K79.ob) (M := 20000) (loose := K79.loose) (d := HandSHeadRun.topDef (OpenLaw.row PySem.Challenge.rw_liveclaims_k79_lines_that_are_not_read).prog 75) (kwd := []) K79.ob_eq
    (by kernel_rfl) (fun s => by kernel_rfl) K79.run (by kernel_rfl) (by kernel_rfl) (by kernel_rfl) (by rfl) (by first | assumption | decide +kernel) (by decide +kernel) ⟨rfl, rfl, rfl, rfl, rfl, by decide +kernel⟩ ?hw ?hc
  case hw => w_witness2
  case hc =>
    refine Lc.walk_GE (l := PySem.Challenge.rw_liveclaims_k79_lines_that_are_not_read) (n := 63) (k := 34) (x := "_law_script") rfl (by decide) (by kernel_rfl) ⟨rfl, by decide, by decide⟩ ?F
    intro w mg fa h Y G hmg0
    obtain ⟨K, KX, c, e, tb⟩ := Y
    have hmg : mg ("law" : PySem.Str) = some (.ref fa) := by
      have e : (HandSHeadRun.topDef (OpenLaw.row PySem.Challenge.rw_liveclaims_k79_lines_that_are_not_read).prog 75).name = ("law" : PySem.Str) := by kernel_rfl
      rw [← e]
      exact hmg0
    obtain ⟨fd, hb, hF⟩ := K79.facts (P := (PySem.Challenge.rw_liveclaims_k79_lines_that_are_not_read).prog) (w := w) KX G hmg c e tb
    exact ⟨K, fd, K79.spLaw K, KX, hb, fun H a ns hl hS => ⟨a, ns, rfl, hS, fun _ => rfl⟩, hF⟩
