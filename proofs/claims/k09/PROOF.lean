import PyProof.Rows.All
import Wide.All
import OpenK.AllK
import Wide.FinOn
import HandS.ForMost
import HandS.ForExc
import HandS.Wide
import HandS.Flow
import HandS.IsInst
import HandS.ExcInit
import HandS.ExcField
import HandS.ExcIs
import HandS.TryMany
import HandS.CallLocal
import HandS.RaiseMore
import HandS.CallSlots
import KE.KExcIs
import PyProof.ReprRoads
import PyProof.ReprText
import HandS.Evl
import HandS.Walk
import HandS.Style
import PyProof.StrBlock2
import PyProof.StrLawsRepr
import PyProof.ReprLen
import KE.GoesEnum
import HandS.Iter
import HandS.TupMul
import HandS.ListItems
import HandS.OwnIter
import HandS.More
import PyProof.InstSpecial
import HandS.Defaults
import HandS.DictComp
import HandS.Zip
import HandS.Comp
import KE.GoesRaise
import KE.KIntText
import PyProof.StrLawsTight
import PyProof.StrLawsChain
import HandS.StrMore
import HandS.Replace
import HandS.WrittenGet
import HandS.TupAny
import HandS.Head0
import HandS.Head1
import HandS.Head2
import HandS.HeadHook1
import HandS.HeadHook2
import KE.KStateDown
import HandS.HeadHook3
import PySem.Challenge.RW_liveclaims_k09_invalid_expressions
set_option maxRecDepth 100000
set_option maxHeartbeats 4000000
set_option linter.all false
namespace Lc
/-! ## Greatest common divisors and lowest terms -/
def gd (a b : Int) : Int := (Int.gcd a b : Int)
theorem gd_nonneg (a b : Int) : 0 ≤ gd a b := Int.natCast_nonneg _
theorem gd_pos {a b : Int} (h : b ≠ 0) : 0 < gd a b := by
  have : 0 < Int.gcd a b := Int.gcd_pos_of_ne_zero_right a h
  unfold gd
  omega
theorem gd_zero {a : Int} (h : 0 ≤ a) : gd a 0 = a := by
  unfold gd
  rw [Int.gcd_zero_right]
  omega
theorem gd_step {a b : Int} (ha : 0 ≤ a) (hb : 0 < b) : gd b (a % b) = gd a b := by
  unfold gd Int.gcd
  have e1 : (a % b).natAbs = a.natAbs % b.natAbs := by
    have h0 : 0 ≤ a % b := Int.emod_nonneg a (by omega)
    have : ((a % b).natAbs : Int) = ((a.natAbs % b.natAbs : Nat) : Int) := by
      rw [Int.natCast_emod, Int.natAbs_of_nonneg h0, Int.natAbs_of_nonneg ha, Int.natAbs_of_nonneg (by omega : 0 ≤ b)]
    exact Int.ofNat.inj this
  rw [e1, Nat.gcd_comm b.natAbs, ← Nat.gcd_rec, Nat.gcd_comm]
theorem gd_abs (a b : Int) : gd (if a < 0 then -a else a) b = gd a b := by
  unfold gd
  split
  · rw [Int.neg_gcd]
  · rfl
theorem gd_abs2 (a b : Int) : gd a (if b < 0 then -b else b) = gd a b := by
  unfold gd
  split
  · rw [Int.gcd_neg]
  · rfl
theorem gd_dvd1 (a b : Int) : gd a b ∣ a := Int.gcd_dvd_left a b
theorem gd_dvd2 (a b : Int) : gd a b ∣ b := Int.gcd_dvd_right a b
theorem gd_natAbs_le {a b : Int} (h : b ≠ 0) : (gd a b).natAbs ≤ b.natAbs := by
  have h1 : Int.gcd a b ≤ b.natAbs := Nat.le_of_dvd (by omega) (Int.gcd_dvd_natAbs_right a b)
  unfold gd
  rw [Int.natAbs_natCast]
  exact h1
def lowN (n d : Int) : Int := n / gd n d
def lowD (n d : Int) : Int := d / gd n d
structure Rt (n d : Int) : Prop where
  pos : 0 < d
  cop : gd n d = 1
theorem low_mul {n d : Int} (h : d ≠ 0) : lowN n d * gd n d = n ∧ lowD n d * gd n d = d := ⟨Int.ediv_mul_cancel (gd_dvd1 n d), Int.ediv_mul_cancel (gd_dvd2 n d)⟩
theorem lowD_pos {n d : Int} (h : 0 < d) : 0 < lowD n d := Int.ediv_pos_of_pos_of_dvd h (gd_nonneg n d) (gd_dvd2 n d)
theorem low_rt {n d : Int} (h : 0 < d) : Rt (lowN n d) (lowD n d) := by
  refine ⟨lowD_pos h, ?_⟩
  have hg : 0 < Int.gcd n d := Int.gcd_pos_of_ne_zero_right n (by omega)
  unfold lowN lowD gd
  rw [Int.gcd_ediv_gcd_ediv_gcd hg]
  rfl
theorem dvd_cop {k m n : Int} (h : k ∣ n * m) (g : Int.gcd m k = 1) : k ∣ n := by
  have h1 : k.natAbs ∣ m.natAbs * n.natAbs := by
    rw [← Int.natAbs_mul, Int.mul_comm]
    exact Int.natAbs_dvd_natAbs.mpr h
  have c : Nat.Coprime k.natAbs m.natAbs := by
    show Nat.gcd k.natAbs m.natAbs = 1
    rw [Nat.gcd_comm]
    exact g
  exact Int.natAbs_dvd_natAbs.mp (c.dvd_of_dvd_mul_left h1)
/-- lowest terms are one pair alone -/
theorem rt_unique {a b c d : Int} (h1 : Rt a b) (h2 : Rt c d) (e : a * d = c * b) : a = c ∧ b = d := by
  have g1 : Int.gcd a b = 1 := by have := h1.cop; unfold gd at this; omega
  have g2 : Int.gcd c d = 1 := by have := h2.cop; unfold gd at this; omega
  have db : b ∣ d := by
    have : b ∣ d * a := ⟨c, by rw [Int.mul_comm d a, e, Int.mul_comm]⟩
    exact dvd_cop this g1
  have dd : d ∣ b := by
    have : d ∣ b * c := ⟨a, by rw [Int.mul_comm b c, ← e, Int.mul_comm]⟩
    exact dvd_cop this g2
  have hb := h1.pos
  have hd := h2.pos
  have ebd : b = d := Int.le_antisymm (Int.le_of_dvd hd db) (Int.le_of_dvd hb dd)
  subst ebd
  exact ⟨Int.eq_of_mul_eq_mul_right (by omega) e, rfl⟩
theorem low_is {n d a b : Int} (hd : 0 < d) (h : Rt a b) (e : n * b = a * d) : lowN n d = a ∧ lowD n d = b := by
  have m := low_mul (n := n) (d := d) (by omega)
  have g := gd_pos (a := n) (b := d) (by omega)
  refine rt_unique (low_rt hd) h ?_
  have e2 : (lowN n d * b) * gd n d = (a * lowD n d) * gd n d := by
    rw [Int.mul_right_comm, m.1, Int.mul_assoc, m.2, e]
  exact Int.eq_of_mul_eq_mul_right (by omega) e2
theorem fdiv_neg_dvd {a g : Int} (hg : 0 < g) (h : g ∣ a) : a.fdiv (-g) = (-a) / g := by
  obtain ⟨m, rfl⟩ := h
  have e1 : g * m = (-g) * (-m) := by rw [Int.neg_mul_neg]
  have e2 : -(g * m) = g * (-m) := by rw [Int.mul_neg]
  rw [e2, Int.mul_ediv_cancel_left _ (by omega), e1, Int.mul_fdiv_cancel_left _ (by omega)]
/-- the sums and products of the law -/
theorem sub_add {an ad bn bd p q : Int} (had : 0 < ad) (hbd : 0 < bd) (hq : 0 < q) (h : p * (ad * bd) = (an * bd + bn * ad) * q) : (p * bd - bn * q) * ad = an * (q * bd) := by
  have e1 : (p * bd - bn * q) * ad = p * (ad * bd) - bn * q * ad := by
    rw [Int.sub_mul, Int.mul_assoc p bd ad, Int.mul_comm bd ad]
  have e2 : (an * bd + bn * ad) * q = an * (q * bd) + bn * q * ad := by
    rw [Int.add_mul, Int.mul_assoc an bd q, Int.mul_comm bd q, Int.mul_assoc bn ad q, Int.mul_comm ad q, Int.mul_assoc bn q ad]
  rw [e1, h, e2]
  omega
theorem mul_div {an ad bn bd p q : Int} (h : p * (ad * bn) = (an * bd) * q) (hbn : bn ≠ 0) : (p * bn) * ad = an * (q * bd) := by
  rw [Int.mul_assoc p bn ad, Int.mul_comm bn ad, h, Int.mul_assoc an bd q, Int.mul_comm bd q]
end Lc
namespace Lc
theorem low_le {n d : Int} (h : d ≠ 0) : (lowN n d).natAbs ≤ n.natAbs ∧ (lowD n d).natAbs ≤ d.natAbs := by
  have m := low_mul (n := n) (d := d) h
  have g := gd_pos (a := n) (b := d) h
  have e1 : n.natAbs = (lowN n d).natAbs * (gd n d).natAbs := by rw [← Int.natAbs_mul, m.1]
  have e2 : d.natAbs = (lowD n d).natAbs * (gd n d).natAbs := by rw [← Int.natAbs_mul, m.2]
  have gp : 0 < (gd n d).natAbs := by omega
  exact ⟨by rw [e1]; exact Nat.le_mul_of_pos_right _ gp, by rw [e2]; exact Nat.le_mul_of_pos_right _ gp⟩
theorem rt_one (n : Int) : Rt n 1 := ⟨by decide, by unfold gd; rw [Int.gcd_one]; rfl⟩
theorem rt_inv {d : Int} (h : 0 < d) : Rt 1 d := ⟨h, by unfold gd; rw [Int.one_gcd]; rfl⟩
theorem rt_ninv {d : Int} (h : 0 < d) : Rt (-1) d := ⟨h, by unfold gd; rw [Int.neg_gcd, Int.one_gcd]; rfl⟩
end Lc
set_option Elab.async false
set_option linter.all false
set_option maxRecDepth 100000
set_option maxHeartbeats 4000000
namespace Lc
open PySem PySem.Spec PyProof.Rows L2
/-! ## A try with clauses of both forms, «except X:» and «except X as n:» -/
structure Cl where
  c : Value
  slot : Option Nat
  ts : Addr → Value → Option Addr → TS
def putS : Option Nat → Option V → L2.St → L2.St
  | none, _, σ => σ
  | some i, v, σ => σ.set i v
def endS (q : Option Nat) (D : Ends) : Ends := ⟨fun σ H => D.nx (putS q none σ) H, D.rt, fun σ H => D.bk (putS q none σ) H, fun σ H => D.ct (putS q none σ) H⟩
def wCl (K : PySem.W.Frag) (Wout : WX) (D : Ends) : List Cl → WX
  | [] => Wout
  | q :: r => fun cls d σ H => ∃ b, PySem.W.exmOne K cls q.c = some b ∧ (b = true → ∀ a, H a = none → q.ts a cls d (endS q.slot D) (putS q.slot (some (.ref a)) σ) H) ∧
      (b = false → wCl K Wout D r cls d σ H)
abbrev SuiteOk (X : Cx) (st : List Stmt) (ts : Addr → Value → Option Addr → TS) : Prop :=
  ∀ (a : Addr) (ob : Obj) (cls : Value) (d : Option Addr) (pn : List (Addr × Obj)), Zc cls d ob → (∃ vs, ob.data = .fields vs) → PSs (X.suite a ((a, ob) :: pn)) st (ts a cls d)
inductive ClsOk (X : Cx) : List ExceptHandler → List Cl → Prop
  | nil : ClsOk X [] []
  | bare {x : Str} {q : Cl} {st : Stmt} {sts : List Stmt} {p1 p2 : Pos} {hds : List ExceptHandler} {l : List Cl} (hc : Names X x q.c) (hq : q.slot = none) (su : SuiteOk X (st :: sts) q.ts) (r : ClsOk X hds l) :
      ClsOk X (.ExceptHandler (some (.Name x p1)) none (st :: sts) p2 :: hds) (q :: l)
  | named {x n : Str} {q : Cl} {i : Nat} {st : Stmt} {sts : List Stmt} {p1 p2 : Pos} {hds : List ExceptHandler} {l : List Cl} (hc : Names X x q.c) (hq : q.slot = some i) (hN : X.N.Nodup) (hi : X.N[i]? = some n) (hn : X.env.kindOf n = some .local)
      (su : SuiteOk X (st :: sts) q.ts) (r : ClsOk X hds l) : ClsOk X (.ExceptHandler (some (.Name x p1)) (some n) (st :: sts) p2 :: hds) (q :: l)
section
variable {X : Cx}
theorem clauses_go {Wout : WX} {D : Ends} {pins : List (Addr × Obj)} {σ : L2.St} {H : Hp} {cls : Value} {d : Option Addr} {a : Addr} {B : Heap} {sI s' : Shared} {h3 : Heap}
    (hs : X.stack = X.env :: X.outer) (hf : X.env.frame = some X.env.locals) (tk : Takes X Wout) (J : Inv X pins σ H sI)
    (nb : ∀ b o, sI.heap.get? b = some o → b ∉ frs X.stack → B.get? b = some o) (na : H a = none) (os : s'.os = sI.os) (ag : AllBare s'.gens)
    (up : sI.heap.UpToSlots h3) (fl : HandSPX.FlyingZ B (X.env :: X.outer) a (Zc cls d) h3) :
    ∀ {hds : List ExceptHandler} {l : List Cl}, ClsOk X hds l → wCl X.K Wout D l cls d σ H → wpAny (model X.prog X.w) X.A (handleBy (.ref a) X.env hds) (SP X pins D) X.xe { s' with heap := h3 } := by
  have ok := J.ok
  have land : ∀ {h4 : Heap}, HandSPX.FlyingZ B (X.env :: X.outer) a (Zc cls d) h4 → sI.heap.UpToSlots h4 → Inv X pins σ H { s' with heap := h4 } ∧ ∃ ob vs, Zc cls d ob ∧ ob.data = .fields vs ∧ h4.get? a = some ob ∧
      Inv (X.suite a ((a, ob) :: (X.pn ++ pins))) [] σ H { s' with heap := h4 } := by
    intro h4 f4 u4
    have J4 : Inv X pins σ H { s' with heap := h4 } := J.landed nb f4.1 u4 os ag
    obtain ⟨ob, vs, hob, hz, hd⟩ := f4.there
    have nfr : a ∉ frs (X.env :: X.outer) := fun hm => by
      obtain ⟨_, ox, ex, nf⟩ := f4.2.2.1.mem hm
      rw [hob] at ex
      cases ex
      exact nf _ hd
    have nL : a ≠ X.env.locals := fun z => nfr (List.mem_filterMap.mpr ⟨X.env, List.mem_cons_self, by rw [hf, z]⟩)
    have nF : a ∉ X.fs := fun hm => by
      obtain ⟨en, hen, qq⟩ := List.mem_filterMap.mp hm
      exact nfr (List.mem_filterMap.mpr ⟨en, List.mem_cons_of_mem _ hen, qq⟩)
    exact ⟨J4, ob, vs, hz, hd, hob, J4.suite hob hd na nL nF⟩
  obtain ⟨J3, o3, vs3, hz3, hd3, ho3, S3⟩ := land fl up
  have ty : PySem.W.Looks (model X.prog X.w) h3 (typeOf (.ref a)) cls := fun _ _ _ _ kk qq => wpAny_typeOf_ref (kk _ _ ho3) (by rw [hz3.1]; exact qq)
  have tst : ∀ {x : Str} {c : Value} {p1 : Pos} {Q : Value → Shared → Prop} {E : Value → Shared → Prop}, Names X x c → Q c { s' with heap := h3 } →
      wpAny (model X.prog X.w) (X.A.mark (some (.ref a))) (eval (.Name x p1) X.env) Q E { s' with heap := h3 } := by
    intro x c p1 Q E hc hq
    rcases hc with ⟨hg, hdb, hm | ⟨hm, hv, hne⟩⟩
    · exact ld_glob (X := X.suite a ((a, o3) :: (X.pn ++ pins))) S3 hg hm hq hdb
    · exact ld_blt (X := X.suite a ((a, o3) :: (X.pn ++ pins))) S3 hg hm hv hq hne hdb
  intro hds l hk
  induction hk with
  | nil =>
    intro wi
    refine wpAny_handleBy_nil ?_
    obtain ⟨_, _, _, ox, vx, T, _, _, hox, _, hdx, h1, _⟩ := id fl
    have out : wpAny (model X.prog X.w) X.A (setFlight (.ref a) X.env.frame) (fun _ s4 => wpAny (model X.prog X.w) X.A (throw (.ref a) : Sem Flow) (SP X pins D) X.xe s4) X.xe { s' with heap := h3 } := by
      rw [hf]
      exact HandSPX.setFlight_upZ fl fun h4 f4 u4 => wpAny_throw (tk _ _ ⟨a, B, sI, pins, σ, H, cls, d, rfl, J, nb, up.trans u4, .inr (.inr (by rw [hs]; exact f4)), na, os, ag, wi⟩)
    unfold PySem.passOn
    refine wpAny_bind (wpAny_field hox hdx h1 ?_)
    rw [if_neg (by simp : ¬ ((Value.ref T == Value.none) = true))]
    first
      | exact wpAny_bind out
      | exact wpAny_bind (wpAny_pure (wpAny_bind out))
  | @bare x q st sts p1 p2 hds2 l2 hc hq su r ih =>
    intro wi
    obtain ⟨b, hb, yes, no⟩ := wi
    refine wpAny_handleBy_cons (codeAny_handlers_test (tst hc ((PySem.W.exm_one (M := model X.prog X.w) J3.kIn ty hb).here ?_))) (by intro z; cases z)
    cases b with
    | false => exact ih (no rfl)
    | true =>
      refine codeAny_handlers_suite (HandSPX.lands_againZ fl fun h4 f4 u4 => ?_)
      obtain ⟨J4, o4, vs4, hz4, hd4, ho4, S4⟩ := land f4 (up.trans u4)
      have yy := yes rfl a na
      rw [hq] at yy
      refine wpAny_mono ((su a o4 cls d (X.pn ++ pins) hz4 ⟨_, hd4⟩).run [] _ _ H _ S4 yy) (fun f s6 hsp => ?_) (fun _ _ z => z.elim)
      cases f with
      | ret u =>
        obtain ⟨v6, σ6, H6, S6, r6, q6⟩ := hsp
        exact ⟨v6, σ6, H6, S6.unsuite ok, r6, q6⟩
      | next => obtain ⟨σ6, H6, S6, q6⟩ := hsp; exact ⟨σ6, H6, S6.unsuite ok, q6⟩
      | brk => obtain ⟨σ6, H6, S6, q6⟩ := hsp; exact ⟨σ6, H6, S6.unsuite ok, q6⟩
      | cont => obtain ⟨σ6, H6, S6, q6⟩ := hsp; exact ⟨σ6, H6, S6.unsuite ok, q6⟩
  | @named x n q i st sts p1 p2 hds2 l2 hc hq hN hi hn su r ih =>
    intro wi
    obtain ⟨b, hb, yes, no⟩ := wi
    refine wpAny_handleBy_cons (codeAny_handlers_test (tst hc ((PySem.W.exm_one (M := model X.prog X.w) J3.kIn ty hb).here ?_))) (by intro z; cases z)
    cases b with
    | false => exact ih (no rfl)
    | true =>
      refine codeAny_handlers_suite_as (HandSPX.lands_againZ fl fun h4 f4 u4 => ?_)
      obtain ⟨J4, o4, vs4, hz4, hd4, ho4, S4⟩ := land f4 (up.trans u4)
      have yy := yes rfl a na
      rw [hq] at yy
      refine store_ok (X := X.suite a ((a, o4) :: (X.pn ++ pins))) (v := .ref a) S4 hN hi (.inl hn) rfl (fun s5 S5 => ?_) (.inr hn)
      refine wpAny_mono ((su a o4 cls d (X.pn ++ pins) hz4 ⟨_, hd4⟩).run [] s5 _ H _ S5 yy) (fun f s6 hsp => ?_) (fun _ _ z => z.elim)
      have fin : ∀ {σ6 : L2.St} {H6 : Hp} {Q : Shared → Prop}, Inv (X.suite a ((a, o4) :: (X.pn ++ pins))) [] σ6 H6 s6 → (∀ s7, Inv X pins (σ6.set i none) H6 s7 → Q s7) →
          wpAny (model X.prog X.w) X.A (do bindName X.env n .none; unbindBehindTheSuite X.env n p2) (fun _ s7 => Q s7) X.xe s6 := fun S6 k => gone_ok (S6.unsuite ok) hN hi hn k
      cases f with
      | ret u =>
        obtain ⟨v6, σ6, H6, S6, r6, q6⟩ := hsp
        exact fin S6 fun s7 J7 => ⟨_, _, _, J7, r6, q6⟩
      | next => obtain ⟨σ6, H6, S6, q6⟩ := hsp; exact fin S6 fun s7 J7 => ⟨_, _, J7, q6⟩
      | brk => obtain ⟨σ6, H6, S6, q6⟩ := hsp; exact fin S6 fun s7 J7 => ⟨_, _, J7, q6⟩
      | cont => obtain ⟨σ6, H6, S6, q6⟩ := hsp; exact fin S6 fun s7 J7 => ⟨_, _, J7, q6⟩
theorem ps_tryL {body : List Stmt} {h₀ : ExceptHandler} {hds : List ExceptHandler} {l : List Cl} {pos : Pos} {tb : WX → TS} {Wout : WX} (hs : X.stack = X.env :: X.outer) (hf : X.env.frame = some X.env.locals) (tk : Takes X Wout)
    (hb : ∀ (W : WX) (pn : List (Addr × Obj)) (xe : Value → Shared → Prop), Takes (X.tr pn xe) W → PassesOwn (model X.prog X.w) X.A X.env xe → PSs (X.tr pn xe) body (tb W)) (hh : ClsOk X (h₀ :: hds) l) :
    PS X (.Try body (h₀ :: hds) [] [] pos) (fun D σ H => tb (wCl X.K Wout D l) D σ H) := by
  refine ⟨fun pins s σ H D I h => ?_⟩
  have ok := I.ok
  have fr : X.A.frames = some (X.env :: X.outer) := ok.frames.trans (congrArg some hs)
  refine wpAny_Try_except (wpAny_mono ((hb (wCl X.K Wout D l) (X.pn ++ pins) (fun e s₁ => wpAny (model X.prog X.w) X.A (noteFrame e X.env) (fun _ s₂ => wpAny (model X.prog X.w) X.A (setFlight e none)
    (fun _ s₃ => wpAny (model X.prog X.w) X.A (handleBy e X.env (h₀ :: hds)) (SP X pins D) X.xe s₃) X.xe s₂) X.xe s₁) (fun u s' xx => ?_) PassesOwn.looking).run [] s σ H D (I.toTry _) h) (fun f s1 hsp => ?_) (fun _ _ he => he))
  · obtain ⟨a, B, sI, _, σ1, H1, cls, d, rfl, J', nb, up, sky, na, os, ag, wi⟩ := xx
    rw [hs] at sky
    exact Sky.land Zc.steady fr hf sky fun h3 f3 u3 => clauses_go hs hf tk (J'.ofTry ok) nb na os ag (up.trans u3) f3 hh wi
  · cases f with
    | ret u =>
      obtain ⟨v1, σ1, H1, J1, r1, q1⟩ := hsp
      exact ⟨v1, σ1, H1, J1.ofTry ok, r1, q1⟩
    | next => obtain ⟨σ1, H1, J1, q1⟩ := hsp; exact wpAny_execs_nil ⟨σ1, H1, J1.ofTry ok, q1⟩
    | brk => obtain ⟨σ1, H1, J1, q1⟩ := hsp; exact ⟨σ1, H1, J1.ofTry ok, q1⟩
    | cont => obtain ⟨σ1, H1, J1, q1⟩ := hsp; exact ⟨σ1, H1, J1.ofTry ok, q1⟩
end
/-! ## isinstance of the caught error, whether it has a dict or not -/
structure XisC (K : PySem.W.Frag) (C : Addr) : Prop where
  hc : (PySem.W.clsIn K C).isSome = true
  ga : PySem.W.findIn K (.ref C) "__getattribute__" = some (some (.builtin "BaseException.__getattribute__"))
  gt : PySem.W.findIn K (.ref C) "__getattr__" = some none
  sb : PySem.W.subIn K (.ref C) (.type "BaseException") = some true
  cl : PySem.W.findIn K (.ref C) "__class__" = some (some (.builtin "object.__class__"))
  sp : PySem.W.specialIn K (.builtin "object.__class__") "__get__" = some (some (.builtin "getset_descriptor.__get__"))
  tk : PySem.W.takesIn K (.builtin "object.__class__") = some true
  mo : PySem.W.mroIn K C (.type "object") = some true
def rIsX (K : PySem.W.Frag) (cls : Value) (d : Option Addr) (C a : Addr) : List V → Hp → VK → Prop := fun xs H Q => cls = .ref C ∧ ∃ (c : V) (cv : Value) (b : Bool), xs = [.ref a, c] ∧ ClsV c cv ∧ (∀ dd, d = some dd → ∃ fs, H dd = some (.xd fs)) ∧
  PySem.W.kitOne K (.ref C) cv = some b ∧ Q (.bl b) H
section
variable {X : Cx}
theorem call_isX {a C : Addr} {ob : Obj} {cls : Value} {d : Option Addr} {pn : List (Addr × Obj)} (T : XisC X.K C) (hz : Zc cls d ob) (hf : ∃ vs, ob.data = .fields vs) : CallR (X.suite a ((a, ob) :: pn)) (.builtin "isinstance") (rIsX X.K cls d C a) := by
  intro pins s σ H xs us Q I r h
  obtain ⟨ec, c, cv, b, rfl, hcv, hd, e, q⟩ := h
  obtain ⟨u1, u2, rfl, r1, r2⟩ := vals2 r
  have e2 := hcv.eq r2
  subst e2 ec
  obtain rfl : u1 = Value.ref a := r1
  obtain ⟨vs, hv⟩ := hf
  obtain ⟨hget, _⟩ := I.pin (a, ob) (List.mem_append_left _ List.mem_cons_self)
  have nc : PySem.W.notCls ob = true := by unfold PySem.W.notCls; rw [hv]
  have key : ∃ od, PySem.W.InstAt s.heap a ob C od := by
    cases d with
    | none => exact ⟨none, hget, hz.1, nc, by rw [hz.2]; trivial⟩
    | some dd =>
      obtain ⟨fs, hfs⟩ := hd dd rfl
      obtain ⟨mA, ⟨o, _, _, ho, _⟩, _⟩ := (show ObjOk X.prog X.w H s.heap dd (.xd fs) from I.hok dd _ hfs)
      exact ⟨some o, hget, hz.1, nc, by rw [hz.2]; exact ho⟩
  obtain ⟨od, J⟩ := key
  exact PySem.W.kia_one (PySem.W.kitx_exc T.hc T.ga T.gt T.sb T.cl T.sp T.tk T.mo) I.kIn J e (fun z => nomatch z) fun tk => ⟨.bl b, H, I.kept (t' := tk) fun _ _ z => z, rfl, q⟩
/-! ## f(e, ..), f a local name that holds a def which may raise -/
def tCallLS (i : Nat) (f : Addr) (sp : Sp) (E : L2.St → XK) (t : TA) : TE := fun σ H Q => σ[i]? = some (some (.ref f)) ∧ t σ H fun vs H1 => sp vs H1 Q (E σ)
theorem pe_callLS {CX : CXT} {k i : Nat} {f : Addr} {fd : FuncData} {ps : List Str} {sp : Sp} {E : L2.St → XK} {x : Str} {p pos : Pos} {e : Expr} {es : List Expr} {t : TA}
    (F : FnOk X.prog X.w X.K X.mg X.base CX k f fd ps sp) (hr : Room k X.A) (hN : X.N[i]? = some x) (hv : Vis X.env.scope x) (hk : PySem.W.keepIn X.K (.ref f) = true) (hb : Binds X.K fd ps []) (hx : ∀ σ, PassesAt CX X σ (E σ)) (ha : PA X (e :: es) t)
    (hdb : (x == ("__debug__" : Str)) = false := by decide) (hcd : (x == ("__classdict__" : Str)) = false := by decide)
    (he : starEach (e :: es) X.env = (false, eval e X.env) :: starEach es X.env := by rfl) (hpl : (backTo pos (starEach es X.env)).any (·.1) = false := by rfl) : PE X (.Call (.Name x p) (e :: es) [] pos) (tCallLS i f sp E t) := by
  refine ⟨fun pins s σ H Q I ⟨hs, ht⟩ => wpAny_Call_Name_kw (thn ((pe_var (pos := p) hN hv hdb hcd).run pins s σ H (fun v H1 => v = .ref f ∧ H1 = H) I ⟨.ref f, hs, rfl, rfl⟩) fun u s1 ⟨v, H1, I1, r1, e1, e2⟩ => ?_)⟩
  subst e1 e2
  obtain rfl : u = Value.ref f := r1
  exact PySem.W.callWith_K (h₀ := X.base) I.ok.mod.kin hk (thn (ha.run pos pins s1 σ _ _ I1 ht) fun us s2 ⟨vs, H2, I2, r, q⟩ => ⟨I2.kIn, run_fnS F hr hb (hx σ) I2 r q⟩) he hpl
/-! ## C(), an own error class without an __init__ -/
theorem pmk_own0 {C : Addr} {bmB : List Value} {B newId initId : String} {x : Str} {p pos : Pos} (F : ExcBaseFacts B newId initId bmB) (q : PySem.W.excIn X.K C bmB newId = true) (gC : X.mg x = some (.ref C)) (kC : PySem.W.keepIn X.K (.ref C) = true)
    (r : Raises X (.ref C)) (hg : Gl X x) (hdb : (x == ("__debug__" : Str)) = false := by decide) : PMk X (.Call (.Name x p) [] [] pos) (fun _ H Q => Q (.ref C) none H) := by
  intro pins s σ H Q I h
  refine wpAny_Call_Name_kw (ld_glob I hg gC (PySem.W.callWith_K0 I.kIn kC ?_) hdb)
  obtain ⟨_, _, _, _, _, _, _, _, _, _, _, _, _, _, _, _, _, hC, hN, hni, T⟩ := exc_obj I.kIn q
  exact wpAny_call_exc_subT F T hC hN hni (fun h' e hm => mk_of I hm r h (I.hok.gone hm.new)) (by show 0 ≤ sizeLine; omega)
/-! ## // by any great number but 0 -/
theorem op_fdivZ : OpR X (binaryOp .FloorDiv) (rI (fun _ j => j ≠ 0 ∧ j.natAbs.log2 < 9000) fun i j => .int (i.fdiv j)) := opI fun _ _ _ _ _ _ _ hc q => floordiv_int hc.1 q (.inl (PyProof.noPylong_of_log2 hc.2))
/-! ## repr of data -/
def rReprD (K : PySem.W.Frag) : List V → Hp → VK → Prop := fun xs H Q => ∃ (a : Addr) (d : PyData), xs = [.ref a] ∧ Dp K H (.ref a) d ∧ d.showable = true ∧ d.hasDict = false ∧ d.depth ≤ 60 ∧ d.shown.length ≤ sizeLine ∧ Q (.str d.shown) H
theorem call_reprD (hu : X.A.units + 64 < cLine) (hg : X.A.guards = some []) : CallR X (.builtin "repr") (rReprD X.K) := by
  intro pins s σ H xs us Q I r h
  obtain ⟨a, d, rfl, hd, hs, hn, hde, hl, q⟩ := h
  obtain ⟨u, rfl, ru⟩ := vals1 r
  obtain rfl : u = Value.ref a := ru
  obtain ⟨as, rd⟩ := Dp.reads I d _ _ hd rfl
  exact repr_of_reads' rd hs (fun z => by rw [hn] at z; cases z) hg (by omega) (fun _ _ e => e) (fun h' u tk hk => ⟨.str d.shown, H, I.kept (t' := tk) hk, ⟨u, rfl⟩, q⟩) hl
end
end Lc
set_option Elab.async false
set_option linter.all false
set_option maxRecDepth 100000
set_option maxHeartbeats 4000000
namespace Lc
open PySem PySem.Spec PyProof.Rows L2
/-! ## Promises of defs that are called where no repr is under way -/
structure FnG (P : Program) (w : World) (K : PySem.W.Frag) (mg : Str → Option Value) (base : Heap) (k : Nat) (f : Addr) (fd : FuncData) (ps : List Str) (sp : Sp) : Prop where
  len : ∀ vs H Q E, sp vs H Q E → vs.length = ps.length
  run : ∀ (A : Around) (outer : List Env) (s : Shared) (H : Hp) (args : Args) (us : List Value) (vs : List V) (Q : VK) (E : XK), A.guards = some [] → Room k A → Env0 P w K mg base A outer s H → BindsTo s fd args (ps.zip us) → Vals vs us → sp vs H Q E →
    codeAny (model P w) A (.call (.ref f) args) (CR CX0 outer P w H s Q E) s
section
variable {P : Program} {w : World} {K : PySem.W.Frag} {mg : Str → Option Value} {base : Heap}
theorem Fun.okG {x qual : Str} {st : Stmt} {f : Addr} {fd : FuncData} {N ps : List Str} {k : Nat} {sp : Sp} (F : Fun K x qual st f fd) (S : FnScope N ps (defScope st)) (len : ∀ vs H Q E, sp vs H Q E → vs.length = ps.length)
    (go : ∀ (cdv : Value) (A : Around) (outer : List Env) (s : Shared) (H : Hp) (vs : List V) (Q : VK) (E : XK), A.guards = some [] → Room k (A.deeper (envOfC qual (defScope st) s.heap.objs.size f cdv)) → sp vs H Q E →
      ∃ t, PSs (cxOf CX0 P w K mg base N qual (defScope st) f cdv A outer s H E).nox (defBody st) t ∧ t { nx := fun _ H' => Q .non H', rt := Q } (start N vs) H) : FnG P w K mg base (k + 1) f fd ps sp := by
  obtain ⟨oc, od, kV, doc, pm, an, cdv, ct, osl, rfl, lk, hcd⟩ := F.ex
  refine ⟨len, fun A outer s H args us vs Q E hg hr e0 hb r hsp => ?_⟩
  have up : ∀ b o, base.get? b = some o → s.heap.get? b = some o := fun b o z => (e0.bs b o z).1
  have KX := e0.mod.kin.keeps up
  refine codeAny_call_function hr.depth (KX _ _ lk) rfl S.co S.gen rfl (PySem.W.codeRec_of KX hcd) (hb _ _ _ _ ?_)
  refine wpAny_newFunctionEnv_cells S.kind (fun y hy => ?_) fun env he s1 x => ?_
  · rcases S.par y.1 (List.of_mem_zip (a := y.1) (b := y.2) hy).1 with z | z
    · exact .inl z
    · exact .inr ⟨z, PySem.W.cellsFrom_some _ _ _ (.inl z)⟩
  subst he
  obtain ⟨t, ht, hq⟩ := go cdv A outer s H vs Q E hg (hr.deeper _) hsp
  have I : Inv (cxOf CX0 P w K mg base N qual (defScope st) f cdv A outer s H E) [] (start N vs) H s1 := inv_start S hr.hd e0 (len _ _ _ _ hsp) r x
  refine ⟨(e0.mod.nolimit.keeps up).keeps x.toInCall.keep, codeAny_func (wpAny_mono (ht.nox.run [] s1 (start N vs) H _ I hq) (fun fl s' hs => ?_) fun _ _ z => z)⟩
  cases fl with
  | ret u => obtain ⟨v, _, H', J, rv, q⟩ := hs; exact ⟨v, H', J.os, J.bare, J.base, J.hok, rv, q⟩
  | next => obtain ⟨_, H', J, q⟩ := hs; exact ⟨V.non, H', J.os, J.bare, J.base, J.hok, rfl, q⟩
  | brk => obtain ⟨_, _, _, q⟩ := hs; exact q.elim
  | cont => obtain ⟨_, _, _, q⟩ := hs; exact q.elim
end
section
variable {X : Cx} {k : Nat} {f : Addr} {fd : FuncData} {ps : List Str} {sp : Sp} {x : Str} {p pos : Pos} {e : Expr} {es : List Expr} {t : TA}
/-- f(e, ..), f kept under FnG -/
theorem pe_callG (F : FnG X.prog X.w X.K X.mg X.base k f fd ps sp) (gg : X.A.guards = some []) (hr : Room k X.A) (hg : Gl X x) (hm : X.mg x = some (.ref f)) (hk : PySem.W.keepIn X.K (.ref f) = true) (hb : Binds X.K fd ps [])
    (ha : PA X (e :: es) t) (hdb : (x == ("__debug__" : Str)) = false := by decide) (he : starEach (e :: es) X.env = (false, eval e X.env) :: starEach es X.env := by rfl) (hpl : (backTo pos (starEach es X.env)).any (·.1) = false := by rfl) :
    PE X (.Call (.Name x p) (e :: es) [] pos) (tCall sp [] E0 t) := by
  refine ⟨fun pins s σ H Q I h => wpAny_Call_Name_kw (ld_glob I hg hm ?_ hdb)⟩
  refine PySem.W.callWith_K (h₀ := X.base) I.ok.mod.kin hk (thn (ha.run pos pins s σ H _ I h) fun us s1 ⟨vs, H1, I1, r, q⟩ => ⟨I1.kIn, ?_⟩) he hpl
  replace q : sp vs H1 Q E0 := by
    have z : sp (vs ++ []) H1 Q E0 := q
    rw [List.append_nil] at z
    exact z
  have hl : us.length = ps.length := by rw [← r.length]; exact F.len _ _ _ _ q
  have b := hb s1 us I1.kIn (by rw [List.append_nil]; exact hl)
  rw [List.append_nil] at b
  refine wpAny_call (codeAny_mono (F.run X.A X.stack s1 H1 ⟨us, []⟩ us vs Q E0 gg hr I1.env0 b r q) fun rr s' hq => ?_)
  cases rr with
  | error er => exact False.elim hq
  | ok fl =>
    cases fl with
    | ret u => exact I1.after hq
    | next => exact False.elim hq
    | brk => exact False.elim hq
    | cont => exact False.elim hq
end
/-! ## The law itself -/
section
variable {P : Program} {w : World} {K : PySem.W.Frag} {mg mb : Str → Option Value} {k : Nat} {fa a : Addr} {fd : FuncData} {x : Str} {sp : Sp} {s : Shared} {vs : List Value} {ns : List Int}
theorem env_of {H : Hp} (KX : K.In s.heap) (hns : s.heap.Ns mainGlobals mg) (hb : s.heap.Ns builtinsNs mb) (hbb : ∀ x : Str, x ≠ "__name__" → mb x = bootBuiltins x) (hlim : s.heap.NoLimit) (hg : s.gens = #[])
    (ha : s.heap.get? a = some { cls := .type "list", data := .seq vs.toArray }) (hok : HOk P w H s.heap) (one : ∀ b, b ≠ a → H b = none) (nk : H a = none ∨ K.lookup a = none) :
    K.In (hidT s.heap H) ∧ (hidT s.heap H).Ns mainGlobals mg ∧ Env0 P w K mg (hidT s.heap H) callerA [] s H := by
  have keepN : ∀ {b : Addr} {m : Str → Option Value}, s.heap.Ns b m → (hidT s.heap H).Ns b m := by
    rintro b m ⟨o, es, ep, e, d, r⟩
    have nb : b ≠ a := fun z => by
      rw [z, ha] at e
      cases e
      exact nomatch (show Data.seq vs.toArray _ = Data.dict es ep from d)
    exact ⟨o, es, ep, hidT_get e (one b nb), d, r⟩
  have kin : K.In (hidT s.heap H) := fun b o e => hidT_get (KX b o e) (by
    by_cases z : b = a
    · rcases nk with q | q
      · rw [z]; exact q
      · rw [z, q] at e; cases e
    · exact one b z)
  obtain ⟨mc, l1, l2⟩ := hlim
  exact ⟨kin, keepN hns, rfl, ⟨kin, keepN hns, ⟨mb, keepN hb, hbb⟩, ⟨mc, keepN l1, l2⟩⟩, fun b o e => of_hidT e, Nat.le_of_eq (hidT_size _ _), trivial, fun b z => absurd (show b ∈ ([] : List Addr) from z) (by simp), hok, .of_eq hg⟩
theorem law_callG (KX : K.In s.heap) (hns : s.heap.Ns mainGlobals mg) (hb : s.heap.Ns builtinsNs mb) (hbb : ∀ x : Str, x ≠ "__name__" → mb x = bootBuiltins x) (hlim : s.heap.NoLimit) (hg : s.gens = #[])
    (ha : s.heap.get? a = some { cls := .type "list", data := .seq vs.toArray }) (hi : IntsAre vs ns) (hl : ns.length ≤ sizeLine) (hr : Room k callerA)
    (F : ∀ base : Heap, K.In base → base.Ns mainGlobals mg → FnG P w K mg base k fa fd [x] sp) (hbind : ∀ (s : Shared) (u : Value), BindsTo s fd ⟨[u], []⟩ [(x, u)])
    (hsp : ∀ H : Hp, SqL K H a (ns.map V.int) → sp [.ref a] H (fun v _ => v = .bl true) fun _ _ _ => False) :
    codeAny (model P w) callerA (.call (.ref fa) ⟨[.ref a], []⟩) (fun r s' => r = .ok (.ret (.bool true)) ∧ OldK s.heap s'.heap ∧ s'.os = s.os ∧ AllBare s'.gens) s := by
  have rv := vals_ints hi
  have go : ∀ H : Hp, SqL K H a (ns.map V.int) → HOk P w H s.heap → (∀ b, b ≠ a → H b = none) → (H a = none ∨ K.lookup a = none) → (∀ o, H a = some o → ∃ ob u, o = .frz ob u) →
      codeAny (model P w) callerA (.call (.ref fa) ⟨[.ref a], []⟩) (fun r s' => r = .ok (.ret (.bool true)) ∧ OldK s.heap s'.heap ∧ s'.os = s.os ∧ AllBare s'.gens) s := by
    intro H hS hok one nk fz
    obtain ⟨k1, k2, e0⟩ := env_of KX hns hb hbb hlim hg ha hok one nk
    refine codeAny_mono ((F _ k1 k2).run callerA [] s H ⟨[.ref a], []⟩ [.ref a] [.ref a] _ _ rfl hr e0 (hbind s (.ref a)) (.cons rfl .nil) (hsp H hS)) fun r s' h => ?_
    cases r with
    | error _ => exact False.elim h
    | ok fl =>
      cases fl with
      | next => exact False.elim h
      | brk => exact False.elim h
      | cont => exact False.elim h
      | ret u =>
        obtain ⟨v, H', os, bare, un, hok', ru, ev⟩ := h
        subst ev
        obtain rfl : u = Value.bool true := ru
        refine ⟨rfl, OldK.of_keep fun b o e => ?_, os, bare⟩
        cases q : H b with
        | none => exact un.keep b o e q (fun z => absurd (show b ∈ ([] : List Addr) from z) (by simp)) (by simp)
        | some oo =>
          have zb : b = a := Classical.byContradiction fun z => by rw [one b z] at q; cases q
          subst zb
          obtain ⟨ob, u, rfl⟩ := fz oo q
          obtain ⟨e1, _⟩ := hok b _ q
          obtain ⟨e2, _⟩ := hok' b _ (un.frzs b ob u q)
          rw [e] at e1
          cases e1
          exact e2
  cases hk : K.lookup a with
  | some o =>
    have e := KX a o hk
    rw [ha] at e
    cases e
    exact go (fun _ => none) (.inr ⟨_, vs.toArray, _, hk, rfl, rfl, rfl, by rw [List.size_toArray, hi.length]; exact hl, by simpa using rv⟩) (fun b u z => nomatch z) (fun _ _ => rfl) (.inl rfl) (fun o z => nomatch z)
  | none =>
    let ob : Obj := { cls := .type "list", data := .seq vs.toArray }
    refine go (upd (fun _ => none) a (.frz ob (.lst (ns.map V.int)))) (.inl (.inr ⟨ob, upd_same⟩)) (fun b u z => ?_) (fun b z => upd_ne z) (.inr hk) (fun o z => ?_)
    · by_cases q : b = a
      · subst q
        rw [upd_same] at z
        cases z
        exact ⟨ha, by rw [List.length_map]; exact hl, vs, _, rv, ha⟩
      · rw [upd_ne q] at z
        cases z
    · rw [upd_same] at z
      cases z
      exact ⟨_, _, rfl⟩
end
theorem walk_G {l : PySem.W.OpenLaw} {n k : Nat} {q : Program} {loose : List Str} {XP : (Str → Option Value) → Heap → Prop} {YP : World → Heap → Prop} {d : DefRec} {K : Params → PySem.W.Frag} {sp : PySem.W.Frag → Sp} {x : Str}
    (hn : l.most = some n) (hn2 : n ≤ sizeLine) (hdf : d.params.defaults = []) (hr : Room k callerA) (hY : ∀ (w : World) (h : Heap), YP w h → (K w.params).In h)
    (F : ∀ (w : World) (mg : Str → Option Value) (fa : Addr) (h : Heap), (K w.params).In h → h.Ns mainGlobals mg → mg d.name = some (.ref fa) →
      ∃ fd : FuncData, (∀ (s : Shared) (u : Value), BindsTo s fd ⟨[u], []⟩ [(x, u)]) ∧ ∀ base : Heap, (K w.params).In base → base.Ns mainGlobals mg → FnG l.prog w (K w.params) mg base k fa fd [x] (sp (K w.params)))
    (hsp : ∀ (K : PySem.W.Frag) (H : Hp) (a : Addr) (ns : List Int), ns.length ≤ n → SqL K H a (ns.map V.int) → sp K [.ref a] H (fun v _ => v = .bl true) fun _ _ _ => False) :
    PySem.W.WalkO q loose XP YP l.row.toRowW d [] (fun f vs => PySem.call f vs) := by
  refine Att.attach_call hn hdf fun w _ s mg mb fa _ _ _ _ a vs ns G Y _ _ _ hmg hobj hints hlen hg => ?_
  obtain ⟨fd, hb, hF⟩ := F w mg fa _ (hY w _ Y) G.T.g hmg
  exact law_callG (hY w _ Y) G.T.g G.T.b G.T.builtins G.T.nolimit hg hobj hints (Nat.le_trans hlen hn2) hr hF hb fun H hS => hsp _ H a ns hlen hS
end Lc
set_option Elab.async false
set_option linter.all false
set_option maxRecDepth 100000
set_option maxHeartbeats 4000000
namespace Lc
open PySem PySem.Spec PyProof.Rows L2
/-! ## Kinds of values -/
inductive TyN (H : Hp) : V → String → Prop
  | non : TyN H .non "NoneType"
  | bl (b : Bool) : TyN H (.bl b) "bool"
  | int (i : Int) : TyN H (.int i) "int"
  | str (x : Str) : TyN H (.str x) "str"
  | tup {a : Addr} {xs : List V} (e : H a = some (.tup xs)) : TyN H (.ref a) "tuple"
  | lst {a : Addr} {xs : List V} (e : H a = some (.lst xs)) : TyN H (.ref a) "list"
  | dct {a : Addr} {kvs : List (Key × V)} (e : H a = some (.dK kvs)) : TyN H (.ref a) "dict"
theorem TyN.x {K : PySem.W.Frag} {H : Hp} {v : V} {t : String} (h : TyN H v t) : TyX K H v (.type t) := by
  cases h with
  | non => exact .base .non
  | bl b => exact .base (.bl b)
  | int i => exact .base (.int i)
  | str x => exact .base (.str x)
  | tup e => exact .base (.tup e)
  | lst e => exact .base (.lst e)
  | dct e => exact .base (.dK e)
theorem TyN.same {H H' : Hp} {v : V} {t : String} (h : TyN H v t) (s : Same H H') : TyN H' v t := by
  cases h with
  | non => exact .non
  | bl b => exact .bl b
  | int i => exact .int i
  | str x => exact .str x
  | tup e => exact .tup (s _ _ e)
  | lst e => exact .lst (s _ _ e)
  | dct e => exact .dct (s _ _ e)
theorem TyN.isInt {H : Hp} {v : V} {t : String} (h : TyN H v t) (e : t = "int") : ∃ i, v = .int i := by
  cases h <;> first | exact ⟨_, rfl⟩ | exact absurd e (by decide)
theorem TyN.isStr {H : Hp} {v : V} {t : String} (h : TyN H v t) (e : t = "str") : ∃ x, v = .str x := by
  cases h <;> first | exact ⟨_, rfl⟩ | exact absurd e (by decide)
theorem TyN.isTup {H : Hp} {v : V} {t : String} (h : TyN H v t) (e : t = "tuple") : ∃ a xs, v = .ref a ∧ H a = some (.tup xs) := by
  cases h <;> first | exact ⟨_, _, rfl, by assumption⟩ | exact absurd e (by decide)
def tyNames : List String := ["NoneType", "bool", "int", "str", "tuple", "list", "dict"]
theorem TyN.mem {H : Hp} {v : V} {t : String} (h : TyN H v t) : t ∈ tyNames := by
  cases h <;> simp [tyNames]
theorem kit_int {K : PySem.W.Frag} {t : String} (h : t ∈ tyNames) : PySem.W.kitOne K (.type t) (.type "int") = some (t == "int" || t == "bool") := by
  have : ∀ t ∈ tyNames, kitB t "int" = some (t == "int" || t == "bool") := by decide +kernel
  exact kit_ty (this t h)
theorem kit_bool {K : PySem.W.Frag} {t : String} (h : t ∈ tyNames) : PySem.W.kitOne K (.type t) (.type "bool") = some (t == "bool") := by
  have : ∀ t ∈ tyNames, kitB t "bool" = some (t == "bool") := by decide +kernel
  exact kit_ty (this t h)
theorem kit_tuple {K : PySem.W.Frag} {t : String} (h : t ∈ tyNames) : PySem.W.kitOne K (.type t) (.type "tuple") = some (t == "tuple") := by
  have : ∀ t ∈ tyNames, kitB t "tuple" = some (t == "tuple") := by decide +kernel
  exact kit_ty (this t h)
theorem kit_str {K : PySem.W.Frag} {t : String} (h : t ∈ tyNames) : PySem.W.kitOne K (.type t) (.type "str") = some (t == "str") := by
  have : ∀ t ∈ tyNames, kitB t "str" = some (t == "str") := by decide +kernel
  exact kit_ty (this t h)
/-! ## What is a rational -/
def ratB : V → V → Bool
  | .int n, .int d => decide (0 < d) && decide (gd n d = 1)
  | _, _ => false
inductive Rk (H : Hp) : V → Bool → Prop
  | other {v : V} {t : String} (h : TyN H v t) (n : t ≠ "tuple") : Rk H v false
  | len {a : Addr} {xs : List V} (e : H a = some (.tup xs)) (n : xs.length ≠ 2) : Rk H (.ref a) false
  | pair {a : Addr} {x y : V} {tx ty : String} (e : H a = some (.tup [x, y])) (hx : TyN H x tx) (hy : TyN H y ty) : Rk H (.ref a) (ratB x y)
theorem Rk.same {H H' : Hp} {v : V} {b : Bool} (h : Rk H v b) (s : Same H H') : Rk H' v b := by
  cases h with
  | other h n => exact .other (h.same s) n
  | len e n => exact .len (s _ _ e) n
  | pair e hx hy => exact .pair (s _ _ e) (hx.same s) (hy.same s)
theorem Rk.of {H : Hp} {a : Addr} {n d : Int} (e : H a = some (.tup [.int n, .int d])) (r : Rt n d) : Rk H (.ref a) true := by
  have z : ratB (.int n) (.int d) = true := by
    show (decide (0 < d) && decide (gd n d = 1)) = true
    rw [decide_eq_true r.pos, decide_eq_true r.cop]
    rfl
  rw [← z]
  exact .pair e (.int n) (.int d)
/-! ## repr -/
inductive Shw (K : PySem.W.Frag) (H : Hp) : V → Str → Prop
  | data {v : V} {d : PyData} (h : Dp K H v d) (h1 : d.showable = true) (h2 : d.hasDict = false) (h3 : d.depth ≤ 60) (h4 : d.shown.length ≤ sizeLine) : Shw K H v d.shown
  | empty {a : Addr} (e : H a = some (.dK [])) : Shw K H (.ref a) (PyData.dict []).shown
def rReprV (K : PySem.W.Frag) : List V → Hp → VK → Prop := fun xs H Q => ∃ (v : V) (z : Str), xs = [v] ∧ Shw K H v z ∧ Q (.str z) H
theorem call_reprV {X : Cx} (hg : X.A.guards = some []) (hu : X.A.units + 64 < cLine) : CallR X (.builtin "repr") (rReprV X.K) := by
  intro pins s σ H xs us Q I r h
  obtain ⟨v, z, rfl, hd, q⟩ := h
  obtain ⟨u, rfl, ru⟩ := vals1 r
  cases hd with
  | @data _ d hd h1 h2 h3 h4 =>
    obtain ⟨as, rd⟩ := Dp.reads I d _ _ hd ru
    cases hd with
    | non =>
      obtain rfl : u = Value.none := ru
      exact P.repr_of_none ⟨.str _, H, I.tok _, ⟨_, rfl⟩, q⟩
    | bl b =>
      obtain rfl : u = Value.bool b := ru
      exact P.repr_of_bool ⟨.str _, H, I.tok _, ⟨_, rfl⟩, q⟩
    | int i =>
      obtain ⟨t, rfl⟩ := (show ∃ t, u = Value.int i t from ru)
      exact P.repr_of_int (of_decide_eq_true (by simpa [PyData.showable] using h1)) ⟨.str _, H, I.tok _, ⟨_, rfl⟩, q⟩
    | str x =>
      obtain ⟨t, rfl⟩ := (show ∃ t, u = Value.str x t from ru)
      exact P.repr_of_str ⟨.str _, H, I.tok _, ⟨_, rfl⟩, q⟩ h4
    | @lst a xs ds e1 e2 =>
      obtain rfl : u = Value.ref a := ru
      exact repr_of_reads' rd h1 (PyData.noDict_hsm h2) hg (by omega) (fun _ _ e => e) (fun h' u tk hk => ⟨.str _, H, I.kept (t' := tk) hk, ⟨u, rfl⟩, q⟩) h4
    | @tup a xs ds e1 e2 =>
      obtain rfl : u = Value.ref a := ru
      exact repr_of_reads' rd h1 (PyData.noDict_hsm h2) hg (by omega) (fun _ _ e => e) (fun h' u tk hk => ⟨.str _, H, I.kept (t' := tk) hk, ⟨u, rfl⟩, q⟩) h4
  | @empty a e =>
    obtain rfl : u = Value.ref a := ru
    obtain ⟨_, ns, vs, kv, o, es, ep, h1, h2, h3, h4⟩ := (show ObjOk X.prog X.w H s.heap a (.dK []) from I.hok a _ e)
    cases kv
    have es0 : es.toList = [] := by
      obtain ⟨_, hp, _⟩ := h4
      generalize es.toList = l at hp
      cases hp
      rfl
    have rd : Reads s.heap (.ref a) (.dict []) (a :: [] ++ []) := Reads.dict h1 h2.1 h3 (by rw [es0]; exact .nil) (by rw [es0]; exact .nil)
    exact repr_of_reads' rd (by decide) (fun _ hm => by
      have : sysModules = a := by simpa using hm
      rw [this] at ns
      simp at ns) hg (by show X.A.units + (PyData.depth (.dict []) + 1) < cLine; have : PyData.depth (.dict []) ≤ 60 := by decide +kernel
                         omega) (fun _ _ e => e) (fun h' u tk hk => ⟨.str _, H, I.kept (t' := tk) hk, ⟨u, rfl⟩, q⟩) (by decide +kernel)
theorem dp_same {K : PySem.W.Frag} {H H' : Hp} (s : Same H H') : ∀ {v : V} {d : PyData}, Dp K H v d → Dp K H' v d := by
  have sq : ∀ {a xs}, SqT K H a xs → SqT K H' a xs := by
    intro a xs h
    rcases h with (h | ⟨o, h⟩) | h
    · exact .inl (.inl (s _ _ h))
    · exact .inl (.inr ⟨o, s _ _ h⟩)
    · exact .inr h
  intro v d h
  induction h using Dp.rec (motive_2 := fun vs ds _ => DpAll K H' vs ds) with
  | non => exact .non
  | bl b => exact .bl b
  | int i => exact .int i
  | str x => exact .str x
  | lst h1 _ ih => exact .lst (s.seq h1) ih
  | tup h1 _ ih => exact .tup (sq h1) ih
  | nil => exact .nil
  | cons _ _ i1 i2 => exact .cons i1 i2
theorem Shw.same {K : PySem.W.Frag} {H H' : Hp} (s : Same H H') {v : V} {z : Str} (h : Shw K H v z) : Shw K H' v z := by
  cases h with
  | data h h1 h2 h3 h4 => exact .data (dp_same s h) h1 h2 h3 h4
  | empty e => exact .empty (s _ _ e)
theorem Same.upd {H : Hp} {p : Addr} {o : HO} (h : H p = none) : Same H (upd H p o) := fun b u e => by rw [upd_ne (ne_of_none e h)]; exact e
end Lc
set_option Elab.async false
set_option linter.all false
set_option maxRecDepth 100000
set_option maxHeartbeats 4000000
namespace Lc
open PySem PySem.Spec PyProof.Rows L2
/-! ## The law's tape -/
def Tape (H : Hp) (t : Addr) : Prop := ∃ (l : Addr) (ns : List Int) (pos rest mix : Int), H t = some (.lst [.ref l, .int pos, .int rest, .int mix]) ∧ H l = some (.lst (ns.map V.int)) ∧ 0 ≤ pos ∧ 0 ≤ rest ∧ 0 ≤ mix ∧ mix < 2147483647
/-- all but what stands at t is as it was -/
def SameB (t : Addr) (H H' : Hp) : Prop := ∀ b o, b ≠ t → H b = some o → H' b = some o
theorem SameB.refl (t : Addr) (H : Hp) : SameB t H H := fun _ _ _ e => e
theorem SameB.trans {t : Addr} {H H1 H2 : Hp} (a : SameB t H H1) (b : SameB t H1 H2) : SameB t H H2 := fun c o n e => b c o n (a c o n e)
theorem Same.b {H H' : Hp} (t : Addr) (s : Same H H') : SameB t H H' := fun b o _ e => s b o e
theorem SameB.upd {t : Addr} {H : Hp} {o : HO} : SameB t H (upd H t o) := fun b u n e => by rw [upd_ne n]; exact e
theorem tape_ne {l t : Addr} {H : Hp} {ns : List Int} {vs : List V} (h1 : H t = some (.lst (.ref l :: vs))) (h2 : H l = some (.lst (ns.map V.int))) : l ≠ t := by
  refine ne_of h2 h1 fun z => ?_
  cases ns with
  | nil => injection z with z; cases z
  | cons n ns => injection z with z; injection z with z; cases z
theorem Tape.same {H H' : Hp} {t : Addr} (h : Tape H t) (s : Same H H') : Tape H' t := by
  obtain ⟨l, ns, pos, rest, mix, h1, h2, h3⟩ := h
  exact ⟨l, ns, pos, rest, mix, s _ _ h1, s _ _ h2, h3⟩
theorem cut_ints (ns : List Int) (lo hi : Option Int) : ∃ ms : List Int, cutV (ns.map V.int) lo hi = ms.map V.int := by
  unfold cutV
  rw [← List.map_drop, ← List.map_take]
  exact ⟨_, rfl⟩
def spTape (K : PySem.W.Frag) : Sp := fun vs H Q _ => ∃ (a : Addr) (ns : List Int), vs = [.ref a] ∧ SqL K H a (ns.map V.int) ∧ ∀ (t : Addr) (H' : Hp), Same H H' → H t = none → Tape H' t → Q (.ref t) H'
def spDraw : Sp := fun vs H Q _ => ∃ (t : Addr) (many : Int), vs = [.ref t, .int many] ∧ Tape H t ∧ 0 < many ∧ many.natAbs < 2 ^ 4000 ∧ ∀ (k : Int) (H' : Hp), 0 ≤ k → k < many → Tape H' t → SameB t H H' → Q (.int k) H'
def New2' (H : Hp) (Q : VK) (n d : Int) : Prop := ∀ p, H p = none → Q (.ref p) (upd H p (.tup [.int n, .int d]))
def spLowest : Sp := fun vs H Q _ => ∃ n d : Int, vs = [.int n, .int d] ∧ 0 < d ∧ d.natAbs < 2 ^ 4000 ∧ New2' H Q (lowN n d) (lowD n d)
def spRational : Sp := fun vs H Q _ => ∃ (t : Addr) (b : Bool), vs = [.ref t, .bl b] ∧ Tape H t ∧ ∀ (p : Addr) (n d : Int) (H' : Hp), Rt n d → n.natAbs < 2 ^ 140 → d.natAbs < 2 ^ 140 → H' p = some (.tup [.int n, .int d]) → H p = none → Tape H' t → SameB t H H' → Q (.ref p) H'
theorem log_lt' {n : Int} (h : n.natAbs < 2 ^ 4000) : n.natAbs.log2 < 9000 := by
  by_cases z : n.natAbs = 0
  · rw [z]
    decide
  · exact Nat.lt_of_lt_of_le ((Nat.log2_lt z).mpr h) (by decide)
end Lc
namespace Lc
open PySem PySem.Spec PyProof.Rows L2
theorem SameB.free {t p : Addr} {H H' : Hp} (s : SameB t H H') (h : Tape H' t) (e : H' p = none) : H p = none := by
  cases q : H p with
  | none => rfl
  | some o =>
    by_cases z : p = t
    · subst z
      obtain ⟨_, _, _, _, _, h1, _⟩ := h
      rw [h1] at e
      cases e
    · rw [s p o z q] at e
      cases e
theorem Tape.ne {t p : Addr} {H : Hp} (h : Tape H t) (e : H p = none) : p ≠ t := by
  intro z
  subst z
  obtain ⟨_, _, _, _, _, h1, _⟩ := h
  rw [h1] at e
  cases e
theorem Tape.neT {t p : Addr} {H : Hp} {xs : List V} (h : Tape H t) (e : H p = some (.tup xs)) : p ≠ t := by
  intro z
  subst z
  obtain ⟨_, _, _, _, _, h1, _⟩ := h
  rw [h1] at e
  cases e
theorem p18 : (10 : Int) ^ (18 : Int).toNat = 1000000000000000000 := by decide
theorem p40 : (10 : Int) ^ (40 : Int).toNat = 10000000000000000000000000000000000000000 := by decide
end Lc
namespace Lc
open PySem PySem.Spec PyProof.Rows L2
/-- the tape, its list at l -/
def TapeL (l : Addr) (H : Hp) (t : Addr) : Prop := ∃ (ns : List Int) (pos rest mix : Int), H t = some (.lst [.ref l, .int pos, .int rest, .int mix]) ∧ H l = some (.lst (ns.map V.int)) ∧ 0 ≤ pos ∧ 0 ≤ rest ∧ 0 ≤ mix ∧ mix < 2147483647
theorem TapeL.tape {l : Addr} {H : Hp} {t : Addr} (h : TapeL l H t) : Tape H t := ⟨l, h⟩
theorem TapeL.same {l : Addr} {H H' : Hp} {t : Addr} (h : TapeL l H t) (s : Same H H') : TapeL l H' t := by
  obtain ⟨ns, pos, rest, mix, h1, h2, h3⟩ := h
  exact ⟨ns, pos, rest, mix, s _ _ h1, s _ _ h2, h3⟩
theorem TapeL.list {l : Addr} {H : Hp} {t : Addr} (h : TapeL l H t) : ∃ xs, H l = some (.lst xs) := by
  obtain ⟨ns, pos, rest, mix, h1, h2, h3⟩ := h
  exact ⟨_, h2⟩
/-- another object is written -/
theorem TapeL.upd {l : Addr} {H : Hp} {t a : Addr} {o : HO} (h : TapeL l H t) (n1 : a ≠ t) (n2 : a ≠ l) : TapeL l (upd H a o) t := by
  obtain ⟨ns, pos, rest, mix, h1, h2, h3⟩ := h
  exact ⟨ns, pos, rest, mix, by rw [upd_ne (Ne.symm n1)]; exact h1, by rw [upd_ne (Ne.symm n2)]; exact h2, h3⟩
def spDrawL : Sp := fun vs H Q _ => ∃ (t l : Addr) (many : Int), vs = [.ref t, .int many] ∧ TapeL l H t ∧ 0 < many ∧ many.natAbs < 2 ^ 4000 ∧ ∀ (k : Int) (H' : Hp), 0 ≤ k → k < many → TapeL l H' t → SameB t H H' → Q (.int k) H'
theorem fn_weak {P : Program} {w : World} {K : PySem.W.Frag} {mg : Str → Option Value} {base : Heap} {CX : CXT} {k : Nat} {f : Addr} {fd : FuncData} {ps : List Str} {sp sp' : Sp} (h : ∀ vs H Q E, sp vs H Q E → sp' vs H Q E) (F : FnOk P w K mg base CX k f fd ps sp') : FnOk P w K mg base CX k f fd ps sp :=
  ⟨fun vs H Q E z => F.len vs H Q E (h vs H Q E z), fun A outer s H args us vs Q E a b c d z => F.run A outer s H args us vs Q E a b c d (h vs H Q E z)⟩
theorem draw_weak {vs : List V} {H : Hp} {Q : VK} {E : XK} (h : spDraw vs H Q E) : spDrawL vs H Q E := by
  obtain ⟨t, m, e, ⟨l, hT⟩, h1, h2, k⟩ := h
  exact ⟨t, l, m, e, hT, h1, h2, fun k1 H' a b c d => k k1 H' a b c.tape d⟩
end Lc
set_option Elab.async false
set_option linter.all false
set_option maxRecDepth 100000
set_option maxHeartbeats 4000000
namespace Lc
open PySem PySem.Spec PyProof.Rows L2
/-- names of built-ins that no text binds -/
structure Bt (mg : Str → Option Value) : Prop where
  isi : mg "isinstance" = none
  int : mg "int" = none
  bool : mg "bool" = none
  str : mg "str" = none
  tuple : mg "tuple" = none
  list : mg "list" = none
  dict : mg "dict" = none
  len : mg "len" = none
  abs : mg "abs" = none
  min : mg "min" = none
  all : mg "all" = none
  repr : mg "repr" = none
  range : mg "range" = none
  enum : mg "enumerate" = none
  ve : mg "ValueError" = none
  zd : mg "ZeroDivisionError" = none
  ie : mg "IndexError" = none
  oe : mg "OverflowError" = none
def btNames : List Str := ["isinstance", "int", "bool", "str", "tuple", "list", "dict", "len", "abs", "min", "all", "repr", "range", "enumerate", "ValueError", "ZeroDivisionError", "IndexError", "OverflowError"]
/-! ## x is True, x any value -/
def rIsBA : R2 := fun x y H Q => ∃ b : Bool, y = .bl b ∧ Q (.bl (decide (x = .bl b))) H
theorem op_isBA {X : Cx} : OpR X (compareOp .Is) rIsBA := by
  intro pins s σ H x y v u Q I rx ry h
  obtain ⟨b, rfl, q⟩ := h
  cases (show u = Value.bool b from ry)
  have key : plainIs v (.bool b) = true ∧ (v == Value.bool b) = decide (x = .bl b) := by
    cases x with
    | non => cases (show v = Value.none from rx); exact ⟨rfl, by cases b <;> rfl⟩
    | bl c => cases (show v = Value.bool c from rx); exact ⟨rfl, by cases b <;> cases c <;> rfl⟩
    | int i => obtain ⟨t, rfl⟩ := (show ∃ t, v = Value.int i t from rx); exact ⟨rfl, by cases b <;> rfl⟩
    | str i => obtain ⟨t, rfl⟩ := (show ∃ t, v = Value.str i t from rx); exact ⟨rfl, by cases b <;> rfl⟩
    | byt i => obtain ⟨t, rfl⟩ := (show ∃ t, v = Value.bytes i t from rx); exact ⟨rfl, by cases b <;> rfl⟩
    | flt i => obtain ⟨t, rfl⟩ := (show ∃ t, v = Value.float i t from rx); exact ⟨rfl, by cases b <;> rfl⟩
    | ref a => cases (show v = Value.ref a from rx); exact ⟨rfl, by cases b <;> rfl⟩
    | ty n => cases (show v = Value.type n from rx); exact ⟨rfl, by cases b <;> rfl⟩
  refine wpAny_is_plain key.1 ?_
  rw [key.2]
  exact ⟨.bl _, H, I, rfl, q⟩
/-! ## Texts of few signs -/
structure Sh (n : Nat) (x : Str) : Prop where
  len : x.cps.toList.length ≤ n
  ok : ∀ c ∈ x.cps.toList, c < 1114112
theorem Sh.mono {n m : Nat} {x : Str} (h : Sh n x) (l : n ≤ m) : Sh m x := ⟨Nat.le_trans h.len l, h.ok⟩
theorem Sh.line {n : Nat} {x : Str} (h : Sh n x) (l : n ≤ 1000) : x.length ≤ sizeLine := by
  have : x.length = x.cps.toList.length := by show x.cps.size = _; simp
  rw [this]
  exact Nat.le_trans h.len (Nat.le_trans l (by decide))
theorem sh_app {n m : Nat} {x y : Str} (h : Sh n x) (g : Sh m y) : Sh (n + m) (x ++ y) := by
  have e : (x ++ y).cps.toList = x.cps.toList ++ y.cps.toList := by
    show (x.cps ++ y.cps).toList = _
    simp
  refine ⟨?_, fun c hc => ?_⟩
  · rw [e, List.length_append]
    exact Nat.add_le_add h.len g.len
  · rw [e] at hc
    rcases List.mem_append.mp hc with hc | hc
    · exact h.ok c hc
    · exact g.ok c hc
theorem sh_one {c : Nat} (h : c < 1114112) : Sh 1 ⟨#[c]⟩ := ⟨Nat.le_refl _, fun d hd => by
  have : d = c := by simpa using hd
  rw [this]
  exact h⟩
theorem sh_sub {n : Nat} {x : Str} {l : List Nat} (h : Sh n x) (s : l.Sublist x.cps.toList) : Sh n ⟨l.toArray⟩ := by
  refine ⟨?_, fun c hc => ?_⟩
  · show l.toArray.toList.length ≤ n
    exact Nat.le_trans s.length_le h.len
  · exact h.ok c (s.subset (by simpa using hc))
theorem sh_cut {n : Nat} {x : Str} (lo hi : Option Int) (h : Sh n x) : Sh n (cutS x lo hi) := sh_sub h ((List.take_sublist _ _).trans (List.drop_sublist _ _))
theorem foldl_app : ∀ (l : List (Array Nat)) (a : Array Nat), (l.foldl (· ++ ·) a).toList = a.toList ++ (l.map Array.toList).flatten
  | [], a => by simp
  | b :: l, a => by
    show ((l.foldl (· ++ ·) (a ++ b))).toList = _
    rw [foldl_app l (a ++ b)]
    simp [List.append_assoc]
theorem sh_mul {x : Str} {n k : Nat} {i : Int} (h : Sh n x) (hi : i.toNat ≤ k) (hn : n ≤ 1) : Sh k (Txt.mul x i) := by
  unfold Txt.mul
  by_cases h1 : i < 1
  · rw [if_pos h1]
    exact ⟨Nat.zero_le _, fun c hc => by cases (by simpa [Str.empty] using hc : c ∈ ([] : List Nat))⟩
  · rw [if_neg h1]
    by_cases h2 : (i == 1 || x.length == 0) = true
    · rw [if_pos h2]
      exact h.mono (by omega)
    · rw [if_neg h2]
      have e : ((List.replicate i.toNat x.cps).foldl (· ++ ·) #[]).toList = (List.replicate i.toNat x.cps.toList).flatten := by
        rw [foldl_app]
        simp
      refine ⟨?_, fun c hc => ?_⟩
      · show ((List.replicate i.toNat x.cps).foldl (· ++ ·) #[]).toList.length ≤ k
        rw [e, List.length_flatten]
        have : ((List.replicate i.toNat x.cps.toList).map List.length).sum ≤ i.toNat * 1 := by
          have key : ∀ m : Nat, ((List.replicate m x.cps.toList).map List.length).sum ≤ m * 1 := by
            intro m
            induction m with
            | zero => simp
            | succ m ih =>
              rw [List.replicate_succ, List.map_cons, List.sum_cons]
              have := Nat.le_trans h.len hn
              omega
          exact key _
        omega
      · have hc : c ∈ ((List.replicate i.toNat x.cps).foldl (· ++ ·) #[]).toList := hc
        rw [e] at hc
        obtain ⟨l, hl, hcl⟩ := List.mem_flatten.mp hc
        rw [List.eq_of_mem_replicate hl] at hcl
        exact h.ok c hcl
theorem mul_ok {x : Str} {i : Int} (h : x.cps.size ≤ 1) (h2 : i < 1000) (h3 : -1000 < i) : MulOk x i := by
  have hx : x.length ≤ 1 := h
  refine ⟨by simp; omega, fun h1 _ => ?_, fun h1 _ => ?_⟩
  · have : (2 ^ 63 - 1 : Int) / i ≥ 1 := by
      have : (1 : Int) * i ≤ 2 ^ 63 - 1 := by omega
      exact (Int.le_ediv_iff_mul_le (by omega)).mpr this
    omega
  · unfold Builtin.Str.tooLong
    have : x.length * i.toNat ≤ 1000 := by
      have : x.length * i.toNat ≤ 1 * i.toNat := Nat.mul_le_mul_right _ hx
      omega
    have : ¬ (x.length * i.toNat > sizeLine) := by
      have : (1000 : Nat) ≤ sizeLine := by decide
      omega
    simpa using this
def rMulS : R2 := fun x y H Q => ∃ (z : Str) (i : Int), x = .str z ∧ y = .int i ∧ MulOk z i ∧ Q (.str (Txt.mul z i)) H
theorem op_mulS {X : Cx} : OpR X (binaryOp .Mult) rMulS := by
  intro pins s σ H x y v u Q I rx ry h
  obtain ⟨z, i, rfl, rfl, ok, q⟩ := h
  obtain ⟨t, rfl⟩ := (show ∃ t, v = Value.str z t from rx)
  obtain ⟨t2, rfl⟩ := (show ∃ t, u = Value.int i t from ry)
  exact SB.mul ok fun t' k => ⟨.str _, H, I.tok _, ⟨_, rfl⟩, q⟩
theorem glued_sh : ∀ (ys : List Str), (∀ y ∈ ys, Sh 1 y) → Sh ys.length (Str.join Str.empty ys)
  | [], _ => ⟨Nat.le_refl _, fun c hc => by cases (by simpa [Str.join, Str.empty] using hc : c ∈ ([] : List Nat))⟩
  | [x], h => h x List.mem_cons_self
  | x :: y :: r, h => by
    have ih := glued_sh (y :: r) fun z hz => h z (List.mem_cons_of_mem _ hz)
    have e : Str.join Str.empty (x :: y :: r) = x ++ Str.empty ++ Str.join Str.empty (y :: r) := rfl
    rw [e]
    have s0 : Sh 0 Str.empty := ⟨Nat.le_refl _, fun c hc => by cases (by simpa [Str.empty] using hc : c ∈ ([] : List Nat))⟩
    exact (sh_app (sh_app (h x List.mem_cons_self) s0) ih).mono (by simp; omega)
/-! ## repr of a short text, of a bounded number -/
theorem shw_text {K : PySem.W.Frag} {H : Hp} {n : Nat} {x : Str} (h : Sh n x) (l : n ≤ 1000) : Shw K H (.str x) (PyData.str x).shown := by
  refine .data (.str x) rfl rfl (by simp [PyData.depth]) ?_
  show (reprText x).length ≤ sizeLine
  have := StrLaws.reprText_len x (fun c hc => Nat.lt_trans (h.ok c hc) (by decide))
  have e : x.length = x.cps.toList.length := by show x.cps.size = _; simp
  have := h.len
  have : (10002 : Nat) ≤ sizeLine := by decide
  omega
theorem num_len {i : Int} (h : i.natAbs < 2 ^ 1000) : (PyData.int i).showable = true ∧ (PyData.int i).shown.length ≤ 1921 := by
  have l : i.natAbs.log2 < 1920 := by
    by_cases z : i.natAbs = 0
    · rw [z]
      decide
    · exact Nat.lt_of_lt_of_le ((Nat.log2_lt z).mpr h) (by decide)
  exact ⟨decide_eq_true l, int_text_len_1921 l⟩
end Lc
namespace Lc
open PySem PySem.Spec PyProof.Rows L2
/-! ## Names -/
def letters : Str := "abcdefghijklmnopqrstuvwxyz"
def signs : Str := "abcdefghijklmnopqrstuvwxyz0123456789"
def inS (c : Nat) : Bool := decide (c ∈ signs.cps.toList)
def inL (c : Nat) : Bool := decide (c ∈ letters.cps.toList)
def nameL : List Nat → Bool
  | [] => false
  | c :: r => decide ((c :: r).length ≤ 12) && (inL c && (c :: r).all inS)
def nameB : V → Bool
  | .str x => nameL x.cps.toList
  | _ => false
abbrev rInS : R2 := fun x y H Q => ∃ (c : Nat) (z : Str), x = .str ⟨#[c]⟩ ∧ y = .str z ∧ Q (.bl (decide (c ∈ z.cps.toList))) H
def spName : Sp := fun vs H Q _ => ∃ (v : V) (t : String), vs = [v] ∧ TyN H v t ∧ (∀ x, v = .str x → x.length ≤ sizeLine) ∧ ∀ H', Same H H' → Q (.bl (nameB v)) H'
def spLName : Sp := fun vs H Q _ => ∃ t : Addr, vs = [.ref t] ∧ Tape H t ∧ ∀ (x : Str) (H' : Hp), Sh 12 x → Tape H' t → SameB t H H' → Q (.str x) H'
theorem lenL (x : Str) : x.length = x.cps.toList.length := by show x.cps.size = _; simp
theorem nil_of {x : Str} (h : x.cps.toList = []) : x = ⟨#[]⟩ := by
  obtain ⟨⟨l⟩⟩ := x
  have : l = [] := h
  rw [this]
theorem dec_empty (x : Str) : decide (V.str x = V.str "") = decide (x.cps.toList = []) := by
  rw [Bool.eq_iff_iff, decide_eq_true_iff, decide_eq_true_iff]
  constructor
  · intro h
    injection h with h
    rw [h]
    rfl
  · intro h
    rw [nil_of h]
    rfl
theorem name_nil {x : Str} (h : x.cps.toList = []) : nameB (.str x) = false := by
  show nameL x.cps.toList = false
  rw [h]
  rfl
theorem name_long {x : Str} (h : ¬ x.cps.toList.length ≤ 12) : nameB (.str x) = false := by
  show nameL x.cps.toList = false
  cases e : x.cps.toList with
  | nil => rfl
  | cons c r =>
    rw [e] at h
    show (decide ((c :: r).length ≤ 12) && _) = false
    rw [decide_eq_false h]
    rfl
theorem name_is {x : Str} {c : Nat} {r : List Nat} (e : x.cps.toList = c :: r) (h : x.cps.toList.length ≤ 12) : nameB (.str x) = (inL c && (c :: r).all inS) := by
  show nameL x.cps.toList = _
  rw [e] at h ⊢
  show (decide ((c :: r).length ≤ 12) && _) = _
  rw [decide_eq_true h]
  rfl
/-- the list of a comprehension over a text's signs, as it grows -/
theorem grow {x : Str} {i : Nat} {c : Nat} (h : x.cps[i]? = some c) (p : Nat → Bool) : (x.cps.toList.take i).map (fun c => V.bl (p c)) ++ [V.bl (p c)] = (x.cps.toList.take (i + 1)).map fun c => V.bl (p c) := by
  have h2 : x.cps.toList[i]? = some c := by rw [Array.getElem?_toList]; exact h
  rw [List.take_succ, h2, List.map_append]
  rfl
end Lc
namespace Lc
open PySem PySem.Spec PyProof.Rows L2
theorem cut26 : cutS signs none (some 26) = letters := by decide +kernel
theorem signs_ok : ∀ c ∈ signs.cps.toList, c < 1114112 := by decide +kernel
theorem signs_len : signs.cps.toList.length = 36 := by decide +kernel
theorem at_text {l : List Nat} {i : Int} (h0 : 0 ≤ i) (h1 : i < (l.length : Int)) : ∃ c, atI l i = some c ∧ c ∈ l := by
  obtain ⟨n, rfl⟩ : ∃ n : Nat, i = (n : Int) := ⟨i.toNat, by omega⟩
  have h : n < l.length := by omega
  exact ⟨l[n], atI_nat (List.getElem?_eq_getElem h), List.getElem_mem h⟩
theorem big1000 {z : Int} (h1 : 0 ≤ z) (h2 : z ≤ 1000) : z.natAbs < 2 ^ 4000 := by
  have e : (2 : Nat) ^ 10 = 1024 := by decide
  exact Nat.lt_of_lt_of_le (show z.natAbs < 2 ^ 10 by omega) (Nat.pow_le_pow_right (by decide) (by decide))
theorem sh_a : Sh 1 (PySem.Str.ofString "a") := ⟨by decide +kernel, by decide +kernel⟩
theorem a_size : (PySem.Str.ofString "a").cps.size ≤ 1 := by decide +kernel
theorem sh_len {n : Nat} {x : Str} (h : Sh n x) : x.length ≤ n := by rw [lenL]; exact h.len
end Lc
namespace Lc
open PySem PySem.Spec PyProof.Rows L2
theorem join_sh (ys : List Str) (h : ∀ y ∈ ys, Sh 1 y) : Sh ys.length (Txt.join (PySem.Str.ofString "") ys) := by
  have e : Txt.join (PySem.Str.ofString "") ys = Str.join Str.empty ys := by
    exact (StrLaws.glued_eq_join (PySem.Str.ofString "") ys).trans rfl
  rw [e]
  exact glued_sh ys h
end Lc
set_option Elab.async false
set_option linter.all false
set_option maxRecDepth 100000
set_option maxHeartbeats 4000000
namespace Lc
open PySem PySem.Spec PyProof.Rows L2
/-! ## Flat values and what they are shown as -/
structure Fl (v : V) (d : PyData) (s : String) : Prop where
  dp : ∀ (K : PySem.W.Frag) (H : Hp), Dp K H v d
  ty : ∀ H : Hp, TyN H v s
  sh : d.showable = true
  nd : d.hasDict = false
  dz : d.depth = 0
  ln : d.shown.length ≤ 20000
theorem fl_non : Fl .non .none "NoneType" := ⟨fun _ _ => .non, fun _ => .non, rfl, rfl, rfl, by decide +kernel⟩
theorem fl_bl (b : Bool) : Fl (.bl b) (.bool b) "bool" := ⟨fun _ _ => .bl b, fun _ => .bl b, rfl, rfl, rfl, by cases b <;> decide +kernel⟩
theorem fl_int {i : Int} (h : i.natAbs < 2 ^ 1000) : Fl (.int i) (.int i) "int" := ⟨fun _ _ => .int i, fun _ => .int i, (num_len h).1, rfl, rfl, Nat.le_trans (num_len h).2 (by decide)⟩
theorem fl_str {x : Str} {n : Nat} (h : Sh n x) (l : n ≤ 1930) : Fl (.str x) (.str x) "str" := by
  refine ⟨fun _ _ => .str x, fun _ => .str x, rfl, rfl, rfl, ?_⟩
  show (reprText x).length ≤ 20000
  have := StrLaws.reprText_len x (fun c hc => Nat.lt_trans (h.ok c hc) (by decide))
  have e := lenL x
  have := h.len
  omega
theorem sh_string (s : String) : ∀ c ∈ (PySem.Str.ofString s).cps.toList, c < 1114112 := by
  intro c hc
  rw [Str.ofString_eq_toList] at hc
  have hc : c ∈ s.toList.map Char.toNat := by simpa using hc
  obtain ⟨ch, _, rfl⟩ := List.mem_map.mp hc
  have := ch.valid
  rcases this with h | ⟨_, h⟩
  · exact Nat.lt_trans h (by decide)
  · exact h
theorem sh_num {i : Int} (h : i.natAbs < 2 ^ 1000) : Sh 1921 (PySem.Str.ofString (toString i)) := ⟨by rw [← lenL]; exact (num_len h).2, sh_string _⟩
/-! ## Things: is it a number within the limit, how is it shown -/
def lim : Int := 10000000000000000000000000000000000000000
def limB : V → V → Bool
  | .int n, .int d => decide ((if n < 0 then -n else n) ≤ lim) && decide (d ≤ lim)
  | _, _ => false
def numB (x y : V) : Bool := ratB x y && limB x y
inductive Thing (H : Hp) : V → Bool → Prop
  | other {v : V} {t : String} (h : TyN H v t) (n : t ≠ "tuple") (l : ∀ x, v = .str x → x.length ≤ sizeLine) : Thing H v false
  | len {a : Addr} {xs : List V} (e : H a = some (.tup xs)) (n : xs.length ≠ 2) : Thing H (.ref a) false
  | pair {a : Addr} {x y : V} {tx ty : String} (e : H a = some (.tup [x, y])) (hx : TyN H x tx) (hy : TyN H y ty) : Thing H (.ref a) (numB x y)
theorem Thing.same {H H' : Hp} {v : V} {b : Bool} (h : Thing H v b) (s : Same H H') : Thing H' v b := by
  cases h with
  | other h n l => exact .other (h.same s) n l
  | len e n => exact .len (s _ _ e) n
  | pair e hx hy => exact .pair (s _ _ e) (hx.same s) (hy.same s)
theorem Thing.ty {H : Hp} {v : V} {b : Bool} (h : Thing H v b) : ∃ t, TyN H v t ∧ ∀ x, v = .str x → x.length ≤ sizeLine := by
  cases h with
  | other h n l => exact ⟨_, h, l⟩
  | len e n => exact ⟨_, .tup e, fun x z => nomatch z⟩
  | pair e hx hy => exact ⟨_, .tup e, fun x z => nomatch z⟩
/-- whatever is done to the tape at t -/
def Thg (K : PySem.W.Frag) (t : Addr) (H : Hp) (v : V) : Prop := ∃ (b : Bool) (z : Str), ∀ H', SameB t H H' → Thing H' v b ∧ Shw K H' v z
theorem thg_flat {K : PySem.W.Frag} {t : Addr} {H : Hp} {v : V} {d : PyData} {s : String} (h : Fl v d s) (n : s ≠ "tuple") (l : ∀ x, v = .str x → x.length ≤ sizeLine) : Thg K t H v :=
  ⟨false, d.shown, fun H' _ => ⟨.other (h.ty H') n l, .data (h.dp K H') h.sh h.nd (by rw [h.dz]; decide) (Nat.le_trans h.ln (by decide))⟩⟩
/-- the items of a display -/
inductive Fls : List V → List PyData → Prop
  | nil : Fls [] []
  | cons {v : V} {d : PyData} {s : String} {vs : List V} {ds : List PyData} (h : Fl v d s) (r : Fls vs ds) : Fls (v :: vs) (d :: ds)
theorem Fls.dps {K : PySem.W.Frag} {H : Hp} : ∀ {vs : List V} {ds : List PyData}, Fls vs ds → DpAll K H vs ds
  | _, _, .nil => .nil
  | _, _, .cons h r => .cons (h.dp K H) r.dps
theorem Fls.facts : ∀ {vs : List V} {ds : List PyData}, Fls vs ds → PyData.showableAll ds = true ∧ PyData.hasDictAll ds = false ∧ PyData.depthAll ds = 0 ∧ ((PyData.shownAll ds).map (·.length)).sum ≤ 20000 * ds.length ∧ (PyData.shownAll ds).length = ds.length ∧ ds.length = vs.length
  | _, _, .nil => ⟨rfl, rfl, rfl, by simp [PyData.shownAll], rfl, rfl⟩
  | _, _, .cons (d := d) (ds := ds) h r => by
    obtain ⟨h1, h2, h3, h4, h5, h6⟩ := r.facts
    refine ⟨?_, ?_, ?_, ?_, ?_, ?_⟩
    · simp [PyData.showableAll, h.sh, h1]
    · simp [PyData.hasDictAll, h.nd, h2]
    · simp [PyData.depthAll, h.dz, h3]
    · simp only [PyData.shownAll, List.map_cons, List.sum_cons, List.length_cons]
      have := h.ln
      omega
    · simp [PyData.shownAll, h5]
    · simp [h6]
theorem shw_tup {K : PySem.W.Frag} {H : Hp} {a : Addr} {vs : List V} {ds : List PyData} (e : H a = some (.tup vs)) (h : Fls vs ds) (l : vs.length ≤ 100) : Shw K H (.ref a) (PyData.tuple ds).shown := by
  obtain ⟨h1, h2, h3, h4, h5, h6⟩ := h.facts
  refine .data (.tup (SqT.of e) h.dps) (by simpa [PyData.showable] using h1) (by simpa [PyData.hasDict] using h2) (by simp [PyData.depth, h3]) ?_
  have := tupleText_len_le (PyData.shownAll ds)
  have s : (3000000 : Nat) ≤ sizeLine := by decide
  simp only [PyData.shown]
  omega
theorem shw_lst {K : PySem.W.Frag} {H : Hp} {a : Addr} {vs : List V} {ds : List PyData} (e : H a = some (.lst vs)) (h : Fls vs ds) (l : vs.length ≤ 100) : Shw K H (.ref a) (PyData.list ds).shown := by
  obtain ⟨h1, h2, h3, h4, h5, h6⟩ := h.facts
  refine .data (.lst (SqL.of e) h.dps) (by simpa [PyData.showable] using h1) (by simpa [PyData.hasDict] using h2) (by simp [PyData.depth, h3]) ?_
  have := listText_len_le (PyData.shownAll ds)
  have s : (3000000 : Nat) ≤ sizeLine := by decide
  simp only [PyData.shown]
  omega
theorem thg_tup {K : PySem.W.Frag} {t a : Addr} {H : Hp} {vs : List V} {ds : List PyData} (n : a ≠ t) (e : H a = some (.tup vs)) (h : Fls vs ds) (l : vs.length ≤ 100) : Thg K t H (.ref a) := by
  by_cases z : vs.length = 2
  · match vs, h, z with
    | [x, y], .cons h1 (.cons h2 .nil), _ => exact ⟨numB x y, _, fun H' s => ⟨.pair (s _ _ n e) (h1.ty H') (h2.ty H'), shw_tup (s _ _ n e) (.cons h1 (.cons h2 .nil)) (by show 2 ≤ 100; decide)⟩⟩
  · exact ⟨false, _, fun H' s => ⟨.len (s _ _ n e) z, shw_tup (s _ _ n e) h l⟩⟩
theorem thg_lst {K : PySem.W.Frag} {t a : Addr} {H : Hp} {vs : List V} {ds : List PyData} (n : a ≠ t) (e : H a = some (.lst vs)) (h : Fls vs ds) (l : vs.length ≤ 100) : Thg K t H (.ref a) :=
  ⟨false, _, fun H' s => ⟨.other (.lst (s _ _ n e)) (by decide) (fun x z => nomatch z), shw_lst (s _ _ n e) h l⟩⟩
theorem thg_dct {K : PySem.W.Frag} {t a : Addr} {H : Hp} (n : a ≠ t) (e : H a = some (.dK [])) : Thg K t H (.ref a) :=
  ⟨false, _, fun H' s => ⟨.other (.dct (s _ _ n e)) (by decide) (fun x z => nomatch z), .empty (s _ _ n e)⟩⟩
theorem Thg.sameB {K : PySem.W.Frag} {t : Addr} {H H' : Hp} {v : V} (h : Thg K t H v) (s : SameB t H H') : Thg K t H' v := by
  obtain ⟨b, z, k⟩ := h
  exact ⟨b, z, fun H2 s2 => k H2 (s.trans s2)⟩
theorem thg_str {K : PySem.W.Frag} {t : Addr} {H : Hp} {n : Nat} {x : Str} (h : Sh n x) (l : n ≤ 1930) : Thg K t H (.str x) :=
  thg_flat (fl_str h l) (by decide) fun y e => by
    injection e with e
    subst e
    rw [lenL]
    exact Nat.le_trans h.len (Nat.le_trans l (by decide))
end Lc
namespace Lc
open PySem PySem.Spec PyProof.Rows L2
theorem ratB_ints {x y : V} (h : ratB x y = true) : ∃ n d : Int, x = .int n ∧ y = .int d ∧ 0 < d ∧ gd n d = 1 := by
  cases x with
  | int n =>
    cases y with
    | int d =>
      have h' : (decide (0 < d) && decide (gd n d = 1)) = true := h
      obtain ⟨h1, h2⟩ := Bool.and_eq_true_iff.mp h'
      exact ⟨n, d, rfl, rfl, of_decide_eq_true h1, of_decide_eq_true h2⟩
    | _ => cases h
  | _ => cases y <;> cases h
end Lc
namespace Lc
open PySem PySem.Spec PyProof.Rows L2
/-! ## A word behind an expression: what follows is shown once -/
def tMid (te : TE) : TE := fun σ H Q => ∃ M : V → Hp → Prop, te σ H M ∧ ∀ v H', M v H' → Q v H'
theorem pe_mid {X : Cx} {e : Expr} {te : TE} (h : PE X e te) : PE X e (tMid te) := by
  refine ⟨fun pins s σ H Q I hq => ?_⟩
  obtain ⟨M, h1, h2⟩ := hq
  exact thn (h.run pins s σ H M I h1) fun u s1 ⟨v, H1, I1, r, q⟩ => ⟨v, H1, I1, r, h2 v H1 q⟩
end Lc
set_option Elab.async false
set_option linter.all false
set_option maxRecDepth 100000
set_option maxHeartbeats 4000000
namespace Lc
open PySem PySem.Spec PyProof.Rows L2
/-! ## enumerate(v), v whatever begins; for .., .. in enumerate(tuple) -/
def itB (h : Heap) (o : Obj) : Heap := (h.push o).push { cls := .type "enumerate", data := .fields #[.none, .bool false, .ref h.objs.size, rawInt 0, .none, .none] }
theorem meets_enum1 {v : Value} {o : Obj} {H : Heap → Prop} (B : Begins v o H) :
    Meets (Builtin.«enumerate.__new__» ⟨[.type "enumerate", v], []⟩) (fun _ R s => H s.heap ∧ R (.ok (.ret (.ref (s.heap.push o).objs.size))) { s with heap := itB s.heap o }) :=
  .of_wp fun prog w A R s h => by
    obtain ⟨hp, g, d, tk, os⟩ := s
    obtain ⟨h1, h⟩ := h
    have hsub := sub_enumerate
    have it1 : ∀ {A' : Around} {E : Value → Shared → Prop} {Q : Value → Shared → Prop}, Q (.ref hp.objs.size) ⟨hp.push o, g, d, tk, os⟩ → wpAny (model prog w) A' (pyIter v) Q E ⟨hp, g, d, tk, os⟩ := fun q => B.iter prog w _ _ ⟨hp, g, d, tk, os⟩ _ h1 q
    wp_walk using it1
    refine wpAny_stack_any fun st => wpAny_pure ?_
    split
    · rename_i c _ _ _ _ _
      cases (c == Value.type "enumerate") <;> (wp_walk using it1; exact ⟨_, rfl, h⟩)
    · wp_walk using it1
      exact ⟨_, rfl, h⟩
theorem call_enum1 {prog : Program} {w : World} {A : Around} {E : Value → Shared → Prop} {s : Shared} {v : Value} {o : Obj} {H : Heap → Prop} {Q : Value → Shared → Prop} (B : Begins v o H) (h1 : H s.heap)
    (h : IsEnum (itB s.heap o) (s.heap.objs.size + 1) s.heap.objs.size 0 .none → (itB s.heap o).get? s.heap.objs.size = some o → (∀ b u, s.heap.get? b = some u → (itB s.heap o).get? b = some u) → Q (.ref (s.heap.objs.size + 1)) { s with heap := itB s.heap o }) :
    wpAny (model prog w) A (call (.type "enumerate") [v]) Q E s := by
  have sz : (s.heap.push o).objs.size = s.heap.objs.size + 1 := Heap.size_push ..
  have en : IsEnum (itB s.heap o) (s.heap.objs.size + 1) s.heap.objs.size 0 .none := by
    have z := Heap.get?_push_size (s.heap.push o) (o := { cls := .type "enumerate", data := .fields #[.none, .bool false, .ref s.heap.objs.size, rawInt 0, .none, .none] }) rfl
    rw [sz] at z
    exact z
  refine callType_new F.called_enumerate (by decide) (F.typeCall_enumerate_1 _) (F.newCall_enumerate_1 _) (fun obj => F.args_object_init_2 obj _) F.entry_enumerate_new (meets_enum1 B) ⟨h1, ?_⟩
  show _ ∧ _
  rw [sz]
  exact ⟨⟨_, en, rfl⟩, h en (Heap.get?_push_of_some _ (Heap.get?_push_size _ B.free)) fun b u e => Heap.get?_push_of_some _ (Heap.get?_push_of_some _ e)⟩
/-- the tuple at a, each item in a new pair with its number -/
def IteT (K : PySem.W.Frag) (a : Addr) : It where
  go := fun i H => ∃ (xs : List V) (x : V), SqT K H a xs ∧ xs[i]? = some x
  yld := fun i H v H' => ∃ (q : Addr) (x : V), v = .ref q ∧ H q = none ∧ H' = upd H q (.tup [.int (i : Nat), x]) ∧ ∀ xs, SqT K H a xs → xs[i]? = some x
  stop := fun i H => ∃ xs : List V, SqT K H a xs ∧ xs.length = i
structure EnT (e it a : Addr) (i : Nat) (h : Heap) : Prop where
  en : ∃ old, IsEnum h e it ((i : Nat) : Int) old
  ti : h.IsTupleIter it a i
  n1 : e ≠ it
  n2 : a ≠ it
  n3 : a ≠ e
theorem turn_enT {P : Program} {w : World} {K : PySem.W.Frag} {elts : List Expr} {kk : Nat} {tpos : Pos} (a e it : Addr) : Turn P w K (.Tuple elts kk tpos) (IteT K a) [e, it] e (EnT e it a) where
  mem := List.mem_cons_self
  obj := fun i h st b hb => by
    rcases List.mem_cons.mp hb with rfl | hb
    · obtain ⟨old, he⟩ := st.en
      exact ⟨_, he, fun v q => nomatch q⟩
    · obtain rfl := List.mem_singleton.mp hb
      obtain ⟨o, ho, _, hd⟩ := st.ti
      exact ⟨o, ho, fun v q => by rw [hd] at q; cases q⟩
  keep := fun i h h' st k => by
    obtain ⟨old, he⟩ := st.en
    obtain ⟨o, ho, r⟩ := st.ti
    exact ⟨⟨old, k e List.mem_cons_self _ he⟩, ⟨o, k it (by simp) o ho, r⟩, st.n1, st.n2, st.n3⟩
  item := by
    intro X hP hw hK hc i pins s σ H E I hf st hg
    subst hP hw hK
    obtain ⟨xs, x, hq, hx⟩ := hg
    obtain ⟨its, rv, tp, _⟩ := I.tuple hq
    obtain ⟨u, hu, ru⟩ := rv.get hx
    obtain ⟨old, he⟩ := st.en
    have hu' : its.toArray[i]? = some u := by simpa using hu
    have li : i < its.toArray.size := (Array.getElem?_eq_some_iff.mp hu').1
    refine wpAny_pyNext_enum_itemD (Draws.tuple (A := X.A.in1) (I.ok.hd hc) it a st.n2 its.toArray) he ⟨st.ti, tp⟩ li st.n1 (by simp [st.n1, Ne.symm st.n3]) fun y h' tk hy ho hs hT hz hk => ?_
    obtain rfl : u = y := Option.some.inj (hu'.symm.trans hy)
    have le : e < s.heap.objs.size := Heap.lt_size he
    have lt : it < s.heap.objs.size := by obtain ⟨_, q, _⟩ := st.ti; exact Heap.lt_size q
    refine ⟨_, rfl, wpAny_letOwnedTupleGo_enum (s := { s with heap := h', toks := tk + 1 }) ho fun h2 he2 sb => ?_⟩
    have pair : h2.get? s.heap.objs.size = some { cls := .type "tuple", data := .seq #[.int i tk, u] } := (sb.2 _ (Nat.ne_of_gt le)).trans hT
    have I2 : Inv X pins σ (upd H s.heap.objs.size (.tup [.int (i : Nat), x])) { s with heap := h2, toks := tk + 1 } := by
      refine I.turnedNew (ch := [e, it]) (fun b ob hb q => ?_) hf (Nat.le_refl _) ⟨by show 2 ≤ sizeLine; decide, [.int i tk, u], .cons ⟨_, rfl⟩ (.cons ru .nil), ⟨_, pair, rfl, _, rfl⟩⟩
      have nb : b ≠ e ∧ b ≠ it := by simpa using hb
      exact (sb.2 b nb.1).trans (hk b ob nb.1 nb.2 q)
    refine ⟨.ref s.heap.objs.size, _, I2, rfl, ⟨_, x, rfl, I.hok.fresh (Nat.le_refl _), rfl, fun ys hy => by rw [I.tuple_inj hy hq]; exact hx⟩, ⟨⟨u, ?_⟩, ?_, st.n1, st.n2, st.n3⟩, fun b hb => ?_⟩
    · rw [show ((i + 1 : Nat) : Int) = (i : Int) + 1 by omega]
      exact he2
    · obtain ⟨o, q, r⟩ := hs.1
      exact ⟨o, (sb.2 it (Ne.symm st.n1)).trans q, r⟩
    · have lb : b < s.heap.objs.size := by
        rcases List.mem_cons.mp hb with rfl | hb
        · exact le
        · rw [List.mem_singleton.mp hb]; exact lt
      rw [upd_ne (Nat.ne_of_lt lb)]
      exact (hf b hb).1
  done := by
    intro X hP hw hK hc i pins s σ H E I hf st hg
    subst hP hw hK
    obtain ⟨xs, hq, hx⟩ := hg
    obtain ⟨its, rv, tp, _⟩ := I.tuple hq
    obtain ⟨old, he⟩ := st.en
    have hl : i = its.toArray.size := by rw [List.size_toArray, ← rv.length]; exact hx.symm
    obtain ⟨f0, f1, _, f3, f4, f5⟩ := hf it (by simp)
    subst hl
    exact wpAny_pyNext_enum_endD (Draws.tuple (A := X.A.in1) (I.ok.hd hc) it a st.n2 its.toArray) he ⟨st.ti, tp⟩ fun h' eb => ⟨rfl, I.turned (t' := s.toks) (fun b o hb q => eb b o hb q) f0 f1 f3 f4 f5⟩
  self := fun A i s Q E st h => by
    obtain ⟨old, he⟩ := st.en
    exact wpAny_pyIter_enum he h
def iEnT (K : PySem.W.Frag) (ta : TA) : TI := fun σ H R => ta σ H fun vs H1 => ∃ a xs, vs = [.ref a] ∧ SqT K H1 a xs ∧ R (IteT K a) H1
theorem pi_enT {X : Cx} {e : Expr} {ta : TA} {p pos tpos : Pos} {elts : List Expr} {kk : Nat} (hg : Gl X "enumerate") (hm : X.mg "enumerate" = none) (ha : PA X [e] ta) (hs : starEach [e] X.env = [(false, eval e X.env)] := by rfl) :
    PI X (.Tuple elts kk tpos) (.Call (.Name "enumerate" p) [e] [] pos) (iEnT X.K ta) := by
  refine ⟨fun pins s σ H R I h => Call_ (ld_blt I hg hm boot_enumerate (PyProof.Rows.callWith_type1 (thn (ha.run pos pins s σ H _ I h) fun us s1 ⟨vs, H1, I1, r1, q1⟩ => ?_) hs rfl))⟩
  obtain ⟨a, xs, rfl, hq, q⟩ := q1
  obtain ⟨u, rfl, ru⟩ := vals1 r1
  cases ru
  obtain ⟨its, rv, tp, _⟩ := I1.tuple hq
  have la : a < s1.heap.objs.size := by obtain ⟨_, z, _⟩ := tp; exact Heap.lt_size z
  refine call_enum1 (begins_tuple a its.toArray) tp fun en ito kp => wpAny_pyIter_enum en ?_
  refine ⟨_, [s1.heap.objs.size + 1, s1.heap.objs.size], _, _, H1, rfl, I1.kept (t' := s1.toks) kp, turn_enT a (s1.heap.objs.size + 1) s1.heap.objs.size, ⟨⟨.none, en⟩, ⟨_, ito, rfl, rfl⟩, Nat.succ_ne_self _, Nat.ne_of_lt la, Nat.ne_of_lt (Nat.lt_succ_of_lt la)⟩, fun b hb => ?_, q⟩
  have le : s1.heap.objs.size ≤ b := by
    rcases List.mem_cons.mp hb with rfl | hb
    · exact Nat.le_add_right _ _
    · rw [List.mem_singleton.mp hb]; exact Nat.le_refl _
  exact I1.fpOk le (I1.hok.fresh le)
theorem walk_enT {K : PySem.W.Frag} {a : Addr} {xs : List V} : Walk (IteT K a) xs.length (fun H => SqT K H a xs) (YPair (fun i => some (.int (i : Nat))) (fun i => xs[i]?)) := by
  refine ⟨fun i _ hi q => ⟨xs, xs[i], q, by simp [hi]⟩, fun _ q => ⟨xs, q, rfl⟩, fun i H v H' _ q y => ?_⟩
  obtain ⟨c, x, h1, h2, h3, h4⟩ := y
  exact ⟨c, .int (i : Nat), x, h1, h2, h3, rfl, h4 xs q⟩
end Lc
set_option Elab.async false
set_option linter.all false
set_option maxRecDepth 100000
set_option maxHeartbeats 4000000
namespace Lc
open PySem PySem.Spec PyProof.Rows L2
/-! ## Deep data that stands in the abstract heap -/
mutual
inductive Dh (H : Hp) : V → PyData → Prop
  | non : Dh H .non .none
  | bl (b : Bool) : Dh H (.bl b) (.bool b)
  | int (i : Int) : Dh H (.int i) (.int i)
  | str (x : Str) : Dh H (.str x) (.str x)
  | tup {a : Addr} {xs : List V} {ds : List PyData} (e : H a = some (.tup xs)) (h : DhAll H xs ds) : Dh H (.ref a) (.tuple ds)
  | lst {a : Addr} {xs : List V} {ds : List PyData} (e : H a = some (.lst xs)) (h : DhAll H xs ds) : Dh H (.ref a) (.list ds)
  | dct {a : Addr} (e : H a = some (.dK [])) : Dh H (.ref a) (.dict [])
inductive DhAll (H : Hp) : List V → List PyData → Prop
  | nil : DhAll H [] []
  | cons {v : V} {vs : List V} {d : PyData} {ds : List PyData} (h : Dh H v d) (r : DhAll H vs ds) : DhAll H (v :: vs) (d :: ds)
end
mutual
theorem Dh.same {H H' : Hp} (s : Same H H') : ∀ {v : V} {d : PyData}, Dh H v d → Dh H' v d
  | _, _, .non => .non
  | _, _, .bl b => .bl b
  | _, _, .int i => .int i
  | _, _, .str x => .str x
  | _, _, .tup e h => .tup (s _ _ e) (DhAll.same s h)
  | _, _, .lst e h => .lst (s _ _ e) (DhAll.same s h)
  | _, _, .dct e => .dct (s _ _ e)
theorem DhAll.same {H H' : Hp} (s : Same H H') : ∀ {vs : List V} {ds : List PyData}, DhAll H vs ds → DhAll H' vs ds
  | _, _, .nil => .nil
  | _, _, .cons h r => .cons (Dh.same s h) (DhAll.same s r)
end
def tyD : PyData → String
  | .none => "NoneType"
  | .bool _ => "bool"
  | .int _ => "int"
  | .str _ => "str"
  | .tuple _ => "tuple"
  | .list _ => "list"
  | .dict _ => "dict"
theorem Dh.ty {H : Hp} {v : V} {d : PyData} (h : Dh H v d) : TyN H v (tyD d) := by
  cases h with
  | non => exact .non
  | bl b => exact .bl b
  | int i => exact .int i
  | str x => exact .str x
  | tup e _ => exact .tup e
  | lst e _ => exact .lst e
  | dct e => exact .dct e
theorem DhAll.len {H : Hp} {vs : List V} {ds : List PyData} (h : DhAll H vs ds) : vs.length = ds.length := by
  match h with
  | .nil => rfl
  | .cons _ r => rw [List.length_cons, List.length_cons, DhAll.len r]
theorem DhAll.get {H : Hp} : ∀ {vs : List V} {ds : List PyData}, DhAll H vs ds → ∀ (i : Nat) (v : V), vs[i]? = some v → ∃ d, ds[i]? = some d ∧ Dh H v d
  | _, _, .nil, i, v, e => by simp at e
  | _, _, .cons h r, 0, v, e => by
    obtain rfl := Option.some.inj e
    exact ⟨_, rfl, h⟩
  | _, _, .cons h r, i + 1, v, e => by
    obtain ⟨d, e1, e2⟩ := DhAll.get r i v (by simpa using e)
    exact ⟨d, by simpa using e1, e2⟩
theorem DhAll.append {H : Hp} : ∀ {vs : List V} {ds : List PyData} {us : List V} {es : List PyData}, DhAll H vs ds → DhAll H us es → DhAll H (vs ++ us) (ds ++ es)
  | _, _, _, _, .nil, r => r
  | _, _, _, _, .cons h t, r => .cons h (DhAll.append t r)
mutual
theorem Dh.dp {K : PySem.W.Frag} {H : Hp} : ∀ {v : V} {d : PyData}, Dh H v d → d.hasDict = false → Dp K H v d
  | _, _, .non, _ => .non
  | _, _, .bl b, _ => .bl b
  | _, _, .int i, _ => .int i
  | _, _, .str x, _ => .str x
  | _, _, .tup e h, n => .tup (SqT.of e) (DhAll.dp h (by simpa [PyData.hasDict] using n))
  | _, _, .lst e h, n => .lst (SqL.of e) (DhAll.dp h (by simpa [PyData.hasDict] using n))
  | _, _, .dct e, n => by simp [PyData.hasDict] at n
theorem DhAll.dp {K : PySem.W.Frag} {H : Hp} : ∀ {vs : List V} {ds : List PyData}, DhAll H vs ds → PyData.hasDictAll ds = false → DpAll K H vs ds
  | _, _, .nil, _ => .nil
  | _, _, .cons h r, n => by
    rw [PyData.hasDictAll, Bool.or_eq_false_iff] at n
    exact .cons (Dh.dp h n.1) (DhAll.dp r n.2)
end
theorem Dh.shw {K : PySem.W.Frag} {H : Hp} {v : V} {d : PyData} (h : Dh H v d) (h1 : d.showable = true) (h2 : d.hasDict = false) (h3 : d.depth ≤ 60) (h4 : d.shown.length ≤ sizeLine) : Shw K H v d.shown := .data (h.dp h2) h1 h2 h3 h4
/-! ## How large it is when it is shown -/
structure Tm (k n : Nat) (d : PyData) : Prop where
  sh : d.showable = true
  nd : d.hasDict = false
  dz : d.depth ≤ k
  ln : d.shown.length ≤ n
theorem Tm.mono {k n k' n' : Nat} {d : PyData} (h : Tm k n d) (a : k ≤ k') (b : n ≤ n') : Tm k' n' d := ⟨h.sh, h.nd, Nat.le_trans h.dz a, Nat.le_trans h.ln b⟩
theorem tm_fl {v : V} {d : PyData} {s : String} (h : Fl v d s) : Tm 0 20000 d := ⟨h.sh, h.nd, Nat.le_of_eq h.dz, h.ln⟩
theorem tm_all {k n : Nat} : ∀ {ds : List PyData}, (∀ d ∈ ds, Tm k n d) → PyData.showableAll ds = true ∧ PyData.hasDictAll ds = false ∧ PyData.depthAll ds ≤ k ∧ ((PyData.shownAll ds).map (·.length)).sum ≤ n * ds.length ∧ (PyData.shownAll ds).length = ds.length
  | [], _ => ⟨rfl, rfl, Nat.zero_le _, by simp [PyData.shownAll], rfl⟩
  | d :: ds, h => by
    obtain ⟨h1, h2, h3, h4, h5⟩ := tm_all (ds := ds) fun x hx => h x (List.mem_cons_of_mem _ hx)
    have hd := h d List.mem_cons_self
    refine ⟨?_, ?_, ?_, ?_, ?_⟩
    · simp [PyData.showableAll, hd.sh, h1]
    · simp [PyData.hasDictAll, hd.nd, h2]
    · simp only [PyData.depthAll]
      have := hd.dz
      omega
    · simp only [PyData.shownAll, List.map_cons, List.sum_cons, List.length_cons]
      have := hd.ln
      rw [Nat.mul_succ]
      omega
    · simp [PyData.shownAll, h5]
theorem tm_tup {k n : Nat} {ds : List PyData} (h : ∀ d ∈ ds, Tm k n d) : Tm (k + 1) (n * ds.length + 2 * ds.length + 4) (.tuple ds) := by
  obtain ⟨h1, h2, h3, h4, h5⟩ := tm_all h
  refine ⟨by simpa [PyData.showable] using h1, by simpa [PyData.hasDict] using h2, ?_, ?_⟩
  · simp only [PyData.depth]
    omega
  · have := tupleText_len_le (PyData.shownAll ds)
    simp only [PyData.shown]
    omega
theorem tm_lst {k n : Nat} {ds : List PyData} (h : ∀ d ∈ ds, Tm k n d) : Tm (k + 1) (n * ds.length + 2 * ds.length + 4) (.list ds) := by
  obtain ⟨h1, h2, h3, h4, h5⟩ := tm_all h
  refine ⟨by simpa [PyData.showable] using h1, by simpa [PyData.hasDict] using h2, ?_, ?_⟩
  · simp only [PyData.depth]
    omega
  · have := listText_len_le (PyData.shownAll ds)
    simp only [PyData.shown]
    omega
theorem Dh.shwT {K : PySem.W.Frag} {H : Hp} {v : V} {d : PyData} {k n : Nat} (h : Dh H v d) (t : Tm k n d) (a : k ≤ 60) (b : n ≤ 3000000) : Shw K H v d.shown := h.shw t.sh t.nd (Nat.le_trans t.dz a) (Nat.le_trans t.ln (Nat.le_trans b (by decide)))
end Lc
set_option Elab.async false
set_option linter.all false
set_option maxRecDepth 100000
set_option maxHeartbeats 4000000
namespace Lc
open PySem PySem.Spec PyProof.Rows L2
/-! ## (x, y) * 0, (x, y) * 1 -/
theorem tuple_mul1 (l : Addr) (items : Array Value) (n : Nat) (dd : Option Addr) (sl : Array (Option Value)) (u : Tok) :
    Meets (Builtin.«tuple.__mul__» ⟨[.ref l, .int 1 u], []⟩) (fun _ R s => s.heap.get? l = some { cls := .type "tuple", dict := dd, data := .seq items n, slots := sl } ∧ R (.ok (.ret (Value.ref l))) s) :=
  .of_wp fun prog w A R s h => by
    obtain ⟨hp, g, d, tk, os⟩ := s
    obtain ⟨hl, h⟩ := h
    have f1 := AutoSeq1.idx_int
    have c0 : (decide ((1 : Int) < -(2 ^ 63)) || decide ((1 : Int) ≥ 2 ^ 63)) = false := by decide
    have c1 : (items.isEmpty || (1 : Int) == 1) = true := by simp
    wp_walk using wpAny_loadPart' hl
    repeat (first
      | (refine wpAny_ite_false (decide_eq_false (by rw [c0]; exact Bool.false_ne_true)) ?_; wp_walk using wpAny_loadPart' hl)
      | (refine wpAny_ite_true (decide_eq_true c1) ?_; wp_walk using wpAny_loadPart' hl))
    exact ⟨_, rfl, h⟩
theorem tuple_mul0 (l : Addr) (items : Array Value) (n : Nat) (dd : Option Addr) (sl : Array (Option Value)) (u : Tok) (hne : items.isEmpty = false) :
    Meets (Builtin.«tuple.__mul__» ⟨[.ref l, .int 0 u], []⟩) (fun _ R s => s.heap.get? l = some { cls := .type "tuple", dict := dd, data := .seq items n, slots := sl } ∧
      R (.ok (.ret (Value.ref s.heap.objs.size))) { s with heap := s.heap.push { cls := Value.type "tuple", data := Data.seq #[] } }) :=
  .of_wp fun prog w A R s h => by
    obtain ⟨hp, g, d, tk, os⟩ := s
    obtain ⟨hl, h⟩ := h
    have f1 := AutoSeq1.idx_int
    have c0 : (decide ((0 : Int) < -(2 ^ 63)) || decide ((0 : Int) ≥ 2 ^ 63)) = false := by decide
    have c1 : (items.isEmpty || (0 : Int) == 1) = false := by rw [hne]; rfl
    have c2 : (decide ((0 : Int) ≤ 0) || items.isEmpty) = true := by simp
    wp_walk using wpAny_loadPart' hl
    repeat (first
      | (refine wpAny_ite_false (decide_eq_false (by rw [c0]; exact Bool.false_ne_true)) ?_; wp_walk using wpAny_loadPart' hl)
      | (refine wpAny_ite_false (decide_eq_false (by rw [c1]; exact Bool.false_ne_true)) ?_; wp_walk using wpAny_loadPart' hl)
      | (refine wpAny_ite_true (decide_eq_true c2) ?_; wp_walk using wpAny_loadPart' hl))
    exact ⟨_, rfl, h⟩
def rRep01 (K : PySem.W.Frag) : R2 := fun x y H Q => ∃ l k xs, x = .ref l ∧ y = .int k ∧ SqT K H l xs ∧ xs ≠ [] ∧ ((k = 1 ∧ Q (.ref l) H) ∨ (k = 0 ∧ ∀ p, H p = none → Q (.ref p) (upd H p (.tup []))))
section
variable {X : Cx}
theorem op_rep01 : OpR X (binaryOp .Mult) (rRep01 X.K) := by
  intro pins s σ H x y v u Q I rx ry h
  obtain ⟨l, k, xs, rfl, rfl, hT, hne, h⟩ := h
  cases rx
  obtain ⟨t, rfl⟩ := ry
  obtain ⟨its, r, ⟨⟨cls, dd, data, sl⟩, ho, hc, n, hd⟩, hs⟩ := I.tuple hT
  simp only at hc hd
  subst hc hd
  have hle : its.length = xs.length := r.length.symm
  have hn : its ≠ [] := fun e => hne (by
    rw [e] at hle
    exact List.eq_nil_of_length_eq_zero hle.symm)
  have hi : its.toArray.isEmpty = false := by
    cases its with
    | nil => exact absurd rfl hn
    | cons a b => rfl
  rcases h with ⟨rfl, q⟩ | ⟨rfl, q⟩
  · exact wpAny_binaryOp_repeat_ref (T := "tuple") (U := "int") (by decide) ⟨_, ho, rfl⟩ (fun s' => typeIs_int s' 1 t) noFill_tuple_mul F.fills_int_mul F.slot_int_rmul repeat_tuple F.slot_int_index.lookup
      (call_meets F.slot_int_rmul (typeIs_int s 1 t) F.entry_int_rmul (F.args_int_rmul_2 _ _) (int_rmul_tuple 1 t l its.toArray n dd sl)
        ⟨ho, rfl, ⟨_, ho, rfl⟩, call_meets F.slot_tuple_mul ⟨_, ho, rfl⟩ F.entry_tuple_mul (F.args_tuple_mul_2 _ _) (tuple_mul1 l its.toArray n dd sl t) ⟨ho, .ref l, H, I, rfl, q⟩⟩)
  · refine wpAny_binaryOp_repeat_ref (T := "tuple") (U := "int") (by decide) ⟨_, ho, rfl⟩ (fun s' => typeIs_int s' 0 t) noFill_tuple_mul F.fills_int_mul F.slot_int_rmul repeat_tuple F.slot_int_index.lookup
      (call_meets F.slot_int_rmul (typeIs_int s 0 t) F.entry_int_rmul (F.args_int_rmul_2 _ _) (int_rmul_tuple 0 t l its.toArray n dd sl)
        ⟨ho, rfl, ⟨_, ho, rfl⟩, call_meets F.slot_tuple_mul ⟨_, ho, rfl⟩ F.entry_tuple_mul (F.args_tuple_mul_2 _ _) (tuple_mul0 l its.toArray n dd sl t hi) ⟨ho, ?_⟩⟩)
    refine ⟨.ref s.heap.objs.size, _, I.laid (t' := s.toks) (o := .tup []) (fun b ob q => Heap.get?_push_of_some _ q) (Nat.le_refl _) ?_, rfl, q _ (I.hok.fresh (Nat.le_refl _))⟩
    exact ⟨Nat.zero_le _, [], .nil, IsTup.new _ _⟩
/-! ## What is never reached -/
theorem pss_dead {b : List Stmt} : PSs X b (fun _ _ _ => False) := ⟨fun _ _ _ _ _ _ h => h.elim⟩
theorem pg_dead {e : Expr} : PG X e (fun _ _ _ _ => False) := ⟨fun _ _ _ _ _ _ _ _ _ h => h.elim⟩
/-! ## C(e, ..) in a try -/
def tMakeS (C : Addr) (sp : Sp) (E : L2.St → XK) (t : TA) : TE := fun σ H Q => t σ H fun vs H1 => ∀ x dx, H1 x = none → H1 dx = none → dx ≠ x →
  sp (.ref x :: vs) (upd (upd H1 dx (.own x)) x (.ins C dx [])) (fun v H2 => v = .non ∧ Q (.ref x) H2) (E σ)
theorem pe_makeS {CX : CXT} {k : Nat} {C f : Addr} {fd : FuncData} {ps : List Str} {sp : Sp} {E : L2.St → XK} {x : Str} {p pos : Pos} {e : Expr} {es : List Expr} {t : TA}
    (M : Mk X.K C f) (F : FnOk X.prog X.w X.K X.mg X.base CX k f fd ps sp) (hr : Room (k + 1) X.A) (hg : Gl X x) (hm : X.mg x = some (.ref C)) (hb : Binds X.K fd ps []) (hx : ∀ σ, PassesAt CX X σ (E σ))
    (ha : PA X (e :: es) t) (hdb : (x == ("__debug__" : Str)) = false := by decide) (he : starEach (e :: es) X.env = (false, eval e X.env) :: starEach es X.env := by rfl) (hpl : (backTo pos (starEach es X.env)).any (·.1) = false := by rfl) :
    PE X (.Call (.Name x p) (e :: es) [] pos) (tMakeS C sp E t) := by
  refine ⟨fun pins s0 σ H0 Q I0 h0 => ?_⟩
  refine wpAny_Call_Name_kw (ld_glob I0 hg hm ?_ hdb)
  refine PySem.W.callWith_K (h₀ := X.base) I0.ok.mod.kin M.kp (thn (ha.run pos pins s0 σ H0 _ I0 h0) fun us s ⟨vs, H, I, r, h⟩ => ⟨I.kIn, ?_⟩) he hpl
  have hq := h (s.heap.objs.size + 1) s.heap.objs.size (I.hok.fresh (Nat.le_succ _)) (I.hok.fresh (Nat.le_refl _)) (Nat.ne_of_lt (Nat.lt_succ_self _))
  have I2 := Inv.made (C := C) I
  have r2 : Vals (V.ref (s.heap.objs.size + 1) :: vs) (Value.ref (s.heap.objs.size + 1) :: us) := .cons rfl r
  have hl : (Value.ref (s.heap.objs.size + 1) :: us).length = ps.length := by
    have e := r2.length
    rw [F.len _ _ _ _ hq] at e
    exact e.symm
  refine wpAny_call (make_map (f := f) I.kIn M.makes M.init (beq_iff_eq.mp M.fn) (codeAny_mono (F.run _ X.stack _ _ ⟨Value.ref (s.heap.objs.size + 1) :: us, []⟩ (Value.ref (s.heap.objs.size + 1) :: us) _ _ (E σ) (hr.make C us [])
    (I2.env0.make C us []) (by
      have z := hb _ (Value.ref (s.heap.objs.size + 1) :: us) I2.kIn (by rw [List.append_nil]; exact hl)
      rw [List.append_nil] at z
      exact z) r2 hq) fun r s' hq' => ?_))
  cases r with
  | error e => exact hx σ pins _ _ e s' I2 hq'
  | ok fl =>
    cases fl with
    | ret u =>
      obtain ⟨v, H', I3, rv, ev, q3⟩ := I2.after hq'
      subst ev
      exact ⟨rv, ⟨V.ref (s.heap.objs.size + 1), H', I3, rfl, q3⟩⟩
    | next => exact False.elim hq'
    | brk => exact False.elim hq'
    | cont => exact False.elim hq'
/-! ## len(o), o of an own class -/
structure LenC (K : PySem.W.Frag) (C f : Addr) : Prop where
  at_ : PySem.W.findIn K (.ref C) "__len__" = some (some (.ref f))
  fn : PySem.W.isFn K (.ref f) = true
def rLenI (C : Addr) (sp : Sp) : List V → Hp → VK → Prop := fun xs H Q => ∃ a dx fs, xs = [.ref a] ∧ H a = some (.ins C dx fs) ∧ sp [.ref a] H (fun v H' => ∃ n : Int, v = .int n ∧ 0 ≤ n ∧ n < 2 ^ 63 ∧ Q (.int n) H') E0
theorem call_lenI {k : Nat} {C f : Addr} {fd : FuncData} {ps : List Str} {sp : Sp} (c : LenC X.K C f) (F : FnOk X.prog X.w X.K X.mg X.base CX0 k f fd ps sp) (hr : Room (k + 1) X.A) (hb : Binds X.K fd ps []) : CallR X (.builtin "len") (rLenI C sp) := by
  intro pins s σ H xs us Q I rv h
  obtain ⟨a, dx, fs, rfl, ha, hsp⟩ := h
  obtain ⟨u, rfl, ru⟩ := vals1 rv
  cases ru
  obtain ⟨mA, J, _⟩ := ins_get I.hok ha
  obtain ⟨od, J, _⟩ := J.look
  refine Calls.call_function_entry kind_len plain_len entry_len (args_len1 _) ?_
  unfold Builtin.«len»
  refine wpAny_bind (m := oneArg "len" _) (wpAny_pure ?_)
  refine wpAny_bind (m := callSpecial? (.ref a) (Str.ofString "__len__")) (PySem.W.special_fn I.kIn J c.at_ (beq_iff_eq.mp c.fn) ?_)
  have e0 : Env0 X.prog X.w X.K X.mg X.base X.A.in1 X.stack s H := by
    have e := I.env0
    exact ⟨e.frames, e.mod, e.bs, e.bsz, e.funs, e.frf, e.hok, e.bare⟩
  have hl := F.len _ _ _ _ hsp
  have r2 : Vals [V.ref a] [Value.ref a] := .cons rfl .nil
  refine wpAny_call (codeAny_mono (F.run X.A.in1 X.stack s H ⟨[.ref a], []⟩ [.ref a] [.ref a] _ _ hr.in1 e0 (by
    have := hb s [.ref a] I.kIn (by simpa using hl)
    simpa using this) r2 hsp) fun r s' hq => ?_)
  cases r with
  | error e => exact hq.elim
  | ok fl =>
    cases fl with
    | ret u =>
      obtain ⟨v, H', I3, rv, n, rfl, h0, h1, q3⟩ := I.after hq
      obtain ⟨t, rfl⟩ := rv
      refine wpAny_bind (wpAny_holding (wpAny_pure ?_))
      refine wpAny_bind (wpAny_letGo ?_)
      show wpAny _ _ (if n < 0 then _ else _) _ _ _
      rw [if_neg (by omega)]
      show wpAny _ _ (if n ≥ 2 ^ 63 then _ else _) _ _ _
      rw [if_neg (by omega)]
      exact wpAny_bind (wpAny_mkInt (wpAny_pure ⟨_, rfl, .int n, H', I3.tok _, ⟨_, rfl⟩, q3⟩))
    | next => exact False.elim hq
    | brk => exact False.elim hq
    | cont => exact False.elim hq
end
end Lc
set_option Elab.async false
set_option linter.all false
set_option maxRecDepth 100000
set_option maxHeartbeats 4000000
namespace Lc
open PySem PySem.Spec PyProof.Rows L2
/-! ## Names that are drawn are names -/
theorem name_of {l : List Nat} {x : Str} (e : x.cps.toList = l) (ne : l ≠ []) (ln : l.length ≤ 12) (h1 : ∀ c r, l = c :: r → inL c = true) (h2 : ∀ c ∈ l, inS c = true) : nameB (.str x) = true := by
  show nameL x.cps.toList = true
  rw [e]
  cases l with
  | nil => exact absurd rfl ne
  | cons c r =>
    show (decide ((c :: r).length ≤ 12) && (inL c && (c :: r).all inS)) = true
    rw [decide_eq_true ln, h1 c r rfl, List.all_eq_true.mpr h2]
    rfl
theorem name_has {x : Str} (h : nameB (.str x) = true) : x.cps.toList ≠ [] ∧ x.cps.toList.length ≤ 12 ∧ (∀ c r, x.cps.toList = c :: r → inL c = true) ∧ ∀ c ∈ x.cps.toList, inS c = true := by
  have h : nameL x.cps.toList = true := h
  generalize x.cps.toList = l at h
  cases l with
  | nil => cases h
  | cons c r =>
    have h : (decide ((c :: r).length ≤ 12) && (inL c && (c :: r).all inS)) = true := h
    obtain ⟨a, h⟩ := Bool.and_eq_true_iff.mp h
    obtain ⟨b, h⟩ := Bool.and_eq_true_iff.mp h
    exact ⟨List.cons_ne_nil _ _, of_decide_eq_true a, fun c' r' e => by cases e; exact b, List.all_eq_true.mp h⟩
theorem app_list (x y : Str) : (x ++ y).cps.toList = x.cps.toList ++ y.cps.toList := by
  show (x.cps ++ y.cps).toList = _
  simp
theorem mul_list (i : Int) : (Txt.mul (PySem.Str.ofString "a") i).cps.toList = List.replicate i.toNat 97 := by
  have ea : (PySem.Str.ofString "a").cps.toList = [97] := by decide +kernel
  have el : ((PySem.Str.ofString "a").length == 0) = false := by decide +kernel
  unfold Txt.mul
  by_cases h1 : i < 1
  · rw [if_pos h1, show i.toNat = 0 by omega]
    rfl
  · rw [if_neg h1, el, Bool.or_false]
    by_cases h2 : (i == 1) = true
    · rw [if_pos h2, ea, show i.toNat = 1 by have := beq_iff_eq.mp h2; omega]
      rfl
    · rw [if_neg h2]
      show ((List.replicate i.toNat (PySem.Str.ofString "a").cps).foldl (· ++ ·) #[]).toList = _
      rw [foldl_app]
      simp only [List.map_replicate, ea]
      generalize i.toNat = n
      induction n with
      | zero => rfl
      | succ n ih =>
        rw [List.replicate_succ, List.replicate_succ]
        simpa using ih
theorem sgn_at {i : Int} (h0 : 0 ≤ i) (h1 : i < 36) : ∃ c, atI signs.cps.toList i = some c ∧ c ∈ signs.cps.toList ∧ inS c = true ∧ (i < 26 → inL c = true) := by
  obtain ⟨n, rfl⟩ : ∃ n : Nat, i = (n : Int) := ⟨i.toNat, by omega⟩
  have h : n < signs.cps.toList.length := by rw [signs_len]; omega
  have m := List.getElem_mem h
  refine ⟨signs.cps.toList[n], atI_nat (List.getElem?_eq_getElem h), m, decide_eq_true m, fun l => ?_⟩
  have all : ∀ k : Fin 26, (signs.cps.toList[k.1]?).all inL = true := by decide +kernel
  have z := all ⟨n, by omega⟩
  rw [List.getElem?_eq_getElem h] at z
  exact z
theorem in97 : inL 97 = true ∧ inS 97 = true := by decide +kernel
theorem name_one {k m : Int} {c : Nat} (h0 : 0 ≤ k) (hm : 0 ≤ m) (l : k + m ≤ 11) (hs : inS c = true) (hl : k = 0 → inL c = true) : nameB (.str (Txt.mul (PySem.Str.ofString "a") k ++ ⟨#[c]⟩ ++ Txt.mul (PySem.Str.ofString "a") m)) = true := by
  have e : (Txt.mul (PySem.Str.ofString "a") k ++ (⟨#[c]⟩ : Str) ++ Txt.mul (PySem.Str.ofString "a") m).cps.toList = List.replicate k.toNat 97 ++ [c] ++ List.replicate m.toNat 97 := by
    rw [app_list, app_list, mul_list, mul_list]
  refine name_of e (by simp) (by simp; omega) (fun c' r' q => ?_) (fun c' q => ?_)
  · by_cases z : k = 0
    · subst z
      have q : c :: List.replicate m.toNat 97 = c' :: r' := q
      cases q
      exact hl rfl
    · obtain ⟨n, hn⟩ : ∃ n, k.toNat = n + 1 := ⟨k.toNat - 1, by omega⟩
      rw [hn, List.replicate_succ] at q
      cases q
      exact in97.1
  · rcases List.mem_append.mp q with q | q
    · rcases List.mem_append.mp q with q | q
      · rw [List.eq_of_mem_replicate q]; exact in97.2
      · rw [List.mem_singleton.mp q]; exact hs
    · rw [List.eq_of_mem_replicate q]; exact in97.2
theorem glued_list : ∀ (cs : List Nat), (Str.join Str.empty (cs.map fun c => (⟨#[c]⟩ : Str))).cps.toList = cs
  | [] => rfl
  | [c] => rfl
  | c :: d :: r => by
    have ih := glued_list (d :: r)
    have e : Str.join Str.empty ((c :: d :: r).map fun c => (⟨#[c]⟩ : Str)) = (⟨#[c]⟩ : Str) ++ Str.empty ++ Str.join Str.empty ((d :: r).map fun c => (⟨#[c]⟩ : Str)) := rfl
    rw [e, app_list, app_list, ih]
    rfl
theorem name_join {cs : List Nat} (ne : cs ≠ []) (ln : cs.length ≤ 12) (h1 : ∀ c r, cs = c :: r → inL c = true) (h2 : ∀ c ∈ cs, inS c = true) : nameB (.str (Txt.join (PySem.Str.ofString "") (cs.map fun c => (⟨#[c]⟩ : Str)))) = true := by
  have e : Txt.join (PySem.Str.ofString "") (cs.map fun c => (⟨#[c]⟩ : Str)) = Str.join Str.empty (cs.map fun c => (⟨#[c]⟩ : Str)) := (StrLaws.glued_eq_join (PySem.Str.ofString "") _).trans rfl
  rw [e]
  exact name_of (glued_list cs) ne ln h1 h2
theorem cut_list (x : Str) : (cutS x none (some 11)).cps.toList = x.cps.toList.take 11 := by
  unfold cutS
  rw [lenL]
  simp [HT.sIx]
theorem name_cut {x : Str} {c : Nat} (h : nameB (.str x) = true) (hc : inS c = true) : nameB (.str (cutS x none (some 11) ++ ⟨#[c]⟩)) = true := by
  obtain ⟨a1, a2, a3, a4⟩ := name_has h
  have e : (cutS x none (some 11) ++ (⟨#[c]⟩ : Str)).cps.toList = x.cps.toList.take 11 ++ [c] := by rw [app_list, cut_list]
  refine name_of e (by simp) (by simp; omega) (fun c' r' q => ?_) (fun c' q => ?_)
  · cases z : x.cps.toList with
    | nil => exact absurd z a1
    | cons d r =>
      rw [z] at q
      have q : d :: (r.take 10 ++ [c]) = c' :: r' := q
      injection q with q1 _
      rw [← q1]
      exact a3 d r z
  · rcases List.mem_append.mp q with q | q
    · exact a4 c' (List.mem_of_mem_take q)
    · rw [List.mem_singleton.mp q]; exact hc
/-! ## Some letter is free -/
theorem pigeon {α : Type} [DecidableEq α] : ∀ {l m : List α}, l.Nodup → (∀ x ∈ l, x ∈ m) → l.length ≤ m.length
  | [], _, _, _ => Nat.zero_le _
  | x :: l, m, n, h => by
    obtain ⟨n1, n2⟩ := List.nodup_cons.mp n
    have hx := h x List.mem_cons_self
    have := pigeon (l := l) (m := m.erase x) n2 fun y hy => (List.mem_erase_of_ne (fun e => n1 (by rw [← e]; exact hy))).mpr (h y (List.mem_cons_of_mem _ hy))
    rw [List.length_erase_of_mem hx] at this
    have := List.length_pos_of_mem hx
    rw [List.length_cons]
    omega
theorem in_strs {z : Str} {ss : List Str} : inV (.str z) (ss.map V.str) = decide (z ∈ ss) := by
  rw [Bool.eq_iff_iff, decide_eq_true_iff]
  unfold inV
  rw [List.any_eq_true]
  constructor
  · rintro ⟨y, hy, e⟩
    obtain ⟨s, hs, rfl⟩ := List.mem_map.mp hy
    have : s = z := by simpa [eqV] using e
    rw [← this]; exact hs
  · intro h
    exact ⟨.str z, List.mem_map.mpr ⟨z, h, rfl⟩, by simp [eqV]⟩
theorem free_letter {x : Str} {ss : List Str} (l : ss.length < 36) (h : ∀ c ∈ signs.cps.toList, cutS x none (some 11) ++ (⟨#[c]⟩ : Str) ∈ ss) : False := by
  have inj : ∀ c d : Nat, cutS x none (some 11) ++ (⟨#[c]⟩ : Str) = cutS x none (some 11) ++ (⟨#[d]⟩ : Str) → c = d := fun c d e => by
    have e := congrArg (fun s : Str => s.cps.toList) e
    simp only [app_list] at e
    have := List.append_cancel_left e
    simpa using this
  have nd : signs.cps.toList.Nodup := by decide +kernel
  have := pigeon (l := signs.cps.toList.map fun c => cutS x none (some 11) ++ (⟨#[c]⟩ : Str)) (m := ss) (List.Pairwise.map _ (fun a b n e => n (inj a b e)) nd) fun y hy => by
    obtain ⟨c, hc, rfl⟩ := List.mem_map.mp hy
    exact h c hc
  rw [List.length_map, signs_len] at this
  omega
end Lc
set_option Elab.async false
set_option linter.all false
set_option maxRecDepth 100000
set_option maxHeartbeats 4000000
namespace Lc
open PySem PySem.Spec PyProof.Rows L2
/-! ## o.m(e, .., k = v, ..) -/
def tMethK (C : Addr) (m : Str) (n l : Nat) (sp : Sp) (gV : List V → List V → List V) (E : XK) (ta : TE) (t tk : TA) : TE := fun σ H Q => ta σ H fun x H1 => ∃ a dx fs, x = .ref a ∧ H1 a = some (.ins C dx fs) ∧ fs.lookup m = none ∧
  t σ H1 fun vs H2 => tk σ H2 fun zs H3 => vs.length = n ∧ zs.length = l ∧ sp (gV (x :: vs) zs) H3 Q E
section
variable {X : Cx} {CX : CXT} {k n : Nat} {f C : Addr} {fd : FuncData} {ps ks : List Str} {sp : Sp} {E : XK} {m : Str} {pos apos : Pos} {e o : Expr} {es : List Expr} {kws : List Keyword} {ta : TE} {t tk : TA} {g : List Value → List Value → List Value} {gV : List V → List V → List V}
theorem pe_methK {pl : Sem Bool} (he : PE X o ta) (c : Cls X.K C) (hm : Meth X.K C m f) (F : FnOk X.prog X.w X.K X.mg X.base CX k f fd ps sp) (hr : Room k X.A) (hb : KBn X.K fd ps (n + 1) ks g gV) (hx : Passes CX X E) (ha : PA X (e :: es) t) (hkw : PK X kws tk)
    (hall : (backToKw pos (keywordEach kws X.env)).all (·.1.isSome) = true := by rfl) (hks : (backToKw pos (keywordEach kws X.env)).filterMap (·.1) = ks := by rfl) (hst : starEach (e :: es) X.env = (false, eval e X.env) :: starEach es X.env := by rfl)
    (hpl : ((backTo pos (starEach (e :: es) X.env)).any (·.1) || (backToKw pos (keywordEach kws X.env)).any (·.1.isNone)) = false := by rfl)
    (ht : eval (.Call (.Attribute o m apos) (e :: es) kws pos) X.env = (do
      let ov ← eval o X.env
      standAt apos.atName
      let (f, first) ← holding [ov] (getMethod ov m pl)
      callWith pos f first (backTo pos (starEach (e :: es) X.env)) (backToKw pos (keywordEach kws X.env))) := by rfl) :
    PE X (.Call (.Attribute o m apos) (e :: es) kws pos) (tMethK C m n ks.length sp gV E ta t tk) := by
  refine ⟨fun pins s σ H Q I h => ?_⟩
  refine PySem.W.methodCall_KW (pl := pl) (thn (he.run pins s σ H _ I h) fun u s1 ⟨x, H1, I1, rx, a, dx, fs, ex, ea, l, q⟩ => ?_) ht
  subst ex
  obtain rfl : u = Value.ref a := rx
  refine getmeth_ok I1 ea c hm l ?_
  refine PySem.W.callWith_KW (first := [.ref a]) (h₀ := X.base) I.ok.mod.kin hm.kp hall (thn (ha.run pos pins s1 σ H1 _ I1 q) fun us s2 ⟨vs, H2, I2, r, q2⟩ => ?_) hpl hst
  refine thn (hkw.run pos pins s2 σ H2 _ I2 q2) fun ws s3 ⟨zs, H3, I3, rz, l1, l2, q3⟩ => ⟨I3.kIn, ?_⟩
  rw [hks]
  exact run_fnN (us := .ref a :: us) (vs := .ref a :: vs) F hr hb hx I3 (.cons rfl r) rz (by rw [List.length_cons, l1]) l2 q3
end
theorem kbN {K : PySem.W.Frag} {x qual : Str} {params : Arguments} {body : List Stmt} {scope : Scope} {kws : List (Str × V)} {f : Addr} {fd : FuncData} {ps ks : List Str} {n : Nat} (F : FunD K x qual params body scope [] kws f fd)
    (h : ∀ (kV doc pm : Value) (an : Option Addr) (cdv ct : Value) (us ws : List Value), us.length = n → ws.length = ks.length → bindArgs (PySem.W.fnOf x qual params body scope .none kV doc pm an cdv ct) ⟨us, ks.zip ws⟩ = pure (ps.zip (us ++ ws))) : KBn K fd ps n ks (fun us ws => us ++ ws) (fun vs zs => vs ++ zs) := by
  obtain ⟨oc, od, dV, kV, doc, pm, an, cdv, ct, osl, rfl, lk, hcd, hD, hK⟩ := F.ex
  rcases hD with ⟨_, rfl⟩ | ⟨e, _⟩
  · exact ⟨fun s us ws X l1 l2 => .of_eq (h kV doc pm an cdv ct us ws l1 l2), fun r1 r2 => r1.append r2⟩
  · exact absurd rfl e
/-! ## Data without lists: it stands as long as the tuples stand -/
def SameT (H H' : Hp) : Prop := ∀ b xs, H b = some (.tup xs) → H' b = some (.tup xs)
theorem SameT.refl (H : Hp) : SameT H H := fun _ _ e => e
theorem SameT.trans {H H1 H2 : Hp} (a : SameT H H1) (b : SameT H1 H2) : SameT H H2 := fun c xs e => b c xs (a c xs e)
theorem SameT.of {H H' : Hp} (s : Same H H') : SameT H H' := fun b xs e => s _ _ e
theorem SameT.b {t : Addr} {H H' : Hp} (T : Tape H t) (s : SameB t H H') : SameT H H' := fun b xs e => s _ _ (T.neT e) e
theorem SameT.at {a : Addr} {H H' : Hp} {o : HO} (h : H a = some o) (n : ∀ xs, o ≠ .tup xs) (s : SameB a H H') : SameT H H' := fun b xs e => s _ _ (fun z => by rw [z, h] at e; exact n xs (Option.some.inj e)) e
theorem SameT.lst {H : Hp} {a : Addr} {ys : List V} {o : HO} (h : H a = some (.lst ys)) : SameT H (upd H a o) := fun b xs e => by rw [upd_ne (ne_of e h nofun)]; exact e
mutual
def noL : PyData → Bool
  | .list _ => false
  | .dict _ => false
  | .tuple ds => noLs ds
  | _ => true
def noLs : List PyData → Bool
  | [] => true
  | d :: ds => noL d && noLs ds
end
mutual
theorem Dh.t {H H' : Hp} (s : SameT H H') : ∀ {v : V} {d : PyData}, Dh H v d → noL d = true → Dh H' v d
  | _, _, .non, _ => .non
  | _, _, .bl b, _ => .bl b
  | _, _, .int i, _ => .int i
  | _, _, .str x, _ => .str x
  | _, _, .tup e h, n => .tup (s _ _ e) (DhAll.t s h (by simpa [noL] using n))
  | _, _, .lst e h, n => by simp [noL] at n
  | _, _, .dct e, n => by simp [noL] at n
theorem DhAll.t {H H' : Hp} (s : SameT H H') : ∀ {vs : List V} {ds : List PyData}, DhAll H vs ds → noLs ds = true → DhAll H' vs ds
  | _, _, .nil, _ => .nil
  | _, _, .cons h r, n => by
    rw [noLs, Bool.and_eq_true_iff] at n
    exact .cons (Dh.t s h n.1) (DhAll.t s r n.2)
end
theorem noLs_app {a b : List PyData} : noLs (a ++ b) = (noLs a && noLs b) := by
  induction a with
  | nil => rfl
  | cons x a ih => rw [List.cons_append, noLs, noLs, ih, Bool.and_assoc]
theorem noLs_all {a : List PyData} : noLs a = true ↔ ∀ d ∈ a, noL d = true := by
  induction a with
  | nil => exact ⟨fun _ => nofun, fun _ => rfl⟩
  | cons x a ih =>
    rw [noLs, Bool.and_eq_true_iff, ih]
    constructor
    · rintro ⟨h1, h2⟩ d hd
      rcases List.mem_cons.mp hd with rfl | hd
      · exact h1
      · exact h2 d hd
    · exact fun h => ⟨h x List.mem_cons_self, fun d hd => h d (List.mem_cons_of_mem _ hd)⟩
end Lc
set_option Elab.async false
set_option linter.all false
set_option maxRecDepth 100000
set_option maxHeartbeats 4000000
namespace Lc
open PySem PySem.Spec PyProof.Rows L2
/-! ## a dict comprehension that is stored in a local name -/
section
variable {X : Cx}
theorem sw_dict {e1 e2 : Expr} {cs : List Comprehension} {sc : Scope} {p1 p2 : Pos} {nm : Str} {ln : Nat} {en : Env} (h1 : en.scope.kind = .function) (h2 : en.scope.names.lookup nm = some .local) (h3 : (p2.line == p1.line) = true)
    (h4 : (sc.names.any fun (a, b) => a == nm && (b == .local || b == .cell)) = false) : swapsWith (.DictComp e1 e2 cs sc p1) (some (.Name nm p2)) ln en = pure true := by
  have k1 : en.kindOf nm = some .local := h2
  have k2 : en.blockKind = .function := by
    unfold Env.blockKind
    rw [h1]
    rfl
  unfold swapsWith
  simp only [k2, k1, h4, Expr.pos, h3]
  rfl
theorem ps_setDc {i : Nat} {nm : Str} {p2 p1 p3 : Pos} {kx vx tg it : Expr} {ifs : List Expr} {sc : Scope} {own : List (Str × Nat)} {wi : TI} {g : TG} {tt : TT} {tk tv : TE} (calm : X.calm = true) (nd : X.N.Nodup) (at_ : X.N[i]? = some nm) (loc : X.env.scope.names.lookup nm = some .local)
    (sw : swapsWith (.DictComp kx vx [⟨tg, it, ifs, 0⟩] sc p1) (some (.Name nm p2)) p3.line X.env = pure true) (hi : PI X tg it wi) (ok : BlkOk X.N X.env.scope sc own)
    (hg : ∀ (s : Shared) (H : Hp) (C : Addr) (cl : List (Str × Addr)) (fp : List Addr), PG (X.blk s H sc (compEnvC sc cl C X.env) fp) tg g) (ht : ∀ (s : Shared) (H : Hp) (C : Addr) (cl : List (Str × Addr)) (fp : List Addr), PTs (X.blk s H sc (compEnvC sc cl C X.env) fp) ifs tt)
    (hk : ∀ (s : Shared) (H : Hp) (C : Addr) (cl : List (Str × Addr)) (fp : List Addr), PE (X.blk s H sc (compEnvC sc cl C X.env) fp) kx tk) (hv : ∀ (s : Shared) (H : Hp) (C : Addr) (cl : List (Str × Addr)) (fp : List Addr), PE (X.blk s H sc (compEnvC sc cl C X.env) fp) vx tv) (hs : ∀ x, foldedSetIterable it X.env x = pure x := by intro _; rfl) :
    PS X (.Assign [.Name nm p2] (.DictComp kx vx [⟨tg, it, ifs, 0⟩] sc p1) p3) (tAsg (tDc wi g tt tk tv (own.map (·.2))) (gName i)) := by
  refine ⟨fun pins st σ H D I q0 => ?_⟩
  rw [exec_Assign_Name_used _ _ _ _ sw]
  refine wpAny_bind (wpAny_standAt (wpAny_bind ?_))
  show wpAny _ X.A (do let _ ← comprehension (.DictComp kx vx [⟨tg, it, ifs, 0⟩] sc p1) sc X.env (firstIterPos [⟨tg, it, ifs, 0⟩] p1) newDict false (eval it X.env) (some (assign (.Name nm p2) X.env))) _ _ st
  have q1 : tDc wi g tt tk tv (own.map (·.2)) σ H (fun x H1 => gName i x σ H1 D.nx) := q0
  refine wpAny_bind (thn (dc_core (Qf := fun _ s' => SP X pins D .next s') calm nd I hi ok hg ht hk hv hs q1 fun L C s' mm H' I' qq hn fr => ?_) fun _ s' z => wpAny_pure (wpAny_pure z))
  show wpAny _ _ (assign (.Name nm p2) X.env (.ref L)) _ _ _
  refine wpAny_assign_Name (store_ok2 (v := V.ref L) I' nd at_ (.inl loc) rfl (fun s2 I2 ⟨a, sb, ha⟩ => ?_) (.inr loc))
  obtain ⟨g0, g1, _, g3, g4, g5⟩ := fr
  have ne : C ≠ a := by
    rcases ha with z | z
    · exact z ▸ g1
    · exact fun e => g4 nm a z e.symm
  refine ⟨mm, hn.sameBut sb ne, fun h3 sb3 => ?_⟩
  refine ⟨_, H', I2.turned (t' := s2.toks) (fun b o hb e => ?_) g0 g1 g3 g4 g5, qq⟩
  exact (sb3.2 b hb).trans e
end
/-- a dict comprehension over zip of two tuples of one length -/
theorem dc_zip {K : PySem.W.Frag} {a b : Addr} {xs ys : List V} {g : TG} {tt : TT} {tk tv : TE} {vs : List Nat} {σ : L2.St} {H1 : Hp} {D : Addr} {Qd : Hp → Prop} (hl : xs.length = ys.length) (Pv : Nat → Hp → Prop) (h0 : Pv 0 (upd H1 D (.dK []))) (hq : ∀ i H, Pv i H → SqT K H a xs ∧ SqT K H b ys)
    (hs : ∀ (i : Nat) (x y : V) (T : Addr) (H : Hp), xs[i]? = some x → ys[i]? = some y → Pv i H → H T = none → g (.ref T) (wipe σ vs) (upd H T (.tup [x, y])) fun σ2 H2 => wipe σ2 vs = wipe σ vs ∧ tt σ2 H2 fun c H3 =>
      if c = true then tk σ2 H3 fun k H4 => tv σ2 H4 fun z H5 => ∃ kvs kk, k = kV kk ∧ H5 D = some (.dK kvs) ∧ kvs.length < sizeLine ∧ Pv (i + 1) (upd H5 D (.dK (putK kvs kk z))) else Pv (i + 1) H3) (hd : ∀ H, Pv xs.length H → Qd H) :
    ∃ W : Nat → Nat → Hp → Prop, (∃ m, W 0 m (upd H1 D (.dK []))) ∧ ∀ i m H, W i m H →
      ((RZ.ItzT K a b).stop i H ∧ Qd H) ∨ ((RZ.ItzT K a b).go i H ∧ ∃ N : Hp → Prop, (∀ H', N H' → ∃ m', m' < m ∧ W (i + 1) m' H') ∧ ∀ v H', (RZ.ItzT K a b).yld i H v H' → g v (wipe σ vs) H' fun σ2 H2 => wipe σ2 vs = wipe σ vs ∧ tt σ2 H2 fun c H3 =>
        if c = true then tk σ2 H3 fun k H4 => tv σ2 H4 fun z H5 => ∃ kvs kk, k = kV kk ∧ H5 D = some (.dK kvs) ∧ kvs.length < sizeLine ∧ N (upd H5 D (.dK (putK kvs kk z))) else N H3) := by
  refine ⟨fun i m H => i + m = xs.length ∧ Pv i H, ⟨xs.length, Nat.zero_add _, h0⟩, ?_⟩
  rintro i m H ⟨em, pv⟩
  obtain ⟨q1, q2⟩ := hq i H pv
  cases m with
  | zero =>
    obtain rfl : i = xs.length := by omega
    exact .inl ⟨⟨xs, ys, q1, q2, .inl (Nat.le_refl _)⟩, hd H pv⟩
  | succ m =>
    have l1 : i < xs.length := by omega
    have l2 : i < ys.length := by omega
    refine .inr ⟨⟨xs, ys, _, _, q1, q2, List.getElem?_eq_getElem l1, List.getElem?_eq_getElem l2⟩, Pv (i + 1), fun H' p' => ⟨m, by omega, by omega, p'⟩, fun v H' yl => ?_⟩
    obtain ⟨T, x', y', rfl, hT, rfl, f1, f2⟩ := yl
    exact hs i x' y' T H (f1 xs q1) (f2 ys q2) pv hT
section
variable {X : Cx} {k : Nat} {f : Addr} {fd : FuncData} {ps : List Str} {sp : Sp} {x : Str} {p pos : Pos}
/-- f(), f kept under FnG -/
theorem pe_callG0 (F : FnG X.prog X.w X.K X.mg X.base k f fd ps sp) (gg : X.A.guards = some []) (hr : Room k X.A) (hg : Gl X x) (hm : X.mg x = some (.ref f)) (hk : PySem.W.keepIn X.K (.ref f) = true) (hb : Binds X.K fd ps []) (hdb : (x == ("__debug__" : Str)) = false := by decide) :
    PE X (.Call (.Name x p) [] [] pos) (tCall sp [] E0 tNil) := by
  refine ⟨fun pins s σ H Q I h => wpAny_Call_Name_kw (ld_glob I hg hm ?_ hdb)⟩
  refine PySem.W.callWith_K0 I.kIn hk ?_
  have q : sp [] H Q E0 := h
  have hl : ([] : List V).length = ps.length := F.len _ _ _ _ q
  have b := hb s [] I.kIn hl
  refine wpAny_call (codeAny_mono (F.run X.A X.stack s H ⟨[], []⟩ [] [] Q E0 gg hr I.env0 b .nil q) fun rr s' hq => ?_)
  cases rr with
  | error er => exact hq.elim
  | ok fl =>
    cases fl with
    | ret u => exact I.after hq
    | next => exact hq.elim
    | brk => exact hq.elim
    | cont => exact hq.elim
end
/-- a list comprehension over zip of two tuples of one length -/
theorem lc_zip {K : PySem.W.Frag} {a b : Addr} {xs ys : List V} {g : TG} {tt : TT} {te : TE} {vs : List Nat} {σ : L2.St} {H1 : Hp} {D : Addr} {Qd : Hp → Prop} (hl : xs.length = ys.length) (Pv : Nat → Hp → Prop) (h0 : Pv 0 (upd H1 D (.lst []))) (hq : ∀ i H, Pv i H → SqT K H a xs ∧ SqT K H b ys)
    (hs : ∀ (i : Nat) (x y : V) (T : Addr) (H : Hp), xs[i]? = some x → ys[i]? = some y → Pv i H → H T = none → g (.ref T) (wipe σ vs) (upd H T (.tup [x, y])) fun σ2 H2 => wipe σ2 vs = wipe σ vs ∧ tt σ2 H2 fun c H3 =>
      if c = true then te σ2 H3 fun z H4 => ∃ acc, H4 D = some (.lst acc) ∧ acc.length < sizeLine ∧ Pv (i + 1) (upd H4 D (.lst (acc ++ [z]))) else Pv (i + 1) H3) (hd : ∀ H, Pv xs.length H → Qd H) :
    ∃ W : Nat → Nat → Hp → Prop, (∃ m, W 0 m (upd H1 D (.lst []))) ∧ ∀ i m H, W i m H →
      ((RZ.ItzT K a b).stop i H ∧ Qd H) ∨ ((RZ.ItzT K a b).go i H ∧ ∃ N : Hp → Prop, (∀ H', N H' → ∃ m', m' < m ∧ W (i + 1) m' H') ∧ ∀ v H', (RZ.ItzT K a b).yld i H v H' → g v (wipe σ vs) H' fun σ2 H2 => wipe σ2 vs = wipe σ vs ∧ tt σ2 H2 fun c H3 =>
        if c = true then te σ2 H3 fun z H4 => ∃ acc, H4 D = some (.lst acc) ∧ acc.length < sizeLine ∧ N (upd H4 D (.lst (acc ++ [z]))) else N H3) := by
  refine ⟨fun i m H => i + m = xs.length ∧ Pv i H, ⟨xs.length, Nat.zero_add _, h0⟩, ?_⟩
  rintro i m H ⟨em, pv⟩
  obtain ⟨q1, q2⟩ := hq i H pv
  cases m with
  | zero =>
    obtain rfl : i = xs.length := by omega
    exact .inl ⟨⟨xs, ys, q1, q2, .inl (Nat.le_refl _)⟩, hd H pv⟩
  | succ m =>
    have l1 : i < xs.length := by omega
    have l2 : i < ys.length := by omega
    refine .inr ⟨⟨xs, ys, _, _, q1, q2, List.getElem?_eq_getElem l1, List.getElem?_eq_getElem l2⟩, Pv (i + 1), fun H' p' => ⟨m, by omega, by omega, p'⟩, fun v H' yl => ?_⟩
    obtain ⟨T, x', y', rfl, hT, rfl, f1, f2⟩ := yl
    exact hs i x' y' T H (f1 xs q1) (f2 ys q2) pv hT
theorem paired_snoc {α β : Type} {R : α → β → Prop} {a : α} {b : β} (h : R a b) : ∀ {l : List α} {m : List β}, Paired R l m → Paired R (l ++ [a]) (m ++ [b])
  | _, _, .nil => .cons h .nil
  | _, _, .cons g r => .cons g (paired_snoc h r)
theorem paired_imp {α β : Type} {R S : α → β → Prop} (h : ∀ a b, R a b → S a b) : ∀ {l : List α} {m : List β}, Paired R l m → Paired S l m
  | _, _, .nil => .nil
  | _, _, .cons g r => .cons (h _ _ g) (paired_imp h r)
end Lc
set_option Elab.async false
set_option linter.all false
set_option maxRecDepth 100000
set_option maxHeartbeats 4000000
namespace Lc
open PySem PySem.Spec PyProof.Rows L2
/-! ## An error that leaves a list comprehension -/
theorem inv_xe {X : Cx} {pins : List (Addr × Obj)} {σ : L2.St} {H : Hp} {s : Shared} (I : Inv X pins σ H s) (e : Value → Shared → Prop) : Inv { X with xe := e } pins σ H s :=
  ⟨I.ok.toTry X.pn e, I.os, I.bare, I.base, I.loc, I.cell, I.free, I.freeC, I.pin, I.hok, I.len⟩
/-- the block, with what it may let out -/
abbrev blkE (X : Cx) (s : Shared) (H : Hp) (scope : Scope) (ce : Env) (fp : List Addr) (ex : Value → Shared → Prop) : Cx := { X.blk s H scope ce fp with xe := ex }
/-- what a call in the block raised -/
def OutB (X : Cx) (s : Shared) (H : Hp) (scope : Scope) (ce : Env) (fp : List Addr) (F : XK) (u : Value) (s' : Shared) : Prop :=
  ∃ (pb : List (Addr × Obj)) (σb : L2.St) (Hb : Hp) (sb : Shared), Inv (X.blk s H scope ce fp) pb σb Hb sb ∧ L2.CX X.prog X.w X.stack Hb sb F u s'
theorem none_sub {B B' : Heap} (sub : ∀ b o, B'.get? b = some o → B.get? b = some o) {b : Addr} (e : B.get? b = none) : B'.get? b = none := by
  cases q : B'.get? b with
  | none => rfl
  | some o => rw [sub _ _ q] at e; cases e
theorem traced_sub {h B B' : Heap} {a : Addr} {Z : Obj → Prop} {fl : Value} (t : HandSPX.TracedZ h B a Z fl) (sub : ∀ b o, B'.get? b = some o → B.get? b = some o) : HandSPX.TracedZ h B' a Z fl := by
  obtain ⟨oe, vs, T, oT, ts, x1, x2, x3, x4, x5, x6⟩ := t
  exact ⟨oe, vs, T, oT, ts, x1, x2, x3, x4, none_sub sub x5, x6⟩
theorem frames_sub {h B B' : Heap} (sub : ∀ b o, B'.get? b = some o → B.get? b = some o) : ∀ {l : List Env}, h.FunFrames B l → h.FunFrames B' l
  | [], _ => trivial
  | env :: rest, ⟨x1, ⟨L, o, y1, y2, y3⟩, x3⟩ => ⟨x1, ⟨L, o, y1, none_sub sub y2, y3⟩, frames_sub sub x3⟩
section
variable {X : Cx} {W : WX} {pins : List (Addr × Obj)} {σ : L2.St} {Hi : Hp} {si : Shared} {scope : Scope} {ce : Env} {fp : List Addr}
/-- the block is let go, the error goes on in the def's own frame -/
theorem blk_fails (hs : X.stack = X.env :: X.outer) (hf : X.env.frame = some X.env.locals) (tk : Takes X W) (I : Inv X pins σ Hi si) (cf : ce.frame = X.env.frame) (cL : ce.locals = si.heap.objs.size)
    (hfp : ∀ b ∈ fp, FpOk X pins Hi b) {use : Option (Value → Sem Unit)} {Qf : Value → Shared → Prop} {acc : Value} {u : Value} {s' : Shared} (ob : OutB X si Hi scope ce fp (fun cls d H' => W cls d σ H') u s') :
    notedBy (model X.prog X.w) X.A ce (fun e s' => compEnds (model X.prog X.w) X.A X.xe use Qf acc ce (.error e) s') u s' := by
  obtain ⟨pb, σb, Hb, sb, Ib, a, B, H', cls, d, rfl, fl, hok, ub, na, os, ag, hE⟩ := ob
  -- the def's own view of the state at the call
  have IX : Inv X pins σ Hb sb := I.call' (ch := fp) Ib.os Ib.base Ib.hok Ib.bare fun b hb => by
    obtain ⟨_, k2, _, k4, k5, k6⟩ := hfp b hb
    exact ⟨k4, k2, k5, k6⟩
  have nC : Hb ce.locals = none := Ib.free
  have fC : FpOk X pins Hb ce.locals := I.fpOk (by rw [cL]; exact Nat.le_refl _) nC
  obtain ⟨_, c2, c3, c4, c5, c6⟩ := fC
  have nfC : ce.locals ∉ frs X.stack := fun z => (List.mem_cons.mp (I.stkSub _ z)).elim c2 c3
  obtain ⟨m, ⟨oC, es, ep, hoC, rC⟩, _⟩ := Ib.loc
  have hoC : sb.heap.get? ce.locals = some oC := hoC
  have B0 : B.get? ce.locals = some oC := ub.keep _ _ hoC nC nfC
  have H0 : H' ce.locals = none := ub.free _ _ hoC nC
  have ns' : s'.heap.Ns ce.locals m := ⟨oC, es, ep, fl.1 _ _ B0, rC⟩
  -- the ground without the block
  obtain ⟨B', b1, b2⟩ := restrict B fun b => !decide (b = ce.locals)
  have bn : B'.get? ce.locals = none := b2 _ (by simp)
  have bk : ∀ b, b ≠ ce.locals → B'.get? b = B.get? b := fun b n => b1 b (by simp [n])
  have sub : ∀ b o, B'.get? b = some o → B.get? b = some o := fun b o e => by
    by_cases z : b = ce.locals
    · rw [z, bn] at e; cases e
    · rw [← bk b z]; exact e
  have hok' : HOk X.prog X.w H' B' := fun b o q => (hok b o q).stay (fun c v hc r => by
    refine (bk c fun z => ?_).trans r
    rcases hc with hc | hc
    · rw [← hc, z, H0] at q; cases q
    · rw [z, H0] at hc; cases hc) (fun _ r => r) fun _ _ r => r
  obtain ⟨G, g1, g2⟩ := restrict s'.heap fun b => (B'.get? b).isSome || decide (b ∈ frs X.stack)
  have gB : ∀ b o, B'.get? b = some o → G.get? b = some o := fun b o e => by
    rw [g1 b (by rw [e]; rfl)]
    exact fl.1 b o (sub b o e)
  have gF : ∀ b, b ∈ frs X.stack → G.get? b = s'.heap.get? b := fun b hb => g1 b (by rw [decide_eq_true hb, Bool.or_true])
  have gO : ∀ b o, G.get? b = some o → s'.heap.get? b = some o ∧ b ≠ ce.locals ∧ (b ∉ frs X.stack → B'.get? b = some o) := fun b o e => by
    cases q : ((B'.get? b).isSome || decide (b ∈ frs X.stack)) with
    | false => rw [g2 b q] at e; cases e
    | true =>
      rw [g1 b q] at e
      refine ⟨e, fun z => ?_, fun hb => ?_⟩
      · rw [z, bn, decide_eq_false nfC] at q; cases q
      · rw [decide_eq_false hb, Bool.or_false] at q
        obtain ⟨o2, q2⟩ := Option.isSome_iff_exists.mp q
        have w := fl.1 b o2 (sub b o2 q2)
        rw [e] at w
        cases w
        exact q2
  have flB : HandSPX.FlyingZ B' (X.env :: X.outer) a (Zc cls d) s'.heap := by
    have fl := fl
    rw [hs] at fl
    obtain ⟨y1, y2, y3, y4⟩ := fl
    exact ⟨fun b o e => y1 b o (sub b o e), none_sub sub y2, frames_sub sub y3, traced_sub y4 sub⟩
  have IG : Inv X pins σ H' { sb with heap := G, gens := s'.gens, drawn := s'.drawn, toks := s'.toks } := by
    have ne : ∀ {b : Addr}, b ∉ [ce.locals] → b ≠ ce.locals := fun h z => h (by rw [z]; exact List.mem_singleton.mpr rfl)
    refine IX.call (ch := [ce.locals]) ⟨fun b o e n hb hc => gB b o ((bk b (ne hc)).trans (ub.keep b o e n hb)), fun b o e n hb hc => ?_, fun b o e n hc => ub.free b o e n, fun b o e hc => ?_, ub.tups, ub.frzs, ub.tbls⟩ (hok'.kept gB) ag fun b hb => ?_
    · obtain ⟨sl, q⟩ := ub.slot b o e hb
      exact ⟨sl, (gF b hb).trans q⟩
    · by_cases hb : b ∈ frs X.stack
      · obtain ⟨sl, q⟩ := ub.slot b o e hb
        exact ⟨_, (gF b hb).trans q⟩
      · obtain ⟨o', q⟩ := ub.there b o e hb
        exact ⟨o', gB b o' ((bk b (ne hc)).trans q)⟩
    · obtain rfl := List.mem_singleton.mp hb
      exact ⟨c4, c2, c5, c6⟩
  have fr : X.A.frames = some (X.env :: X.outer) := IX.ok.frames.trans (congrArg some hs)
  show wpAny (model X.prog X.w) X.A (noteFrame (.ref a) ce) _ _ s'
  rw [noteFrame_env _ cf]
  refine HandSPX.looks_onZ Zc.steady fr hf flB fun h1 hh up1 => ?_
  obtain ⟨y1, y2, y3, y4⟩ := hh
  show CompFails (model X.prog X.w) X.A X.xe ce (.ref a) { s' with heap := h1 }
  have ns1 : h1.Ns ce.locals m := ns'.upToSlots up1
  refine ⟨m, ns1, fun h2 m2 n2 sb2 => ?_⟩
  have same2 : ∀ b, b ≠ ce.locals → h2.get? b = h1.get? b := sb2.2
  obtain ⟨oe, vs, T, oT, ts, he, hz, hd, hv, hnT, hTe, hT, hdT, h3⟩ := y4
  have notC : ∀ {b : Addr} {o : Obj} {vs : Array Value}, h1.get? b = some o → o.data = .fields vs → b ≠ ce.locals := fun {b o vs} e hd z => by
    obtain ⟨o1, es1, ep1, ho1, hd1, _⟩ := ns1
    rw [z, ho1] at e
    cases e
    rw [hd1] at hd
    cases hd
  have he2 := (same2 a (notC he hd)).trans he
  have tr2 : HandSPX.TracedZ h2 B' a (Zc cls d) (rawInt X.env.locals) := ⟨oe, vs, T, oT, ts, he2, hz, hd, hv, hnT, hTe, (same2 T (notC hT hdT)).trans hT, hdT, h3⟩
  unfold PySem.passOn
  refine wpAny_bind (wpAny_field he2 hd hv ?_)
  rw [if_neg (show ¬ ((Value.ref T == Value.none) = true) from by simp), cf, hf]
  refine wpAny_bind (HandSPX.setFlight_anyZ (l := X.env :: X.outer) (fr := some X.env.locals) (fun b o e => (same2 b fun z => by rw [z, bn] at e; cases e).trans (y1 b o e)) (Heap.FunFrames.sameBut sb2 n2 y3) tr2 fun h3' k1 k2 k3 k4 => wpAny_throw ?_)
  refine tk _ _ ⟨a, B', _, pins, σ, H', cls, d, rfl, IG, fun b o e hb => (gO b o e).2.2 hb, fun b o e hdo => ?_, .inr (.inr ?_), na, os, ag, hE⟩
  · obtain ⟨e1, nb, _⟩ := gO b o e
    obtain ⟨sl, e2⟩ := up1 b o e1 hdo
    obtain ⟨sl2, e3⟩ := k4 b _ ((same2 b nb).trans e2) hdo
    exact ⟨sl2, e3⟩
  · rw [hs]
    exact ⟨k1, y2, k2, k3⟩
end
section
variable {X : Cx}
/-- [elt for tg in iter if ifs], where what is called in elt may raise -/
theorem lc_coreE {elt tg iter : Expr} {ifs : List Expr} {scope : Scope} {own : List (Str × Nat)} {wi : TI} {g : TG} {tt : TT} {te : WX → TE} {W : WX} {pins : List (Addr × Obj)} {s : Shared} {σ : L2.St} {H : Hp} {Q : VK} {pos pos' : Pos} {use : Option (Value → Sem Unit)} {Qf : Value → Shared → Prop} (hs2 : X.stack = X.env :: X.outer) (hf : X.env.frame = some X.env.locals) (tk : Takes X W) (calm : X.calm = true) (nodup : X.N.Nodup) (hi : PI X tg iter wi) (ok : BlkOk X.N X.env.scope scope own)
    (hg : ∀ (s : Shared) (H : Hp) (C : Addr) (cl : List (Str × Addr)) (fp : List Addr) (ex : Value → Shared → Prop), PG (blkE X s H scope (compEnvC scope cl C X.env) fp ex) tg g)
    (ht : ∀ (s : Shared) (H : Hp) (C : Addr) (cl : List (Str × Addr)) (fp : List Addr) (ex : Value → Shared → Prop), PTs (blkE X s H scope (compEnvC scope cl C X.env) fp ex) ifs tt)
    (he : ∀ (s : Shared) (H : Hp) (C : Addr) (cl : List (Str × Addr)) (fp : List Addr) (ex : Value → Shared → Prop) (Wb : WX), (∀ σ, PassesAt (L2.CX X.prog X.w) (blkE X s H scope (compEnvC scope cl C X.env) fp ex) σ (WE Wb σ)) → PE (blkE X s H scope (compEnvC scope cl C X.env) fp ex) elt (te Wb))
    (fold : ∀ x, foldedSetIterable iter X.env x = pure x) (I : Inv X pins σ H s) (want : tLc wi g tt (te fun cls d _ H' => W cls d σ H') (own.map (·.2)) σ H Q)
    (done : ∀ (D : Addr) (ce : Env) (s' : Shared) (m : Str → Option Value) (H' : Hp), Inv X pins σ H' s' → Q (.ref D) H' → s'.heap.Ns ce.locals m → FpOk X pins H' ce.locals → compEnds (model X.prog X.w) X.A X.xe use Qf (.ref D) ce (.ok .next) s') :
    wpAny (model X.prog X.w) X.A (comprehension (.ListComp elt [⟨tg, iter, ifs, 0⟩] scope pos) scope X.env pos' (newList []) false (eval iter X.env) use) Qf X.xe s := by
  have cells : ∀ y ∈ scope.names, y.2 = .free → ∃ c, X.env.cells.lookup y.1 = some c := fun y hy e => I.ok.has _ ((ok.free y hy e).elim .inl .inr)
  refine comprehension_at (use := use) rfl fold (closure_ok cells) ok.kind (fun y hy e => (ok.uniq y hy).trans (by rw [e])) (thn (hi.run pins s σ H _ I want) fun xv s1 hx => thn hx fun itv s2 come => ?_)
  obtain ⟨it, fp, tn, J, H2, rfl, I2, T, st2, f2, turns⟩ := come
  refine wpAny_newObj_type (newEnv_comp ?_) (show 0 ≤ sizeLine from Nat.zero_le _)
  have new2 : H2 s2.heap.objs.size = none := I2.hok.fresh (Nat.le_refl _)
  obtain ⟨Iv, ⟨m0, start⟩, turn⟩ := turns _ new2
  -- the list is laid
  have I3 : Inv X pins σ (upd H2 s2.heap.objs.size (.lst [])) { s2 with heap := s2.heap.push { cls := .type "list", data := .seq ([] : List Value).toArray } } :=
    I2.laid (t' := s2.toks) (fun b o e => Heap.get?_push_of_some _ e) (Nat.le_refl _) ⟨Nat.zero_le _, [], 0, .nil, Heap.get?_push_size _ rfl⟩
  have grow : ∀ b o, s2.heap.get? b = some o → (s2.heap.push { cls := .type "list", data := .seq ([] : List Value).toArray }).get? b = some o := fun b o e => Heap.get?_push_of_some _ e
  have siz : (s2.heap.push { cls := .type "list", data := .seq ([] : List Value).toArray }).objs.size = s2.heap.objs.size + 1 := Heap.size_push _ _
  have low : ∀ b ∈ fp, b < s2.heap.objs.size := fun b hb => (T.obj _ _ st2 b hb).elim fun o e => Heap.lt_size e.1
  have st3 : tn 0 (s2.heap.push { cls := .type "list", data := .seq ([] : List Value).toArray }) := T.keep _ _ _ st2 fun b _ o e => grow b o e
  generalize hD : s2.heap.objs.size = D at *
  generalize hh3 : s2.heap.push { cls := .type "list", data := .seq ([] : List Value).toArray } = h3 at *
  generalize hs3 : ({ s2 with heap := h3 } : Shared) = s3 at I3 ⊢
  have e3 : s3.heap = h3 := by rw [← hs3]
  rw [← e3] at st3 siz grow
  have f3 : ∀ b ∈ fp, FpOk X pins (upd H2 D (.lst [])) b ∧ b < s3.heap.objs.size := fun b hb => by
    have lt := low b hb
    obtain ⟨k1, k2⟩ := f2 b hb
    exact ⟨⟨by rw [upd_ne (Nat.ne_of_lt lt)]; exact k1, k2⟩, by rw [siz]; exact Nat.lt_succ_of_lt lt⟩
  have I4 := block_start I3 ok nodup f3
  have none3 : ∀ b ∈ fp, (upd H2 D (.lst [])) b = none := fun b hb => (f3 b hb).1.1
  generalize upd H2 D (.lst []) = H3 at *
  generalize hcl : cellsFrom (s3.heap.objs.size + 1) scope.names (cloFrom X.env.cells scope.names []) = cl at *
  have fr3 : ∀ b ∈ fp, FpOk X pins H3 b := fun b hb => (f3 b hb).1
  have nC3 : ∀ {H' : Hp}, H' s3.heap.objs.size = none → FpOk X pins H' s3.heap.objs.size := fun h => I3.fpOk (Nat.le_refl _) h
  let ce := compEnvC scope cl s3.heap.objs.size X.env
  let ex : Value → Shared → Prop := OutB X s3 H3 scope ce fp fun cls d H' => W cls d σ H'
  have pg := hg s3 H3 s3.heap.objs.size cl fp ex
  have pt := ht s3 H3 s3.heap.objs.size cl fp ex
  have pe := he s3 H3 s3.heap.objs.size cl fp ex (fun cls d _ H' => W cls d σ H') fun σ' pb H s e s' Ib c => ⟨pb, σ', H, s, inv_xe Ib fun _ _ => False, c⟩
  have out : ∀ {u : Value} {s' : Shared}, ex u s' → notedBy (model X.prog X.w) X.A ce (fun e s' => compEnds (model X.prog X.w) X.A X.xe use Qf (.ref D) ce (.error e) s') u s' := fun {u s'} ob => blk_fails (ce := ce) hs2 hf tk I3 rfl rfl fr3 ob
  have J4 := inv_xe I4 ex
  generalize hh4 : pushCells (s3.heap.push { cls := .type "dict", data := .dict #[] }) scope.names = h4 at *
  have st4 : tn 0 h4 := T.keep _ _ _ st3 fun b _ o e => by rw [← hh4]; exact pushCells_keeps _ _ _ _ (Heap.get?_push_of_some _ e)
  have still : ∀ {σ' : L2.St} {H' : Hp} {s' : Shared}, Inv (blkE X s3 H3 scope ce fp ex) [] σ' H' s' → (∀ b ∈ fp, H' b = none) → ∀ b ∈ fp, FpOk (blkE X s3 H3 scope ce fp ex) [] H' b := fun {σ' H' s'} J n b hb =>
    ⟨n b hb, (J.ok.exf b hb).1, J.ok.exfs b hb, .inl hb, fun x c e => (J.ok.exf b hb).2 x c e, fun p hp => nomatch (show p ∈ ([] : List (Addr × Obj)) from hp)⟩
  let Rn : Nat → Shared → Prop := fun n s' => ∃ i H', Inv (blkE X s3 H3 scope ce fp ex) [] (wipe σ (own.map (·.2))) H' s' ∧ tn i s'.heap ∧ (∀ b ∈ fp, H' b = none) ∧ Iv i n H'
  have loop : codeAny (model X.prog X.w) X.A (.compLoop (.ListComp elt [⟨tg, iter, ifs, 0⟩] scope pos) 0 (.ref it) (.ref D) ce) (compEnds (model X.prog X.w) X.A X.xe use Qf (.ref D) ce) { s3 with heap := h4 } := by
    refine compLoop_any Rn ?_ m0 ⟨0, H3, J4, st4, none3, start⟩
    rintro n s5 ⟨i, H5, J5, st5, n5, w5⟩
    rcases turn i n H5 w5 with ⟨stop, fin⟩ | ⟨go, Nx, next, step⟩
    · -- the end: back in the def
      refine thn (T.done (blkE X s3 H3 scope ce fp ex) rfl rfl rfl calm i [] s5 _ H5 _ J5 (still J5 n5) st5 stop) fun r s6 ⟨er, J6⟩ => ?_
      subst er
      have nC : H5 s3.heap.objs.size = none := J6.free
      obtain ⟨m, ns, _⟩ := J6.loc
      have I7 : Inv X pins σ H5 s6 := I3.call' (ch := fp) J6.os J6.base J6.hok J6.bare fun b hb => by
        obtain ⟨_, k2, _, k4, k5, k6⟩ := fr3 b hb
        exact ⟨k4, k2, k5, k6⟩
      exact done D ce s6 m H5 I7 fin ns (nC3 nC)
    · refine thn (T.item (blkE X s3 H3 scope ce fp ex) rfl rfl rfl calm i [] s5 _ H5 _ J5 (still J5 n5) st5 go) fun r s6 ⟨u, er, h6⟩ => ?_
      subst er
      refine thn h6 fun _ s7 ⟨x, H7, J7, r7, y7, st7, n7⟩ => ?_
      have P7 := J7.pinned (still J7 n7) (T.obj _ _ st7)
      refine wpAny_mono (pg.run _ s7 _ H7 x u _ P7 r7 (step x H7 y7)) (fun _ s8 ⟨σ8, H8, J8, wp8, q8⟩ => ?_) fun _ _ z => out z
      refine wpAny_mono (pt.run _ s8 σ8 H8 _ J8 q8) (fun b s9 ⟨H9, J9, q9⟩ => ?_) fun _ _ z => out z
      have fin : ∀ {s' : Shared} {H' : Hp}, Inv (blkE X s3 H3 scope ce fp ex) ([] ++ pinsAt fp s7.heap) σ8 H' s' → Nx H' → ∃ m, m < n ∧ Rn m s' := fun {s' H'} J nx => by
        obtain ⟨m', lt, w'⟩ := next H' nx
        have held : ∀ b ∈ fp, ∀ o, s7.heap.get? b = some o → s'.heap.get? b = some o ∧ H' b = none := fun b hb o e => by
          obtain ⟨p1, p2, _⟩ := J.pin (b, o) (List.mem_append_right _ (List.mem_append_right _ (mem_pinsAt hb e)))
          exact ⟨p1, p2⟩
        refine ⟨m', lt, i + 1, H', (J.unpinned (pins := [])).weak (by rw [← wp8, wipe_length]) (fun j v e => ?_), T.keep _ _ _ st7 fun b hb o e => (held b hb o e).1, fun b hb => ?_, w'⟩
        · rw [← wp8] at e
          exact (wipe_some e).1
        · obtain ⟨o, e, _⟩ := T.obj _ _ st7 b hb
          exact (held b hb o e).2
      cases b with
      | false => exact fin J9 q9
      | true =>
        refine wpAny_mono (pe.run _ s9 σ8 H9 _ J9 q9) (fun z s10 ⟨yv, H10, J10, r10, acc, hacc, lacc, nx⟩ => ?_) fun _ _ z => out z
        exact app_ok (X := blkE X s3 H3 scope ce fp ex) J10 hacc lacc r10 fun s11 J11 => fin J11 nx
  exact codeAny_compStart_list loop (T.self X.A 0 _ _ _ st4 loop)
theorem pe_lcE {elt tg iter : Expr} {ifs : List Expr} {scope : Scope} {own : List (Str × Nat)} {wi : TI} {g : TG} {tt : TT} {te : WX → TE} {W : WX} {pos : Pos} (hs2 : X.stack = X.env :: X.outer) (hf : X.env.frame = some X.env.locals) (tk : Takes X W) (calm : X.calm = true) (nodup : X.N.Nodup) (hi : PI X tg iter wi) (ok : BlkOk X.N X.env.scope scope own)
    (hg : ∀ (s : Shared) (H : Hp) (C : Addr) (cl : List (Str × Addr)) (fp : List Addr) (ex : Value → Shared → Prop), PG (blkE X s H scope (compEnvC scope cl C X.env) fp ex) tg g)
    (ht : ∀ (s : Shared) (H : Hp) (C : Addr) (cl : List (Str × Addr)) (fp : List Addr) (ex : Value → Shared → Prop), PTs (blkE X s H scope (compEnvC scope cl C X.env) fp ex) ifs tt)
    (he : ∀ (s : Shared) (H : Hp) (C : Addr) (cl : List (Str × Addr)) (fp : List Addr) (ex : Value → Shared → Prop) (Wb : WX), (∀ σ, PassesAt (L2.CX X.prog X.w) (blkE X s H scope (compEnvC scope cl C X.env) fp ex) σ (WE Wb σ)) → PE (blkE X s H scope (compEnvC scope cl C X.env) fp ex) elt (te Wb))
    (fold : ∀ x, foldedSetIterable iter X.env x = pure x := by intro _; rfl) :
    PE X (.ListComp elt [⟨tg, iter, ifs, 0⟩] scope pos) (fun σ H Q => tLc wi g tt (te fun cls d _ H' => W cls d σ H') (own.map (·.2)) σ H Q) := by
  refine ⟨fun pins s σ H Q I want => ?_⟩
  rw [eval_ListComp]
  refine lc_coreE hs2 hf tk calm nodup hi ok hg ht he fold I want fun D ce s' m H' I' q ns fC => ⟨m, ns, fun h'' sb => ⟨.ref D, H', ?_, rfl, q⟩⟩
  obtain ⟨k1, k2, _, k4, k5, k6⟩ := fC
  exact I'.turned (t' := s'.toks) (fun b o hb e => (sb.2 b hb).trans e) k1 k2 k4 k5 k6
/-- y = [..] on one line, y a local -/
theorem ps_setLcE {elt tg iter : Expr} {ifs : List Expr} {scope : Scope} {own : List (Str × Nat)} {wi : TI} {g : TG} {tt : TT} {te : WX → TE} {W : WX} {i : Nat} {y : Str} {py pos spos : Pos} (hs2 : X.stack = X.env :: X.outer) (hf : X.env.frame = some X.env.locals) (tk : Takes X W) (calm : X.calm = true) (nodup : X.N.Nodup) (hi : PI X tg iter wi) (ok : BlkOk X.N X.env.scope scope own)
    (hg : ∀ (s : Shared) (H : Hp) (C : Addr) (cl : List (Str × Addr)) (fp : List Addr) (ex : Value → Shared → Prop), PG (blkE X s H scope (compEnvC scope cl C X.env) fp ex) tg g)
    (ht : ∀ (s : Shared) (H : Hp) (C : Addr) (cl : List (Str × Addr)) (fp : List Addr) (ex : Value → Shared → Prop), PTs (blkE X s H scope (compEnvC scope cl C X.env) fp ex) ifs tt)
    (he : ∀ (s : Shared) (H : Hp) (C : Addr) (cl : List (Str × Addr)) (fp : List Addr) (ex : Value → Shared → Prop) (Wb : WX), (∀ σ, PassesAt (L2.CX X.prog X.w) (blkE X s H scope (compEnvC scope cl C X.env) fp ex) σ (WE Wb σ)) → PE (blkE X s H scope (compEnvC scope cl C X.env) fp ex) elt (te Wb))
    (hy : X.N[i]? = some y) (hyl : X.env.scope.names.lookup y = some .local) (sw : swapsWith (.ListComp elt [⟨tg, iter, ifs, 0⟩] scope pos) (some (.Name y py)) spos.line X.env = pure true)
    (fold : ∀ x, foldedSetIterable iter X.env x = pure x := by intro _; rfl) :
    PS X (.Assign [.Name y py] (.ListComp elt [⟨tg, iter, ifs, 0⟩] scope pos) spos) (tAsg (fun σ H Q => tLc wi g tt (te fun cls d _ H' => W cls d σ H') (own.map (·.2)) σ H Q) (gName i)) := by
  refine ⟨fun pins s σ H D I want => ?_⟩
  rw [exec_Assign_Name_used _ _ _ _ sw]
  refine wpAny_bind (wpAny_standAt (wpAny_bind ?_))
  have want : tLc wi g tt (te fun cls d _ H' => W cls d σ H') (own.map (·.2)) σ H (fun x H1 => gName i x σ H1 D.nx) := want
  refine wpAny_bind (thn (lc_coreE (use := some (assign (.Name y py) X.env)) (Qf := fun _ s' => SP X pins D .next s') hs2 hf tk calm nodup hi ok hg ht he fold I want fun L ce s' m H' I' q ns fC => ?_) fun _ s' hq => wpAny_pure (wpAny_pure hq))
  show wpAny _ _ (assign (.Name y py) X.env (.ref L)) _ _ _
  obtain ⟨k1, k2, _, k4, k5, k6⟩ := fC
  refine wpAny_assign_Name (store_ok2 (v := V.ref L) I' nodup hy (.inl hyl) rfl (fun s2 I2 ⟨a, sb, ha⟩ => ⟨m, ns.sameBut sb fun z => ?_, fun h3 sb3 => ⟨_, H', I2.turned (t' := s2.toks) (fun b o hb e => (sb3.2 b hb).trans e) k1 k2 k4 k5 k6, q⟩⟩) (.inr hyl))
  rcases ha with e | e
  · exact k2 (z.trans e)
  · exact k5 y a e z.symm
end
end Lc
set_option Elab.async false
set_option linter.all false
set_option maxRecDepth 100000
set_option maxHeartbeats 4000000
namespace Lc
open PySem PySem.Spec PyProof.Rows L2
/-! ## An error that is kept behind its clause -/
/-- a field of an error that is pinned -/
theorem pe_xfP {Y : Cx} {a C : Addr} {ob : Obj} {cls : Value} {d : Option Addr} {e : Expr} {te : TE} {pos : Pos} {n : Str} (T : XfC Y.K C) (own : PySem.W.findIn Y.K (.ref C) n = some none) (pinned : (a, ob) ∈ Y.pn) (hz : Zc cls d ob) (rec : ∃ vs, ob.data = .fields vs) (he : PE Y e te)
    (base : attributeBase e n Y.env (eval e Y.env) = eval e Y.env := by rfl) : PE Y (.Attribute e n pos) (tXf a cls d C n te) := by
  refine ⟨fun pins s σ H Q I want => attr_of base (thn (he.run pins s σ H _ I want) fun u s1 hu => ?_)⟩
  obtain ⟨x, H1, J, ru, rfl, rfl, dd, fs, v, rfl, hdd, lk, q⟩ := hu
  obtain rfl : u = Value.ref a := ru
  have there := (J.pin (a, ob) (List.mem_append_left _ pinned)).1
  obtain ⟨vs, hrec⟩ := rec
  obtain ⟨mA, names, rel⟩ := (show ObjOk Y.prog Y.w H1 s1.heap dd (.xd fs) from J.hok dd _ hdd)
  obtain ⟨od, hod, look⟩ := lookIn_ns names
  obtain ⟨w, hw, rw_⟩ := RelO.some_of (v := v) (o := mA n) (lk ▸ rel n)
  have nc : PySem.W.notCls ob = true := by unfold PySem.W.notCls; rw [hrec]
  have at_ : PySem.W.InstAt s1.heap a ob C (some od) := ⟨there, hz.1, nc, by rw [hz.2]; exact hod⟩
  exact HandSPX.exc_get J.kIn at_ T.ga T.gg T.exC (PySem.W.findObj_own T.hdC own rfl (by rw [look, hw])) (handed_of rw_) ⟨v, H1, J.tok _, rw_, q⟩
theorem call_isP {Y : Cx} {a C : Addr} {ob : Obj} {cls : Value} {d : Option Addr} (T : XisC Y.K C) (pinned : (a, ob) ∈ Y.pn) (hz : Zc cls d ob) (rec : ∃ vs, ob.data = .fields vs) : CallR Y (.builtin "isinstance") (rIsX Y.K cls d C a) := by
  intro pins s σ H xs us Q I r h
  obtain ⟨ec, c, cv, b, rfl, hcv, hd, e, q⟩ := h
  obtain ⟨u1, u2, rfl, r1, r2⟩ := vals2 r
  have e2 := hcv.eq r2
  subst e2 ec
  obtain rfl : u1 = Value.ref a := r1
  obtain ⟨vs, hv⟩ := rec
  obtain ⟨hget, _⟩ := I.pin (a, ob) (List.mem_append_left _ pinned)
  have nc : PySem.W.notCls ob = true := by unfold PySem.W.notCls; rw [hv]
  have key : ∃ od, PySem.W.InstAt s.heap a ob C od := by
    cases d with
    | none => exact ⟨none, hget, hz.1, nc, by rw [hz.2]; trivial⟩
    | some dd =>
      obtain ⟨fs, hfs⟩ := hd dd rfl
      obtain ⟨mA, ⟨o, _, _, ho, _⟩, _⟩ := (show ObjOk Y.prog Y.w H s.heap dd (.xd fs) from I.hok dd _ hfs)
      exact ⟨some o, hget, hz.1, nc, by rw [hz.2]; exact ho⟩
  obtain ⟨od, J⟩ := key
  exact PySem.W.kia_one (PySem.W.kitx_exc T.hc T.ga T.gt T.sb T.cl T.sp T.tk T.mo) I.kIn J e (fun z => nomatch z) fun tk => ⟨.bl b, H, I.kept (t' := tk) fun _ _ z => z, rfl, q⟩
/-- the end of a clause, behind which the error stays pinned -/
def endP (i : Nat) (tr : Addr → Value → Option Addr → TS) (a : Addr) (cls : Value) (d : Option Addr) (D : Ends) : Ends := ⟨fun σ H => tr a cls d D (σ.set i none) H, D.rt, fun σ H => D.bk (σ.set i none) H, fun σ H => D.ct (σ.set i none) H⟩
def wKeep (K : PySem.W.Frag) (c : Value) (i : Nat) (ts tr : Addr → Value → Option Addr → L2.TS) (Wout : WX) (D : Ends) : WX := fun cls d σ H => ∃ b, PySem.W.exmOne K cls c = some b ∧ (b = true → ∀ a, H a = none → ts a cls d (endP i tr a cls d D) (σ.set i (some (.ref a))) H) ∧ (b = false → Wout cls d σ H)
section
variable {X : Cx}
theorem pss_keep {body rest sts : List Stmt} {st : Stmt} {x n : Str} {c : Value} {i : Nat} {p1 p2 pos : Pos} {tb : WX → TS} {u : TS} {ts tr : Addr → Value → Option Addr → L2.TS} {Wout : WX} (hs : X.stack = X.env :: X.outer) (hf : X.env.frame = some X.env.locals) (tk : Takes X Wout) (nm : Names X x c) (nodup : X.N.Nodup) (hi : X.N[i]? = some n) (hn : X.env.kindOf n = some .local)
    (hb : ∀ (W : WX) (pn : List (Addr × Obj)) (xe : Value → Shared → Prop), Takes (X.tr pn xe) W → PassesOwn (model X.prog X.w) X.A X.env xe → PSs (X.tr pn xe) body (tb W)) (su : SuiteOk X (st :: sts) ts) (hr : PSs X rest u)
    (hk : ∀ (a : Addr) (ob : Obj) (cls : Value) (d : Option Addr) (pn : List (Addr × Obj)), Zc cls d ob → (∃ vs, ob.data = .fields vs) → PSs (X.tr ((a, ob) :: pn) X.xe) rest (tr a cls d)) :
    PSs X (.Try body [.ExceptHandler (some (.Name x p1)) (some n) (st :: sts) p2] [] [] pos :: rest) (fun D σ H => tb (wKeep X.K c i ts tr Wout D) { D with nx := u D } σ H) := by
  refine ⟨fun pins s σ H D I want => wpAny_execs_cons ?_⟩
  have ok := I.ok
  have fr : X.A.frames = some (X.env :: X.outer) := ok.frames.trans (congrArg some hs)
  let Post : Flow → Shared → Prop := fun f s1 => match f with
    | .next => wpAny (model X.prog X.w) X.A (execs rest X.env) (SP X pins D) X.xe s1
    | f => SP X pins D f s1
  have goal : wpAny (model X.prog X.w) X.A (exec (.Try body [.ExceptHandler (some (.Name x p1)) (some n) (st :: sts) p2] [] [] pos) X.env) Post X.xe s := by
    refine wpAny_Try_except (wpAny_mono ((hb (wKeep X.K c i ts tr Wout D) (X.pn ++ pins) (fun e s₁ => wpAny (model X.prog X.w) X.A (noteFrame e X.env) (fun _ s₂ => wpAny (model X.prog X.w) X.A (setFlight e none)
      (fun _ s₃ => wpAny (model X.prog X.w) X.A (handleBy e X.env [.ExceptHandler (some (.Name x p1)) (some n) (st :: sts) p2]) Post X.xe s₃) X.xe s₂) X.xe s₁) (fun w s' air => ?_) PassesOwn.looking).run [] s σ H _ (I.toTry _) want) (fun f s1 hsp => ?_) (fun _ _ he => he))
    · obtain ⟨a, B, sI, _, σ1, H1, cls, d, rfl, J', nb, up, sky, na, os, ag, wi⟩ := air
      have J := J'.ofTry ok
      rw [hs] at sky
      refine Sky.land Zc.steady fr hf sky fun h3 fl3 up3 => ?_
      -- the state on the ground, with the error pinned
      have land : ∀ {h4 : Heap}, HandSPX.FlyingZ B (X.env :: X.outer) a (Zc cls d) h4 → sI.heap.UpToSlots h4 → Inv X pins σ1 H1 { s' with heap := h4 } ∧ ∃ ob vs, Zc cls d ob ∧ ob.data = .fields vs ∧ h4.get? a = some ob ∧ Inv (X.suite a ((a, ob) :: (X.pn ++ pins))) [] σ1 H1 { s' with heap := h4 } := by
        intro h4 f4 u4
        have J4 : Inv X pins σ1 H1 { s' with heap := h4 } := J.landed nb f4.1 u4 os ag
        obtain ⟨ob, vs, hob, hz, hd⟩ := f4.there
        have out : a ∉ frs (X.env :: X.outer) := fun hm => by
          obtain ⟨_, o2, e2, nf⟩ := f4.2.2.1.mem hm
          rw [hob] at e2
          cases e2
          exact nf _ hd
        have nL : a ≠ X.env.locals := fun z => out (List.mem_filterMap.mpr ⟨X.env, List.mem_cons_self, by rw [hf, z]⟩)
        have nF : a ∉ X.fs := fun hm => by
          obtain ⟨en, hen, qq⟩ := List.mem_filterMap.mp hm
          exact out (List.mem_filterMap.mpr ⟨en, List.mem_cons_of_mem _ hen, qq⟩)
        exact ⟨J4, ob, vs, hz, hd, hob, J4.suite hob hd na nL nF⟩
      obtain ⟨J3, o3, vs3, hz3, hd3, ho3, S3⟩ := land fl3 (up.trans up3)
      have ty : PySem.W.Looks (model X.prog X.w) h3 (typeOf (.ref a)) cls := fun _ _ _ _ kk qq => wpAny_typeOf_ref (kk _ _ ho3) (by rw [hz3.1]; exact qq)
      have tst : ∀ {Q : Value → Shared → Prop} {E : Value → Shared → Prop}, Q c { s' with heap := h3 } → wpAny (model X.prog X.w) (X.A.mark (some (.ref a))) (eval (.Name x p1) X.env) Q E { s' with heap := h3 } := by
        intro Q E hq
        obtain ⟨hg, hdb, hm | ⟨hm, hv, hne⟩⟩ := nm
        · exact ld_glob (X := X.suite a ((a, o3) :: (X.pn ++ pins))) S3 hg hm hq hdb
        · exact ld_blt (X := X.suite a ((a, o3) :: (X.pn ++ pins))) S3 hg hm hv hq hne hdb
      obtain ⟨b, hbm, yes, no⟩ := wi
      refine wpAny_handleBy_cons (codeAny_handlers_test (tst ((PySem.W.exm_one (M := model X.prog X.w) J3.kIn ty hbm).here ?_))) (by intro z; cases z)
      cases b with
      | false =>
        -- not of this clause: it goes on
        refine wpAny_handleBy_nil ?_
        obtain ⟨_, _, _, ox, vx, T, _, _, hox, _, hdx, h1, _⟩ := id fl3
        have away : wpAny (model X.prog X.w) X.A (setFlight (.ref a) X.env.frame) (fun _ s4 => wpAny (model X.prog X.w) X.A (throw (.ref a) : Sem Flow) Post X.xe s4) X.xe { s' with heap := h3 } := by
          rw [hf]
          exact HandSPX.setFlight_upZ fl3 fun h4 f4 u4 => wpAny_throw (tk _ _ ⟨a, B, sI, pins, σ1, H1, cls, d, rfl, J, nb, (up.trans up3).trans u4, .inr (.inr (by rw [hs]; exact f4)), na, os, ag, no rfl⟩)
        unfold PySem.passOn
        refine wpAny_bind (wpAny_field hox hdx h1 ?_)
        rw [if_neg (by simp : ¬ ((Value.ref T == Value.none) = true))]
        first
          | exact wpAny_bind away
          | exact wpAny_bind (wpAny_pure (wpAny_bind away))
      | true =>
        refine codeAny_handlers_suite_as (HandSPX.lands_againZ fl3 fun h4 f4 u4 => ?_)
        obtain ⟨J4, o4, vs4, hz4, hd4, ho4, S4⟩ := land f4 ((up.trans up3).trans u4)
        have yy := yes rfl a na
        refine store_ok (X := X.suite a ((a, o4) :: (X.pn ++ pins))) (v := .ref a) S4 nodup hi (.inl hn) rfl (fun s5 S5 => ?_) (.inr hn)
        refine wpAny_mono ((su a o4 cls d (X.pn ++ pins) hz4 ⟨_, hd4⟩).run [] s5 _ H1 _ S5 yy) (fun f s6 hsp => ?_) (fun _ _ z => z.elim)
        -- the state behind the suite, the error pinned, the clause's name gone
        have keep : ∀ {σ6 : L2.St} {H6 : Hp} {Q : Shared → Prop}, Inv (X.suite a ((a, o4) :: (X.pn ++ pins))) [] σ6 H6 s6 → (∀ s7, Inv (X.tr ((a, o4) :: (X.pn ++ pins)) X.xe) [] (σ6.set i none) H6 s7 → Q s7) →
            wpAny (model X.prog X.w) X.A (do bindName X.env n .none; unbindBehindTheSuite X.env n p2) (fun _ s7 => Q s7) X.xe s6 := fun {σ6 H6 Q} S6 k =>
          gone_ok (X := X.tr ((a, o4) :: (X.pn ++ pins)) X.xe) (pins := []) ⟨ok.toTry _ _, S6.os, S6.bare, S6.base, S6.loc, S6.cell, S6.free, S6.freeC, S6.pin, S6.hok, S6.len⟩ nodup hi hn k
        have drop : ∀ {σ7 : L2.St} {H7 : Hp} {s7 : Shared}, Inv (X.tr ((a, o4) :: (X.pn ++ pins)) X.xe) [] σ7 H7 s7 → Inv X pins σ7 H7 s7 := fun J => ⟨ok, J.os, J.bare, J.base, J.loc, J.cell, J.free, J.freeC, fun p hp => J.pin p (List.mem_append_left _ (List.mem_cons_of_mem _ hp)), J.hok, J.len⟩
        cases f with
        | ret w =>
          obtain ⟨v6, σ6, H6, S6, r6, q6⟩ := hsp
          exact keep S6 fun s7 J7 => ⟨_, _, _, drop J7, r6, q6⟩
        | next =>
          obtain ⟨σ6, H6, S6, q6⟩ := hsp
          refine keep S6 fun s7 J7 => ?_
          refine thn ((hk a o4 cls d (X.pn ++ pins) hz4 ⟨_, hd4⟩).run [] s7 _ H6 D J7 q6) fun f8 s8 q8 => ?_
          cases f8 with
          | ret w =>
            obtain ⟨v8, σ8, H8, J8, r8, q8⟩ := q8
            exact ⟨v8, σ8, H8, drop J8, r8, q8⟩
          | next => obtain ⟨σ8, H8, J8, q8⟩ := q8; exact ⟨σ8, H8, drop J8, q8⟩
          | brk => obtain ⟨σ8, H8, J8, q8⟩ := q8; exact ⟨σ8, H8, drop J8, q8⟩
          | cont => obtain ⟨σ8, H8, J8, q8⟩ := q8; exact ⟨σ8, H8, drop J8, q8⟩
        | brk => obtain ⟨σ6, H6, S6, q6⟩ := hsp; exact keep S6 fun s7 J7 => ⟨_, _, drop J7, q6⟩
        | cont => obtain ⟨σ6, H6, S6, q6⟩ := hsp; exact keep S6 fun s7 J7 => ⟨_, _, drop J7, q6⟩
    · cases f with
      | ret w =>
        obtain ⟨v1, σ1, H1, J1, r1, q1⟩ := hsp
        exact ⟨v1, σ1, H1, J1.ofTry ok, r1, q1⟩
      | next =>
        obtain ⟨σ1, H1, J1, q1⟩ := hsp
        exact wpAny_execs_nil (hr.run pins s1 σ1 H1 D (J1.ofTry ok) q1)
      | brk => obtain ⟨σ1, H1, J1, q1⟩ := hsp; exact ⟨σ1, H1, J1.ofTry ok, q1⟩
      | cont => obtain ⟨σ1, H1, J1, q1⟩ := hsp; exact ⟨σ1, H1, J1.ofTry ok, q1⟩
  refine thn goal fun f s1 q => ?_
  cases f with
  | next => exact q
  | ret w => exact q
  | brk => exact q
  | cont => exact q
end
end Lc
set_option Elab.async false
set_option linter.all false
set_option maxRecDepth 100000
set_option maxHeartbeats 4000000
namespace Lc
open PySem PySem.Spec PyProof.Rows L2 PySem.NumText
/-! ## Digits -/
def digs (m : Nat) : List Nat := (Nat.toDigits 10 m).map Char.toNat
theorem digs_small {m : Nat} (h : m < 10) : digs m = [48 + m] := by
  unfold digs
  rw [Nat.toDigits_of_lt_base h]
  have : ∀ k < 10, (Nat.digitChar k).toNat = 48 + k := by decide
  show [(Nat.digitChar m).toNat] = _
  rw [this m h]
theorem digs_big {m : Nat} (h : 10 ≤ m) : digs m = digs (m / 10) ++ [48 + m % 10] := by
  have hm : m % 10 < 10 := Nat.mod_lt m (by decide)
  have t : Nat.toDigits 10 (m / 10) ++ Nat.toDigits 10 (m % 10) = Nat.toDigits 10 (10 * (m / 10) + m % 10) := Nat.toDigits_append_toDigits (by decide) (by omega) hm
  rw [Nat.div_add_mod] at t
  have e := digs_small hm
  unfold digs at e ⊢
  rw [← t, List.map_append, e]
theorem digs_val (m : Nat) : digitsVal (digs m) = m := W.KIN.val_back m
theorem digs_all : ∀ m, AllDigits (digs m) := by
  intro m
  induction m using Nat.strongRecOn with
  | _ m ih =>
    by_cases h : m < 10
    · rw [digs_small h]
      intro c hc
      have : c = 48 + m := by simpa using hc
      omega
    · rw [digs_big (by omega)]
      intro c hc
      rcases List.mem_append.mp hc with hc | hc
      · exact ih (m / 10) (by omega) c hc
      · have : c = 48 + m % 10 := by simpa using hc
        omega
theorem digs_head : ∀ m, ∃ c r, digs m = c :: r ∧ (c = 48 → r = []) := by
  intro m
  have key : ∀ m, ∃ c r, digs m = c :: r ∧ (0 < m → 49 ≤ c) := by
    intro m
    induction m using Nat.strongRecOn with
    | _ m ih =>
      by_cases h : m < 10
      · exact ⟨48 + m, [], digs_small h, fun _ => by omega⟩
      · obtain ⟨c, r, e, g⟩ := ih (m / 10) (by omega)
        refine ⟨c, r ++ [48 + m % 10], ?_, fun _ => g (by omega)⟩
        rw [digs_big (by omega), e]
        rfl
  by_cases z : m = 0
  · exact ⟨48, [], by rw [z]; exact digs_small (by decide), fun _ => rfl⟩
  · obtain ⟨c, r, e, g⟩ := key m
    exact ⟨c, r, e, fun h => by have := g (by omega); omega⟩
theorem digs_len : ∀ (p m : Nat), 0 < p → m < 10 ^ p → (digs m).length ≤ p := by
  intro p
  induction p with
  | zero => intro m h; omega
  | succ p ih =>
    intro m _ h
    by_cases z : m < 10
    · rw [digs_small z]
      simp
    · rw [digs_big (by omega), List.length_append]
      have hp : 0 < p := by
        cases p with
        | zero => omega
        | succ q => omega
      have : m / 10 < 10 ^ p := by
        rw [Nat.div_lt_iff_lt_mul (by decide)]
        rw [Nat.pow_succ] at h
        exact h
      have := ih (m / 10) hp this
      simp only [List.length_cons, List.length_nil]
      omega
def zf (p r : Nat) : List Nat := List.replicate (p - (digs r).length) 48 ++ digs r
theorem zf_len {p r : Nat} (hp : 0 < p) (h : r < 10 ^ p) : (zf p r).length = p := by
  have := digs_len p r hp h
  unfold zf
  rw [List.length_append, List.length_replicate]
  omega
theorem zf_all (p r : Nat) : AllDigits (zf p r) := by
  intro c hc
  rcases List.mem_append.mp hc with hc | hc
  · have := List.eq_of_mem_replicate hc
    omega
  · exact digs_all r c hc
theorem val_from (l : List Nat) : ∀ a : Nat, l.foldl (fun acc c => acc * 10 + (c - 48)) a = a * 10 ^ l.length + digitsVal l := by
  induction l with
  | nil => intro a; simp [digitsVal]
  | cons c l ih =>
    intro a
    show l.foldl _ (a * 10 + (c - 48)) = _
    have e2 : digitsVal (c :: l) = l.foldl (fun acc c => acc * 10 + (c - 48)) (0 * 10 + (c - 48)) := rfl
    rw [ih, e2, ih, List.length_cons, Nat.pow_succ, Nat.zero_mul, Nat.zero_add, Nat.add_mul, Nat.mul_assoc, Nat.mul_comm 10]
    omega
theorem val_app (a b : List Nat) : digitsVal (a ++ b) = digitsVal a * 10 ^ b.length + digitsVal b := by
  unfold digitsVal
  rw [List.foldl_append]
  exact val_from b _
theorem val_zeros (k : Nat) : digitsVal (List.replicate k 48) = 0 := by
  induction k with
  | zero => rfl
  | succ k ih =>
    rw [List.replicate_succ, digitsVal_zero]
    exact ih
theorem zf_val (p r : Nat) : digitsVal (zf p r) = r := by
  unfold zf
  rw [val_app, val_zeros, digs_val]
  omega
/-! ## A text cut at the point -/
def jl : List (List Nat) → List Nat
  | [] => []
  | [x] => x
  | x :: y :: r => x ++ 46 :: jl (y :: r)
theorem cut_eq : ∀ {a b x y : List Nat}, 46 ∉ a → 46 ∉ b → a ++ 46 :: x = b ++ 46 :: y → a = b ∧ x = y
  | [], [], _, _, _, _, e => ⟨rfl, (List.cons.inj e).2⟩
  | [], c :: b, _, _, _, hb, e => absurd (List.cons.inj e).1 (fun z => hb (by rw [z]; exact List.mem_cons_self))
  | c :: a, [], _, _, ha, _, e => absurd (List.cons.inj e).1.symm (fun z => ha (by rw [z]; exact List.mem_cons_self))
  | c :: a, d :: b, x, y, ha, hb, e => by
    obtain ⟨e1, e2⟩ := List.cons.inj e
    obtain ⟨h1, h2⟩ := cut_eq (fun z => ha (List.mem_cons_of_mem _ z)) (fun z => hb (List.mem_cons_of_mem _ z)) e2
    exact ⟨by rw [e1, h1], h2⟩
theorem jl_one {ps : List (List Nat)} {a : List Nat} (hne : a ≠ []) (ha : 46 ∉ a) (e : jl ps = a) : ps = [a] := by
  match ps, e with
  | [], e => exact absurd e.symm hne
  | [x], e => rw [← show x = a from e]
  | x :: y :: r, e => exact absurd (by rw [← show x ++ 46 :: jl (y :: r) = a from e]; simp) ha
theorem jl_two {ps : List (List Nat)} {a b : List Nat} (hf : ∀ p ∈ ps, 46 ∉ p) (ha : 46 ∉ a) (hb : 46 ∉ b) (hne : b ≠ []) (e : jl ps = a ++ 46 :: b) : ps = [a, b] := by
  match ps, hf, e with
  | [], _, e => exact absurd e (by simp [jl])
  | [x], hf, e => exact absurd (by rw [show x = a ++ 46 :: b from e]; simp) (hf x List.mem_cons_self)
  | x :: y :: r, hf, e =>
    obtain ⟨h1, h2⟩ := cut_eq (hf x List.mem_cons_self) ha (show x ++ 46 :: jl (y :: r) = a ++ 46 :: b from e)
    rw [h1, jl_one hne hb h2]
theorem toL_join : ∀ ps : List Str, (Str.join ⟨#[46]⟩ ps).cps.toList = jl (ps.map fun p => p.cps.toList)
  | [] => rfl
  | [x] => rfl
  | x :: y :: r => by
    have ih := toL_join (y :: r)
    have e : Str.join ⟨#[46]⟩ (x :: y :: r) = x ++ ⟨#[46]⟩ ++ Str.join ⟨#[46]⟩ (y :: r) := rfl
    rw [e]
    show (x.cps ++ #[46] ++ (Str.join ⟨#[46]⟩ (y :: r)).cps).toList = _
    rw [Array.toList_append, Array.toList_append, ih]
    show x.cps.toList ++ [46] ++ jl (y.cps.toList :: r.map fun p => p.cps.toList) = x.cps.toList ++ 46 :: jl (y.cps.toList :: r.map fun p => p.cps.toList)
    rw [List.append_assoc]
    rfl
theorem dot_eq : PySem.Str.ofString "." = ⟨#[46]⟩ := by decide +kernel
theorem map_toL {ps : List Str} {ls : List (List Nat)} (h : ps.map (fun p => p.cps.toList) = ls) : ps = ls.map fun l => (⟨l.toArray⟩ : Str) := by
  rw [← h, List.map_map]
  have : ((fun l => (⟨l.toArray⟩ : Str)) ∘ fun p : Str => p.cps.toList) = id := by
    funext p
    obtain ⟨⟨l⟩⟩ := p
    rfl
  rw [this, List.map_id]
theorem split_jl (x : Str) : jl ((Txt.split x ⟨#[46]⟩).map fun p => p.cps.toList) = x.cps.toList := by
  rw [← toL_join, StrLaws.join_split]
theorem split_one {x : Str} (h : 46 ∉ x.cps.toList) (hne : x.cps.toList ≠ []) : Txt.split x ⟨#[46]⟩ = [x] := by
  have e := map_toL (jl_one hne h (split_jl x))
  rw [e]
  obtain ⟨⟨l⟩⟩ := x
  rfl
theorem split_two {x : Str} {a b : List Nat} (e : x.cps.toList = a ++ 46 :: b) (ha : 46 ∉ a) (hb : 46 ∉ b) (hne : b ≠ []) : Txt.split x ⟨#[46]⟩ = [⟨a.toArray⟩, ⟨b.toArray⟩] := by
  refine map_toL (jl_two (fun p hp => ?_) ha hb hne ((split_jl x).trans e))
  obtain ⟨q, hq, rfl⟩ := List.mem_map.mp hp
  exact StrLaws.split_free x 46 q hq
/-! ## Rounding -/
def ab (n : Int) : Int := if n < 0 then -n else n
def nu (n d s : Int) : Int := if n < 0 then -((2 * ab n * s + d) / (2 * d)) else (2 * ab n * s + d) / (2 * d)
theorem ab_nonneg (n : Int) : 0 ≤ ab n := by unfold ab; split <;> omega
theorem ab_nat (n : Int) : ab n = (n.natAbs : Int) := by unfold ab; split <;> omega
theorem nu_ab {n d s : Int} (hd : 0 < d) (hs : 0 < s) : ab (nu n d s) = (2 * ab n * s + d) / (2 * d) ∧ (nu n d s < 0 → n < 0) := by
  have h0 : 0 ≤ (2 * ab n * s + d) / (2 * d) := Int.ediv_nonneg (by have := Int.mul_nonneg (Int.mul_nonneg (by decide : (0:Int) ≤ 2) (ab_nonneg n)) (Int.le_of_lt hs); omega) (by omega)
  unfold nu
  generalize (2 * ab n * s + d) / (2 * d) = q at h0
  split
  · exact ⟨by unfold ab; split <;> omega, fun _ => by assumption⟩
  · exact ⟨by unfold ab; split <;> omega, fun h => by omega⟩
theorem nu_near {n d s : Int} (hd : 0 < d) (hs : 0 < s) : 2 * (ab (nu n d s) * d) ≤ 2 * (ab n * s) + d ∧ 2 * (ab n * s) < 2 * (ab (nu n d s) * d) + d := by
  rw [(nu_ab hd hs).1]
  have e := Int.mul_ediv_add_emod (2 * ab n * s + d) (2 * d)
  have r0 := Int.emod_nonneg (2 * ab n * s + d) (by omega : 2 * d ≠ 0)
  have r1 := Int.emod_lt_of_pos (2 * ab n * s + d) (by omega : 0 < 2 * d)
  generalize (2 * ab n * s + d) / (2 * d) = q at e
  generalize (2 * ab n * s + d) % (2 * d) = r at e r0 r1
  rw [Int.mul_assoc 2 d q, Int.mul_comm d q, Int.mul_assoc 2 (ab n) s] at e
  omega
/-- the same units again -/
theorem nu_again {u s a b : Int} (hs : 0 < s) (hb : 0 < b) (h : a * s = u * b) (hsg : (a < 0) ↔ (u < 0)) : nu a b s = u := by
  have e1 : ab a * s = ab u * b := by
    unfold ab
    by_cases z : a < 0
    · rw [if_pos z, if_pos (hsg.mp z), Int.neg_mul, Int.neg_mul, h]
    · rw [if_neg z, if_neg (fun q => z (hsg.mpr q)), h]
  have e2 : (2 * ab a * s + b) / (2 * b) = ab u := by
    have : 2 * ab a * s + b = b + 2 * b * ab u := by
      rw [Int.mul_assoc, e1, Int.mul_comm (ab u) b, ← Int.mul_assoc]
      omega
    rw [this, Int.add_mul_ediv_left _ _ (by omega : 2 * b ≠ 0), Int.ediv_eq_zero_of_lt (by omega) (by omega)]
    omega
  unfold nu
  rw [e2]
  unfold ab
  by_cases z : a < 0
  · rw [if_pos z, if_pos (hsg.mp z)]
    omega
  · rw [if_neg z, if_neg (fun q => z (hsg.mpr q))]
/-! ## What a decimal looks like -/
def tenP (p : Nat) : Nat := 10 ^ p
def decB (u : Int) (p : Nat) : List Nat := digs (u.natAbs / 10 ^ p) ++ (if p = 0 then [] else 46 :: zf p (u.natAbs % 10 ^ p))
def decL (u : Int) (p : Nat) : List Nat := (if u < 0 then [45] else []) ++ decB u p
end Lc
namespace Lc
open PySem PySem.Spec PyProof.Rows L2 PySem.NumText
theorem appL (x y : Str) : (x ++ y).cps.toList = x.cps.toList ++ y.cps.toList := by
  show (x.cps ++ y.cps).toList = _
  simp
theorem numL (m : Nat) : (PySem.Str.ofString (toString ((m : Nat) : Int))).cps.toList = digs m := W.KIN.signs_num m
theorem zfillL {a : Str} {k r : Nat} (h : a.cps.toList = digs r) : (Txt.zfill a (k : Int)).cps.toList = zf k r := by
  have ln : a.length = (digs r).length := by rw [lenL, h]
  unfold Txt.zfill
  by_cases z : (k : Int) ≤ a.length
  · rw [if_pos z, h]
    unfold zf
    rw [show k - (digs r).length = 0 by omega]
    rfl
  · rw [if_neg z]
    obtain ⟨c, rr, e, _⟩ := digs_head r
    have c0 : a.cps[0]? = some c := by
      rw [← Array.getElem?_toList, h, e]
      rfl
    have cd := digs_all r c (by rw [e]; exact List.mem_cons_self)
    have e2 : zfilled a ((k : Int).toNat - a.length) = Builtin.Str.padded a ((k : Int).toNat - a.length) 0 48 := by
      unfold zfilled
      rw [c0]
      split
      · rename_i q
        injection q with q
        omega
      · rename_i q
        injection q with q
        omega
      · rfl
    rw [e2]
    unfold Builtin.Str.padded zf
    show (Array.replicate ((k : Int).toNat - a.length) 48 ++ a.cps ++ Array.replicate 0 48).toList = _
    rw [Array.toList_append, Array.toList_append, Array.toList_replicate, Array.toList_replicate, h, ln]
    simp
theorem nu_le {n d s : Int} (hd : 0 < d) (hs : 0 < s) : ab (nu n d s) ≤ ab n * s := by
  have h := (nu_near (n := n) hd hs).1
  have N0 : 0 ≤ ab n * s := Int.mul_nonneg (ab_nonneg n) (Int.le_of_lt hs)
  generalize ab n * s = N at h N0
  generalize ab (nu n d s) = U at h
  rcases (by omega : N < U ∨ U ≤ N) with z | z
  · have a1 : (N + 1) * d ≤ U * d := Int.mul_le_mul_of_nonneg_right (by omega) (by omega)
    have a2 : N * 1 ≤ N * d := Int.mul_le_mul_of_nonneg_left (by omega) N0
    rw [Int.add_mul, Int.one_mul] at a1
    omega
  · exact z
inductive Pk (H : Hp) : V → Prop
  | ty {v : V} {t : String} (h : TyN H v t) (n : t ≠ "int") : Pk H v
  | out {k : Int} (h : k < 0 ∨ 9 < k) : Pk H (.int k)
theorem Pk.same {H H' : Hp} {v : V} (h : Pk H v) (s : Same H H') : Pk H' v := by
  cases h with
  | ty h n => exact .ty (h.same s) n
  | out h => exact .out h
theorem pad9 {k : Nat} (h : k ≤ 9) : PadOk (k : Int) = true := by
  have : ∀ k ≤ 9, PadOk ((k : Nat) : Int) = true := by decide +kernel
  exact this k h
theorem ten_pos (k : Nat) : (0 : Int) < 10 ^ k := Int.pow_pos (by decide)
theorem ten_small {k : Nat} (h : k ≤ 9) : ((10 : Int) ^ k).natAbs < 2 ^ 40 := by
  have : ∀ k ≤ 9, ((10 : Int) ^ k).natAbs < 2 ^ 40 := by decide +kernel
  exact this k h
end Lc
namespace Lc
open PySem PySem.Spec PyProof.Rows L2 PySem.NumText
theorem cut_first (x : Str) : (cutS x none (some 1)).cps.toList = x.cps.toList.take 1 := by
  have e : HT.sIx x.length 0 none = 0 := rfl
  have e2 : HT.sIx x.length x.length (some 1) = min 1 x.length := rfl
  unfold cutS
  rw [e, e2]
  show (x.cps.toList.drop 0).take (min 1 x.length - 0) = _
  rw [List.drop_zero, Nat.sub_zero, lenL]
  cases x.cps.toList with
  | nil => rfl
  | cons c r => simp
theorem cut_rest (x : Str) : (cutS x (some 1) none).cps.toList = x.cps.toList.drop 1 := by
  have e : HT.sIx x.length 0 (some 1) = min 1 x.length := rfl
  have e2 : HT.sIx x.length x.length none = x.length := rfl
  unfold cutS
  rw [e, e2]
  show (x.cps.toList.drop (min 1 x.length)).take (x.length - min 1 x.length) = _
  rw [lenL]
  cases x.cps.toList with
  | nil => rfl
  | cons c r => simp
theorem str_ext {x y : Str} (h : x.cps.toList = y.cps.toList) : x = y := by
  obtain ⟨⟨l⟩⟩ := x
  obtain ⟨⟨m⟩⟩ := y
  have : l = m := h
  rw [this]
theorem dec_head (u : Int) (k : Nat) : ∃ c r, decB u k = c :: r ∧ 48 ≤ c ∧ c ≤ 57 := by
  obtain ⟨c, r, e, _⟩ := digs_head (u.natAbs / 10 ^ k)
  have h := digs_all (u.natAbs / 10 ^ k) c (by rw [e]; exact List.mem_cons_self)
  exact ⟨c, _, by unfold decB; rw [e]; rfl, h.1, h.2⟩
theorem minus_is {x : Str} {u : Int} {k : Nat} (h : x.cps.toList = decL u k) : decide (V.str (cutS x none (some 1)) = V.str "-") = decide (u < 0) := by
  rw [Bool.eq_iff_iff, decide_eq_true_iff, decide_eq_true_iff]
  have e45 : (PySem.Str.ofString "-").cps.toList = [45] := by decide +kernel
  constructor
  · intro q
    injection q with q
    have z := cut_first x
    rw [q, h, e45] at z
    rcases (by omega : u < 0 ∨ ¬ u < 0) with g | g
    · exact g
    · obtain ⟨c, r, e, h1, h2⟩ := dec_head u k
      unfold decL at z
      rw [if_neg g, e] at z
      have : (45 : Nat) = c := by simpa using z
      omega
  · intro q
    have : cutS x none (some 1) = PySem.Str.ofString "-" := by
      apply str_ext
      rw [cut_first, h, e45]
      unfold decL
      rw [if_pos q]
      rfl
    rw [this]
theorem below_is {x : Str} {u : Int} {k : Nat} (h : x.cps.toList = decL u k) (n : u < 0) : (cutS x (some 1) none).cps.toList = decB u k := by
  rw [cut_rest, h]
  unfold decL
  rw [if_pos n]
  rfl
theorem digs_len_le {m : Nat} (h : m < 2 ^ 1100) : (digs m).length ≤ 1921 := by
  rw [← numL, ← lenL]
  refine int_text_len_1921 ?_
  rw [Int.natAbs_natCast]
  by_cases z : m = 0
  · rw [z]
    decide
  · exact Nat.lt_of_lt_of_le ((Nat.log2_lt z).mpr h) (by decide)
theorem decL_len {u : Int} {k : Nat} (h : u.natAbs < 2 ^ 1100) (k9 : k ≤ 9) : (decL u k).length ≤ 1940 ∧ (decB u k).length ≤ 1939 := by
  have h1 := digs_len_le (Nat.lt_of_le_of_lt (Nat.div_le_self u.natAbs (10 ^ k)) h)
  have h2 : (decB u k).length ≤ 1939 := by
    unfold decB
    rw [List.length_append]
    split
    · simp; omega
    · have := zf_len (p := k) (r := u.natAbs % 10 ^ k) (by omega) (Nat.mod_lt _ (Nat.pow_pos (by decide)))
      rw [List.length_cons, this]
      omega
  refine ⟨?_, h2⟩
  unfold decL
  rw [List.length_append]
  split
  · simp only [List.length_cons, List.length_nil]; omega
  · simp only [List.length_nil]; omega
theorem joinL_toL (ys : List Str) : (Txt.join (PySem.Str.ofString "") ys).cps.toList = (ys.map fun y => y.cps.toList).flatten := by
  have e : Txt.join (PySem.Str.ofString "") ys = Str.join Str.empty ys := (StrLaws.glued_eq_join (PySem.Str.ofString "") ys).trans rfl
  rw [e]
  have key : ∀ ys : List Str, (Str.join Str.empty ys).cps.toList = (ys.map fun y => y.cps.toList).flatten := by
    intro ys
    induction ys with
    | nil => rfl
    | cons x r ih =>
      cases r with
      | nil =>
        show x.cps.toList = _
        simp
      | cons y r =>
        have e : Str.join Str.empty (x :: y :: r) = x ++ Str.empty ++ Str.join Str.empty (y :: r) := rfl
        rw [e, appL, appL, ih]
        simp [Str.empty]
  exact key ys
def ten10 : Str := "0123456789"
theorem index_ten {c : Nat} (h : 48 ≤ c ∧ c ≤ 57) : Builtin.Str.occurrences ten10 ⟨#[c]⟩ 0 ten10.length 1 = [c - 48] := by
  have key : ∀ d < 10, Builtin.Str.occurrences ten10 ⟨#[48 + d]⟩ 0 ten10.length 1 = [d] := by decide +kernel
  have := key (c - 48) (by omega)
  rw [show 48 + (c - 48) = c by omega] at this
  exact this
theorem in_ten {c : Nat} (h : 48 ≤ c ∧ c ≤ 57) : decide (c ∈ ten10.cps.toList) = true := by
  have key : ∀ d < 10, decide (48 + d ∈ ten10.cps.toList) = true := by decide +kernel
  have := key (c - 48) (by omega)
  rw [show 48 + (c - 48) = c by omega] at this
  exact this
end Lc
set_option Elab.async false
set_option linter.all false
set_option maxRecDepth 100000
set_option maxHeartbeats 4000000
namespace Lc
open PySem PySem.Spec PyProof.Rows L2
/-! ## repr of deep data that may hold empty dicts -/
section
variable {X : Cx} {pins : List (Addr × Obj)} {σ : L2.St} {H : Hp} {s : Shared}
mutual
theorem Dh.reads (I : Inv X pins σ H s) (sm : H sysModules = none) : ∀ (d : PyData) (v : V) (u : Value), Dh H v d → RelV v u → ∃ as, Reads s.heap u d as ∧ sysModules ∉ as
  | .none, _, _, h, r => by
    cases h
    cases r
    exact ⟨_, Reads.none, List.not_mem_nil⟩
  | .bool b, _, _, h, r => by
    cases h
    cases r
    exact ⟨_, Reads.bool b, List.not_mem_nil⟩
  | .int i, _, _, h, r => by
    cases h
    obtain ⟨t, rfl⟩ := r
    exact ⟨_, Reads.int i t, List.not_mem_nil⟩
  | .str x, _, _, h, r => by
    cases h
    obtain ⟨t, rfl⟩ := r
    exact ⟨_, Reads.str x t, List.not_mem_nil⟩
  | .list ds, _, _, h, r => by
    cases h with
    | @lst a xs _ e ha =>
      cases r
      obtain ⟨its, rv, ⟨o, n, ho, hc, _, hd⟩, _⟩ := I.list (SqL.of e)
      obtain ⟨as, hr, hn⟩ := Dh.readsAll I sm ds _ its ha rv
      refine ⟨_, Reads.list ho hc hd hr, fun hm => ?_⟩
      rcases List.mem_cons.mp hm with q | q
      · rw [q, e] at sm; cases sm
      · exact hn q
  | .tuple ds, _, _, h, r => by
    cases h with
    | @tup a xs _ e ha =>
      cases r
      obtain ⟨its, rv, ⟨o, ho, hc, n, hd⟩, _⟩ := I.tuple (SqT.of e)
      obtain ⟨as, hr, hn⟩ := Dh.readsAll I sm ds _ its ha rv
      exact ⟨_, Reads.tuple ho hc hd hr, hn⟩
  | .dict kv, _, u, h, r => by
    cases h with
    | @dct a e =>
      obtain rfl : u = Value.ref a := r
      obtain ⟨_, ns, vs, kv, o, es, ep, h1, h2, h3, h4⟩ := (show ObjOk X.prog X.w H s.heap a (.dK []) from I.hok a _ e)
      cases kv
      have es0 : es.toList = [] := by
        obtain ⟨_, hp, _⟩ := h4
        generalize es.toList = l at hp
        cases hp
        rfl
      have rd : Reads s.heap (.ref a) (.dict []) (a :: [] ++ []) := Reads.dict h1 h2.1 h3 (by rw [es0]; exact .nil) (by rw [es0]; exact .nil)
      refine ⟨_, rd, fun hm => ?_⟩
      have : sysModules = a := by simpa using hm
      rw [this, e] at sm
      cases sm
theorem Dh.readsAll (I : Inv X pins σ H s) (sm : H sysModules = none) : ∀ (ds : List PyData) (vs : List V) (us : List Value), DhAll H vs ds → Vals vs us → ∃ as, ReadsAll s.heap us ds as ∧ sysModules ∉ as
  | [], _, _, h, r => by
    cases h
    cases r
    exact ⟨_, ReadsAll.nil, List.not_mem_nil⟩
  | d :: ds, _, _, h, r => by
    cases h with
    | cons h1 h2 =>
      cases r with
      | cons r1 r2 =>
        obtain ⟨as, q1, n1⟩ := Dh.reads I sm d _ _ h1 r1
        obtain ⟨bs, q2, n2⟩ := Dh.readsAll I sm ds _ _ h2 r2
        exact ⟨_, ReadsAll.cons q1 q2, fun hm => (List.mem_append.mp hm).elim n1 n2⟩
end
end
def rReprF : List V → Hp → VK → Prop := fun xs H Q => ∃ (v : V) (d : PyData), xs = [v] ∧ Dh H v d ∧ d.showable = true ∧ d.depth ≤ 60 ∧ d.shown.length ≤ sizeLine ∧ Q (.str d.shown) H
def SmK (K : PySem.W.Frag) : Prop := ∃ o, K.lookup sysModules = some o
theorem call_reprF {X : Cx} (sm : SmK X.K) (hg : X.A.guards = some []) (hu : X.A.units + 64 < cLine) : CallR X (.builtin "repr") rReprF := by
  intro pins s σ H xs us Q I r h
  obtain ⟨v, d, rfl, hd, h1, h3, h4, q⟩ := h
  obtain ⟨u, rfl, ru⟩ := vals1 r
  obtain ⟨o, sm⟩ := sm
  have sm1 : H sysModules = none := (I.bs _ _ (I.ok.mod.kin _ _ sm)).2
  obtain ⟨as, rd, ns⟩ := Dh.reads I sm1 d _ _ hd ru
  cases hd with
  | non =>
    obtain rfl : u = Value.none := ru
    exact P.repr_of_none ⟨.str _, H, I.tok _, ⟨_, rfl⟩, q⟩
  | bl b =>
    obtain rfl : u = Value.bool b := ru
    exact P.repr_of_bool ⟨.str _, H, I.tok _, ⟨_, rfl⟩, q⟩
  | int i =>
    obtain ⟨t, rfl⟩ := (show ∃ t, u = Value.int i t from ru)
    exact P.repr_of_int (of_decide_eq_true (by simpa [PyData.showable] using h1)) ⟨.str _, H, I.tok _, ⟨_, rfl⟩, q⟩
  | str x =>
    obtain ⟨t, rfl⟩ := (show ∃ t, u = Value.str x t from ru)
    exact P.repr_of_str ⟨.str _, H, I.tok _, ⟨_, rfl⟩, q⟩ h4
  | @lst a xs ds e1 e2 =>
    obtain rfl : u = Value.ref a := ru
    exact repr_of_reads' rd h1 (fun _ => ns) hg (by omega) (fun _ _ e => e) (fun h' u tk hk => ⟨.str _, H, I.kept (t' := tk) hk, ⟨u, rfl⟩, q⟩) h4
  | @tup a xs ds e1 e2 =>
    obtain rfl : u = Value.ref a := ru
    exact repr_of_reads' rd h1 (fun _ => ns) hg (by omega) (fun _ _ e => e) (fun h' u tk hk => ⟨.str _, H, I.kept (t' := tk) hk, ⟨u, rfl⟩, q⟩) h4
  | @dct a e =>
    obtain rfl : u = Value.ref a := ru
    exact repr_of_reads' rd h1 (fun _ => ns) hg (by omega) (fun _ _ e => e) (fun h' u tk hk => ⟨.str _, H, I.kept (t' := tk) hk, ⟨u, rfl⟩, q⟩) h4
end Lc
set_option Elab.async false
set_option linter.all false
set_option maxRecDepth 100000
set_option maxHeartbeats 4000000
namespace K09
open PySem PySem.Spec PyProof.Rows L2 Lc
def top (i : Nat) : Stmt := PySem.Challenge.pw_liveclaims_k09_invalid_expressions.main.body.getD i (.Pass ⟨0, 0, 0, 0⟩)
/-! ## is_whole, common_divisor, is_rational -/
abbrev sWhole : Stmt := top 3
abbrev sCd : Stmt := top 4
abbrev sIsR : Stmt := top 5
def spWhole : Sp := fun vs H Q _ => ∃ (v : V) (t : String), vs = [v] ∧ TyN H v t ∧ Q (.bl (t == "int")) H
def spCd : Sp := fun vs H Q _ => ∃ a b : Int, vs = [.int a, .int b] ∧ 0 ≤ a ∧ 0 ≤ b ∧ Q (.int (gd a b)) H
def spIsR : Sp := fun vs H Q _ => ∃ (v : V) (b : Bool), vs = [v] ∧ Rk H v b ∧ Q (.bl b) H
section
variable {P : Program} {w : World} {K : PySem.W.Frag} {mg : Str → Option Value} {base : Heap} {f C : Addr} {fd : FuncData}
theorem scWhole : FnScope ["value"] ["value"] (defScope sWhole) := ⟨rfl, rfl, rfl, by decide +kernel, rfl, by decide +kernel, by decide +kernel⟩
theorem ok_whole (F : Fun K "is_whole" "is_whole" sWhole f fd) (T : Bt mg) : FnOk P w K mg base CX0 1 f fd ["value"] spWhole := by
  refine F.ok scWhole (fun vs H Q E h => ?_) (fun cdv A outer s H vs Q E hr h => ?_)
  · obtain ⟨v, t, rfl, _⟩ := h
    rfl
  · obtain ⟨v, t, rfl, ty, k⟩ := h
    refine ⟨_, pss_one (ps_ret (pe_and (pe_callB call_isi (by rfl) T.isi boot_isinstance (pa_cons (pv 0) (pa_cons (pe_bltn (v := .ty "int") (by rfl) T.int boot_int rfl) pa_nil)))
      (pe_one (pe_not (pe_callB call_isi (by rfl) T.isi boot_isinstance (pa_cons (pv 0) (pa_cons (pe_bltn (v := .ty "bool") (by rfl) T.bool boot_bool rfl) pa_nil))))))), ?_⟩
    refine ⟨_, rfl, v, .ty "int", _, _, _, rfl, .ty "int", ty.x, kit_int ty.mem, _, rfl, ?_⟩
    refine ite2 (fun hi => ?_) (fun hi => ?_)
    · refine ⟨_, rfl, v, .ty "bool", _, _, _, rfl, .ty "bool", ty.x, kit_bool ty.mem, _, rfl, ?_⟩
      have e : (!(t == "bool")) = (t == "int") := by cases ty <;> first | rfl | exact absurd hi (by decide)
      show Q (.bl (!(t == "bool"))) H
      rw [e]
      exact k
    · have e : false = (t == "int") := by cases ty <;> first | rfl | exact absurd rfl hi
      show Q (.bl false) H
      rw [e]
      exact k
theorem scCd : FnScope ["a", "b"] ["a", "b"] (defScope sCd) := ⟨rfl, rfl, rfl, by decide +kernel, rfl, by decide +kernel, by decide +kernel⟩
theorem ok_cd (F : Fun K "common_divisor" "common_divisor" sCd f fd) : FnOk P w K mg base CX0 1 f fd ["a", "b"] spCd := by
  refine F.ok scCd (fun vs H Q E h => ?_) (fun cdv A outer s H vs Q E hr h => ?_)
  · obtain ⟨a, b, rfl, _⟩ := h
    rfl
  · obtain ⟨a, b, rfl, ha, hb, k⟩ := h
    refine ⟨_, pss_cons (ps_while PassesOwn.never (pt_cmpR op_ne (pv 1) pe_int (nomark _)) (pss_one (ps_par (i := 0) (j := 1) (by rfl) scCd.nd rfl rfl (by decide) rfl rfl (pa_cons (pv 1) (pa_cons (pe_op op_mod (pv 0) (pv 1)) pa_nil)) (by rfl))))
      (pss_one (ps_ret (pv 0))), ?_⟩
    refine ⟨fun m σ H' => ∃ a' b' : Int, σ = [some (.int a'), some (.int b')] ∧ 0 ≤ a' ∧ 0 ≤ b' ∧ b'.toNat = m ∧ gd a' b' = gd a b ∧ H' = H, ⟨_, a, b, rfl, ha, hb, rfl, rfl, rfl⟩, ?_⟩
    rintro m σ H' ⟨a', b', rfl, ha', hb', rfl, e, rfl⟩
    refine ⟨_, rfl, rfl, _, rfl, ?_⟩
    rw [show (decide (V.int b' = V.int 0)) = decide (b' = 0) from dec_int.trans (by rw [Bool.eq_iff_iff]; simp)]
    by_cases z : b' = 0
    · rw [decide_eq_true z]
      refine iteF ⟨_, rfl, ?_⟩
      rw [← e, z, gd_zero ha'] at k
      exact k
    · rw [decide_eq_false z]
      have pb : 0 < b' := by omega
      refine iteT ⟨fun σ' H'' => ∃ a2 b2 : Int, σ' = [some (.int a2), some (.int b2)] ∧ 0 ≤ a2 ∧ 0 ≤ b2 ∧ b2.toNat < b'.toNat ∧ gd a2 b2 = gd a b ∧ H'' = H', ?_, ?_⟩
      · rintro σ' H'' ⟨a2, b2, h1, h2, h3, h4, h5, h6⟩
        exact ⟨_, h4, a2, b2, h1, h2, h3, rfl, h5, h6⟩
      · refine ⟨_, rfl, _, rfl, _, rfl, _, _, rfl, rfl, pb, _, _, rfl, b', a' % b', rfl, hb', Int.emod_nonneg _ (by omega), ?_, ?_, rfl⟩
        · have := Int.emod_lt_of_pos a' pb
          have := Int.emod_nonneg a' (by omega : b' ≠ 0)
          omega
        · rw [gd_step ha' pb]
          exact e
theorem scIsR : FnScope ["value", "n", "d"] ["value"] (defScope sIsR) := ⟨rfl, rfl, rfl, by decide +kernel, rfl, by decide +kernel, by decide +kernel⟩
theorem ok_isr {fW fC : Addr} {fdW fdC : FuncData} (F : Fun K "is_rational" "is_rational" sIsR f fd) (T : Bt mg) (GW : FnOk P w K mg base CX0 1 fW fdW ["value"] spWhole) (mW : mg "is_whole" = some (.ref fW)) (kW : PySem.W.keepIn K (.ref fW) = true) (bW : Binds K fdW ["value"] [])
    (GC : FnOk P w K mg base CX0 1 fC fdC ["a", "b"] spCd) (mC : mg "common_divisor" = some (.ref fC)) (kC : PySem.W.keepIn K (.ref fC) = true) (bC : Binds K fdC ["a", "b"] []) : FnOk P w K mg base CX0 2 f fd ["value"] spIsR := by
  refine F.ok scIsR (fun vs H Q E h => ?_) (fun cdv A outer s H vs Q E hr h => ?_)
  · obtain ⟨v, b, rfl, _⟩ := h
    rfl
  · obtain ⟨v, b, rfl, hk, k⟩ := h
    refine ⟨_, pss_cons (ps_if (PW.pt (pw_or (pt_not (pt_val (pe_callB call_isi (by rfl) T.isi boot_isinstance (pa_cons (pv 0) (pa_cons (pe_bltn (v := .ty "tuple") (by rfl) T.tuple boot_tuple rfl) pa_nil)))))
        (pw_or1 (pt_cmpR op_ne (pe_callB call_len_seq (by rfl) T.len PySem.boot_len (pa_cons (pv 0) pa_nil)) pe_int (nomark _))))) (pss_one (ps_ret pe_bl)) pss_nil)
      (pss_cons (ps_asg (pv 0) (pg_tup rfl (pgs_cons (pg_name (i := 1) scIsR.nd rfl (.inl rfl)) (pgs_cons (pg_name (i := 2) scIsR.nd rfl (.inl rfl)) pgs_nil))))
      (pss_cons (ps_if (PW.pt (pw_or (pt_not (pt_val (pe_call GW hr (by rfl) mW kW bW .nil pass0 (pa_cons (pv 1) pa_nil)))) (pw_or (pt_not (pt_val (pe_call GW hr (by rfl) mW kW bW .nil pass0 (pa_cons (pv 2) pa_nil))))
        (pw_or1 (pt_cmpR op_lt (pv 2) pe_int (nomark _)))))) (pss_one (ps_ret pe_bl)) pss_nil)
      (pss_one (ps_ret (pe_cmpR op_eq (pe_call GC hr (by rfl) mC kC bC .nil pass0 (pa_cons (pe_callB call_abs (by rfl) T.abs boot_abs (pa_cons (pv 1) pa_nil)) (pa_cons (pv 2) pa_nil))) pe_int (nomark _)))))), ?_⟩
    cases hk with
    | @other _ t ty n =>
      refine ⟨_, rfl, v, .ty "tuple", _, _, _, rfl, .ty "tuple", ty.x, kit_tuple ty.mem, _, rfl, ?_⟩
      have e : (t == "tuple") = false := by simpa using n
      rw [e]
      exact iteT (iteT k)
    | @len a xs e n =>
      refine ⟨_, rfl, .ref a, .ty "tuple", _, _, _, rfl, .ty "tuple", (TyN.tup e).x, kit_tuple (by decide), _, rfl, ?_⟩
      refine iteF ⟨_, rfl, a, xs, rfl, .inr (SqT.of e), rfl, _, rfl, ?_⟩
      have z : decide (V.int (xs.length : Int) = V.int 2) = false := decide_eq_false (fun q => n (by injection q with q; omega))
      rw [z]
      exact iteT k
    | @pair a x y tx ty e hx hy =>
      refine ⟨_, rfl, .ref a, .ty "tuple", _, _, _, rfl, .ty "tuple", (TyN.tup e).x, kit_tuple (by decide), _, rfl, ?_⟩
      refine iteF ⟨_, rfl, a, _, rfl, .inr (SqT.of e), rfl, _, rfl, ?_⟩
      refine iteF ?_
      refine ⟨_, rfl, a, _, rfl, SqT.of e, rfl, _, _, rfl, _, _, rfl, rfl, ?_⟩
      refine ⟨_, rfl, x, tx, rfl, hx, _, rfl, ?_⟩
      by_cases ix : tx = "int"
      · obtain ⟨n, rfl⟩ := hx.isInt ix
        subst ix
        · refine iteF ⟨_, rfl, y, ty, rfl, hy, _, rfl, ?_⟩
          by_cases iy : ty = "int"
          · obtain ⟨d, rfl⟩ := hy.isInt iy
            subst iy
            · refine iteF ⟨_, rfl, _, _, rfl, rfl, _, rfl, ?_⟩
              by_cases hd : d < 1
              · rw [decide_eq_true hd]
                have z : ratB (.int n) (.int d) = false := by
                  show (decide (0 < d) && _) = false
                  rw [decide_eq_false (by omega : ¬ 0 < d)]
                  rfl
                rw [z] at k
                exact iteT k
              · rw [decide_eq_false hd]
                refine iteF ?_
                refine ⟨_, rfl, n, rfl, _, rfl, _, d, rfl, by split <;> omega, by omega, rfl, ?_⟩
                have z : ratB (.int n) (.int d) = decide (V.int (gd (if n < 0 then -n else n) d) = V.int 1) := by
                  show (decide (0 < d) && decide (gd n d = 1)) = _
                  rw [decide_eq_true (by omega : 0 < d), gd_abs]
                  rw [Bool.eq_iff_iff]
                  simp
                rw [z] at k
                exact k
          · have z : (ty == "int") = false := by simpa using iy
            have z2 : ratB (.int n) y = false := by
              cases hy <;> first | rfl | exact absurd rfl iy
            rw [z2] at k
            rw [z]
            exact iteT (iteT k)
      · have z : (tx == "int") = false := by simpa using ix
        have z2 : ratB x y = false := by
          cases hx <;> first | rfl | exact absurd rfl ix
        rw [z2] at k
        rw [z]
        exact iteT (iteT k)
end
abbrev sTape : Stmt := top 28
section
variable {P : Program} {w : World} {K : PySem.W.Frag} {mg : Str → Option Value} {base : Heap} {f : Addr} {fd : FuncData}
theorem scTape : FnScope ["_law_script"] ["_law_script"] (defScope sTape) := ⟨rfl, rfl, rfl, by decide +kernel, rfl, by decide +kernel, by decide +kernel⟩
theorem ok_tape (F : Fun K "_law_tape" "_law_tape" sTape f fd) (T : Bt mg) : FnOk P w K mg base CX0 1 f fd ["_law_script"] (spTape K) := by
  refine F.ok scTape (fun vs H Q E h => ?_) (fun cdv A outer s H vs Q E hr h => ?_)
  · obtain ⟨a, ns, rfl, _⟩ := h
    rfl
  · obtain ⟨a, ns, rfl, hS, k⟩ := h
    refine ⟨_, pss_one (ps_ret (pe_lst (pa_cons (pe_callTy call_list_of (by rfl) T.list boot_list (pa_cons (pe_slice sl_list (pv 0) po_none (po_some pe_int)) pa_nil)) (pa_cons pe_int (pa_cons pe_int (pa_cons pe_int pa_nil)))))), ?_⟩
    obtain ⟨ms, e⟩ := cut_ints ns none (some 63)
    refine ⟨_, rfl, _, rfl, a, _, rfl, hS, fun p hp => ⟨p, _, rfl, .inl (SqL.of upd_same), fun l hl => ⟨by show 4 ≤ sizeLine; decide, fun t ht => ?_⟩⟩⟩
    have s1 : Same H (upd H p (.lst (cutV (ns.map V.int) none (some 63)))) := Same.upd hp
    have s2 := Same.upd (o := .lst (cutV (ns.map V.int) none (some 63))) hl
    have s3 := Same.upd (o := .lst [.ref l, .int 0, .int 0, .int 17]) ht
    refine k t _ ((s1.trans s2).trans s3) ((s1.trans s2).free ht) ⟨l, ms, 0, 0, 17, upd_same, ?_, by decide, by decide, by decide, by decide⟩
    rw [← e]
    exact s3 _ _ upd_same
end
abbrev sDraw : Stmt := top 29
section
variable {P : Program} {w : World} {K : PySem.W.Frag} {mg : Str → Option Value} {base : Heap} {f : Addr} {fd : FuncData}
theorem scDraw : FnScope ["_law_tape_here", "_law_many", "_law_digit", "_law_cell", "_law_mixed"] ["_law_tape_here", "_law_many"] (defScope sDraw) := ⟨rfl, rfl, rfl, by decide +kernel, rfl, by decide +kernel, by decide +kernel⟩
theorem ok_draw (F : Fun K "_law_draw" "_law_draw" sDraw f fd) (T : Bt mg) : FnOk P w K mg base CX0 1 f fd ["_law_tape_here", "_law_many"] spDrawL := by
  refine F.ok scDraw (fun vs H Q E h => ?_) (fun cdv A outer s H vs Q E hr h => ?_)
  · obtain ⟨t, l, m, rfl, _⟩ := h
    rfl
  · obtain ⟨t, l, m, rfl, ⟨ns, pos, rest, mix, ht, hl, p0, r0, m0, m1⟩, hm, hm2, k⟩ := h
    refine ⟨_, pss_cons (ps_if (pt_cmpR op_gt (pe_ix ix_list (pv 0) pe_int (fun _ _ => rfl)) pe_int (nomark _))
        (pss_cons (ps_set (i := 2) scDraw.nd rfl (Or.inl rfl) (pe_op op_mod (pe_ix ix_list (pv 0) pe_int (fun _ _ => rfl)) (pv 1)))
        (pss_cons (ps_asg (pe_op op_fdivW (pe_ix ix_list (pv 0) pe_int (fun _ _ => rfl)) (pv 1)) (pg_sub (pv 0) pe_int set_list)) (pss_one (ps_ret (pv 2))))) pss_nil)
      (pss_cons (ps_set (i := 3) scDraw.nd rfl (Or.inl rfl) pe_int)
      (Evl.pss_cut (ps_if (pt_cmpR op_lt (pe_ix ix_list (pv 0) pe_int (fun _ _ => rfl)) (pe_callB call_len_seq (by rfl) T.len PySem.boot_len (pa_cons (pe_ix ix_list (pv 0) pe_int (fun _ _ => rfl)) pa_nil)) (nomark _))
        (pss_one (ps_set (i := 3) scDraw.nd rfl (Or.inl rfl) (pe_ix ix_list (pe_ix ix_list (pv 0) pe_int (fun _ _ => rfl)) (pe_ix ix_list (pv 0) pe_int (fun _ _ => rfl)) (fun _ _ => rfl)))) pss_nil)
      (pss_cons (ps_asg (pe_op op_add (pe_ix ix_list (pv 0) pe_int (fun _ _ => rfl)) pe_int) (pg_sub (pv 0) pe_int set_list))
      (pss_cons (ps_if (pt_cmpR op_ge (pv 3) (pe_op op_pow pe_int pe_int) (nomark _))
        (pss_cons (ps_asg (pe_op op_fdivW (pv 3) (pv 1)) (pg_sub (pv 0) pe_int set_list)) (pss_one (ps_ret (pe_op op_mod (pv 3) (pv 1))))) pss_nil)
      (pss_cons (ps_set (i := 4) scDraw.nd rfl (Or.inl rfl) (pe_op op_add (pe_op op_add (pe_op op_add (pe_op op_mul (pe_ix ix_list (pv 0) pe_int (fun _ _ => rfl)) pe_int) (pe_op op_mod (pv 3) pe_int)) (pe_op op_mul pe_int (pe_ix ix_list (pv 0) pe_int (fun _ _ => rfl)))) pe_int))
      (pss_cons (ps_asg (pe_op op_mod (pv 4) pe_int) (pg_sub (pv 0) pe_int set_list))
      (pss_one (ps_ret (pe_op op_mod (pe_op op_mod (pe_op op_pow (pe_ix ix_list (pv 0) pe_int (fun _ _ => rfl)) pe_int) pe_int) (pv 1)))))))))), ?_⟩
    have nl := tape_ne ht hl
    have dv : ∀ c : Int, CDivW c m := fun c => ⟨hm, log_lt' hm2⟩
    have M0 : (0 : Int) < 2147483647 := by decide
    refine ⟨_, rfl, t, _, _, _, rfl, rfl, SqL.of ht, rfl, _, _, rfl, rfl, _, rfl, ?_⟩
    refine ite2 (fun z => ?_) (fun z => ?_)
    · have z' : 0 < rest := of_decide_eq_true z
      refine ⟨_, rfl, t, _, _, _, rfl, rfl, SqL.of ht, rfl, _, rfl, _, _, rfl, rfl, hm, ?_⟩
      refine ⟨_, rfl, t, _, _, _, rfl, rfl, SqL.of ht, rfl, _, rfl, _, _, rfl, rfl, dv _, _, rfl, t, _, _, 2, rfl, rfl, ht, rfl, ?_⟩
      refine ⟨_, rfl, ?_⟩
      refine k _ _ (Int.emod_nonneg _ (by omega)) (Int.emod_lt_of_pos _ hm) ⟨ns, pos, rest / m, mix, upd_same, by rw [upd_ne nl]; exact hl, p0, Int.ediv_nonneg r0 (by omega), m0, m1⟩ SameB.upd
    · refine ⟨fun σ' H' => ∃ c : Int, σ' = [some (.ref t), some (.int m), none, some (.int c), none] ∧ H' = H, ?_, ?_⟩
      · refine ⟨_, rfl, t, _, _, _, rfl, rfl, SqL.of ht, rfl, _, rfl, t, _, _, _, rfl, rfl, SqL.of ht, rfl, l, _, rfl, .inl (SqL.of hl), _, _, rfl, rfl, _, rfl, ?_⟩
        refine ite2 (fun y => ?_) (fun y => ?_)
        · have y' : pos < ((ns.map V.int).length : Int) := of_decide_eq_true y
          rw [List.length_map] at y'
          have g : (ns.map V.int)[pos.toNat]? = some (.int (ns[pos.toNat]'(by omega))) := by
            rw [List.getElem?_map, List.getElem?_eq_getElem (by omega : pos.toNat < ns.length)]
            rfl
          exact ⟨_, rfl, t, _, _, _, rfl, rfl, SqL.of ht, rfl, _, rfl, t, _, _, _, rfl, rfl, SqL.of ht, rfl, l, _, _, _, rfl, rfl, SqL.of hl, at_of (by omega) g, _, rfl, rfl⟩
        · exact ⟨0, rfl, rfl⟩
      · rintro σ' H' ⟨c, rfl, rfl⟩
        refine ⟨_, rfl, t, _, _, _, rfl, rfl, SqL.of ht, rfl, _, _, rfl, rfl, _, rfl, t, _, _, 1, rfl, rfl, ht, rfl, ?_⟩
        refine ⟨_, rfl, _, _, rfl, rfl, ⟨by decide, by decide, by decide⟩, _, _, rfl, rfl, _, rfl, ?_⟩
        refine ite2 (fun y => ?_) (fun y => ?_)
        · have y' : (10 : Int) ^ (18 : Int).toNat ≤ c := of_decide_eq_true y
          have c0 : 0 ≤ c := Int.le_trans (by decide) y'
          refine ⟨_, rfl, _, rfl, _, _, rfl, rfl, dv _, _, rfl, t, _, _, 2, rfl, rfl, upd_same, rfl, ?_⟩
          refine ⟨_, rfl, _, rfl, _, _, rfl, rfl, hm, ?_⟩
          exact k _ _ (Int.emod_nonneg _ (by omega)) (Int.emod_lt_of_pos _ hm) ⟨ns, pos + 1, c / m, mix, upd_same, by rw [upd_ne nl, upd_ne nl]; exact hl, by omega, Int.ediv_nonneg c0 (by omega), m0, m1⟩ (SameB.upd.trans SameB.upd)
        · refine ⟨_, rfl, t, _, _, _, rfl, rfl, SqL.of upd_same, rfl, _, _, rfl, rfl, .inl ⟨by omega, by omega⟩, _, rfl, _, _, rfl, rfl, M0, _, _, rfl, rfl, _, rfl, t, _, _, _, rfl, rfl, SqL.of upd_same, rfl, _, _, rfl, rfl, .inl ⟨by decide, by decide⟩, _, _, rfl, rfl, _, _, rfl, rfl, ?_⟩
          refine ⟨_, rfl, _, _, rfl, rfl, M0, _, rfl, t, _, _, 3, rfl, rfl, upd_same, rfl, ?_⟩
          have q0 := Int.emod_nonneg (mix * 48271 + c % 2147483647 + 7919 * (pos + 1) + 11) (by decide : (2147483647 : Int) ≠ 0)
          have q1 := Int.emod_lt_of_pos (mix * 48271 + c % 2147483647 + 7919 * (pos + 1) + 11) M0
          refine ⟨_, rfl, t, _, _, _, rfl, rfl, SqL.of upd_same, rfl, _, _, rfl, rfl, ⟨by decide, by decide, ?_⟩, _, _, rfl, rfl, M0, _, rfl, _, _, rfl, rfl, hm, ?_⟩
          · omega
          · exact k _ _ (Int.emod_nonneg _ (by omega)) (Int.emod_lt_of_pos _ hm) ⟨ns, pos + 1, rest, _, upd_same, by rw [upd_ne nl, upd_ne nl]; exact hl, by omega, r0, q0, q1⟩ (SameB.upd.trans SameB.upd)
end
abbrev sLst : Stmt := top 30
section
variable {P : Program} {w : World} {K : PySem.W.Frag} {mg : Str → Option Value} {base : Heap} {f : Addr} {fd : FuncData}
theorem scLst : FnScope ["_law_n", "_law_d", "_law_a", "_law_b", "_law_rest"] ["_law_n", "_law_d"] (defScope sLst) := ⟨rfl, rfl, rfl, by decide +kernel, rfl, by decide +kernel, by decide +kernel⟩
theorem ok_lst (F : Fun K "_law_lowest" "_law_lowest" sLst f fd) (T : Bt mg) : FnOk P w K mg base CX0 1 f fd ["_law_n", "_law_d"] spLowest := by
  refine F.ok scLst (fun vs H Q E h => ?_) (fun cdv A outer s H vs Q E hr h => ?_)
  · obtain ⟨n, d, rfl, _⟩ := h
    rfl
  · obtain ⟨n, d, rfl, hd, hd2, k⟩ := h
    refine ⟨_, pss_cons (ps_set (i := 2) scLst.nd rfl (Or.inl rfl) (pe_callB call_abs (by rfl) T.abs boot_abs (pa_cons (pv 0) pa_nil)))
      (pss_cons (ps_set (i := 3) scLst.nd rfl (Or.inl rfl) (pv 1))
      (pss_cons (ps_while PassesOwn.never (pt_cmpR op_gt (pv 3) pe_int (nomark _))
        (pss_cons (ps_set (i := 4) scLst.nd rfl (Or.inl rfl) (pe_op op_mod (pv 2) (pv 3))) (pss_cons (ps_set (i := 2) scLst.nd rfl (Or.inl rfl) (pv 3)) (pss_one (ps_set (i := 3) scLst.nd rfl (Or.inl rfl) (pv 4))))))
      (pss_one (ps_ret (pe_tup (pa_cons (pe_op op_fdivW (pv 0) (pv 2)) (pa_cons (pe_op op_fdivW (pv 1) (pv 2)) pa_nil))))))), ?_⟩
    refine ⟨_, rfl, n, rfl, _, rfl, ?_⟩
    refine ⟨fun m σ H' => ∃ (a' b' : Int) (r : Option V), σ = [some (.int n), some (.int d), some (.int a'), some (.int b'), r] ∧ 0 ≤ a' ∧ 0 ≤ b' ∧ b'.toNat = m ∧ gd a' b' = gd n d ∧ H' = H, ⟨_, _, d, none, rfl, by split <;> omega, by omega, rfl, gd_abs n d, rfl⟩, ?_⟩
    rintro m σ H' ⟨a', b', r, rfl, ha', hb', rfl, e, rfl⟩
    refine ⟨_, rfl, _, _, rfl, rfl, _, rfl, ?_⟩
    refine ite2 (fun z => ?_) (fun z => ?_)
    · have pb : 0 < b' := of_decide_eq_true z
      refine ⟨fun σ' H'' => ∃ (a2 b2 : Int) (r : Option V), σ' = [some (.int n), some (.int d), some (.int a2), some (.int b2), r] ∧ 0 ≤ a2 ∧ 0 ≤ b2 ∧ b2.toNat < b'.toNat ∧ gd a2 b2 = gd n d ∧ H'' = H', ?_, ?_⟩
      · rintro σ' H'' ⟨a2, b2, r2, h1, h2, h3, h4, h5, h6⟩
        exact ⟨_, h4, a2, b2, r2, h1, h2, h3, rfl, h5, h6⟩
      · refine ⟨_, rfl, _, rfl, _, _, rfl, rfl, pb, _, rfl, _, rfl, b', a' % b', _, rfl, hb', Int.emod_nonneg _ (by omega), ?_, ?_, rfl⟩
        · have := Int.emod_lt_of_pos a' pb
          have := Int.emod_nonneg a' (by omega : b' ≠ 0)
          omega
        · rw [gd_step ha' pb]
          exact e
    · have zb : ¬ 0 < b' := fun q => z (decide_eq_true q)
      have z0 : b' = 0 := by omega
      rw [z0, gd_zero ha'] at e
      subst e
      have g0 : 0 < gd n d := gd_pos (by omega)
      have gl : (gd n d).natAbs < 2 ^ 4000 := Nat.lt_of_le_of_lt (gd_natAbs_le (by omega)) hd2
      exact ⟨_, rfl, _, rfl, _, _, rfl, rfl, ⟨g0, log_lt' gl⟩, _, rfl, _, rfl, _, _, rfl, rfl, ⟨g0, log_lt' gl⟩, by show 2 ≤ sizeLine; decide, k⟩
end
abbrev sName : Stmt := top 12
section
variable {P : Program} {w : World} {K : PySem.W.Frag} {mg : Str → Option Value} {base : Heap} {f : Addr} {fd : FuncData} {u1 u2 : Tok} {u3 : Tok}
theorem scName : FnScope ["value", "sign"] ["value"] (defScope sName) := ⟨rfl, rfl, rfl, by decide +kernel, rfl, by decide +kernel, by decide +kernel⟩
theorem ok_name (F : Fun K "is_name" "is_name" sName f fd) (T : Bt mg) (m1 : mg "LETTERS" = some (.str letters u1)) (m2 : mg "NAME_SIGNS" = some (.str signs u2)) (m3 : mg "LONGEST_NAME" = some (.int 12 u3)) : FnOk P w K mg base CX0 1 f fd ["value"] spName := by
  refine F.ok scName (fun vs H Q E h => ?_) (fun cdv A outer s H vs Q E hr h => ?_)
  · obtain ⟨v, t, rfl, _⟩ := h
    rfl
  · obtain ⟨v, t, rfl, ty, hl, k⟩ := h
    refine ⟨_, pss_cons (ps_if (PW.pt (pw_or (pt_not (pt_val (pe_callB call_isi (by rfl) T.isi boot_isinstance (pa_cons (pv 0) (pa_cons (pe_bltn (v := .ty "str") (by rfl) T.str boot_str rfl) pa_nil))))) (pw_or (pt_cmpR op_eq (pv 0) pe_str (nomark _))
        (pw_or1 (pt_cmpR op_gt (pe_callB call_len_str (by rfl) T.len PySem.boot_len (pa_cons (pv 0) pa_nil)) (pe_glob (v := .int 12) (by rfl) m3 ⟨_, rfl⟩) (nomark _)))))) (pss_one (ps_ret pe_bl)) pss_nil)
      (pss_one (ps_ret (pe_and (pe_cmpR op_in_sign (pe_ix ix_str (pv 0) pe_int (fun _ _ => rfl)) (pe_glob (v := .str letters) (by rfl) m1 ⟨_, rfl⟩) (by rfl))
        (pe_one (pe_callB (cr_all rfl) (by rfl) T.all (by decide +kernel) (pa_cons (pe_lc (own := [("sign", 1)]) (g := gName 1) (tt := tYes) (te := tOp rInS (tVar 1) (tC (.str signs))) (by rfl) scName.nd (pi_str (pv 0)) (blkOk_by (own := [("sign", 1)]) (N := ["value", "sign"]) (sc := defScope sName) (by decide +kernel))
          (fun _ _ _ _ _ => pg_name (i := 1) scName.nd rfl (Or.inl rfl)) (fun _ _ _ _ _ => pts_nil) (fun _ _ _ _ _ => pe_cmpR op_in_sign (pv 1) (pe_glob (v := .str signs) (by rfl) m2 ⟨_, rfl⟩) (by rfl))) pa_nil)))))), ?_⟩
    refine ⟨_, rfl, v, .ty "str", _, _, _, rfl, .ty "str", ty.x, kit_str ty.mem, _, rfl, ?_⟩
    by_cases ts : t = "str"
    · obtain ⟨x, rfl⟩ := ty.isStr ts
      subst ts
      have hx := hl x rfl
      refine iteF ⟨_, rfl, rfl, _, rfl, ?_⟩
      rw [dec_empty]
      cases e : x.cps.toList with
      | nil =>
        rw [decide_eq_true rfl]
        have k0 := k H (Same.refl H)
        rw [name_nil e] at k0
        exact iteT (iteT k0)
      | cons c r =>
        rw [decide_eq_false (by simp)]
        refine iteF ⟨_, rfl, x, rfl, hx, _, _, rfl, rfl, _, rfl, ?_⟩
        rw [lenL x]
        by_cases l12 : x.cps.toList.length ≤ 12
        · rw [decide_eq_false (by omega)]
          refine iteF ?_
          have ni := name_is e l12
          refine ⟨_, rfl, x, 0, c, rfl, rfl, hx, (show atI x.cps.toList ((0 : Nat) : Int) = some c from atI_nat (by rw [e]; rfl)), c, letters, rfl, rfl, _, rfl, ?_⟩
          show if inL c = true then _ else _
          refine ite2 (fun z => ?_) (fun z => ?_)
          · refine ⟨_, rfl, x, rfl, fun D hD => lc_it walk_str (fun i H' => H' = upd H D (.lst ((x.cps.toList.take i).map fun c => .bl (inS c)))) rfl (fun _ _ _ _ => True.intro) ?_ ?_⟩
            · rintro i y H' H'' hi rfl ⟨rfl, c', hc', rfl⟩
              refine ⟨rfl, ?_⟩
              change tOp rInS (tVar 1) (tC (.str signs)) _ _ _
              refine ⟨_, rfl, c', signs, rfl, rfl, _, upd_same, ?_, ?_⟩
              · rw [List.length_map, List.length_take]
                exact Nat.lt_of_le_of_lt (Nat.min_le_right _ _) (Nat.lt_of_le_of_lt l12 (by decide))
              · rw [upd_upd]
                exact congrArg (fun z => upd H D (.lst z)) (grow hc' inS)
            · rintro H' rfl
              have ez : x.cps.size = x.cps.toList.length := by simp
              refine ⟨D, x.cps.toList.map inS, rfl, SqL.of (by rw [upd_same, ez, List.take_length, List.map_map]; rfl), ?_⟩
              have k1 := k _ (Same.upd (o := .lst ((x.cps.toList.take x.cps.size).map fun c => .bl (inS c))) hD)
              rw [ni, z, ← e] at k1
              rw [List.all_map]
              exact k1
          · have k0 := k H (Same.refl H)
            rw [ni, show inL c = false by simpa using z] at k0
            exact k0
        · rw [decide_eq_true (by omega)]
          have k0 := k H (Same.refl H)
          rw [name_long l12] at k0
          exact iteT k0
    · have z : (t == "str") = false := by simpa using ts
      rw [z]
      have k0 := k H (Same.refl H)
      have nb : nameB v = false := by cases ty <;> first | rfl | exact absurd rfl ts
      rw [nb] at k0
      exact iteT (iteT k0)
end
end K09
set_option Elab.async false
set_option linter.all false
set_option maxRecDepth 100000
set_option maxHeartbeats 4000000
namespace K09
open PySem PySem.Spec PyProof.Rows L2 Lc
def spLNm : Sp := fun vs H Q _ => ∃ (t l : Addr), vs = [.ref t] ∧ TapeL l H t ∧ ∀ (x : Str) (H' : Hp), Sh 12 x → nameB (.str x) = true → TapeL l H' t → SameB t H H' → Q (.str x) H'
abbrev sLnm : Stmt := top 32
section
variable {P : Program} {w : World} {K : PySem.W.Frag} {mg : Str → Option Value} {base : Heap} {f fD : Addr} {fd fdD : FuncData}
theorem scLnm : FnScope ["_law_tape_here", "_law_letters", "_law_size", "_law_place", "_law_sign", "_law_k"] ["_law_tape_here"] (defScope sLnm) := ⟨rfl, rfl, rfl, by decide +kernel, rfl, by decide +kernel, by decide +kernel⟩
theorem ok_lnm (F : Fun K "_law_name" "_law_name" sLnm f fd) (T : Bt mg) (GD : FnOk P w K mg base CX0 1 fD fdD ["_law_tape_here", "_law_many"] spDrawL) (mD : mg "_law_draw" = some (.ref fD)) (kD : PySem.W.keepIn K (.ref fD) = true) (bD : Binds K fdD ["_law_tape_here", "_law_many"] []) :
    FnOk P w K mg base CX0 2 f fd ["_law_tape_here"] spLNm := by
  refine F.ok scLnm (fun vs H Q E h => ?_) (fun cdv A outer s H vs Q E hr h => ?_)
  · obtain ⟨t, l, rfl, _⟩ := h
    rfl
  · obtain ⟨t, l, rfl, hT, k⟩ := h
    replace hT : TapeL l H t := hT
    refine ⟨_, pss_cons (ps_set (i := 1) scLnm.nd rfl (Or.inr rfl) pe_str)
      (pss_cons (ps_set (i := 2) scLnm.nd rfl (Or.inl rfl) (pe_op op_add pe_int (pe_call GD hr (by rfl) mD kD bD .nil pass0 (pa_cons (pv 0) (pa_cons pe_int pa_nil)))))
      (pss_cons (ps_if (pt_cmpR op_eq (pe_call GD hr (by rfl) mD kD bD .nil pass0 (pa_cons (pv 0) (pa_cons pe_int pa_nil))) pe_int (nomark _))
        (pss_cons (ps_set (i := 3) scLnm.nd rfl (Or.inl rfl) (pe_call GD hr (by rfl) mD kD bD .nil pass0 (pa_cons (pv 0) (pa_cons (pv 2) pa_nil))))
        (pss_cons (ps_set (i := 4) scLnm.nd rfl (Or.inl rfl) (pe_ix ix_str (pv 1) (pe_call GD hr (by rfl) mD kD bD .nil pass0 (pa_cons (pv 0) (pa_cons (pe_op op_add pe_int (pe_op op_mul pe_int (pe_callTy call_int1 (by rfl) T.int boot_int (pa_cons (pe_cmpR op_gt (pv 3) pe_int (nomark _)) pa_nil)))) pa_nil))) (fun _ _ => rfl)))
        (pss_one (ps_ret (pe_op op_add_str (pe_op op_add_str (pe_op op_mulS pe_str (pv 3)) (pv 4)) (pe_op op_mulS pe_str (pe_op op_sub (pe_op op_sub (pv 2) pe_int) (pv 3)))))))) pss_nil)
      (pss_one (ps_ret (pe_join pe_str (pe_lc (own := [("_law_k", 5)]) (g := gName 5) (tt := tYes) (te := tOp rIxS (tVar 1) (tCall spDrawL [] E0 (tCons (tVar 0) (tCons (tOp (rI0 fun i j => .int (i + j)) (tC (.int 26)) (tOp (rI CMul fun i j => .int (i * j)) (tC (.int 10)) (tCB (fun xs H Q => (∃ i, xs = [.int i] ∧ Q (.int i) H) ∨ ∃ k, xs = [.bl k] ∧ Q (.int (if k then 1 else 0)) H) (tCons (tOp (rI0 fun i j => .bl (decide (j < i))) (tVar 5) (tC (.int 0))) tNil)))) tNil)))) (by rfl) scLnm.nd (pi_range1 (by rfl) T.range (pa_cons (pv 2) pa_nil))
        (blkOk_by (own := [("_law_k", 5)]) (N := ["_law_tape_here", "_law_letters", "_law_size", "_law_place", "_law_sign", "_law_k"]) (sc := defScope sLnm) (by decide +kernel)) (fun _ _ _ _ _ => pg_name (i := 5) scLnm.nd rfl (Or.inl rfl)) (fun _ _ _ _ _ => pts_nil)
        (fun _ _ _ _ _ => pe_ix ix_str (pv 1) (pe_call GD hr (by rfl) mD kD bD .nil pass0 (pa_cons (pv 0) (pa_cons (pe_op op_add pe_int (pe_op op_mul pe_int (pe_callTy call_int1 (by rfl) T.int boot_int (pa_cons (pe_cmpR op_gt (pv 5) pe_int (nomark _)) pa_nil)))) pa_nil))) (fun _ _ => rfl)))))))), ?_⟩
    have big : ∀ z : Int, 0 ≤ z → z ≤ 1000 → z.natAbs < 2 ^ 4000 := fun z h1 h2 => big1000 h1 h2
    have sl : (signs.cps.toList.length : Int) = 36 := by rw [signs_len]; rfl
    have sz : signs.length ≤ sizeLine := by rw [lenL, signs_len]; decide
    refine ⟨_, rfl, t, l, _, rfl, hT, by decide, big _ (by decide) (by decide), fun k1 H1 u1 v1 T1 S1 => ⟨_, _, rfl, rfl, ?_⟩⟩
    refine ⟨_, rfl, t, l, _, rfl, T1, by decide, big _ (by decide) (by decide), fun k2 H2 u2 v2 T2 S2 => ⟨rfl, _, rfl, ?_⟩⟩
    refine ite2 (fun _ => ?_) (fun _ => ?_)
    · refine ⟨_, rfl, _, rfl, t, l, _, rfl, T2, by omega, big _ (by omega) (by omega), fun k3 H3 u3 v3 T3 S3 => ?_⟩
      refine ⟨_, rfl, _, rfl, _, rfl, _, _, rfl, rfl, .inr ⟨_, rfl, _, _, rfl, rfl, .inl ⟨by decide, by decide⟩, _, _, rfl, rfl, t, l, _, rfl, T3, by split <;> decide, big _ (by split <;> decide) (by split <;> decide), fun k4 H4 u4 v4 T4 S4 => ?_⟩⟩
      obtain ⟨c, hc, mc, isc, ilc⟩ := sgn_at (i := k4) u4 (by split at v4 <;> omega)
      refine ⟨signs, k4, c, rfl, rfl, sz, hc, ?_⟩
      have m1 : Sh k3.toNat (Txt.mul (PySem.Str.ofString "a") k3) := sh_mul sh_a (Nat.le_refl _) (Nat.le_refl _)
      have m2 : Sh 1 (⟨#[c]⟩ : Str) := sh_one (signs_ok c mc)
      have m3 : Sh (1 + k1 - 1 - k3).toNat (Txt.mul (PySem.Str.ofString "a") (1 + k1 - 1 - k3)) := sh_mul sh_a (Nat.le_refl _) (Nat.le_refl _)
      have ss : (100 : Nat) ≤ sizeLine := by decide
      refine ⟨_, rfl, _, _, rfl, rfl, mul_ok a_size (by omega) (by omega), _, rfl, _, _, rfl, rfl, ?_, _, rfl, _, _, rfl, rfl, _, rfl, _, _, rfl, rfl, _, _, rfl, rfl, mul_ok a_size (by omega) (by omega), _, _, rfl, rfl, ?_, ?_⟩
      · have := sh_len m1
        have := sh_len m2
        omega
      · have := sh_len (sh_app m1 m2)
        have := sh_len m3
        omega
      · exact k _ _ ((sh_app (sh_app m1 m2) m3).mono (by omega)) (name_one u3 (by omega) (by omega) isc (fun z => ilc (by rw [z] at v4; simpa using v4))) T4 (((S1.trans S2).trans S3).trans S4)
    · refine ⟨⟨_, rfl⟩, _, rfl, _, rfl, by omega, by omega, fun D hD => ?_⟩
      have nD : D ≠ t := T2.tape.ne hD
      have nL : D ≠ l := by
        obtain ⟨xs, z⟩ := T2.list
        exact Ne.symm (ne_of_none z hD)
      let one : Nat → Str := fun c => ⟨#[c]⟩
      refine lc_it walk_range (fun i H' => ∃ cs : List Nat, H' D = some (.lst ((cs.map one).map V.str)) ∧ cs.length = i ∧ (∀ c ∈ cs, c ∈ signs.cps.toList ∧ inS c = true) ∧ (∀ c r, cs = c :: r → inL c = true) ∧ TapeL l H' t ∧ SameB t H2 H') ⟨[], upd_same, rfl, by simp, nofun, T2.same (Same.upd hD), Same.b t (Same.upd hD)⟩ (fun _ _ _ _ => True.intro) ?_ ?_
      · rintro i y H' H'' hi ⟨cs, h1, h2, h3, h3b, h4, h5⟩ ⟨rfl, rfl⟩
        refine ⟨rfl, ?_⟩
        change tOp rIxS (tVar 1) _ _ _ _
        refine ⟨_, rfl, _, rfl, _, rfl, _, _, rfl, rfl, .inr ⟨_, rfl, _, _, rfl, rfl, .inl ⟨by decide, by decide⟩, _, _, rfl, rfl, t, l, _, rfl, h4, by split <;> decide, big _ (by split <;> decide) (by split <;> decide), fun k4 H4 u4 v4 T4 S4 => ?_⟩⟩
        obtain ⟨c, hc, mc, isc, ilc⟩ := sgn_at (i := k4) u4 (by split at v4 <;> omega)
        refine ⟨signs, k4, c, rfl, rfl, sz, hc, _, S4 _ _ nD h1, by rw [List.length_map, List.length_map, h2]; exact Nat.lt_trans hi (Nat.lt_of_le_of_lt (show (1 + k1).toNat ≤ 12 by omega) (by decide)), ?_⟩
        refine ⟨cs ++ [c], by rw [upd_same, List.map_append, List.map_append]; rfl, by rw [List.length_append, h2]; rfl, fun y hy => ?_, fun c' r' e => ?_, T4.upd nD nL, fun b o n e => ?_⟩
        · rcases List.mem_append.mp hy with hy | hy
          · exact h3 y hy
          · rw [List.mem_singleton.mp hy]
            exact ⟨mc, isc⟩
        · cases cs with
          | nil =>
            have e : c = c' := by injection e
            rw [← e]
            have i0 : i = 0 := by rw [← h2]; rfl
            subst i0
            exact ilc (by simpa using v4)
          | cons d r =>
            injection e with e _
            rw [← e]
            exact h3b d r rfl
        · rw [upd_ne (ne_of_none e hD)]
          exact (h5.trans S4) b o n e
      · rintro H' ⟨cs, h1, h2, h3, h3b, h4, h5⟩
        have e12 : cs.length ≤ 12 := by omega
        have s1 : ∀ y ∈ cs.map one, Sh 1 y := fun y hy => by
          obtain ⟨c, hc, rfl⟩ := List.mem_map.mp hy
          exact sh_one (signs_ok c (h3 c hc).1)
        have sum : ∀ l : List Str, (∀ y ∈ l, Sh 1 y) → (l.map (·.length)).sum ≤ l.length := by
          intro l
          induction l with
          | nil => intro _; simp
          | cons y l ih =>
            intro h
            have := ih fun z hz => h z (List.mem_cons_of_mem _ hz)
            have := sh_len (h y List.mem_cons_self)
            simp only [List.map_cons, List.sum_cons, List.length_cons]
            omega
        have lm : (cs.map one).length = cs.length := List.length_map ..
        refine ⟨_, D, cs.map one, rfl, rfl, .inl (SqL.of h1), by have := sum _ s1; show _ + (cs.map one).length * 0 ≤ _; omega, ?_⟩
        exact k _ _ ((join_sh _ s1).mono (by omega)) (name_join (fun z => by rw [z] at h2; have : (0 : Nat) = (1 + k1).toNat := h2; omega) e12 h3b (fun c hc => (h3 c hc).2)) h4 ((S1.trans S2).trans h5)
end
end K09
set_option Elab.async false
set_option linter.all false
set_option maxRecDepth 100000
set_option maxHeartbeats 4000000
namespace K09
open PySem PySem.Spec PyProof.Rows L2 Lc
abbrev sFr : Stmt := top 33
def spFr : Sp := fun vs H Q _ => ∃ (t c l : Addr) (ss : List Str), vs = [.ref t, .ref l] ∧ TapeL c H t ∧ H l = some (.lst (ss.map V.str)) ∧ ss.length < 36 ∧ ∀ (x : Str) (H' : Hp), Sh 12 x → nameB (.str x) = true → x ∉ ss → TapeL c H' t → SameB t H H' → Q (.str x) H'
theorem ne_tape {H : Hp} {t l : Addr} {ss : List Str} (T : Tape H t) (h : H l = some (.lst (ss.map V.str))) : l ≠ t := fun z => by
  obtain ⟨a, _, _, _, _, ht, _⟩ := T
  rw [z, ht] at h
  cases ss with
  | nil => cases h
  | cons x r =>
    injection h with h
    injection h with h
    injection h with h1 _
    cases h1
section
variable {P : Program} {w : World} {K : PySem.W.Frag} {mg : Str → Option Value} {base : Heap} {f fN : Addr} {fd fdN : FuncData}
theorem scFr : FnScope ["_law_tape_here", "_law_taken", "_law_name_here", "_law_letter"] ["_law_tape_here", "_law_taken"] (defScope sFr) := ⟨rfl, rfl, rfl, by decide +kernel, rfl, by decide +kernel, by decide +kernel⟩
theorem ok_fr (F : Fun K "_law_fresh" "_law_fresh" sFr f fd) (GN : FnOk P w K mg base CX0 2 fN fdN ["_law_tape_here"] spLNm) (mN : mg "_law_name" = some (.ref fN)) (kN : PySem.W.keepIn K (.ref fN) = true) (bN : Binds K fdN ["_law_tape_here"] []) :
    FnOk P w K mg base CX0 3 f fd ["_law_tape_here", "_law_taken"] spFr := by
  refine F.ok scFr (fun vs H Q E h => ?_) (fun cdv A outer s H vs Q E hr h => ?_)
  · obtain ⟨t, c, l, ss, rfl, _⟩ := h
    rfl
  · obtain ⟨t, tl, l, ss, rfl, hT, hl, l36, k⟩ := h
    refine ⟨_, pss_cons (ps_set (i := 2) scFr.nd rfl (Or.inl rfl) (pe_call GN hr (by rfl) mN kN bN .nil pass0 (pa_cons (pv 0) pa_nil)))
      (pss_cons (ps_if (pt_cmpR op_notIn_seq (pv 2) (pv 1) (by rfl)) (pss_one (ps_ret (pv 2))) pss_nil)
      (pss_cons (ps_for PassesOwn.never rfl (pi_str pe_str) (pg_name (i := 3) scFr.nd rfl (Or.inl rfl))
        (pss_one (ps_if (pt_cmpR op_notIn_seq (pe_op op_add_str (pe_slice sl_str (pv 2) po_none (po_some pe_int)) (pv 3)) (pv 1) (by rfl)) (pss_one (ps_ret (pe_op op_add_str (pe_slice sl_str (pv 2) po_none (po_some pe_int)) (pv 3)))) pss_nil)))
      (pss_one (ps_ret (pv 2))))), ?_⟩
    refine ⟨_, rfl, t, tl, rfl, hT, fun x H1 hx nx T1 S1 => ?_⟩
    have hl1 := S1 _ _ (ne_tape hT.tape hl) hl
    have fl : (ss.map V.str).all flatV = true := by simp [flatV]
    have ln := hx.line (by decide)
    refine ⟨_, rfl, _, rfl, l, _, rfl, .inl (SqL.of hl1), rfl, fl, _, rfl, ite2 (fun y => ?_) (fun y => ?_)⟩
    · refine ⟨_, rfl, k x H1 hx nx (fun m => ?_) T1 S1⟩
      rw [if_pos rfl, in_strs, decide_eq_true m] at y
      cases y
    · refine ⟨_, rfl, for_it walk_str (fun i σ H' => (∃ x3 : Option V, σ = [some (.ref t), some (.ref l), some (.str x), x3]) ∧ H' = H1 ∧ ∀ (j : Nat) (c : Nat), j < i → signs.cps[j]? = some c → cutS x none (some 11) ++ (⟨#[c]⟩ : Str) ∈ ss) ⟨⟨_, rfl⟩, rfl, fun j c h => absurd h (Nat.not_lt_zero _)⟩ (fun _ _ _ _ _ => trivial) ?_ ?_⟩
      · rintro i v σ Ha Hb hi ⟨⟨x3, rfl⟩, rfl, all⟩ ⟨rfl, c, hc, rfl⟩
        have hc : signs.cps[i]? = some c := hc
        have mc : c ∈ signs.cps.toList := Array.mem_toList_iff.mpr (Array.mem_of_getElem? hc)
        have isc : inS c = true := decide_eq_true mc
        have cs : c < 1114112 := signs_ok c mc
        have sc : Sh 11 (cutS x none (some 11)) := ⟨by rw [cut_list, List.length_take]; omega, (sh_cut none (some 11) hx).ok⟩
        have so : Sh 1 (⟨#[c]⟩ : Str) := sh_one cs
        have lt : (cutS x none (some 11)).length + (⟨#[c]⟩ : Str).length ≤ sizeLine := Nat.le_trans (Nat.add_le_add (sh_len sc) (sh_len so)) (by decide)
        refine ⟨_, rfl, 11, rfl, x, rfl, ln, _, rfl, _, _, rfl, rfl, lt, _, rfl, l, _, rfl, .inl (SqL.of hl1), rfl, fl, _, rfl, ite2 (fun y => ?_) (fun y => ?_)⟩
        · refine ⟨_, rfl, 11, rfl, x, rfl, ln, _, rfl, _, _, rfl, rfl, lt, k _ _ (sh_app sc so) (name_cut nx isc) (fun m => ?_) T1 S1⟩
          rw [if_pos rfl, in_strs, decide_eq_true m] at y
          cases y
        · refine ⟨⟨_, rfl⟩, rfl, fun j c' hj hc' => ?_⟩
          by_cases e : j = i
          · subst e
            rw [hc] at hc'
            cases hc'
            rw [if_pos rfl, in_strs] at y
            exact of_decide_eq_true (by simpa using y)
          · exact all j c' (by omega) hc'
      · rintro σ H' ⟨⟨x3, rfl⟩, rfl, all⟩
        refine (free_letter (x := x) l36 fun c mc => ?_).elim
        obtain ⟨j, hj⟩ := List.mem_iff_getElem?.mp mc
        rw [Array.getElem?_toList] at hj
        exact all j c (Array.getElem?_eq_some_iff.mp hj).1 hj
end
theorem Same.gone {H H' : Hp} {p : Addr} (s : Same H H') (e : H' p = none) : H p = none := by
  cases q : H p with
  | none => rfl
  | some o => rw [s p o q] at e; cases e
abbrev sCls : Stmt := top 34
/-! ## columns: pairs of texts -/
inductive Cols (H : Hp) : List V → List (Str × Str) → Prop
  | nil : Cols H [] []
  | cons {a : Addr} {z k : Str} {xs : List V} {ps : List (Str × Str)} (e : H a = some (.tup [.str z, .str k])) (r : Cols H xs ps) : Cols H (.ref a :: xs) ((z, k) :: ps)
theorem Cols.t {H H' : Hp} (s : SameT H H') : ∀ {xs : List V} {ps : List (Str × Str)}, Cols H xs ps → Cols H' xs ps
  | _, _, .nil => .nil
  | _, _, .cons e r => .cons (s _ _ e) (Cols.t s r)
theorem Cols.app {H : Hp} : ∀ {xs ys : List V} {ps qs : List (Str × Str)}, Cols H xs ps → Cols H ys qs → Cols H (xs ++ ys) (ps ++ qs)
  | _, _, _, _, .nil, r => r
  | _, _, _, _, .cons e h, r => .cons e (Cols.app h r)
theorem Cols.len {H : Hp} : ∀ {xs : List V} {ps : List (Str × Str)}, Cols H xs ps → xs.length = ps.length
  | _, _, .nil => rfl
  | _, _, .cons _ r => by rw [List.length_cons, List.length_cons, Cols.len r]
def colP (p : Str × Str) : PyData := .tuple [.str p.1, .str p.2]
theorem Cols.dh {H : Hp} : ∀ {xs : List V} {ps : List (Str × Str)}, Cols H xs ps → DhAll H xs (ps.map colP)
  | _, _, .nil => .nil
  | _, _, .cons e r => .cons (.tup e (.cons (.str _) (.cons (.str _) .nil))) (Cols.dh r)
def KindS (k : Str) : Prop := k = "number" ∨ k = "word" ∨ k = "flag"
theorem KindS.sh {k : Str} (h : KindS k) : Sh 100 k := by
  rcases h with rfl | rfl | rfl <;> exact ⟨by decide +kernel, by decide +kernel⟩
def spCls : Sp := fun vs H Q _ => ∃ (t c l n : Addr) (m : Int) (lead tk : List Str), vs = [.ref t, .ref l, .int m, .ref n] ∧ TapeL c H t ∧ H l = some (.tup (lead.map V.str)) ∧ H n = some (.tup (tk.map V.str)) ∧ tk.length ≤ 8 ∧ 0 ≤ m ∧ m ≤ 7 ∧ lead.length + m.toNat ≤ 8 ∧ (∀ k ∈ lead, KindS k) ∧
  ∀ (r : Addr) (xs : List V) (ps : List (Str × Str)) (H' : Hp), H' r = some (.tup xs) → Cols H' xs ps → (∀ p ∈ ps, Sh 12 p.1 ∧ nameB (.str p.1) = true ∧ KindS p.2) → (ps.map (·.1)).Nodup → (∀ p ∈ ps, p.1 ∉ tk) → lead.length ≤ ps.length → ps.length ≤ lead.length + m.toNat → TapeL c H' t → SameB t H H' → Q (.ref r) H'
section
variable {P : Program} {w : World} {K : PySem.W.Frag} {mg : Str → Option Value} {base : Heap} {f fD fF : Addr} {fd fdD fdF : FuncData}
theorem scCls : FnScope ["_law_tape_here", "_law_lead", "_law_many", "_law_taken", "_law_names", "_law_columns_here", "_law_kinds", "_law_k", "_law_kind_here"] ["_law_tape_here", "_law_lead", "_law_many", "_law_taken"] (defScope sCls) := ⟨rfl, rfl, rfl, by decide +kernel, rfl, by decide +kernel, by decide +kernel⟩
theorem ok_cls (F : Fun K "_law_columns" "_law_columns" sCls f fd) (T : Bt mg) (GD : FnOk P w K mg base CX0 1 fD fdD ["_law_tape_here", "_law_many"] spDrawL) (mD : mg "_law_draw" = some (.ref fD)) (kD : PySem.W.keepIn K (.ref fD) = true) (bD : Binds K fdD ["_law_tape_here", "_law_many"] [])
    (GF : FnOk P w K mg base CX0 3 fF fdF ["_law_tape_here", "_law_taken"] spFr) (mF : mg "_law_fresh" = some (.ref fF)) (kF : PySem.W.keepIn K (.ref fF) = true) (bF : Binds K fdF ["_law_tape_here", "_law_taken"] []) :
    FnOk P w K mg base CX0 4 f fd ["_law_tape_here", "_law_lead", "_law_many", "_law_taken"] spCls := by
  refine F.ok scCls (fun vs H Q E h => ?_) (fun cdv A outer s H vs Q E hr h => ?_)
  · obtain ⟨t, c, l, n, m, lead, tk, rfl, _⟩ := h
    rfl
  · obtain ⟨t, c, l, n, m, lead, tk, rfl, hT, hl, hn, tk8, m0, m7, ld8, hkl, k⟩ := h
    have hr1 : Room 1 _ := hr.mono (by decide)
    refine ⟨_, pss_cons (ps_set (i := 4) scCls.nd rfl (Or.inl rfl) (pe_callTy call_list_of (by rfl) T.list boot_list (pa_cons (pv 3) pa_nil)))
      (pss_cons (ps_set (i := 5) scCls.nd rfl (Or.inl rfl) (pe_lst pa_nil))
      (pss_cons (ps_set (i := 6) scCls.nd rfl (Or.inl rfl) (pe_callTy call_list_of (by rfl) T.list boot_list (pa_cons (pv 1) pa_nil)))
      (Evl.pss_cut (ps_for PassesOwn.never rfl (pi_range1 (by rfl) T.range (pa_cons (pe_call GD hr1 (by rfl) mD kD bD .nil pass0 (pa_cons (pv 0) (pa_cons (pe_op op_add (pv 2) pe_int) pa_nil))) pa_nil)) (pg_name (i := 7) scCls.nd rfl (Or.inl rfl))
        (pss_one (ps_expr (pe_bm PySem.F.plainAttrs_list PySem.F.slot_list_append PySem.F.type_list_append mt_append (pv 6) (pa_cons (pe_ix ix_list (pe_lst (pa_cons pe_str (pa_cons pe_str (pa_cons pe_str pa_nil)))) (pe_call GD hr1 (by rfl) mD kD bD .nil pass0 (pa_cons (pv 0) (pa_cons pe_int pa_nil))) (fun _ _ => rfl)) pa_nil)))))
      (pss_cons (ps_for PassesOwn.never rfl (pi_list (pv 6)) (pg_name (i := 8) scCls.nd rfl (Or.inl rfl))
        (pss_cons (ps_expr (pe_bm PySem.F.plainAttrs_list PySem.F.slot_list_append PySem.F.type_list_append mt_append (pv 4) (pa_cons (pe_call GF hr (by rfl) mF kF bF .nil pass0 (pa_cons (pv 0) (pa_cons (pv 4) pa_nil))) pa_nil)))
        (pss_one (ps_expr (pe_bm PySem.F.plainAttrs_list PySem.F.slot_list_append PySem.F.type_list_append mt_append (pv 5) (pa_cons (pe_tup (pa_cons (pe_ix ix_list (pv 4) (pe_un un_neg pe_int) (fun _ _ => rfl)) (pa_cons (pv 8) pa_nil))) pa_nil))))))
      (pss_one (ps_ret (pe_callTy call_tuple_of (by rfl) T.tuple boot_tuple (pa_cons (pv 5) pa_nil)))))))), ?_⟩
    refine ⟨_, rfl, n, _, rfl, .inr (SqT.of hn), fun L hL => ⟨by show 0 ≤ sizeLine; decide, fun M hM => ?_⟩⟩
    have yL := Same.upd (o := .lst (tk.map V.str)) hL
    have yM := Same.upd (o := .lst []) hM
    refine ⟨_, rfl, l, _, rfl, .inr (SqT.of ((yL.trans yM) _ _ hl)), fun N hN => ?_⟩
    have yN := Same.upd (o := .lst (lead.map V.str)) hN
    have nLt := hT.tape.ne hL
    have nMt := (hT.same yL).tape.ne hM
    have nNt := (hT.same (yL.trans yM)).tape.ne hN
    obtain ⟨ys, hc⟩ := hT.list
    have nLc : L ≠ c := Ne.symm (ne_of_none hc hL)
    have nMc : M ≠ c := Ne.symm (ne_of_none (yL _ _ hc) hM)
    have nNc : N ≠ c := Ne.symm (ne_of_none ((yL.trans yM) _ _ hc) hN)
    have eL : upd H L (.lst (tk.map V.str)) L = some (.lst (tk.map V.str)) := upd_same
    have nML : L ≠ M := ne_of_none eL hM
    have nNL : L ≠ N := ne_of_none (yM _ _ eL) hN
    have nNM : M ≠ N := ne_of_none (show upd (upd H L (.lst (tk.map V.str))) M (.lst []) M = some (.lst []) from upd_same) hN
    have hL3 := (yM.trans yN) _ _ eL
    have hM3 := yN _ _ (show upd (upd H L (.lst (tk.map V.str))) M (.lst []) M = some (.lst []) from upd_same)
    have hN3 : upd (upd (upd H L (.lst (tk.map V.str))) M (.lst [])) N (.lst (lead.map V.str)) N = some (.lst (lead.map V.str)) := upd_same
    have s3 := yL.trans (yM.trans yN)
    have gM := Same.gone yL hM
    have gN := Same.gone (yL.trans yM) hN
    have hT3 := hT.same s3
    generalize upd (upd (upd H L (.lst (tk.map V.str))) M (.lst [])) N (.lst (lead.map V.str)) = H3 at hL3 hM3 hN3 s3 hT3 yN ⊢
    clear yN yM yL eL
    have o3 : 3 ≤ sizeLine := by decide
    let Md : Option V → Option V → List Str → L2.St → Hp → Prop := fun x7 x8 ks σ H' => σ = [some (.ref t), some (.ref l), some (.int m), some (.ref n), some (.ref L), some (.ref M), some (.ref N), x7, x8] ∧ H' N = some (.lst (ks.map V.str)) ∧ (∀ k ∈ ks, KindS k) ∧ TapeL c H' t ∧ SameB t H H'
    refine ⟨fun σ H' => ∃ x7 ks, Md x7 none ks σ H' ∧ H' L = some (.lst (tk.map V.str)) ∧ H' M = some (.lst []) ∧ lead.length ≤ ks.length ∧ ks.length ≤ lead.length + m.toNat, ?_, ?_⟩
    · refine ⟨_, rfl, _, rfl, _, _, rfl, rfl, t, c, _, rfl, hT3, by omega, big1000 (by omega) (by omega), fun k2 H4 u2 w2 T4 S4 => ⟨k2, rfl, by omega, by omega, for_range (n := k2.toNat) (fun i σ H' => ∃ x7 ks, Md x7 none ks σ H' ∧ H' L = some (.lst (tk.map V.str)) ∧ H' M = some (.lst []) ∧ ks.length = i + lead.length)
        ⟨_, lead, ⟨rfl, S4 _ _ nNt hN3, hkl, T4, (Same.b t s3).trans S4⟩, S4 _ _ nLt hL3, S4 _ _ nMt hM3, (Nat.zero_add _).symm⟩ ?_ ?_⟩⟩
      · rintro i σ H5 hi ⟨x7, ks, ⟨rfl, hN5, hk5, T5, S5⟩, hL5, hM5, e5⟩
        refine ⟨_, rfl, .inl ⟨rfl, _, SqL.of hN5⟩, o3, fun q hq => ?_⟩
        have zq := Same.upd (o := .lst [.str "number", .str "word", .str "flag"]) hq
        have nq := T5.tape.ne hq
        refine ⟨_, rfl, t, c, _, rfl, T5.same zq, by decide, big1000 (by decide) (by decide), fun k3 H6 u3 w3 T6 S6 => ?_⟩
        obtain ⟨kk, hkk, skk⟩ : ∃ kk : Str, ([.str "number", .str "word", .str "flag"] : List V)[k3.toNat]? = some (.str kk) ∧ KindS kk := by
          have : k3.toNat = 0 ∨ k3.toNat = 1 ∨ k3.toNat = 2 := by omega
          rcases this with e | e | e <;> rw [e]
          · exact ⟨_, rfl, .inl rfl⟩
          · exact ⟨_, rfl, .inr (.inl rfl)⟩
          · exact ⟨_, rfl, .inr (.inr rfl)⟩
        have S7 : SameB t H5 H6 := (Same.b t zq).trans S6
        have hN6 := S7 _ _ nNt hN5
        refine ⟨q, _, _, _, rfl, rfl, SqL.of (S6 _ _ nq upd_same), at_of (j := k3.toNat) (by omega) hkk, N, _, _, rfl, rfl, hN6, ?_, ?_⟩
        · rw [List.length_map, e5]
          exact Nat.lt_of_le_of_lt (show i + lead.length ≤ 8 by omega) (by decide)
        · refine ⟨_, ks ++ [kk], ⟨rfl, by rw [upd_same, List.map_append]; rfl, fun k hk => ?_, T6.upd nNt nNc, fun b o n e => ?_⟩, by rw [upd_ne nNL]; exact S7 _ _ nLt hL5, by rw [upd_ne nNM]; exact S7 _ _ nMt hM5, by rw [List.length_append, e5, List.length_singleton]; omega⟩
          · rcases List.mem_append.mp hk with hk | hk
            · exact hk5 k hk
            · rw [List.mem_singleton.mp hk]; exact skk
          · rw [upd_ne (fun z => by rw [z, gN] at e; cases e)]
            exact (S5.trans S7) b o n e
      · rintro σ H5 ⟨x7, ks, h5, hL5, hM5, e5⟩
        exact ⟨x7, ks, h5, hL5, hM5, by omega, by omega⟩
    · rintro σ H5 ⟨x7, ks, ⟨rfl, hN5, hk5, T5, S5⟩, hL5, hM5, e5, e6⟩
      refine ⟨_, rfl, N, rfl, ⟨_, SqL.of hN5⟩, for_list (K := K) (a := N) (xs := ks.map V.str) (fun i σ H' => ∃ (x8 : Option V) (ns : List Str) (xs : List V) (ps : List (Str × Str)), Md x7 x8 ks σ H' ∧ H' L = some (.lst ((tk ++ ns).map V.str)) ∧ H' M = some (.lst xs) ∧ Cols H' xs ps ∧ (∀ p ∈ ps, Sh 12 p.1 ∧ nameB (.str p.1) = true ∧ KindS p.2) ∧ ns.length = i ∧ ps.length = i ∧ ps.map (·.1) = ns ∧ ns.Nodup ∧ ∀ x ∈ ns, x ∉ tk)
        ⟨_, [], [], [], ⟨rfl, hN5, hk5, T5, S5⟩, by rw [List.append_nil]; exact hL5, hM5, .nil, nofun, rfl, rfl, rfl, List.nodup_nil, nofun⟩ (fun i σ H' _ p => by obtain ⟨_, _, _, _, ⟨_, z, _⟩, _⟩ := p; exact SqL.of z) ?_ ?_⟩
      · rintro i x σ H6 hx ⟨x8, ns, xs, ps, ⟨rfl, hN6, _, T6, S6⟩, hL6, hM6, hc6, hp6, e7, e8, en, nd, ntk⟩
        obtain ⟨kk, hkk, rfl⟩ : ∃ kk, ks[i]? = some kk ∧ V.str kk = x := by
          rw [List.getElem?_map] at hx
          cases q : ks[i]? with
          | none => rw [q] at hx; cases hx
          | some kk => rw [q] at hx; exact ⟨kk, rfl, Option.some.inj hx⟩
        have hi8 : i < 8 := Nat.lt_of_lt_of_le (List.getElem?_eq_some_iff.mp hkk).1 (show ks.length ≤ 8 by omega)
        have skk := hk5 kk (List.mem_of_getElem? hkk)
        have lim : ∀ {m : Nat}, m ≤ 8 → m < sizeLine := fun h => Nat.lt_of_le_of_lt h (by decide)
        refine ⟨_, rfl, .inl ⟨rfl, _, SqL.of hL6⟩, _, rfl, _, rfl, t, c, L, tk ++ ns, rfl, T6, hL6, by rw [List.length_append]; omega, fun z H7 hz nz fz T7 S7 => ?_⟩
        have hL7 := S7 _ _ nLt hL6
        have hM7 := S7 _ _ nMt hM6
        have hN7 := S7 _ _ nNt hN6
        have hc7 := hc6.t (SameT.b T6.tape S7)
        refine ⟨L, _, _, rfl, rfl, hL7, by rw [List.length_map, List.length_append, e7]; exact Nat.lt_of_le_of_lt (show _ ≤ 16 by omega) (by decide), ?_⟩
        have hc8 := hc7.t (SameT.lst (o := .lst ((tk ++ ns).map V.str ++ [.str z])) hL7)
        have T8 := T7.upd (o := .lst ((tk ++ ns).map V.str ++ [.str z])) nLt nLc
        have hL8 : upd H7 L (.lst ((tk ++ ns).map V.str ++ [.str z])) L = some (.lst ((tk ++ ns).map V.str ++ [.str z])) := upd_same
        have hM8 : upd H7 L (.lst ((tk ++ ns).map V.str ++ [.str z])) M = some (.lst xs) := by rw [upd_ne (Ne.symm nML)]; exact hM7
        have hN8 : upd H7 L (.lst ((tk ++ ns).map V.str ++ [.str z])) N = some (.lst (ks.map V.str)) := by rw [upd_ne (Ne.symm nNL)]; exact hN7
        have S8 : SameB t H (upd H7 L (.lst ((tk ++ ns).map V.str ++ [.str z]))) := fun b o n e => by
          rw [upd_ne (fun z => by rw [z, hL] at e; cases e)]
          exact (S6.trans S7) b o n e
        generalize upd H7 L (.lst ((tk ++ ns).map V.str ++ [.str z])) = H8 at hc8 T8 hL8 hM8 hN8 S8 ⊢
        refine ⟨_, rfl, .inl ⟨rfl, _, SqL.of hM8⟩, _, rfl, _, rfl, L, _, _, _, rfl, rfl, SqL.of hL8, (show atI ((tk ++ ns).map V.str ++ [.str z]) (-1) = some (.str z) from ?_), _, rfl, by show 2 ≤ sizeLine; decide, fun q hq => ?_⟩
        · unfold atI
          rw [show ixN ((tk ++ ns).map V.str ++ [V.str z]).length (-1) = some (tk ++ ns).length from ?_]
          · simp
          · have hl : ((tk ++ ns).map V.str ++ [V.str z]).length = (tk ++ ns).length + 1 := by rw [List.length_append, List.length_map]; rfl
            unfold ixN
            rw [hl, if_neg (by decide), if_pos (by omega)]
            exact congrArg some (by omega)
        have zq := Same.upd (o := .tup [.str z, .str kk]) hq
        have hM9 := zq _ _ hM8
        have lx := hc6.len
        refine ⟨M, _, _, rfl, rfl, hM9, lim (by omega), ?_⟩
        refine ⟨_, ns ++ [z], xs ++ [.ref q], ps ++ [(z, kk)], ⟨rfl, by rw [upd_ne (Ne.symm nNM)]; exact zq _ _ hN8, hk5, (T8.same zq).upd nMt nMc, fun b o n e => ?_⟩, by rw [upd_ne nML, zq _ _ hL8, ← List.append_assoc, List.map_append (l₁ := tk ++ ns)]; rfl, upd_same, ?_, ?_, by rw [List.length_append, e7]; rfl, by rw [List.length_append, e8]; rfl, by rw [List.map_append, en]; rfl, List.nodup_append.mpr ⟨nd, List.nodup_cons.mpr ⟨nofun, List.nodup_nil⟩, fun a ha b hb => by rw [List.mem_singleton.mp hb]; exact fun e => fz (List.mem_append_right _ (by rw [← e]; exact ha))⟩, fun x hx => ?_⟩
        · rw [upd_ne (fun z => by rw [z, gM] at e; cases e)]
          exact (S8.trans (Same.b t zq)) b o n e
        · have eq : upd H8 q (.tup [.str z, .str kk]) q = some (.tup [.str z, .str kk]) := upd_same
          have hc9 := (hc8.t (SameT.of zq)).app (.cons eq .nil)
          exact hc9.t (SameT.lst hM9)
        · intro p hp
          rcases List.mem_append.mp hp with hp | hp
          · exact hp6 p hp
          · rw [List.mem_singleton.mp hp]; exact ⟨hz, nz, skk⟩
        · rcases List.mem_append.mp hx with hx | hx
          · exact ntk x hx
          · rw [List.mem_singleton.mp hx]; exact fun q => fz (List.mem_append_left _ q)
      · rintro σ H6 ⟨x8, ns, xs, ps, ⟨rfl, hN6, _, T6, S6⟩, hL6, hM6, hc6, hp6, e7, e8, en, nd, ntk⟩
        rw [List.length_map] at e8
        refine ⟨_, rfl, M, xs, rfl, .inl ⟨SqL.of hM6, fun r hr => ?_⟩⟩
        have zr := Same.upd (o := .tup xs) hr
        exact k r xs ps _ upd_same (hc6.t (SameT.of zr)) hp6 (by rw [en]; exact nd) (fun p hp => ntk p.1 (by rw [← en]; exact List.mem_map_of_mem hp)) (by omega) (by omega) (T6.same zr) (S6.trans (Same.b t zr))
end
end K09
set_option Elab.async false
set_option linter.all false
set_option maxRecDepth 100000
set_option maxHeartbeats 4000000
namespace K09
open PySem PySem.Spec PyProof.Rows L2 Lc
def spRatL : Sp := fun vs H Q _ => ∃ (t c : Addr) (b : Bool), vs = [.ref t, .bl b] ∧ TapeL c H t ∧ ∀ (p : Addr) (n d : Int) (H' : Hp), Rt n d → n.natAbs ≤ 10000000000000000000000000000000000000000 → d.natAbs ≤ 10000000000000000000000000000000000000000 → H' p = some (.tup [.int n, .int d]) → H p = none → TapeL c H' t → SameB t H H' → Q (.ref p) H'
abbrev sRat : Stmt := top 31
section
variable {P : Program} {w : World} {K : PySem.W.Frag} {mg : Str → Option Value} {base : Heap} {f : Addr} {fd : FuncData}
theorem scRat : FnScope ["_law_tape_here", "_law_wide", "_law_size", "_law_edge"] ["_law_tape_here", "_law_wide"] (defScope sRat) := ⟨rfl, rfl, rfl, by decide +kernel, rfl, by decide +kernel, by decide +kernel⟩
theorem ok_rat {fD fL : Addr} {fdD fdL : FuncData} (F : Fun K "_law_rational" "_law_rational" sRat f fd) (T : Bt mg) (GD : FnOk P w K mg base CX0 1 fD fdD ["_law_tape_here", "_law_many"] spDrawL) (mD : mg "_law_draw" = some (.ref fD)) (kD : PySem.W.keepIn K (.ref fD) = true) (bD : Binds K fdD ["_law_tape_here", "_law_many"] [])
    (GL : FnOk P w K mg base CX0 1 fL fdL ["_law_n", "_law_d"] spLowest) (mL : mg "_law_lowest" = some (.ref fL)) (kL : PySem.W.keepIn K (.ref fL) = true) (bL : Binds K fdL ["_law_n", "_law_d"] []) : FnOk P w K mg base CX0 2 f fd ["_law_tape_here", "_law_wide"] spRatL := by
  refine F.ok scRat (fun vs H Q E h => ?_) (fun cdv A outer s H vs Q E hr h => ?_)
  · obtain ⟨t, c, b, rfl, _⟩ := h
    rfl
  · obtain ⟨t, c, b, rfl, hT, k⟩ := h
    refine ⟨_, pss_cons (ps_set (i := 2) scRat.nd rfl (Or.inl rfl) (pe_call GD hr (by rfl) mD kD bD .nil pass0 (pa_cons (pv 0) (pa_cons (pe_op op_add pe_int (pe_op op_mul pe_int (pe_callTy call_int1 (by rfl) T.int boot_int (pa_cons (pv 1) pa_nil)))) pa_nil))))
      (pss_cons (ps_if (pt_cmpR op_lt (pv 2) pe_int (nomark _)) (pss_one (ps_ret (pe_tup (pa_cons (pe_op op_sub (pe_call GD hr (by rfl) mD kD bD .nil pass0 (pa_cons (pv 0) (pa_cons pe_int pa_nil))) pe_int) (pa_cons pe_int pa_nil))))) pss_nil)
      (pss_cons (ps_if (pt_cmpR op_lt (pv 2) pe_int (nomark _)) (pss_one (ps_ret (pe_call GL hr (by rfl) mL kL bL .nil pass0 (pa_cons (pe_op op_sub (pe_call GD hr (by rfl) mD kD bD .nil pass0 (pa_cons (pv 0) (pa_cons pe_int pa_nil))) pe_int) (pa_cons (pe_op op_add pe_int (pe_call GD hr (by rfl) mD kD bD .nil pass0 (pa_cons (pv 0) (pa_cons pe_int pa_nil)))) pa_nil))))) pss_nil)
      (pss_cons (ps_if (pt_cmpR op_eq (pv 2) pe_int (nomark _)) (pss_one (ps_ret (pe_call GL hr (by rfl) mL kL bL .nil pass0 (pa_cons (pe_op op_sub (pe_call GD hr (by rfl) mD kD bD .nil pass0 (pa_cons (pv 0) (pa_cons (pe_op op_add (pe_op op_mul pe_int (pe_op op_pow pe_int pe_int)) pe_int) pa_nil))) (pe_op op_pow pe_int pe_int)) (pa_cons (pe_op op_add pe_int (pe_call GD hr (by rfl) mD kD bD .nil pass0 (pa_cons (pv 0) (pa_cons (pe_op op_pow pe_int pe_int) pa_nil)))) pa_nil))))) pss_nil)
      (pss_cons (ps_set (i := 3) scRat.nd rfl (Or.inl rfl) (pe_op op_sub (pe_op op_pow pe_int pe_int) (pe_call GD hr (by rfl) mD kD bD .nil pass0 (pa_cons (pv 0) (pa_cons pe_int pa_nil)))))
      (pss_one (ps_ret (pe_ix ix_list (pe_lst (pa_cons (pe_tup (pa_cons (pv 3) (pa_cons pe_int pa_nil))) (pa_cons (pe_tup (pa_cons (pe_op op_sub pe_int (pv 3)) (pa_cons pe_int pa_nil))) (pa_cons (pe_tup (pa_cons pe_int (pa_cons (pv 3) pa_nil))) (pa_cons (pe_tup (pa_cons (pe_un un_neg pe_int) (pa_cons (pv 3) pa_nil))) pa_nil)))))
        (pe_call GD hr (by rfl) mD kD bD .nil pass0 (pa_cons (pv 0) (pa_cons pe_int pa_nil))) (fun _ _ => rfl)))))))), ?_⟩
    have two : 2 ≤ sizeLine := by decide
    have pw18 : CPow 10 18 := ⟨by decide, by decide, by decide⟩
    have pw40 : CPow 10 40 := ⟨by decide, by decide, by decide⟩
    have b140 : ∀ z : Int, -100000000000000000000000000000000000000000 ≤ z → z ≤ 100000000000000000000000000000000000000000 → z.natAbs < 2 ^ 140 := by
      intro z h1 h2
      have : (2 : Nat) ^ 140 = 1393796574908163946345982392040522594123776 := by decide
      omega
    have big : ∀ z : Int, -100000000000000000000000000000000000000000 ≤ z → z ≤ 100000000000000000000000000000000000000000 → z.natAbs < 2 ^ 4000 := fun z h1 h2 => Nat.lt_of_lt_of_le (b140 z h1 h2) (Nat.pow_le_pow_right (by decide) (by decide))
    have b40 : ∀ z : Int, -10000000000000000000000000000000000000000 ≤ z → z ≤ 10000000000000000000000000000000000000000 → z.natAbs ≤ 10000000000000000000000000000000000000000 := by
      intro z h1 h2
      omega
    refine ⟨_, rfl, _, rfl, .inr ⟨b, rfl, _, _, rfl, rfl, .inl ⟨by decide, by decide⟩, _, _, rfl, rfl, t, c, _, rfl, hT, by cases b <;> decide, by cases b <;> exact big _ (by decide) (by decide), fun k1 H1 u1 v1 T1 S1 => ?_⟩⟩
    refine ⟨_, rfl, _, _, rfl, rfl, _, rfl, ?_⟩
    refine ite2 (fun _ => ?_) (fun _ => ?_)
    · refine ⟨_, rfl, t, c, _, rfl, T1, by decide, big _ (by decide) (by decide), fun k2 H2 u2 v2 T2 S2 => ?_⟩
      refine ⟨_, _, rfl, rfl, two, fun p hp => ?_⟩
      exact k p (k2 - 7) 1 _ (rt_one _) (b40 _ (by omega) (by omega)) (b40 _ (by decide) (by decide)) upd_same ((S1.trans S2).free T2.tape hp) (T2.same (Same.upd hp)) ((S1.trans S2).trans (Same.b t (Same.upd hp)))
    · refine ⟨_, rfl, _, _, rfl, rfl, _, rfl, ?_⟩
      refine ite2 (fun _ => ?_) (fun _ => ?_)
      · refine ⟨_, rfl, t, c, _, rfl, T1, by decide, big _ (by decide) (by decide), fun k2 H2 u2 v2 T2 S2 => ?_⟩
        refine ⟨_, _, rfl, rfl, _, rfl, t, c, _, rfl, T2, by decide, big _ (by decide) (by decide), fun k3 H3 u3 v3 T3 S3 => ?_⟩
        refine ⟨_, _, rfl, rfl, _, _, rfl, by omega, big _ (by omega) (by omega), fun p hp => ?_⟩
        have le := low_le (n := k2 - 200) (d := 1 + k3) (by omega)
        exact k p _ _ _ (low_rt (by omega)) (Nat.le_trans le.1 (b40 _ (by omega) (by omega))) (Nat.le_trans le.2 (b40 _ (by omega) (by omega))) upd_same (((S1.trans S2).trans S3).free T3.tape hp) (T3.same (Same.upd hp)) (((S1.trans S2).trans S3).trans (Same.b t (Same.upd hp)))
      · refine ⟨_, rfl, rfl, _, rfl, ?_⟩
        refine ite2 (fun _ => ?_) (fun _ => ?_)
        · refine ⟨_, rfl, _, _, rfl, rfl, pw18, _, _, rfl, rfl, .inl ⟨by decide, by decide⟩, _, _, rfl, rfl, t, c, _, rfl, T1, ?_, ?_, fun k2 H2 u2 v2 T2 S2 => ?_⟩
          · rw [p18]
            decide
          · rw [p18]
            exact big _ (by decide) (by decide)
          rw [p18] at v2
          refine ⟨_, _, rfl, rfl, pw18, _, _, rfl, rfl, _, rfl, _, _, rfl, rfl, pw18, t, c, _, rfl, T2, ?_, ?_, fun k3 H3 u3 v3 T3 S3 => ?_⟩
          · rw [p18]
            decide
          · rw [p18]
            exact big _ (by decide) (by decide)
          rw [p18] at v3
          refine ⟨_, _, rfl, rfl, _, _, rfl, by omega, big _ (by omega) (by omega), fun p hp => ?_⟩
          have le := low_le (n := k2 - 10 ^ (18 : Int).toNat) (d := 1 + k3) (by omega)
          rw [p18] at le
          refine k p _ _ _ (low_rt (by omega)) ?_ (Nat.le_trans le.2 (b40 _ (by omega) (by omega))) upd_same (((S1.trans S2).trans S3).free T3.tape hp) (T3.same (Same.upd hp)) (((S1.trans S2).trans S3).trans (Same.b t (Same.upd hp)))
          exact Nat.le_trans le.1 (b40 _ (by omega) (by omega))
        · refine ⟨_, _, rfl, rfl, pw40, _, rfl, t, c, _, rfl, T1, by decide, big _ (by decide) (by decide), fun k2 H2 u2 v2 T2 S2 => ?_⟩
          refine ⟨_, _, rfl, rfl, ?_⟩
          rw [p40]
          obtain ⟨ed, he⟩ : ∃ ed : Int, ed = 10000000000000000000000000000000000000000 - k2 := ⟨_, rfl⟩
          rw [show (fun i j : Int => V.int (i - j)) 10000000000000000000000000000000000000000 k2 = V.int ed by rw [he]]
          refine ⟨_, rfl, two, fun a1 ha1 => ⟨_, rfl, _, _, rfl, rfl, two, fun a2 ha2 => ⟨_, rfl, two, fun a3 ha3 => ⟨_, rfl, _, rfl, two, fun a4 ha4 => ⟨by show 4 ≤ sizeLine; decide, fun a5 ha5 => ?_⟩⟩⟩⟩⟩
          have z1 := Same.upd (o := .tup [.int ed, .int 1]) ha1
          have z2 := Same.upd (o := .tup [.int (0 - ed), .int 1]) ha2
          have z3 := Same.upd (o := .tup [.int 1, .int ed]) ha3
          have z4 := Same.upd (o := .tup [.int (-1), .int ed]) ha4
          have z5 := Same.upd (o := .lst [.ref a1, .ref a2, .ref a3, .ref a4]) ha5
          have zz := z1.trans (z2.trans (z3.trans (z4.trans z5)))
          have T5 := T2.same zz
          refine ⟨_, rfl, t, c, _, rfl, T5, by decide, big _ (by decide) (by decide), fun k3 H3 u3 v3 T3 S3 => ?_⟩
          have n5 : a5 ≠ t := (T2.same (z1.trans (z2.trans (z3.trans z4)))).tape.ne ha5
          have n1 : a1 ≠ t := T2.tape.ne ha1
          have n2 : a2 ≠ t := (T2.same z1).tape.ne ha2
          have n3 : a3 ≠ t := (T2.same (z1.trans z2)).tape.ne ha3
          have n4 : a4 ≠ t := (T2.same (z1.trans (z2.trans z3))).tape.ne ha4
          have f0 := S1.trans S2
          have g1 : H a1 = none := f0.free T2.tape ha1
          have g2 : H a2 = none := f0.free T2.tape (z1.free ha2)
          have g3 : H a3 = none := f0.free T2.tape ((z1.trans z2).free ha3)
          have g4 : H a4 = none := f0.free T2.tape ((z1.trans (z2.trans z3)).free ha4)
          have sb := (f0.trans (Same.b t zz)).trans S3
          have e1 := S3 _ _ n1 ((z2.trans (z3.trans (z4.trans z5))) _ _ upd_same)
          have e2 := S3 _ _ n2 ((z3.trans (z4.trans z5)) _ _ upd_same)
          have e3 := S3 _ _ n3 ((z4.trans z5) _ _ upd_same)
          have e4 := S3 _ _ n4 (z5 _ _ upd_same)
          have hL := S3 _ _ n5 (upd_same)
          rcases (by omega : k3 = 0 ∨ k3 = 1 ∨ k3 = 2 ∨ k3 = 3) with rfl | rfl | rfl | rfl
          · exact ⟨a5, _, _, _, rfl, rfl, SqL.of hL, rfl, k a1 _ _ _ (rt_one _) (b40 _ (by omega) (by omega)) (b40 _ (by omega) (by omega)) e1 g1 T3 sb⟩
          · exact ⟨a5, _, _, _, rfl, rfl, SqL.of hL, rfl, k a2 _ _ _ (rt_one _) (b40 _ (by omega) (by omega)) (b40 _ (by omega) (by omega)) e2 g2 T3 sb⟩
          · exact ⟨a5, _, _, _, rfl, rfl, SqL.of hL, rfl, k a3 _ _ _ (rt_inv (by omega)) (b40 _ (by omega) (by omega)) (b40 _ (by omega) (by omega)) e3 g3 T3 sb⟩
          · exact ⟨a5, _, _, _, rfl, rfl, SqL.of hL, rfl, k a4 _ _ _ (rt_ninv (by omega)) (b40 _ (by omega) (by omega)) (b40 _ (by omega) (by omega)) e4 g4 T3 sb⟩
end
end K09
set_option Elab.async false
set_option linter.all false
set_option maxRecDepth 100000
set_option maxHeartbeats 4000000
namespace K09
open PySem PySem.Spec PyProof.Rows L2 Lc
inductive Vk : Str → PyData → Prop
  | non (k : Str) : Vk k .none
  | num {n d : Int} (h : Rt n d) (h1 : n.natAbs ≤ 10000000000000000000000000000000000000000) (h2 : d.natAbs ≤ 10000000000000000000000000000000000000000) : Vk "number" (.tuple [.int n, .int d])
  | flag (b : Bool) : Vk "flag" (.bool b)
  | word {x : Str} (h : Sh 12 x) (hn : nameB (.str x) = true) : Vk "word" (.str x)
inductive Vks : List Str → List PyData → Prop
  | nil : Vks [] []
  | cons {k : Str} {d : PyData} {ks : List Str} {ds : List PyData} (h : Vk k d) (r : Vks ks ds) : Vks (k :: ks) (d :: ds)
theorem Vks.app {k : Str} {d : PyData} (h : Vk k d) : ∀ {ks : List Str} {ds : List PyData}, Vks ks ds → Vks (ks ++ [k]) (ds ++ [d])
  | _, _, .nil => .cons h .nil
  | _, _, .cons a r => .cons a (Vks.app h r)
theorem Vks.len : ∀ {ks : List Str} {ds : List PyData}, Vks ks ds → ks.length = ds.length
  | _, _, .nil => rfl
  | _, _, .cons _ r => by rw [List.length_cons, List.length_cons, Vks.len r]
/-- v is d, all its parts are new since H -/
def DhF (H H' : Hp) (v : V) (d : PyData) : Prop := ∀ H2 : Hp, (∀ b o, H b = none → H' b = some o → H2 b = some o) → Dh H2 v d
theorem DhF.now {H H' : Hp} {v : V} {d : PyData} (h : DhF H H' v d) : Dh H' v d := h H' fun _ _ _ e => e
theorem Cols.get {H : Hp} : ∀ {xs : List V} {ps : List (Str × Str)}, Cols H xs ps → ∀ (i : Nat) (x : V), xs[i]? = some x → ∃ a z kk, x = .ref a ∧ H a = some (.tup [.str z, .str kk]) ∧ ps[i]? = some (z, kk)
  | _, _, .nil, i, x, e => by simp at e
  | _, _, .cons h r, 0, x, e => by
    obtain rfl := Option.some.inj e
    exact ⟨_, _, _, rfl, h, rfl⟩
  | _, _, .cons h r, i + 1, x, e => by
    obtain ⟨a, z, kk, h1, h2, h3⟩ := Cols.get r i x (by simpa using e)
    exact ⟨a, z, kk, h1, h2, by simpa using h3⟩
end K09
set_option Elab.async false
set_option linter.all false
set_option maxRecDepth 100000
set_option maxHeartbeats 4000000
namespace K09
open PySem PySem.Spec PyProof.Rows L2 Lc
abbrev sLf : Stmt := top 35
abbrev sXp : Stmt := top 36
/-- words over one and over two operands: the operands' kind, the result's -/
def OneW (w k r : Str) : Prop := (w = "not" ∧ k = "flag" ∧ r = "flag") ∨ (w = "missing" ∧ KindS k ∧ r = "flag")
def TwoW (w k r : Str) : Prop := ((w = "plus" ∨ w = "minus" ∨ w = "times" ∨ w = "over") ∧ k = "number" ∧ r = "number") ∨ (w = "less" ∧ k = "number" ∧ r = "flag") ∨ (w = "same" ∧ KindS k ∧ r = "flag") ∨ ((w = "both" ∨ w = "either") ∧ k = "flag" ∧ r = "flag")
/-- valid expressions of a kind over the columns ps, at most n deep -/
inductive Xp (ps : List (Str × Str)) : Nat → Str → PyData → Prop
  | col {n : Nat} {z k : Str} (h : (z, k) ∈ ps) : Xp ps (n + 1) k (.tuple [.str "column", .str z])
  | val {n : Nat} {k : Str} {d : PyData} (h : Vk k d) (nn : d ≠ .none) : Xp ps (n + 1) k (.tuple [.str "value", d])
  | one {n : Nat} {w k r : Str} {a : PyData} (hw : OneW w k r) (ha : Xp ps n k a) : Xp ps (n + 1) r (.tuple [.str w, a])
  | two {n : Nat} {w k r : Str} {a b : PyData} (hw : TwoW w k r) (ha : Xp ps n k a) (hb : Xp ps n k b) : Xp ps (n + 1) r (.tuple [.str w, a, b])
  | iff {n : Nat} {k : Str} {a b c : PyData} (ha : Xp ps n "flag" a) (hb : Xp ps n k b) (hc : Xp ps n k c) : Xp ps (n + 1) k (.tuple [.str "if", a, b, c])
theorem Xp.mono {ps : List (Str × Str)} {n : Nat} {k : Str} {d : PyData} (h : Xp ps n k d) : ∀ {m : Nat}, n ≤ m → Xp ps m k d := by
  induction h with
  | col h => intro m l; obtain ⟨j, rfl⟩ : ∃ j, m = j + 1 := ⟨m - 1, by omega⟩; exact .col h
  | val h nn => intro m l; obtain ⟨j, rfl⟩ : ∃ j, m = j + 1 := ⟨m - 1, by omega⟩; exact .val h nn
  | one hw _ ia => intro m l; obtain ⟨j, rfl⟩ : ∃ j, m = j + 1 := ⟨m - 1, by omega⟩; exact .one hw (ia (by omega))
  | two hw _ _ ia ib => intro m l; obtain ⟨j, rfl⟩ : ∃ j, m = j + 1 := ⟨m - 1, by omega⟩; exact .two hw (ia (by omega)) (ib (by omega))
  | iff _ _ _ ia ib ic => intro m l; obtain ⟨j, rfl⟩ : ∃ j, m = j + 1 := ⟨m - 1, by omega⟩; exact .iff (ia (by omega)) (ib (by omega)) (ic (by omega))
theorem DhF.wide {t : Addr} {H Ha Hb : Hp} {v : V} {d : PyData} (h : DhF Ha Hb v d) (s : SameB t H Ha) (T : Tape Ha t) : DhF H Hb v d := fun H2 h2 => h H2 fun b o n e => h2 b o (s.free T n) e
theorem DhF.later {t : Addr} {H Hb Hc : Hp} {v : V} {d : PyData} (h : DhF H Hb v d) (T : Tape H t) (s : SameB t Hb Hc) : DhF H Hc v d := fun H2 h2 => h H2 fun b o e e' => h2 b o e (s b o (T.ne e) e')
theorem Cols.b {t : Addr} {H H' : Hp} {xs : List V} {ps : List (Str × Str)} (h : Cols H xs ps) (T : Tape H t) (s : SameB t H H') : Cols H' xs ps := h.t (SameT.b T s)
/-- what a drawn expression is -/
def NewX (H : Hp) (t c : Addr) (ps : List (Str × Str)) (n : Nat) (k : Str) (Q : VK) : Prop := ∀ (v : V) (d : PyData) (H' : Hp), DhF H H' v d → Xp ps n k d → TapeL c H' t → SameB t H H' → Q v H'
def spLf : Sp := fun vs H Q _ => ∃ (t c L : Addr) (kind : Str) (xs : List V) (ps : List (Str × Str)), vs = [.ref t, .ref L, .str kind] ∧ KindS kind ∧ TapeL c H t ∧ H L = some (.tup xs) ∧ Cols H xs ps ∧ ps.length ≤ 8 ∧ NewX H t c ps 1 kind Q
def spXp : Nat → Sp
  | 0 => fun _ _ _ _ => False
  | n + 1 => fun vs H Q _ => ∃ (t c L : Addr) (kind : Str) (xs : List V) (ps : List (Str × Str)), vs = [.ref t, .ref L, .str kind, .int ((n : Int) + 1)] ∧ KindS kind ∧ TapeL c H t ∧ H L = some (.tup xs) ∧ Cols H xs ps ∧ ps.length ≤ 8 ∧ NewX H t c ps (n + 1) kind Q
abbrev ttLf : TT := tTest (tOp rEq (tVar 5) (tVar 2))
section
variable {P : Program} {w : World} {K : PySem.W.Frag} {mg : Str → Option Value} {base : Heap} {f fD fR fL : Addr} {fd fdD fdR fdL : FuncData}
abbrev nLf : List Str := ["_law_tape_here", "_law_columns_here", "_law_kind_here", "_law_same", "_law_name_here", "_law_other"]
theorem scLf : FnScope nLf ["_law_tape_here", "_law_columns_here", "_law_kind_here"] (defScope sLf) := ⟨rfl, rfl, rfl, by decide +kernel, rfl, by decide +kernel, by decide +kernel⟩
theorem ok_lf (F : Fun K "_law_leaf" "_law_leaf" sLf f fd) (T : Bt mg) (GD : FnOk P w K mg base CX0 1 fD fdD ["_law_tape_here", "_law_many"] spDrawL) (mD : mg "_law_draw" = some (.ref fD)) (kD : PySem.W.keepIn K (.ref fD) = true) (bD : Binds K fdD ["_law_tape_here", "_law_many"] [])
    (GR : FnOk P w K mg base CX0 2 fR fdR ["_law_tape_here", "_law_wide"] spRatL) (mR : mg "_law_rational" = some (.ref fR)) (kR : PySem.W.keepIn K (.ref fR) = true) (bR : Binds K fdR ["_law_tape_here", "_law_wide"] []) : FnOk P w K mg base CX0 3 f fd ["_law_tape_here", "_law_columns_here", "_law_kind_here"] spLf := by
  refine F.ok scLf (fun vs H Q E h => ?_) (fun cdv A outer s H vs Q E hr h => ?_)
  · obtain ⟨t, c, L, kind, xs, ps, rfl, _⟩ := h
    rfl
  · obtain ⟨t, c, L, kind, xs, ps, rfl, hk, hT, hL, hc, l8, k⟩ := h
    have hr1 : Room 1 _ := hr.mono (by decide)
    refine ⟨_, Evl.pss_cut (ps_setLc (i := 3) (own := [("_law_name_here", 4), ("_law_other", 5)]) (g := gTup K 2 (gCons (gName 4) (gCons (gName 5) gNil))) (tt := ttLf) (te := tVar 4) (by rfl) scLf.nd rfl rfl (sw_true rfl rfl rfl (by decide +kernel)) (pi_tup (pv 1)) (blkOk_by (own := [("_law_name_here", 4), ("_law_other", 5)]) (N := nLf) (sc := defScope sLf) (by decide +kernel))
          (fun _ _ _ _ _ => pg_tup rfl (pgs_cons (pg_name (i := 4) scLf.nd rfl (.inl rfl)) (pgs_cons (pg_name (i := 5) scLf.nd rfl (.inl rfl)) pgs_nil))) (fun _ _ _ _ _ => pts_one (pt_cmpR op_eq (pv 5) (pv 2) (nomark _))) (fun _ _ _ _ _ => pv 4))
      (Evl.pss_cut (ps_if (PW.pt (pw_and (pt_truth (pv 3) (fun _ => rfl)) (pw_and1 (pt_cmpR op_gt (pe_call GD hr1 (by rfl) mD kD bD .nil pass0 (pa_cons (pv 0) (pa_cons pe_int pa_nil))) pe_int (nomark _)))))
        (pss_one (ps_ret (pe_tup (pa_cons pe_str (pa_cons (pe_ix ix_list (pv 3) (pe_call GD hr1 (by rfl) mD kD bD .nil pass0 (pa_cons (pv 0) (pa_cons (pe_callB call_len_seq (by rfl) T.len PySem.boot_len (pa_cons (pv 3) pa_nil)) pa_nil))) (fun _ _ => rfl)) pa_nil))))) pss_nil)
      (pss_cons (ps_if (pt_cmpR op_eq (pv 2) pe_str (nomark _)) (pss_one (ps_ret (pe_tup (pa_cons pe_str (pa_cons (pe_call GR hr (by rfl) mR kR bR .nil pass0 (pa_cons (pv 0) (pa_cons pe_bl pa_nil))) pa_nil))))) pss_nil)
      (pss_cons (ps_if (pt_cmpR op_eq (pv 2) pe_str (nomark _)) (pss_one (ps_ret (pe_tup (pa_cons pe_str (pa_cons (pe_cmpR op_eq (pe_call GD hr1 (by rfl) mD kD bD .nil pass0 (pa_cons (pv 0) (pa_cons pe_int pa_nil))) pe_int (nomark _)) pa_nil))))) pss_nil)
      (pss_one (ps_ret (pe_tup (pa_cons pe_str (pa_cons (pe_ix ix_list (pe_lst (pa_cons pe_str (pa_cons pe_str (pa_cons pe_str (pa_cons pe_str pa_nil))))) (pe_call GD hr1 (by rfl) mD kD bD .nil pass0 (pa_cons (pv 0) (pa_cons pe_int pa_nil))) (fun _ _ => rfl)) pa_nil)))))))), ?_⟩
    have two : 2 ≤ sizeLine := by decide
    have four : 4 ≤ sizeLine := by decide
    have lx := hc.len
    -- the columns of the kind
    refine ⟨fun σ H' => ∃ (W : Addr) (ns : List Str) (x4 x5 : Option V), σ = [some (.ref t), some (.ref L), some (.str kind), some (.ref W), x4, x5] ∧ H' W = some (.lst (ns.map V.str)) ∧ H W = none ∧ ns.length ≤ 8 ∧ (∀ z ∈ ns, (z, kind) ∈ ps) ∧ Same H H', ?_, ?_⟩
    · refine ⟨_, rfl, L, rfl, ⟨_, SqT.of hL⟩, fun D hD => lc_tup (K := K) (a := L) (xs := xs) (fun i H' => ∃ ns : List Str, H' D = some (.lst (ns.map V.str)) ∧ ns.length ≤ i ∧ (∀ z ∈ ns, (z, kind) ∈ ps) ∧ Same H H') ⟨[], upd_same, Nat.le_refl _, nofun, Same.upd hD⟩ (fun i H' _ p => by obtain ⟨_, _, _, _, s'⟩ := p; exact SqT.of (s' _ _ hL)) ?_ ?_⟩
      · rintro i x H1 hx ⟨ns, hD1, ln, hn, s1⟩
        obtain ⟨a, z, kk, rfl, ea, ep⟩ := hc.get _ _ hx
        have hi : i < xs.length := (List.getElem?_eq_some_iff.mp hx).1
        refine ⟨a, _, rfl, SqT.of (s1 _ _ ea), rfl, _, _, rfl, _, _, rfl, rfl, rfl, ?_⟩
        change ttLf _ _ _
        refine ⟨_, rfl, _, rfl, rfl, _, rfl, ite2 (fun q => ?_) (fun q => ?_)⟩
        · have ek : kk = kind := by have := of_decide_eq_true q; injection this
          subst ek
          refine ⟨_, rfl, _, hD1, ?_, ns ++ [z], by rw [upd_same, List.map_append]; rfl, by rw [List.length_append]; show ns.length + 1 ≤ _; omega, fun y hy => ?_, fun b o e => by rw [upd_ne (ne_of_none e hD)]; exact s1 b o e⟩
          · rw [List.length_map]
            exact Nat.lt_of_le_of_lt (show _ ≤ 8 by omega) (by decide)
          · rcases List.mem_append.mp hy with hy | hy
            · exact hn y hy
            · rw [List.mem_singleton.mp hy]
              exact List.mem_of_getElem? ep
        · exact ⟨ns, hD1, by omega, hn, s1⟩
      · rintro H1 ⟨ns, hD1, ln, hn, s1⟩
        exact ⟨D, ns, _, _, rfl, hD1, hD, by omega, hn, s1⟩
    rintro σ H1 ⟨W, ns, x4, x5, rfl, hW, gW, ln, hn, s1⟩
    have T1 := hT.same s1
    have nW := hT.tape.ne gW
    have S1 := Same.b t s1
    -- a column
    refine ⟨fun σ H' => σ = [some (.ref t), some (.ref L), some (.str kind), some (.ref W), x4, x5] ∧ TapeL c H' t ∧ SameB t H H', ?_, ?_⟩
    · refine ⟨_, rfl, _, .inl ⟨_, SqL.of hW, rfl⟩, ite2 (fun ne => ?_) (fun _ => iteF ⟨rfl, T1, S1⟩)⟩
      have pos : 0 < ns.length := by
        cases ns with
        | nil => simp at ne
        | cons a r => exact Nat.succ_pos _
      refine ⟨_, rfl, t, c, _, rfl, T1, by decide, big1000 (by decide) (by decide), fun j H2 _ _ T2 S2 => ⟨_, _, rfl, rfl, _, rfl, ite2 (fun _ => ?_) (fun _ => ⟨rfl, T2, S1.trans S2⟩)⟩⟩
      have hW2 := S2 _ _ nW hW
      refine ⟨_, rfl, _, rfl, _, rfl, W, _, rfl, .inl (SqL.of hW2), t, c, _, rfl, T2, by rw [List.length_map]; omega, big1000 (by omega) (by rw [List.length_map]; omega), fun j H3 j0 j1 T3 S3 => ?_⟩
      rw [List.length_map] at j1
      have hj : j.toNat < ns.length := by omega
      have hm : (ns.map V.str)[j.toNat]? = some (.str ns[j.toNat]) := by rw [List.getElem?_map, List.getElem?_eq_getElem hj]; rfl
      refine ⟨W, _, _, _, rfl, rfl, SqL.of (S3 _ _ nW hW2), at_of (j := j.toNat) (by omega) hm, two, fun r hr' => ?_⟩
      have S13 := (S1.trans S2).trans S3
      have zr := Same.upd (o := .tup [.str "column", .str ns[j.toNat]]) hr'
      exact k _ _ _ (fun H5 h5 => .tup (h5 _ _ (S13.free T3.tape hr') upd_same) (.cons (.str _) (.cons (.str _) .nil))) (.col (n := 0) (hn _ (List.getElem_mem hj))) (T3.same zr) (S13.trans (Same.b t zr))
    clear hW gW hn s1 T1 nW S1
    rintro σ H1 ⟨rfl, T1, S1⟩
    have fin : ∀ {H3 : Hp} {v : V} {d : PyData}, DhF H H3 v d → Vk kind d → d ≠ .none → TapeL c H3 t → SameB t H H3 → ∀ r, H3 r = none → Q (.ref r) (upd H3 r (.tup [.str "value", v])) := fun {H3 v d} df vk nn T3 S3 r hr' => by
      have zr := Same.upd (o := .tup [.str "value", v]) hr'
      exact k _ _ _ (fun H5 h5 => .tup (h5 _ _ (S3.free T3.tape hr') upd_same) (.cons (.str _) (.cons ((df.later hT.tape (Same.b t zr)) H5 h5) .nil))) (.val (n := 0) vk nn) (T3.same zr) (S3.trans (Same.b t zr))
    refine ⟨_, rfl, rfl, _, rfl, ?_⟩
    rw [decide_eq_decide.mpr (show V.str kind = V.str "number" ↔ kind = "number" from ⟨fun e => by injection e, fun e => by rw [e]⟩)]
    by_cases k1 : kind = "number"
    · rw [decide_eq_true k1]
      subst k1
      refine iteT ⟨_, rfl, t, c, false, rfl, T1, fun p n d H2 rt h1 h2 e g T2 S2 => ⟨two, ?_⟩⟩
      have g0 := S1.free T1.tape g
      exact fin (fun H5 h5 => .tup (h5 _ _ g0 e) (.cons (.int n) (.cons (.int d) .nil))) (.num rt h1 h2) nofun T2 (S1.trans S2)
    rw [decide_eq_false k1]
    refine iteF ⟨_, rfl, rfl, _, rfl, ?_⟩
    rw [decide_eq_decide.mpr (show V.str kind = V.str "flag" ↔ kind = "flag" from ⟨fun e => by injection e, fun e => by rw [e]⟩)]
    by_cases k2 : kind = "flag"
    · rw [decide_eq_true k2]
      subst k2
      exact iteT ⟨_, rfl, t, c, _, rfl, T1, by decide, big1000 (by decide) (by decide), fun j H2 _ _ T2 S2 => ⟨rfl, two, fin (fun _ _ => .bl _) (.flag _) nofun T2 (S1.trans S2)⟩⟩
    rw [decide_eq_false k2]
    have k3 : kind = "word" := by rcases hk with z | z | z; exact absurd z k1; exact z; exact absurd z k2
    subst k3
    refine iteF ⟨four, fun Y hY => ?_⟩
    have zY := Same.upd (o := .lst [.str "a", .str "b", .str "ab", .str "b0"]) hY
    have nY := T1.tape.ne hY
    refine ⟨_, rfl, t, c, _, rfl, T1.same zY, by decide, big1000 (by decide) (by decide), fun j H2 j0 j4 T2 S2 => ?_⟩
    have S12 := S1.trans ((Same.b t zY).trans S2)
    have all : ∀ v ∈ ([.str "a", .str "b", .str "ab", .str "b0"] : List V), ∃ z : Str, v = .str z ∧ Sh 12 z ∧ nameB (.str z) = true := by
      intro v hv
      simp only [List.mem_cons, List.not_mem_nil, or_false] at hv
      rcases hv with rfl | rfl | rfl | rfl <;> exact ⟨_, rfl, ⟨by decide +kernel, by decide +kernel⟩, by decide +kernel⟩
    have hj : j.toNat < ([.str "a", .str "b", .str "ab", .str "b0"] : List V).length := by show j.toNat < 4; omega
    obtain ⟨z, ez, sz, nz⟩ := all _ (List.getElem_mem hj)
    refine ⟨Y, _, _, _, rfl, rfl, SqL.of (S2 _ _ nY upd_same), at_of (j := j.toNat) (by omega) ((List.getElem?_eq_getElem hj).trans (congrArg some ez)), two, ?_⟩
    exact fin (fun _ _ => .str z) (.word sz nz) nofun T2 S12
end
end K09
set_option Elab.async false
set_option linter.all false
set_option maxRecDepth 100000
set_option maxHeartbeats 4000000
namespace K09
open PySem PySem.Spec PyProof.Rows L2 Lc
section
variable {P : Program} {w : World} {K : PySem.W.Frag} {mg : Str → Option Value} {base : Heap} {f fD fL : Addr} {fd fdD fdL : FuncData}
abbrev nXp : List Str := ["_law_tape_here", "_law_columns_here", "_law_kind_here", "_law_depth", "_law_turn", "_law_low", "_law_test", "_law_left", "_law_word", "_law_some"]
abbrev pXp : List Str := ["_law_tape_here", "_law_columns_here", "_law_kind_here", "_law_depth"]
theorem scXp : FnScope nXp pXp (defScope sXp) := ⟨rfl, rfl, rfl, by decide +kernel, rfl, by decide +kernel, by decide +kernel⟩
theorem fn_none {f : Addr} {fd : FuncData} {ps : List Str} {k : Nat} : FnOk P w K mg base CX0 k f fd ps (fun _ _ _ _ => False) := ⟨fun _ _ _ _ h => h.elim, fun _ _ _ _ _ _ _ _ _ _ _ _ _ h => h.elim⟩
theorem ok_xp1 (n : Nat) (F : Fun K "_law_expression" "_law_expression" sXp f fd) (GD : FnOk P w K mg base CX0 1 fD fdD ["_law_tape_here", "_law_many"] spDrawL) (mD : mg "_law_draw" = some (.ref fD)) (kD : PySem.W.keepIn K (.ref fD) = true) (bD : Binds K fdD ["_law_tape_here", "_law_many"] [])
    (GL : FnOk P w K mg base CX0 3 fL fdL ["_law_tape_here", "_law_columns_here", "_law_kind_here"] spLf) (mL : mg "_law_leaf" = some (.ref fL)) (kL : PySem.W.keepIn K (.ref fL) = true) (bL : Binds K fdL ["_law_tape_here", "_law_columns_here", "_law_kind_here"] [])
    (GX : FnOk P w K mg base CX0 (3 + n) f fd pXp (spXp n)) (mX : mg "_law_expression" = some (.ref f)) (kX : PySem.W.keepIn K (.ref f) = true) (bX : Binds K fd pXp []) : FnOk P w K mg base CX0 (3 + n + 1) f fd pXp (spXp (n + 1)) := by
  refine F.ok scXp (fun vs H Q E h => ?_) (fun cdv A outer s H vs Q E hr h => ?_)
  · obtain ⟨t, c, L, kind, xs, ps, rfl, _⟩ := h
    rfl
  · obtain ⟨t, c, L, kind, xs, ps, rfl, hk, hT, hL, hc, l8, k⟩ := h
    have hr1 : Room 1 _ := hr.mono (by omega)
    have hr3 : Room 3 _ := hr.mono (by omega)
    refine ⟨_, pss_cons (ps_set (i := 4) scXp.nd rfl (Or.inl rfl) (pe_call GD hr1 (by rfl) mD kD bD .nil pass0 (pa_cons (pv 0) (pa_cons pe_int pa_nil))))
      (pss_cons (ps_set (i := 5) scXp.nd rfl (Or.inl rfl) (pe_op op_sub (pv 3) pe_int))
      (pss_cons (ps_if (PW.pt (pw_or (pt_cmpR op_le (pv 3) pe_int (nomark _)) (pw_or1 (pt_cmpR op_lt (pv 4) pe_int (nomark _))))) (pss_one (ps_ret (pe_call GL hr3 (by rfl) mL kL bL .nil pass0 (pa_cons (pv 0) (pa_cons (pv 1) (pa_cons (pv 2) pa_nil)))))) pss_nil)
      (pss_cons (ps_if (pt_cmpR op_eq (pv 4) pe_int (nomark _)) (pss_cons (ps_set (i := 6) scXp.nd rfl (Or.inl rfl) (pe_call GX hr (by rfl) mX kX bX .nil pass0 (pa_cons (pv 0) (pa_cons (pv 1) (pa_cons pe_str (pa_cons (pv 5) pa_nil))))))
          (pss_cons (ps_set (i := 7) scXp.nd rfl (Or.inl rfl) (pe_call GX hr (by rfl) mX kX bX .nil pass0 (pa_cons (pv 0) (pa_cons (pv 1) (pa_cons (pv 2) (pa_cons (pv 5) pa_nil))))))
          (pss_one (ps_ret (pe_tup (pa_cons pe_str (pa_cons (pv 6) (pa_cons (pv 7) (pa_cons (pe_call GX hr (by rfl) mX kX bX .nil pass0 (pa_cons (pv 0) (pa_cons (pv 1) (pa_cons (pv 2) (pa_cons (pv 5) pa_nil))))) pa_nil))))))))) pss_nil)
      (pss_cons (ps_if (pt_cmpR op_eq (pv 2) pe_str (nomark _)) (pss_one (ps_ret (pe_call GL hr3 (by rfl) mL kL bL .nil pass0 (pa_cons (pv 0) (pa_cons (pv 1) (pa_cons (pv 2) pa_nil)))))) pss_nil)
      (pss_cons (ps_if (pt_cmpR op_eq (pv 2) pe_str (nomark _)) (pss_cons (ps_set (i := 8) scXp.nd rfl (Or.inl rfl) (pe_ix ix_list (pe_lst (pa_cons pe_str (pa_cons pe_str (pa_cons pe_str (pa_cons pe_str pa_nil))))) (pe_call GD hr1 (by rfl) mD kD bD .nil pass0 (pa_cons (pv 0) (pa_cons pe_int pa_nil))) (fun _ _ => rfl)))
          (pss_cons (ps_set (i := 7) scXp.nd rfl (Or.inl rfl) (pe_call GX hr (by rfl) mX kX bX .nil pass0 (pa_cons (pv 0) (pa_cons (pv 1) (pa_cons pe_str (pa_cons (pv 5) pa_nil))))))
          (pss_one (ps_ret (pe_tup (pa_cons (pv 8) (pa_cons (pv 7) (pa_cons (pe_call GX hr (by rfl) mX kX bX .nil pass0 (pa_cons (pv 0) (pa_cons (pv 1) (pa_cons pe_str (pa_cons (pv 5) pa_nil))))) pa_nil)))))))) pss_nil)
      (pss_cons (ps_if (pt_cmpR op_eq (pv 4) pe_int (nomark _)) (pss_one (ps_ret (pe_tup (pa_cons pe_str (pa_cons (pe_call GX hr (by rfl) mX kX bX .nil pass0 (pa_cons (pv 0) (pa_cons (pv 1) (pa_cons pe_str (pa_cons (pv 5) pa_nil))))) pa_nil))))) pss_nil)
      (Evl.pss_cut (ps_set (i := 9) scXp.nd rfl (Or.inl rfl) (pe_ix ix_list (pe_lst (pa_cons pe_str (pa_cons pe_str (pa_cons pe_str pa_nil)))) (pe_call GD hr1 (by rfl) mD kD bD .nil pass0 (pa_cons (pv 0) (pa_cons pe_int pa_nil))) (fun _ _ => rfl)))
      (pss_cons (ps_if (pt_cmpR op_eq (pv 4) pe_int (nomark _)) (pss_one (ps_ret (pe_tup (pa_cons pe_str (pa_cons (pe_call GX hr (by rfl) mX kX bX .nil pass0 (pa_cons (pv 0) (pa_cons (pv 1) (pa_cons (pv 9) (pa_cons (pv 5) pa_nil))))) pa_nil))))) pss_nil)
      (pss_cons (ps_if (pt_cmpR op_eq (pv 4) pe_int (nomark _)) (pss_cons (ps_set (i := 7) scXp.nd rfl (Or.inl rfl) (pe_call GX hr (by rfl) mX kX bX .nil pass0 (pa_cons (pv 0) (pa_cons (pv 1) (pa_cons (pv 9) (pa_cons (pv 5) pa_nil))))))
          (pss_one (ps_ret (pe_tup (pa_cons pe_str (pa_cons (pv 7) (pa_cons (pe_call GX hr (by rfl) mX kX bX .nil pass0 (pa_cons (pv 0) (pa_cons (pv 1) (pa_cons (pv 9) (pa_cons (pv 5) pa_nil))))) pa_nil))))))) pss_nil)
      (pss_cons (ps_if (pt_cmpR op_lt (pv 4) pe_int (nomark _)) (pss_cons (ps_set (i := 7) scXp.nd rfl (Or.inl rfl) (pe_call GX hr (by rfl) mX kX bX .nil pass0 (pa_cons (pv 0) (pa_cons (pv 1) (pa_cons pe_str (pa_cons (pv 5) pa_nil))))))
          (pss_one (ps_ret (pe_tup (pa_cons pe_str (pa_cons (pv 7) (pa_cons (pe_call GX hr (by rfl) mX kX bX .nil pass0 (pa_cons (pv 0) (pa_cons (pv 1) (pa_cons pe_str (pa_cons (pv 5) pa_nil))))) pa_nil))))))) pss_nil)
      (pss_cons (ps_set (i := 8) scXp.nd rfl (Or.inl rfl) (pe_ix ix_list (pe_lst (pa_cons pe_str (pa_cons pe_str pa_nil))) (pe_call GD hr1 (by rfl) mD kD bD .nil pass0 (pa_cons (pv 0) (pa_cons pe_int pa_nil))) (fun _ _ => rfl)))
      (pss_cons (ps_set (i := 7) scXp.nd rfl (Or.inl rfl) (pe_call GX hr (by rfl) mX kX bX .nil pass0 (pa_cons (pv 0) (pa_cons (pv 1) (pa_cons pe_str (pa_cons (pv 5) pa_nil))))))
      (pss_one (ps_ret (pe_tup (pa_cons (pv 8) (pa_cons (pv 7) (pa_cons (pe_call GX hr (by rfl) mX kX bX .nil pass0 (pa_cons (pv 0) (pa_cons (pv 1) (pa_cons pe_str (pa_cons (pv 5) pa_nil))))) pa_nil)))))))))))))))))), ?_⟩
    have two : 2 ≤ sizeLine := by decide
    have three : 3 ≤ sizeLine := by decide
    have four : 4 ≤ sizeLine := by decide
    have kF : KindS "flag" := .inr (.inr rfl)
    have kN : KindS "number" := .inl rfl
    refine ⟨_, rfl, t, c, _, rfl, hT, by decide, big1000 (by decide) (by decide), fun u H1 u0 u9 T1 S1 => ⟨_, rfl, _, _, rfl, rfl, ?_⟩⟩
    show gName 5 (.int ((n : Int) + 1 - 1)) _ _ _
    rw [show (n : Int) + 1 - 1 = n by omega]
    have leaf : spLf [.ref t, .ref L, .str kind] H1 Q E0 := ⟨t, c, L, kind, xs, ps, rfl, hk, T1, S1 _ _ (hT.tape.neT hL) hL, hc.b hT.tape S1, l8, fun v d H2 df xp T2 S2 => k v d H2 (df.wide S1 T1.tape) (xp.mono (by omega)) T2 (S1.trans S2)⟩
    refine ⟨_, rfl, _, _, rfl, rfl, _, rfl, ite2 (fun _ => iteT ⟨_, rfl, _, rfl, _, rfl, leaf⟩) (fun nd => ⟨_, rfl, _, _, rfl, rfl, _, rfl, ite2 (fun _ => ⟨_, rfl, _, rfl, _, rfl, leaf⟩) (fun _ => ?_)⟩)⟩
    obtain ⟨m, rfl⟩ : ∃ m, n = m + 1 := by
      have : ¬ ((n : Int) + 1 ≤ 1) := fun z => nd (decide_eq_true z)
      exact ⟨n - 1, by omega⟩
    rw [show ((m + 1 : Nat) : Int) = (m : Int) + 1 by omega]
    have again : ∀ {H1 : Hp} {kd : Str} {Q' : VK}, KindS kd → TapeL c H1 t → SameB t H H1 → (∀ v d H2, DhF H H2 v d → Xp ps (m + 1) kd d → TapeL c H2 t → SameB t H1 H2 → SameB t H H2 → Q' v H2) → spXp (m + 1) [.ref t, .ref L, .str kd, .int ((m : Int) + 1)] H1 Q' E0 :=
      fun {H1 kd Q'} hk T1 S1 kq => ⟨t, c, L, kd, xs, ps, rfl, hk, T1, S1 _ _ (hT.tape.neT hL) hL, hc.b hT.tape S1, l8, fun v d H2 df xp T2 S2 => kq v d H2 (df.wide S1 T1.tape) xp T2 S2 (S1.trans S2)⟩
    have fin1 : ∀ {H3 : Hp} {wd kd kr : Str} {va : V} {da : PyData}, kr = kind → OneW wd kd kr → DhF H H3 va da → Xp ps (m + 1) kd da → TapeL c H3 t → SameB t H H3 → ∀ r, H3 r = none → Q (.ref r) (upd H3 r (.tup [.str wd, va])) := fun {H3 wd kd kr va da} ek hw dva xa T3 S3 r hr' => by
      subst ek
      have zr := Same.upd (o := .tup [.str wd, va]) hr'
      exact k _ _ _ (fun H5 h5 => .tup (h5 _ _ (S3.free T3.tape hr') upd_same) (.cons (.str _) (.cons (dva.later hT.tape (Same.b t zr) H5 h5) .nil))) (.one hw xa) (T3.same zr) (S3.trans (Same.b t zr))
    have fin2 : ∀ {H3 : Hp} {wd kd kr : Str} {va vb : V} {da db : PyData}, kr = kind → TwoW wd kd kr → DhF H H3 va da → DhF H H3 vb db → Xp ps (m + 1) kd da → Xp ps (m + 1) kd db → TapeL c H3 t → SameB t H H3 → ∀ r, H3 r = none → Q (.ref r) (upd H3 r (.tup [.str wd, va, vb])) := fun {H3 wd kd kr va vb da db} ek hw dva dvb xa xb T3 S3 r hr' => by
      subst ek
      have zr := Same.upd (o := .tup [.str wd, va, vb]) hr'
      exact k _ _ _ (fun H5 h5 => .tup (h5 _ _ (S3.free T3.tape hr') upd_same) (.cons (.str _) (.cons (dva.later hT.tape (Same.b t zr) H5 h5) (.cons (dvb.later hT.tape (Same.b t zr) H5 h5) .nil)))) (.two hw xa xb) (T3.same zr) (S3.trans (Same.b t zr))
    have sE : ∀ (a b : Str), decide (V.str a = V.str b) = decide (a = b) := fun a b => decide_eq_decide.mpr ⟨fun e => by injection e, fun e => by rw [e]⟩
    -- if
    refine ⟨_, rfl, rfl, _, rfl, ite2 (fun _ => ?_) (fun _ => ?_)⟩
    · refine ⟨_, rfl, _, rfl, _, rfl, again kF T1 S1 (fun va da H2 dva xa T2 _ S2 => ?_)⟩
      refine ⟨_, rfl, _, rfl, _, rfl, _, rfl, again hk T2 S2 (fun vb db H3 dvb xb T3 s23 S3 => ?_)⟩
      refine ⟨_, rfl, _, rfl, _, rfl, _, rfl, _, rfl, _, rfl, again hk T3 S3 (fun vc dc H4 dvc xc T4 s34 S4 => ⟨four, fun r hr' => ?_⟩)⟩
      have zr := Same.upd (o := .tup [.str "if", va, vb, vc]) hr'
      have z4 := s34.trans (Same.b t zr)
      exact k _ _ _ (fun H5 h5 => .tup (h5 _ _ (S4.free T4.tape hr') upd_same) (.cons (.str _) (.cons (dva.later hT.tape (s23.trans z4) H5 h5) (.cons (dvb.later hT.tape z4 H5 h5) (.cons (dvc.later hT.tape (Same.b t zr) H5 h5) .nil))))) (.iff xa xb xc) (T4.same zr) (S4.trans (Same.b t zr))
    -- a word
    refine ⟨_, rfl, rfl, _, rfl, ?_⟩
    rw [sE]
    by_cases k1 : kind = "word"
    · rw [decide_eq_true k1]
      exact iteT ⟨_, rfl, _, rfl, _, rfl, leaf⟩
    rw [decide_eq_false k1]
    refine iteF ⟨_, rfl, rfl, _, rfl, ?_⟩
    rw [sE]
    by_cases k2 : kind = "number"
    · rw [decide_eq_true k2]
      refine iteT ⟨four, fun Y hY => ?_⟩
      have zY := Same.upd (o := .lst [.str "plus", .str "minus", .str "times", .str "over"]) hY
      have nY := T1.tape.ne hY
      refine ⟨_, rfl, t, c, _, rfl, T1.same zY, by decide, big1000 (by decide) (by decide), fun j H2 j0 j4 T2 S2 => ?_⟩
      have S12 := S1.trans ((Same.b t zY).trans S2)
      have all : ∀ v ∈ ([.str "plus", .str "minus", .str "times", .str "over"] : List V), ∃ z : Str, v = .str z ∧ (z = "plus" ∨ z = "minus" ∨ z = "times" ∨ z = "over") := by
        intro v hv
        simp only [List.mem_cons, List.not_mem_nil, or_false] at hv
        rcases hv with rfl | rfl | rfl | rfl
        · exact ⟨_, rfl, .inl rfl⟩
        · exact ⟨_, rfl, .inr (.inl rfl)⟩
        · exact ⟨_, rfl, .inr (.inr (.inl rfl))⟩
        · exact ⟨_, rfl, .inr (.inr (.inr rfl))⟩
      have hj : j.toNat < ([.str "plus", .str "minus", .str "times", .str "over"] : List V).length := by show j.toNat < 4; omega
      obtain ⟨z, ez, hz⟩ := all _ (List.getElem_mem hj)
      refine ⟨Y, _, _, _, rfl, rfl, SqL.of (S2 _ _ nY upd_same), at_of (j := j.toNat) (by omega) ((List.getElem?_eq_getElem hj).trans (congrArg some ez)), ?_⟩
      refine ⟨_, rfl, _, rfl, _, rfl, again kN T2 S12 (fun va da H3 dva xa T3 _ S3 => ?_)⟩
      refine ⟨_, rfl, _, rfl, _, rfl, _, rfl, _, rfl, again kN T3 S3 (fun vb db H4 dvb xb T4 s34 S4 => ⟨three, ?_⟩)⟩
      exact fin2 k2.symm (.inl ⟨hz, rfl, rfl⟩) (dva.later hT.tape s34) dvb xa xb T4 S4
    rw [decide_eq_false k2]
    have k3 : "flag" = kind := by rcases hk with z | z | z; exact absurd z k2; exact absurd z k1; exact z.symm
    -- not
    refine iteF ⟨_, rfl, rfl, _, rfl, ite2 (fun _ => ?_) (fun _ => ?_)⟩
    · exact ⟨_, rfl, _, rfl, _, rfl, again kF T1 S1 (fun va da H2 dva xa T2 _ S2 => ⟨two, fin1 k3 (.inl ⟨rfl, rfl, rfl⟩) dva xa T2 S2⟩)⟩
    -- some kind
    refine ⟨fun σ H' => ∃ kd : Str, KindS kd ∧ σ = [some (.ref t), some (.ref L), some (.str kind), some (.int ((m : Int) + 1 + 1)), some (.int u), some (.int ((m : Int) + 1)), none, none, none, some (.str kd)] ∧ TapeL c H' t ∧ SameB t H H', ?_, ?_⟩
    · refine ⟨three, fun Y hY => ?_⟩
      have zY := Same.upd (o := .lst [.str "number", .str "word", .str "flag"]) hY
      have nY := T1.tape.ne hY
      refine ⟨_, rfl, t, c, _, rfl, T1.same zY, by decide, big1000 (by decide) (by decide), fun j H2 j0 j4 T2 S2 => ?_⟩
      have S12 := S1.trans ((Same.b t zY).trans S2)
      have all : ∀ v ∈ ([.str "number", .str "word", .str "flag"] : List V), ∃ z : Str, v = .str z ∧ KindS z := by
        intro v hv
        simp only [List.mem_cons, List.not_mem_nil, or_false] at hv
        rcases hv with rfl | rfl | rfl
        · exact ⟨_, rfl, .inl rfl⟩
        · exact ⟨_, rfl, .inr (.inl rfl)⟩
        · exact ⟨_, rfl, .inr (.inr rfl)⟩
      have hj : j.toNat < ([.str "number", .str "word", .str "flag"] : List V).length := by show j.toNat < 3; omega
      obtain ⟨z, ez, hz⟩ := all _ (List.getElem_mem hj)
      exact ⟨Y, _, _, _, rfl, rfl, SqL.of (S2 _ _ nY upd_same), at_of (j := j.toNat) (by omega) ((List.getElem?_eq_getElem hj).trans (congrArg some ez)), z, hz, rfl, T2, S12⟩
    clear T1 S1 leaf
    rintro σ H1 ⟨kd, hkd, rfl, T1, S1⟩
    refine ⟨_, rfl, rfl, _, rfl, ite2 (fun _ => ?_) (fun _ => ?_)⟩
    · exact ⟨_, rfl, _, rfl, _, rfl, _, rfl, again hkd T1 S1 (fun va da H2 dva xa T2 _ S2 => ⟨two, fin1 k3 (.inr ⟨rfl, hkd, rfl⟩) dva xa T2 S2⟩)⟩
    refine ⟨_, rfl, rfl, _, rfl, ite2 (fun _ => ?_) (fun _ => ?_)⟩
    · refine ⟨_, rfl, _, rfl, _, rfl, _, rfl, again hkd T1 S1 (fun va da H2 dva xa T2 _ S2 => ?_)⟩
      refine ⟨_, rfl, _, rfl, _, rfl, _, rfl, _, rfl, again hkd T2 S2 (fun vb db H3 dvb xb T3 s23 S3 => ⟨three, ?_⟩)⟩
      exact fin2 k3 (.inr (.inr (.inl ⟨rfl, hkd, rfl⟩))) (dva.later hT.tape s23) dvb xa xb T3 S3
    refine ⟨_, rfl, _, _, rfl, rfl, _, rfl, ite2 (fun _ => ?_) (fun _ => ?_)⟩
    · refine ⟨_, rfl, _, rfl, _, rfl, again kN T1 S1 (fun va da H2 dva xa T2 _ S2 => ?_)⟩
      refine ⟨_, rfl, _, rfl, _, rfl, _, rfl, again kN T2 S2 (fun vb db H3 dvb xb T3 s23 S3 => ⟨three, ?_⟩)⟩
      exact fin2 k3 (.inr (.inl ⟨rfl, rfl, rfl⟩)) (dva.later hT.tape s23) dvb xa xb T3 S3
    refine ⟨two, fun Y hY => ?_⟩
    have zY := Same.upd (o := .lst [.str "both", .str "either"]) hY
    have nY := T1.tape.ne hY
    refine ⟨_, rfl, t, c, _, rfl, T1.same zY, by decide, big1000 (by decide) (by decide), fun j H2 j0 j4 T2 S2 => ?_⟩
    have S12 := S1.trans ((Same.b t zY).trans S2)
    have all : ∀ v ∈ ([.str "both", .str "either"] : List V), ∃ z : Str, v = .str z ∧ (z = "both" ∨ z = "either") := by
      intro v hv
      simp only [List.mem_cons, List.not_mem_nil, or_false] at hv
      rcases hv with rfl | rfl
      · exact ⟨_, rfl, .inl rfl⟩
      · exact ⟨_, rfl, .inr rfl⟩
    have hj : j.toNat < ([.str "both", .str "either"] : List V).length := by show j.toNat < 2; omega
    obtain ⟨z, ez, hz⟩ := all _ (List.getElem_mem hj)
    refine ⟨Y, _, _, _, rfl, rfl, SqL.of (S2 _ _ nY upd_same), at_of (j := j.toNat) (by omega) ((List.getElem?_eq_getElem hj).trans (congrArg some ez)), ?_⟩
    refine ⟨_, rfl, _, rfl, _, rfl, again kF T2 S12 (fun va da H3 dva xa T3 _ S3 => ?_)⟩
    refine ⟨_, rfl, _, rfl, _, rfl, _, rfl, _, rfl, again kF T3 S3 (fun vb db H4 dvb xb T4 s34 S4 => ⟨three, ?_⟩)⟩
    exact fin2 k3 (.inr (.inr (.inr ⟨hz, rfl, rfl⟩))) (dva.later hT.tape s34) dvb xa xb T4 S4
theorem ok_xp (F : Fun K "_law_expression" "_law_expression" sXp f fd) (GD : FnOk P w K mg base CX0 1 fD fdD ["_law_tape_here", "_law_many"] spDrawL) (mD : mg "_law_draw" = some (.ref fD)) (kD : PySem.W.keepIn K (.ref fD) = true) (bD : Binds K fdD ["_law_tape_here", "_law_many"] [])
    (GL : FnOk P w K mg base CX0 3 fL fdL ["_law_tape_here", "_law_columns_here", "_law_kind_here"] spLf) (mL : mg "_law_leaf" = some (.ref fL)) (kL : PySem.W.keepIn K (.ref fL) = true) (bL : Binds K fdL ["_law_tape_here", "_law_columns_here", "_law_kind_here"] [])
    (mX : mg "_law_expression" = some (.ref f)) (kX : PySem.W.keepIn K (.ref f) = true) (bX : Binds K fd pXp []) : ∀ n : Nat, FnOk P w K mg base CX0 (3 + n) f fd pXp (spXp n)
  | 0 => fn_none
  | n + 1 => ok_xp1 n F GD mD kD bD GL mL kL bL (ok_xp F GD mD kD bD GL mL kL bL mX kX bX n) mX kX bX
end
end K09
set_option Elab.async false
set_option linter.all false
set_option maxRecDepth 100000
set_option maxHeartbeats 4000000
namespace K09
open PySem PySem.Spec PyProof.Rows L2 Lc
/-! ## errors that tell one thing -/
structure ErF (K : PySem.W.Frag) (mg : Str → Option Value) (x fld : Str) (C fI : Addr) : Prop where
  oex : OexC K C
  iC : PySem.W.findIn K (.ref C) "__init__" = some (some (.ref fI))
  tI : PySem.W.typeIn K (.ref fI) = some (.type "function")
  nG : PySem.W.findIn K (.ref C) fld = some none
  gC : mg x = some (.ref C)
def TellsF (C : Addr) (fld : Str) (H : Hp) (v : V) (E : XK) : Prop := ∀ (d : Addr) (H' : Hp), Same H H' → H d = none → H' d = some (.xd [(fld, v)]) → E (.ref C) (some d) H'
theorem TellsF.same {C : Addr} {fld : Str} {H H' : Hp} {v : V} {E : XK} (h : TellsF C fld H v E) (s : Same H H') : TellsF C fld H' v E := fun d H2 s2 e1 e2 => h d H2 (s.trans s2) (by cases q : H d with | none => rfl | some o => rw [s _ _ q] at e1; cases e1) e2
def spIni (C : Addr) (fld : Str) : Sp := fun vs H Q _ => ∃ (a : Addr) (v : V), vs = [.ref a, v] ∧ H a = some (exo a C none) ∧ ∀ dx, H dx = none → dx ≠ a → Q .non (upd (upd H dx (exd dx [(fld, v)])) a (exo a C (some dx)))
abbrev sIni : Stmt := inClass (top 1) 0
section
variable {P : Program} {w : World} {K : PySem.W.Frag} {mg : Str → Option Value} {base : Heap} {f C fI : Addr} {fd fdI : FuncData}
theorem scIni : FnScope ["self", "path"] ["self", "path"] (defScope sIni) := ⟨rfl, rfl, rfl, by decide +kernel, rfl, by decide +kernel, by decide +kernel⟩
theorem ok_ini (F : Fun K "__init__" "BadExpression.__init__" sIni fI fdI) (T : ErF K mg "BadExpression" "path" C fI) : FnOk P w K mg base CX0 1 fI fdI ["self", "path"] (spIni C "path") := by
  refine F.ok scIni (fun vs H Q E h => ?_) (fun cdv A outer s H vs Q E hr h => ?_)
  · obtain ⟨a, v, rfl, _⟩ := h
    rfl
  · obtain ⟨a, v, rfl, ha, k⟩ := h
    refine ⟨_, pss_one (ps_ost (pv 0) (pv 1)), ?_⟩
    exact ⟨_, rfl, _, rfl, a, C, rfl, T.oex, T.nG, .inl ⟨ha, fun dx h1 h2 => k dx h1 h2⟩⟩
/-- raise X(v) -/
theorem tells_ofF {H : Hp} {fld : Str} {v : V} {E : XK} (t : TellsF C fld H v E) : ∀ a, H a = none → spIni C fld (.ref a :: ([v] ++ [])) (upd H a (exo a C none))
    (fun v' H2 => v' = .non ∧ ∃ (d : Addr) (fs : List (Str × V)), H2 a = some (exo a C (some d)) ∧ H2 d = some (exd d fs) ∧ H d = none ∧ E (.ref C) (some d) (upd (del H2 a) d (.xd fs))) (fun _ _ _ => False) := by
  intro a ha
  refine ⟨a, v, rfl, upd_same, fun dx hx hne => ⟨rfl, dx, _, upd_same, by rw [upd_ne hne, upd_same], by rw [upd_ne hne] at hx; exact hx, ?_⟩⟩
  rw [upd_ne hne] at hx
  refine t dx _ (fun b o e => ?_) hx upd_same
  have nb : b ≠ a := ne_of_none e ha
  have nd : b ≠ dx := ne_of_none e hx
  rw [upd_ne nd, del_ne nb, upd_ne nb, upd_ne nd, upd_ne nb]
  exact e
end
/-- the operands' kinds that a word wants -/
def opsV (w : Str) : Option (List V) :=
  if w = "plus" ∨ w = "minus" ∨ w = "times" ∨ w = "over" ∨ w = "less" then some [.str "number", .str "number"] else if w = "same" then some [.non, .non] else if w = "both" ∨ w = "either" then some [.str "flag", .str "flag"] else if w = "not" then some [.str "flag"] else if w = "missing" then some [.non] else if w = "if" then some [.str "flag", .non, .non] else none
theorem opsV_all {p : Str → List V → Prop} (h1 : p "plus" [.str "number", .str "number"]) (h2 : p "minus" [.str "number", .str "number"]) (h3 : p "times" [.str "number", .str "number"]) (h4 : p "over" [.str "number", .str "number"]) (h5 : p "less" [.str "number", .str "number"]) (h6 : p "same" [.non, .non]) (h7 : p "both" [.str "flag", .str "flag"]) (h8 : p "either" [.str "flag", .str "flag"]) (h9 : p "not" [.str "flag"]) (h10 : p "missing" [.non]) (h11 : p "if" [.str "flag", .non, .non]) : ∀ x os, opsV x = some os → p x os := by
  intro x os h
  unfold opsV at h
  split at h
  · obtain rfl := Option.some.inj h
    rename_i z
    rcases z with rfl | rfl | rfl | rfl | rfl
    · exact h1
    · exact h2
    · exact h3
    · exact h4
    · exact h5
  split at h
  · obtain rfl := Option.some.inj h
    rename_i z
    subst z
    exact h6
  split at h
  · obtain rfl := Option.some.inj h
    rename_i z
    rcases z with rfl | rfl
    · exact h7
    · exact h8
  split at h
  · obtain rfl := Option.some.inj h
    rename_i z
    subst z
    exact h9
  split at h
  · obtain rfl := Option.some.inj h
    rename_i z
    subst z
    exact h10
  split at h
  · obtain rfl := Option.some.inj h
    rename_i z
    subst z
    exact h11
  cases h
abbrev sWithin : Stmt := top 13
abbrev sValue : Stmt := top 14
def isB : V → Bool
  | .bl _ => true
  | _ => false
def valB (kind : Str) (v : V) (b : Bool) : Bool := decide (v = .non) || (if kind = "number" then b else if kind = "word" then nameB v else isB v)
def spWithin : Sp := fun vs H Q _ => ∃ (a : Addr) (n d : Int), vs = [.ref a] ∧ H a = some (.tup [.int n, .int d]) ∧ Q (.bl (limB (.int n) (.int d))) H
def spValue : Sp := fun vs H Q _ => ∃ (v : V) (kind : Str) (b : Bool), vs = [v, .str kind] ∧ Thing H v b ∧ ∀ H', Same H H' → Q (.bl (valB kind v b)) H'
section
variable {P : Program} {w : World} {K : PySem.W.Frag} {mg : Str → Option Value} {base : Heap} {f : Addr} {fd : FuncData} {u1 : Tok} {fR fW fN fD fL fA fQ fX fY : Addr} {fdR fdW fdN fdD fdL fdA fdQ fdX fdY : FuncData}
theorem scWithin : FnScope ["number"] ["number"] (defScope sWithin) := ⟨rfl, rfl, rfl, by decide +kernel, rfl, by decide +kernel, by decide +kernel⟩
theorem ok_within (F : Fun K "within_limit" "within_limit" sWithin f fd) (T : Bt mg) (m1 : mg "LIMIT" = some (.int lim u1)) : FnOk P w K mg base CX0 1 f fd ["number"] spWithin := by
  refine F.ok scWithin (fun vs H Q E h => ?_) (fun cdv A outer s H vs Q E hr h => ?_)
  · obtain ⟨a, n, d, rfl, _⟩ := h
    rfl
  · obtain ⟨a, n, d, rfl, ha, k⟩ := h
    refine ⟨_, pss_one (ps_ret (pe_and (pe_cmpR op_le (pe_callB call_abs (by rfl) T.abs boot_abs (pa_cons (pe_ix ix_tup (pv 0) pe_int (fun _ _ => rfl)) pa_nil)) (pe_glob (v := .int lim) (by rfl) m1 ⟨_, rfl⟩) (nomark _))
      (pe_one (pe_cmpR op_le (pe_ix ix_tup (pv 0) pe_int (fun _ _ => rfl)) (pe_glob (v := .int lim) (by rfl) m1 ⟨_, rfl⟩) (nomark _))))), ?_⟩
    refine ⟨_, rfl, a, _, _, _, rfl, rfl, SqT.of ha, rfl, n, rfl, _, _, rfl, rfl, _, rfl, ?_⟩
    have e : limB (.int n) (.int d) = (decide ((if n < 0 then -n else n) ≤ lim) && decide (d ≤ lim)) := rfl
    rw [e] at k
    by_cases z : (if n < 0 then -n else n) ≤ lim
    · rw [decide_eq_true z] at k ⊢
      exact iteT ⟨_, rfl, a, _, _, _, rfl, rfl, SqT.of ha, rfl, _, _, rfl, rfl, k⟩
    · rw [decide_eq_false z] at k ⊢
      exact iteF k
theorem scValue : FnScope ["value", "kind"] ["value", "kind"] (defScope sValue) := ⟨rfl, rfl, rfl, by decide +kernel, rfl, by decide +kernel, by decide +kernel⟩
theorem dec_str (x y : Str) : decide (V.str x = V.str y) = decide (x = y) := by
  rw [Bool.eq_iff_iff, decide_eq_true_iff, decide_eq_true_iff]
  exact ⟨fun h => by injection h, fun h => by rw [h]⟩
theorem ok_value (F : Fun K "is_value" "is_value" sValue f fd) (GR : FnOk P w K mg base CX0 2 fR fdR ["value"] spIsR) (mR : mg "is_rational" = some (.ref fR)) (kR : PySem.W.keepIn K (.ref fR) = true) (bR : Binds K fdR ["value"] [])
    (GW : FnOk P w K mg base CX0 1 fW fdW ["number"] spWithin) (mW : mg "within_limit" = some (.ref fW)) (kW : PySem.W.keepIn K (.ref fW) = true) (bW : Binds K fdW ["number"] [])
    (GN : FnOk P w K mg base CX0 1 fN fdN ["value"] spName) (mN : mg "is_name" = some (.ref fN)) (kN : PySem.W.keepIn K (.ref fN) = true) (bN : Binds K fdN ["value"] []) : FnOk P w K mg base CX0 3 f fd ["value", "kind"] spValue := by
  refine F.ok scValue (fun vs H Q E h => ?_) (fun cdv A outer s H vs Q E hr h => ?_)
  · obtain ⟨v, kd, b, rfl, _⟩ := h
    rfl
  · obtain ⟨v, kd, b, rfl, th, k⟩ := h
    have hr1 : Room 1 _ := hr.mono (by decide)
    refine ⟨_, pss_cons (ps_if (pt_cmpR op_isN (pv 0) pe_non (nomark _)) (pss_one (ps_ret pe_bl)) pss_nil)
      (pss_cons (ps_if (pt_cmpR op_eq (pv 1) pe_str (nomark _)) (pss_one (ps_ret (pe_and (pe_call GR hr (by rfl) mR kR bR .nil pass0 (pa_cons (pv 0) pa_nil)) (pe_one (pe_call GW hr1 (by rfl) mW kW bW .nil pass0 (pa_cons (pv 0) pa_nil)))))) pss_nil)
      (pss_cons (ps_if (pt_cmpR op_eq (pv 1) pe_str (nomark _)) (pss_one (ps_ret (pe_call GN hr1 (by rfl) mN kN bN .nil pass0 (pa_cons (pv 0) pa_nil)))) pss_nil)
      (pss_one (ps_ret (pe_or (pe_cmpR op_isBA (pv 0) pe_bl (nomark _)) (pe_one (pe_cmpR op_isBA (pv 0) pe_bl (nomark _)))))))), ?_⟩
    refine ⟨_, rfl, rfl, _, rfl, ?_⟩
    have k0 := k H (Same.refl H)
    by_cases z : v = .non
    · rw [decide_eq_true z]
      have e : valB kd v b = true := by unfold valB; rw [decide_eq_true z]; rfl
      rw [e] at k0
      exact iteT k0
    · rw [decide_eq_false z]
      have e : valB kd v b = (if kd = "number" then b else if kd = "word" then nameB v else isB v) := by unfold valB; rw [decide_eq_false z]; rfl
      rw [e] at k0 k
      refine iteF ⟨_, rfl, rfl, _, rfl, ?_⟩
      rw [dec_str]
      by_cases n1 : kd = "number"
      · rw [decide_eq_true n1]
        rw [if_pos n1] at k0
        refine iteT ?_
        cases th with
        | other h n l => exact ⟨_, rfl, v, false, rfl, .other h n, _, rfl, iteF k0⟩
        | @len a xs ea n => exact ⟨_, rfl, _, false, rfl, .len ea n, _, rfl, iteF k0⟩
        | @pair a x y tx ty ea hx hy =>
          refine ⟨_, rfl, _, _, rfl, .pair ea hx hy, _, rfl, ?_⟩
          refine ite2 (fun r => ?_) (fun r => ?_)
          · obtain ⟨n, d, rfl, rfl, _, _⟩ := ratB_ints r
            have e2 : numB (.int n) (.int d) = limB (.int n) (.int d) := by unfold numB; rw [r]; rfl
            rw [e2] at k0
            exact ⟨_, rfl, a, n, d, rfl, ea, k0⟩
          · have e2 : numB x y = false := by unfold numB; rw [show ratB x y = false by simpa using r]; rfl
            rw [e2] at k0
            exact k0
      · rw [decide_eq_false n1]
        rw [if_neg n1] at k0 k
        refine iteF ⟨_, rfl, rfl, _, rfl, ?_⟩
        rw [dec_str]
        obtain ⟨t, ht, hl⟩ := th.ty
        by_cases n2 : kd = "word"
        · rw [decide_eq_true n2]
          rw [if_pos n2] at k
          exact iteT ⟨_, rfl, v, t, rfl, ht, hl, k⟩
        · rw [decide_eq_false n2]
          rw [if_neg n2] at k0
          refine iteF ⟨_, rfl, true, rfl, _, rfl, ?_⟩
          by_cases z1 : v = .bl true
          · rw [decide_eq_true z1]
            rw [z1] at k0
            exact iteT k0
          · rw [decide_eq_false z1]
            refine iteF ⟨_, rfl, false, rfl, ?_⟩
            have e3 : decide (v = .bl false) = isB v := by
              cases v with
              | bl b =>
                cases b with
                | true => exact absurd rfl z1
                | false => rfl
              | _ => rfl
            rw [e3]
            exact k0
end
def numD : PyData → Bool
  | .tuple [.int n, .int m] => numB (.int n) (.int m)
  | _ => false
def nameD : PyData → Bool
  | .str x => nameB (.str x)
  | _ => false
def boolD : PyData → Bool
  | .bool _ => true
  | _ => false
def nonD : PyData → Bool
  | .none => true
  | _ => false
def valD (k : Str) (d : PyData) : Bool := nonD d || (if k = "number" then numD d else if k = "word" then nameD d else boolD d)
/-- the texts are short -/
def TxD (d : PyData) : Prop := ∀ z, d = .str z → z.length ≤ sizeLine
theorem numB_int {x y : V} (h : numB x y = true) : ∃ n m, x = .int n ∧ y = .int m := by
  unfold numB at h
  rw [Bool.and_eq_true_iff] at h
  obtain ⟨n, d, e1, e2, _⟩ := ratB_ints h.1
  exact ⟨n, d, e1, e2⟩
theorem nameB_dh {H : Hp} {v : V} {d : PyData} (h : Dh H v d) : nameB v = nameD d := by
  cases h <;> rfl
theorem isB_dh {H : Hp} {v : V} {d : PyData} (h : Dh H v d) : isB v = boolD d := by
  cases h <;> rfl
theorem non_dh {H : Hp} {v : V} {d : PyData} (h : Dh H v d) : decide (v = .non) = nonD d := by
  cases h <;> rfl
theorem num_pair {H : Hp} {x y : V} {dx dy : PyData} (hx : Dh H x dx) (hy : Dh H y dy) : numB x y = numD (.tuple [dx, dy]) := by
  cases q : numB x y with
  | true =>
    obtain ⟨n, m, rfl, rfl⟩ := numB_int q
    cases hx
    cases hy
    exact q.symm
  | false =>
    cases z : numD (.tuple [dx, dy]) with
    | false => rfl
    | true =>
      exfalso
      unfold numD at z
      split at z
      · rename_i n m e
        injection e with e
        injection e with e1 e2
        injection e2 with e2 _
        subst e1
        subst e2
        cases hx
        cases hy
        rw [q] at z
        cases z
      · cases z
theorem num_len2 {ds : List PyData} (h : ds.length ≠ 2) : numD (.tuple ds) = false := by
  unfold numD
  split
  · rename_i n m e
    injection e with e
    rw [e] at h
    exact absurd rfl h
  · rfl
theorem thing_of {H : Hp} {v : V} {d : PyData} (h : Dh H v d) (tx : TxD d) : ∃ b, Thing H v b ∧ ∀ k, valB k v b = valD k d := by
  have fin : ∀ b, b = numD d → ∀ k, valB k v b = valD k d := fun b e k => by
    unfold valB valD
    rw [nameB_dh h, isB_dh h, non_dh h, e]
  cases h with
  | non => exact ⟨false, .other .non (by decide) nofun, fin _ rfl⟩
  | bl b => exact ⟨false, .other (.bl b) (by decide) nofun, fin _ rfl⟩
  | int i => exact ⟨false, .other (.int i) (by decide) nofun, fin _ rfl⟩
  | str x => exact ⟨false, .other (.str x) (by decide) (fun y e => by injection e with e; rw [← e]; exact tx x rfl), fin _ rfl⟩
  | @tup a xs ds e hs =>
    match xs, ds, hs with
    | [], [], .nil => exact ⟨false, .len e (by decide), fin _ rfl⟩
    | [x], [_], .cons _ .nil => exact ⟨false, .len e (by show (1 : Nat) ≠ 2; decide), fin _ (num_len2 (by show (1 : Nat) ≠ 2; decide)).symm⟩
    | [x, y], [dx, dy], .cons hx (.cons hy .nil) =>
      obtain ⟨tx', hx'⟩ : ∃ t, TyN H x t := ⟨_, hx.ty⟩
      obtain ⟨ty', hy'⟩ : ∃ t, TyN H y t := ⟨_, hy.ty⟩
      exact ⟨_, .pair e hx' hy', fin _ (num_pair hx hy)⟩
    | x :: y :: z :: r, dx :: dy :: dz :: dr, .cons _ (.cons _ (.cons _ _)) => exact ⟨false, .len e (by simp), fin _ (num_len2 (by simp)).symm⟩
  | lst e hs => exact ⟨false, .other (.lst e) (by decide) nofun, fin _ rfl⟩
  | dct e => exact ⟨false, .other (.dct e) (by decide) nofun, fin _ rfl⟩
/-- the first wrong value: none, the whole row, or an index -/
def badV : List Str → List PyData → Nat → Option Nat
  | k :: ks, d :: ds, i => if valD k d then badV ks ds (i + 1) else some i
  | _, _, _ => none
def rowBad (ks : List Str) : PyData → Option V
  | .tuple ds => if ds.length = ks.length then (badV ks ds 0).map (fun i => V.int (i : Int)) else some .non
  | _ => some .non
/-! ## kinds, by the data -/
def vK (d : PyData) : Option Str := if numD d = true then some "number" else if nameD d = true then some "word" else if boolD d = true then some "flag" else none
def optS : Option Str → V
  | none => .non
  | some k => .str k
def hwD : PyData → Bool
  | .tuple (.str _ :: _) => true
  | _ => false
def leafK (ps : List (Str × Str)) (w : Str) : List PyData → Option Str
  | [.str z] => if w = "column" then ps.lookup z else vK (.str z)
  | [d] => if w = "column" then none else vK d
  | _ => none
def resK (w : Str) (ks : List Str) : Str := if w = "if" then ks.getLastD "" else if w = "plus" ∨ w = "minus" ∨ w = "times" ∨ w = "over" then "number" else "flag"
/-- the first operand of a wrong kind, from the index i on -/
def firstW : List V → List Str → Nat → Option Nat
  | .str k :: os, x :: xs, i => if x = k then firstW os xs (i + 1) else some i
  | _ :: os, _ :: xs, i => firstW os xs (i + 1)
  | _, _, _ => none
def lastTwo : List Str → Bool
  | [_, b, c] => decide (b = c)
  | [b, c] => decide (b = c)
  | _ => true
def ckO (ops : List V) (w : Str) (ks : List Str) : Option Nat := match firstW ops ks 0 with
  | some i => some i
  | none => if w = "same" ∨ w = "if" then (if lastTwo ks = true then none else some (ks.length - 1)) else none
def endK (ops : List V) (w : Str) (ks : List Str) (p : List Nat) : Str ⊕ List Nat := match ckO ops w ks with
  | some i => .inr (p ++ [i])
  | none => .inl (resK w ks)
def kdF (R : List Nat → PyData → Str ⊕ List Nat) (p : List Nat) (ops : List V) (w : Str) : Nat → List PyData → List Str → Str ⊕ List Nat
  | _, [], ks => endK ops w ks p
  | i, o :: os, ks => match R (p ++ [i]) o with
    | .inr q => .inr q
    | .inl k => kdF R p ops w (i + 1) os (ks ++ [k])
def kdO (R : List Nat → PyData → Str ⊕ List Nat) (p : List Nat) (w : Str) (os : List PyData) : Str ⊕ List Nat := match opsV w with
  | none => .inr p
  | some ops => if os.length = ops.length then kdF R p ops w 0 os [] else .inr p
def optK (p : List Nat) : Option Str → Str ⊕ List Nat
  | none => .inr p
  | some k => .inl k
def kdT (ps : List (Str × Str)) (R : List Nat → PyData → Str ⊕ List Nat) (p : List Nat) (w : Str) (os : List PyData) : Str ⊕ List Nat := if w = "column" ∨ w = "value" then optK p (leafK ps w os) else kdO R p w os
def kdA (ps : List (Str × Str)) : Nat → List Nat → PyData → Str ⊕ List Nat
  | n + 1, p, .tuple (.str w :: os) => kdT ps (kdA ps n) p w os
  | _, p, _ => .inr p
def pathD (p : List Nat) : PyData := .tuple (p.map fun i : Nat => .int (i : Int))
def pathV (p : List Nat) : List V := p.map fun i : Nat => V.int (i : Int)
/-- the texts of what is looked at are short and plain -/
def azT (z : Str) : Bool := decide (z.cps.toList.length ≤ 1000) && z.cps.toList.all fun c => decide (c < 128)
def okT (R : PyData → Bool) (w : Str) (os : List PyData) : Bool := if w = "column" then (match os with
      | [.str z] => nameB (.str z) && azT z
      | [.none] => true
      | [.int i] => decide (i = 5)
      | [.list []] => true
      | [_] => false
      | _ => true) else if w = "value" then (match os with
      | [.str z] => azT z
      | _ => true) else os.all R
def okB : Nat → PyData → Bool
  | n + 1, .tuple (.str w :: os) => okT (okB n) w os
  | _, _ => true
theorem hw_is {d : PyData} (h : hwD d = true) : ∃ w os, d = .tuple (.str w :: os) := by
  unfold hwD at h
  split at h
  · exact ⟨_, _, rfl⟩
  · cases h
theorem okB_other {n : Nat} {d : PyData} (h : hwD d = false) : okB n d = true := by
  unfold okB
  split
  · cases h
  · rfl
theorem kdA_other {ps : List (Str × Str)} {n : Nat} {p : List Nat} {d : PyData} (h : hwD d = false) : kdA ps n p d = .inr p := by
  unfold kdA
  split
  · cases h
  · rfl
theorem okT_mono {R R' : PyData → Bool} (h : ∀ d, R d = true → R' d = true) {w : Str} {os : List PyData} (q : okT R w os = true) : okT R' w os = true := by
  unfold okT at q ⊢
  split
  · rw [if_pos (by assumption)] at q; exact q
  · rw [if_neg (by assumption)] at q
    split
    · rw [if_pos (by assumption)] at q; exact q
    · rw [if_neg (by assumption)] at q
      rw [List.all_eq_true] at q ⊢
      exact fun x hx => h x (q x hx)
theorem okB_mono : ∀ {n : Nat} {d : PyData}, okB (n + 1) d = true → okB n d = true
  | 0, d, _ => by unfold okB; rfl
  | n + 1, d, h => by
    cases z : hwD d with
    | false => exact okB_other z
    | true =>
      obtain ⟨w, os, rfl⟩ := hw_is z
      rw [okB] at h ⊢
      exact okT_mono (fun d h => okB_mono h) h
theorem okB_le {n m : Nat} {d : PyData} (h : okB n d = true) (l : m ≤ n) : okB m d = true := by
  induction l with
  | refl => exact h
  | step _ ih => exact ih (okB_mono h)
structure KdX (kvs : List (Key × V)) (ps : List (Str × Str)) : Prop where
  at_ : ∀ z, valV kvs (Sum.inr z : Key) = (ps.lookup z).map V.str
theorem dh_non {H : Hp} {v : V} {d : PyData} (h : Dh H v d) : decide (v = V.non) = nonD d := by
  cases h <;> first | rfl | exact decide_eq_false nofun
theorem cut_tail {x : V} {ys : List V} : cutV (x :: ys) (some 1) none = ys := by
  unfold cutV
  simp [HT.sIx]
theorem tail_not {x : V} {ys : List V} : ¬ (HT.sIx (x :: ys).length 0 (some 1) = 0 ∧ HT.sIx (x :: ys).length (x :: ys).length none = (x :: ys).length) := by
  rintro ⟨z, _⟩
  have : HT.sIx (x :: ys).length 0 (some ((1 : Nat) : Int)) = min 1 (x :: ys).length := HT.sIx_nat _ _ _
  have z' : HT.sIx (x :: ys).length 0 (some ((1 : Nat) : Int)) = 0 := z
  rw [List.length_cons] at *
  omega
theorem at_zero {x : V} {ys : List V} : atI (x :: ys) (0 : Int) = some x := (show atI (x :: ys) ((0 : Nat) : Int) = some x from atI_nat rfl)
def spHw : Sp := fun vs H Q _ => ∃ (v : V) (d : PyData), vs = [v] ∧ Dh H v d ∧ Q (.bl (hwD d)) H
def spKv : Sp := fun vs H Q _ => ∃ (v : V) (d : PyData), vs = [v] ∧ Dh H v d ∧ TxD d ∧ ∀ H', Same H H' → Q (optS (vK d)) H'
def spLk : Sp := fun vs H Q _ => ∃ (g a : Addr) (kvs : List (Key × V)) (ps : List (Str × Str)) (w : Str) (ys : List V) (os : List PyData), vs = [.ref g, .ref a] ∧ H g = some (.dK kvs) ∧ KdX kvs ps ∧ H a = some (.tup (.str w :: ys)) ∧ DhAll H ys os ∧ okB 1 (.tuple (.str w :: os)) = true ∧ (w = "column" ∨ w = "value") ∧ ∀ H', Same H H' → Q (optS (leafK ps w os)) H'
def spRk : Sp := fun vs H Q _ => ∃ (a : Addr) (w k0 : Str) (ks : List Str), vs = [.str w, .ref a] ∧ H a = some (.lst ((ks ++ [k0]).map V.str)) ∧ ∀ H', Same H H' → Q (.str (resK w (ks ++ [k0]))) H'
section
variable {P : Program} {w : World} {K : PySem.W.Frag} {mg : Str → Option Value} {base : Heap} {f : Addr} {fd : FuncData}
abbrev sHw : Stmt := top 22
abbrev nHw : List Str := ["part"]
abbrev pHw : List Str := ["part"]
theorem scHw : FnScope nHw pHw (defScope sHw) := ⟨rfl, rfl, rfl, by decide +kernel, rfl, by decide +kernel, by decide +kernel⟩
section
theorem ok_Hw (F : Fun K "has_word" "has_word" sHw f fd) (T : Bt mg) : FnOk P w K mg base CX0 1 f fd pHw (spHw) := by
  refine F.ok scHw (fun vs H Q E h => ?_) (fun cdv A outer s H vs Q E hr h => ?_)
  · obtain ⟨v, d, rfl, _⟩ := h
    rfl
  · obtain ⟨v, d, rfl, hd, k⟩ := h
    refine ⟨_, (pss_one (ps_ret (pe_and (pe_callB call_isi (by rfl) T.isi boot_isinstance (pa_cons (pv 0) (pa_cons (pe_bltn (v := .ty "tuple") (by rfl) T.tuple boot_tuple rfl) pa_nil))) (pe_and (pe_cmpR op_gt (pe_callB call_len_seq (by rfl) T.len PySem.boot_len (pa_cons (pv 0) pa_nil)) pe_int (nomark _)) (pe_one (pe_callB call_isi (by rfl) T.isi boot_isinstance (pa_cons (pe_ix ix_tup (pv 0) pe_int (fun _ _ => rfl)) (pa_cons (pe_bltn (v := .ty "str") (by rfl) T.str boot_str rfl) pa_nil)))))))), ?_⟩
    refine ⟨_, rfl, v, .ty "tuple", _, _, _, rfl, .ty "tuple", hd.ty.x, kit_tuple hd.ty.mem, _, rfl, ?_⟩
    cases hd with
    | @tup a xs ds e hs =>
      refine iteT ⟨_, rfl, a, _, rfl, .inr (SqT.of e), _, _, rfl, rfl, _, rfl, ?_⟩
      cases hs with
      | nil =>
        rw [decide_eq_false (by decide)]
        exact iteF k
      | @cons x xs d ds h1 r =>
        rw [decide_eq_true (by rw [List.length_cons]; omega)]
        refine iteT ⟨_, rfl, a, _, _, x, rfl, rfl, SqT.of e, at_zero, x, .ty "str", _, _, _, rfl, .ty "str", h1.ty.x, kit_str h1.ty.mem, ?_⟩
        cases h1 <;> exact k
    | _ => exact iteF k
end
end
end K09
set_option Elab.async false
set_option linter.all false
set_option maxRecDepth 100000
set_option maxHeartbeats 4000000
namespace K09
open PySem PySem.Spec PyProof.Rows L2 Lc
abbrev ttKv : TT := tTest (tCall spValue [] E0 (tCons (tVar 0) (tCons (tVar 2) tNil)))
section
variable {P : Program} {w : World} {K : PySem.W.Frag} {mg : Str → Option Value} {base : Heap} {f k3 : Addr} {fd : FuncData}
abbrev sKv : Stmt := top 24
abbrev nKv : List Str := ["value", "fitting", "kind"]
abbrev pKv : List Str := ["value"]
theorem scKv : FnScope nKv pKv (defScope sKv) := ⟨rfl, rfl, rfl, by decide +kernel, rfl, by decide +kernel, by decide +kernel⟩
section
variable {fA_ : Addr} {fdA_ : FuncData}
theorem ok_Kv (F : Fun K "kind_of_value" "kind_of_value" sKv f fd) (T : Bt mg) (mK : mg "KINDS" = some (.ref k3)) (hK : ∀ H, SqT K H k3 [.str "number", .str "word", .str "flag"])
    (GA_ : FnOk P w K mg base CX0 3 fA_ fdA_ ["value", "kind"] (spValue)) (mA_ : mg "is_value" = some (.ref fA_)) (kA_ : PySem.W.keepIn K (.ref fA_) = true) (bA_ : Binds K fdA_ ["value", "kind"] []) : FnOk P w K mg base CX0 4 f fd pKv (spKv) := by
  refine F.ok scKv (fun vs H Q E h => ?_) (fun cdv A outer s H vs Q E hr h => ?_)
  · obtain ⟨v, d, rfl, _⟩ := h
    rfl
  · obtain ⟨v, d, rfl, hd, tx, k⟩ := h
    have hrA_ : Room (3) _ := hr.mono (by first | decide | omega)
    refine ⟨_, (pss_cons (ps_if (pt_cmpR op_isN (pv 0) pe_non (nomark _)) (pss_one (ps_ret pe_non)) pss_nil)
      (pss_cons (ps_setLc (i := 1) (own := [("kind", 2)]) (g := (gName 2)) (tt := ttKv) (te := (tVar 2)) (by rfl) scKv.nd rfl rfl (sw_true rfl rfl rfl (by decide +kernel)) (pi_tup (pe_glob (v := .ref k3) (by rfl) mK rfl)) (blkOk_by (own := [("kind", 2)]) (N := nKv) (sc := defScope sKv) (by decide +kernel)) (fun _ _ _ _ _ => (pg_name (i := 2) scKv.nd rfl (.inl rfl))) (fun _ _ _ _ _ => (pts_one (pt_val (pe_call GA_ hrA_ (by rfl) mA_ kA_ bA_ .nil pass0 (pa_cons (pv 0) (pa_cons (pv 2) pa_nil)))))) (fun _ _ _ _ _ => (pv 2)))
      (pss_one (ps_ret (pe_ifExp (pt_cmpR op_gt (pe_callB call_len_seq (by rfl) T.len PySem.boot_len (pa_cons (pv 1) pa_nil)) pe_int (nomark _)) (pe_ix ix_list (pv 1) pe_int (fun _ _ => rfl)) pe_non))))), ?_⟩
    refine ⟨_, rfl, rfl, _, rfl, ?_⟩
    rw [dh_non hd]
    cases nn : nonD d with
    | true =>
      have e : vK d = none := by
        unfold nonD at nn
        split at nn
        · rfl
        · cases nn
      have k0 := k H (Same.refl H)
      rw [e] at k0
      exact iteT k0
    | false =>
    refine iteF ?_
    obtain ⟨b, th, fit⟩ := thing_of hd tx
    let ks : List Str := ["number", "word", "flag"]
    refine ⟨k3, rfl, ⟨_, hK H⟩, fun D hD => lc_tup (K := K) (a := k3) (xs := ks.map V.str) (fun i H' => H' D = some (.lst (((ks.take i).filter (fun x => valD x d)).map V.str)) ∧ Same H H') ⟨upd_same, Same.upd hD⟩ (fun i H' _ p => hK H') ?_ ?_⟩
    · rintro i x H1 hx ⟨hD1, s1⟩
      rw [List.getElem?_map] at hx
      cases q : ks[i]? with
      | none => rw [q] at hx; cases hx
      | some kk =>
        rw [q] at hx
        cases hx
        refine ⟨rfl, ?_⟩
        change ttKv _ _ _
        refine ⟨_, rfl, _, rfl, v, kk, b, rfl, th.same s1, fun H2 s2 => ⟨_, rfl, ?_⟩⟩
        rw [fit kk]
        have ln : ((ks.take i).filter (fun x => valD x d)).length ≤ 3 := Nat.le_trans (List.length_filter_le _ _) (by rw [List.length_take]; exact Nat.min_le_right _ _)
        refine ite2 (fun z => ?_) (fun z => ?_)
        · refine ⟨_, rfl, _, s2 _ _ hD1, ?_, ?_, fun b o e => by rw [upd_ne (ne_of_none e hD)]; exact s2 b o (s1 b o e)⟩
          · rw [List.length_map]
            exact Nat.lt_of_le_of_lt ln (by decide)
          · rw [upd_same, List.take_add_one, q]
            simp only [Option.toList, List.filter_append, List.map_append]
            rw [List.filter_cons, if_pos z]
            rfl
        · refine ⟨?_, s1.trans s2⟩
          rw [s2 _ _ hD1, List.take_add_one, q]
          simp only [Option.toList, List.filter_append]
          rw [List.filter_cons, if_neg z, List.filter_nil, List.append_nil]
    · rintro H1 ⟨hD1, s1⟩
      rw [List.length_map, List.take_length] at hD1
      have e1 : (ks.filter fun x => valD x d) = (vK d).toList := by
        have n1 : valD "number" d = numD d := by unfold valD; rw [nn, if_pos rfl, Bool.false_or]
        have n2 : valD "word" d = nameD d := by unfold valD; rw [nn, if_neg (by decide +kernel), if_pos rfl, Bool.false_or]
        have n3 : valD "flag" d = boolD d := by unfold valD; rw [nn, if_neg (by decide +kernel), if_neg (by decide +kernel), Bool.false_or]
        have ex : (numD d = true → nameD d = false ∧ boolD d = false) ∧ (nameD d = true → boolD d = false) := by
          refine ⟨fun z => ?_, fun z => ?_⟩ <;> cases d <;> first | exact ⟨rfl, rfl⟩ | rfl | cases z
        show (["number", "word", "flag"] : List Str).filter (fun x => valD x d) = _
        simp only [List.filter_cons, List.filter_nil, n1, n2, n3]
        unfold vK
        cases a1 : numD d with
        | true =>
          obtain ⟨a2, a3⟩ := ex.1 a1
          rw [a2, a3]
          rfl
        | false =>
          cases a2 : nameD d with
          | true => rw [ex.2 a2]; rfl
          | false => cases boolD d <;> rfl
      rw [e1] at hD1
      have k1 := k H1 s1
      cases e : vK d with
      | none =>
        rw [e] at hD1 k1
        refine ⟨_, rfl, D, _, rfl, .inl (SqL.of hD1), _, _, rfl, rfl, _, rfl, iteF k1⟩
      | some kk =>
        rw [e] at hD1 k1
        refine ⟨_, rfl, D, _, rfl, .inl (SqL.of hD1), _, _, rfl, rfl, _, rfl, iteT ⟨_, rfl, D, _, _, .str kk, rfl, rfl, SqL.of hD1, at_zero, k1⟩⟩
end
abbrev sLk : Stmt := top 23
abbrev nLk : List Str := ["kinds", "part", "word", "held"]
abbrev pLk : List Str := ["kinds", "part"]
theorem scLk : FnScope nLk pLk (defScope sLk) := ⟨rfl, rfl, rfl, by decide +kernel, rfl, by decide +kernel, by decide +kernel⟩
section
variable {fA_ : Addr} {fdA_ : FuncData}
theorem ok_Lk (F : Fun K "leaf_kind" "leaf_kind" sLk f fd) (T : Bt mg)
    (GA_ : FnOk P w K mg base CX0 4 fA_ fdA_ ["value"] (spKv)) (mA_ : mg "kind_of_value" = some (.ref fA_)) (kA_ : PySem.W.keepIn K (.ref fA_) = true) (bA_ : Binds K fdA_ ["value"] []) : FnOk P w K mg base CX0 5 f fd pLk (spLk) := by
  refine F.ok scLk (fun vs H Q E h => ?_) (fun cdv A outer s H vs Q E hr h => ?_)
  · obtain ⟨g, a, kvs, ps, wd, ys, os, rfl, _⟩ := h
    rfl
  · obtain ⟨g, a, kvs, ps, wd, ys, os, rfl, hg, kx, ha, hs, ok, hw, k⟩ := h
    have hrA_ : Room (4) _ := hr.mono (by first | decide | omega)
    refine ⟨_, (pss_cons (ps_if (pt_cmpR op_ne (pe_callB call_len_seq (by rfl) T.len PySem.boot_len (pa_cons (pv 1) pa_nil)) pe_int (nomark _)) (pss_one (ps_ret pe_non)) pss_nil)
      (pss_cons (ps_asg (pv 1) (pg_tup rfl (pgs_cons (pg_name (i := 2) scLk.nd rfl (.inl rfl)) (pgs_cons (pg_name (i := 3) scLk.nd rfl (.inl rfl)) pgs_nil))))
      (pss_cons (ps_if (pt_cmpR op_eq (pv 2) pe_str (nomark _)) (pss_one (ps_ret (pe_ifExp (pt_val (pe_callB call_isi (by rfl) T.isi boot_isinstance (pa_cons (pv 3) (pa_cons (pe_bltn (v := .ty "str") (by rfl) T.str boot_str rfl) pa_nil)))) (pe_dget1 (hu_of hr) (pv 0) (pv 3) ⟨rfl, rfl, rfl, rfl⟩) pe_non))) pss_nil)
      (pss_one (ps_ret (pe_call GA_ hrA_ (by rfl) mA_ kA_ bA_ .nil pass0 (pa_cons (pv 3) pa_nil))))))), ?_⟩
    refine ⟨_, rfl, a, _, rfl, .inr (SqT.of ha), rfl, _, rfl, ?_⟩
    have lq := hs.len
    by_cases l1 : os.length = 1
    · rw [decide_eq_true (show V.int ((V.str wd :: ys).length : Int) = V.int 2 by rw [List.length_cons, lq, l1]; rfl)]
      obtain ⟨d, rfl⟩ := List.length_eq_one_iff.mp l1
      cases hs with
      | @cons x _ _ _ hx r =>
      cases r
      refine iteF ⟨_, rfl, a, _, rfl, SqT.of ha, rfl, _, _, rfl, _, _, rfl, rfl, ?_⟩
      refine ⟨_, rfl, rfl, _, rfl, ?_⟩
      rw [decide_eq_decide.mpr (show V.str wd = V.str "column" ↔ wd = "column" from ⟨fun e => by injection e, fun e => by rw [e]⟩)]
      have ok : okT (okB 0) wd [d] = true := ok
      unfold okT at ok
      have k0 := k H (Same.refl H)
      by_cases w1 : wd = "column"
      · rw [decide_eq_true w1]
        refine iteT ⟨_, rfl, x, .ty "str", _, _, _, rfl, .ty "str", hx.ty.x, kit_str hx.ty.mem, _, rfl, ?_⟩
        cases hx with
        | str z =>
          refine iteT ⟨_, rfl, g, rfl, .inl ⟨_, .inl hg⟩, _, rfl, _, DGet.k (k := Sum.inr z) hg, ?_⟩
          rw [kx.at_]
          have e : leafK ps wd [.str z] = ps.lookup z := if_pos w1
          rw [e] at k0
          cases q : ps.lookup z with
          | none => rw [q] at k0; exact k0
          | some kk => rw [q] at k0; exact k0
        | _ =>
          refine iteF ?_
          unfold leafK at k0
          dsimp only at k0
          rw [if_pos w1] at k0
          exact k0
      · rw [decide_eq_false w1]
        rw [if_neg w1, if_pos (hw.resolve_left w1)] at ok
        have e : leafK ps wd [d] = vK d := by
          unfold leafK
          split
          · rename_i z q
            injection q with q1 _
            rw [q1, if_neg w1]
          · rename_i q
            injection q with q1 _
            rw [q1, if_neg w1]
          · rename_i h1 h2
            exact absurd rfl (h2 d)
        rw [e] at k
        refine iteF ⟨_, rfl, x, d, rfl, hx, fun z ez => ?_, k⟩
        subst ez
        have ok : azT z = true := ok
        unfold azT at ok
        rw [Bool.and_eq_true, decide_eq_true_eq] at ok
        rw [lenL]
        exact Nat.le_trans ok.1 (by decide)
    · rw [decide_eq_false (show V.int ((V.str wd :: ys).length : Int) ≠ V.int 2 from fun q => l1 (by injection q with q; rw [List.length_cons, lq] at q; omega))]
      have e : leafK ps wd os = none := by
        unfold leafK
        split
        · exact absurd rfl l1
        · exact absurd rfl l1
        · rfl
      have k0 := k H (Same.refl H)
      rw [e] at k0
      exact iteT k0
end
end
end K09
set_option Elab.async false
set_option linter.all false
set_option maxRecDepth 100000
set_option maxHeartbeats 4000000
namespace K09
open PySem PySem.Spec PyProof.Rows L2 Lc
abbrev sRk : Stmt := top 26
section
variable {P : Program} {w : World} {K : PySem.W.Frag} {mg : Str → Option Value} {base : Heap} {f aA : Addr} {fd : FuncData}
theorem scRk : FnScope ["word", "found"] ["word", "found"] (defScope sRk) := ⟨rfl, rfl, rfl, by decide +kernel, rfl, by decide +kernel, by decide +kernel⟩
theorem ok_rk (F : Fun K "result_kind" "result_kind" sRk f fd) (mA : mg "ARITHMETIC" = some (.ref aA)) (hA : ∀ H, SqT K H aA [.str "plus", .str "minus", .str "times", .str "over"]) : FnOk P w K mg base CX0 1 f fd ["word", "found"] spRk := by
  refine F.ok scRk (fun vs H Q E h => ?_) (fun cdv A outer s H vs Q E hr h => ?_)
  · obtain ⟨a, wd, k0, ks, rfl, _⟩ := h
    rfl
  · obtain ⟨a, wd, k0, ks, rfl, ha, k⟩ := h
    refine ⟨_, pss_cons (ps_if (pt_cmpR op_eq (pv 0) pe_str (nomark _)) (pss_one (ps_ret (pe_ix ix_list (pv 1) (pe_un un_neg pe_int) (fun _ _ => rfl)))) pss_nil)
      (pss_one (ps_ret (pe_ifExp (pt_cmpR op_in_seq (pv 0) (pe_glob (v := .ref aA) (by rfl) mA rfl) (by rfl)) pe_str pe_str))), ?_⟩
    refine ⟨_, rfl, rfl, _, rfl, ?_⟩
    rw [decide_eq_decide.mpr (show V.str wd = V.str "if" ↔ wd = "if" from ⟨fun e => by injection e, fun e => by rw [e]⟩)]
    have kk := k H (Same.refl H)
    unfold resK at kk
    by_cases w1 : wd = "if"
    · rw [decide_eq_true w1]
      rw [if_pos w1] at kk
      have e : (ks ++ [k0]).getLastD "" = k0 := by simp
      rw [e] at kk
      refine iteT ⟨_, rfl, _, rfl, a, _, _, .str k0, rfl, rfl, SqL.of ha, ?_, kk⟩
      rw [List.map_append]
      exact atI_last _ _
    · rw [decide_eq_false w1]
      rw [if_neg w1] at kk
      refine iteF ⟨_, rfl, aA, _, rfl, .inr (hA H), rfl, rfl, _, rfl, ?_⟩
      rw [show inV (.str wd) [.str "plus", .str "minus", .str "times", .str "over"] = decide (wd ∈ (["plus", "minus", "times", "over"] : List Str)) from in_strs (ss := ["plus", "minus", "times", "over"])]
      by_cases w2 : wd = "plus" ∨ wd = "minus" ∨ wd = "times" ∨ wd = "over"
      · rw [decide_eq_true (by simpa using w2)]
        rw [if_pos w2] at kk
        exact iteT kk
      · rw [decide_eq_false (by simpa using w2)]
        rw [if_neg w2] at kk
        exact iteF kk
end
/-! ## the program's checks, which may raise -/
theorem catA_path {K : PySem.W.Frag} {H : Hp} {q t1 : Addr} {p : List Nat} {i : Nat} {Q : VK} (hq : H q = some (.tup (pathV p))) (l8 : p.length ≤ 8) (h1 : H t1 = none) (k : ∀ r H', Same H H' → H' r = some (.tup (pathV (p ++ [i]))) → Q (.ref r) H') : rCatA K (.ref q) (.ref t1) (upd H t1 (.tup [.int (i : Int)])) Q := by
  have z := Same.upd (o := .tup [.int (i : Int)]) h1
  have lp : (pathV p).length ≤ 8 := by unfold pathV; rw [List.length_map]; exact l8
  have app : pathV (p ++ [i]) = pathV p ++ [.int (i : Int)] := by unfold pathV; rw [List.map_append]; rfl
  refine ⟨q, t1, pathV p, [.int (i : Int)], rfl, rfl, SqT.of (z _ _ hq), SqT.of upd_same, Nat.le_trans (Nat.add_le_add_right lp 1) (by decide), fun e => ?_, fun _ z => absurd z (List.cons_ne_nil _ _), fun _ _ r hr => ?_⟩
  · refine k t1 _ z ?_
    rw [upd_same, app, e]
    rfl
  · refine k r _ (z.trans (Same.upd hr)) ?_
    rw [upd_same, app]
theorem dh_path {H : Hp} {q : Addr} : ∀ {p : List Nat}, H q = some (.tup (pathV p)) → Dh H (.ref q) (pathD p) := fun {p} h => .tup h (by
  clear h
  induction p with
  | nil => exact .nil
  | cons i p ih => exact .cons (.int _) ih)
structure OpsA (K : PySem.W.Frag) (w : World) (mg : Str → Option Value) (oA pA : Addr) : Prop where
  g : mg "OPERANDS" = some (.ref oA)
  d : ∃ es n, KDict K w oA es n
  at_ : ∀ x os, opsV x = some os → ∃ a, KDct K w oA x (.ref a) ∧ PySem.W.nsIn K oA x = some (some (.ref a)) ∧ ∀ H, SqT K H a os
  no : ∀ x, opsV x = none → PySem.W.nsIn K oA x = some none
  gp : mg "PAIRED" = some (.ref pA)
  ap : ∀ H, SqT K H pA [.str "same", .str "if"]
def BadP (C : Addr) (H : Hp) (E : XK) (p : List Nat) : Prop := ∀ (v : V) (H' : Hp), Same H H' → Dh H' v (pathD p) → TellsF C "path" H' v E
theorem BadP.same {C : Addr} {H H' : Hp} {E : XK} {p : List Nat} (h : BadP C H E p) (s : Same H H') : BadP C H' E p := fun v H2 s2 d => h v H2 (s.trans s2) d
def spCk (C : Addr) : Sp := fun vs H Q E => ∃ (a q : Addr) (w : Str) (ks : List Str) (ops : List V) (p : List Nat), vs = [.str w, .ref a, .ref q] ∧ H a = some (.lst (ks.map V.str)) ∧ opsV w = some ops ∧ ks.length = ops.length ∧ H q = some (.tup (pathV p)) ∧ p.length ≤ 8 ∧ (ckO ops w ks = none → ∀ H', Same H H' → Q .non H') ∧ (∀ i, ckO ops w ks = some i → BadP C H E (p ++ [i]))
theorem opsV_len {w : Str} {ops : List V} (h : opsV w = some ops) : 1 ≤ ops.length ∧ ops.length ≤ 3 ∧ (∀ o ∈ ops, o = .non ∨ ∃ k, o = V.str k) ∧ ((w = "same" ∨ w = "if") → 2 ≤ ops.length) ∧ ¬ (w = "column" ∨ w = "value") := by
  have key : ∀ x os, opsV x = some os → 1 ≤ os.length ∧ os.length ≤ 3 ∧ (∀ o ∈ os, o = .non ∨ ∃ k, o = V.str k) ∧ ((x = "same" ∨ x = "if") → 2 ≤ os.length) ∧ ¬ (x = "column" ∨ x = "value") := by
    have nn : ∀ (a b : V), (∀ o ∈ [a, b], o = .non ∨ ∃ k, o = V.str k) ↔ ((a = .non ∨ ∃ k, a = V.str k) ∧ (b = .non ∨ ∃ k, b = V.str k)) := fun a b => by simp
    refine opsV_all ?_ ?_ ?_ ?_ ?_ ?_ ?_ ?_ ?_ ?_ ?_ <;> (refine ⟨by decide, by decide, fun o ho => ?_, by decide +kernel, by decide +kernel⟩; simp only [List.mem_cons, List.not_mem_nil, or_false] at ho; rcases ho with rfl | rfl | rfl <;> first | exact .inl rfl | exact .inr ⟨_, rfl⟩)
  exact key w ops h
theorem firstW_at : ∀ {ops : List V} {ks : List Str} {i j : Nat}, ks.length = ops.length → (∀ o ∈ ops, o = .non ∨ ∃ k, o = V.str k) → i < ops.length → firstW (ops.drop i) (ks.drop i) j = (match ops[i]? with
    | some (.str k) => if (ks[i]?).getD "" = k then firstW (ops.drop (i + 1)) (ks.drop (i + 1)) (j + 1) else some j
    | _ => firstW (ops.drop (i + 1)) (ks.drop (i + 1)) (j + 1)) := by
  intro ops ks i j l ho hi
  have h1 := List.drop_eq_getElem_cons hi
  have h2 := List.drop_eq_getElem_cons (show i < ks.length by omega)
  rw [h1, h2, List.getElem?_eq_getElem hi, List.getElem?_eq_getElem (show i < ks.length by omega)]
  have hm := ho _ (List.getElem_mem hi)
  generalize ops[i] = o at hm
  generalize ks[i] = x
  rcases hm with rfl | ⟨k, rfl⟩
  · rfl
  · rfl
theorem firstW_end {ks : List Str} {j : Nat} : firstW [] ks j = none := by unfold firstW; rfl
section
variable {P : Program} {w : World} {K : PySem.W.Frag} {mg : Str → Option Value} {base : Heap} {f C fI oA pA : Addr} {fd fdI : FuncData}
abbrev sCk : Stmt := top 25
abbrev nCk : List Str := ["word", "found", "path", "at", "wanted"]
abbrev pCk : List Str := ["word", "found", "path"]
theorem scCk : FnScope nCk pCk (defScope sCk) := ⟨rfl, rfl, rfl, by decide +kernel, rfl, by decide +kernel, by decide +kernel⟩
section
theorem ok_Ck (F : Fun K "check_operands" "check_operands" sCk f fd) (T : Bt mg) (OA : OpsA K w mg oA pA) (Z : ErF K mg "BadExpression" "path" C fI) (GI : FnOk P w K mg base CX0 1 fI fdI ["self", "path"] (spIni C "path")) (bI : Binds K fdI ["self", "path"] []) : FnOk P w K mg base (L2.CX P w) 3 f fd pCk (spCk C) := by
  refine F.okX scCk (fun vs H Q E h => ?_) (fun cdv A outer s H vs Q E hr h => ?_)
  · obtain ⟨a, q, wd, ks, ops, p, rfl, _⟩ := h
    rfl
  · obtain ⟨a, q, wd, ks, ops, p, rfl, ha, eo, lk, hq, l8, k1, k2⟩ := h
    have hrI : Room 2 _ := hr.mono (by first | decide | omega)
    have two : 2 ≤ sizeLine := by decide
    have one : 1 ≤ sizeLine := by decide
    refine ⟨_, (pss_cons (ps_for (passes_of rfl) rfl (pi_enT (by rfl) T.enum (pa_cons (pe_ix ix_kdict (pe_glob (v := .ref oA) (by rfl) OA.g rfl) (pv 0) (fun _ _ => rfl)) pa_nil)) (pg_tup rfl (pgs_cons (pg_name (i := 3) scCk.nd rfl (.inl rfl)) (pgs_cons (pg_name (i := 4) scCk.nd rfl (.inl rfl)) pgs_nil))) (pss_one (ps_if (PW.pt (pw_and (pt_cmpR op_notN (pv 4) pe_non (nomark _)) (pw_and1 (pt_cmpR op_ne (pe_ix ix_list (pv 1) (pv 3) (fun _ _ => rfl)) (pv 4) (nomark _))))) (pss_one (ps_raise (W := fun cls d _ H => E cls d H) rfl (takes_of rfl rfl rfl rfl) (pmk_oex Z.oex Z.iC Z.tI GI hrI bI .nil pass0 (by rfl) Z.gC (pa_cons (pe_op op_catA (pv 2) (pe_tup (pa_cons (pv 3) pa_nil))) pa_nil)))) pss_nil)))
      (pss_one (ps_if (PW.pt (pw_and (pt_cmpR op_in_seq (pv 0) (pe_glob (v := .ref pA) (by rfl) OA.gp rfl) (by rfl)) (pw_and1 (pt_cmpR op_ne (pe_ix ix_list (pv 1) (pe_un un_neg pe_int) (fun _ _ => rfl)) (pe_ix ix_list (pv 1) (pe_un un_neg pe_int) (fun _ _ => rfl)) (nomark _))))) (pss_one (ps_raise (W := fun cls d _ H => E cls d H) rfl (takes_of rfl rfl rfl rfl) (pmk_oex Z.oex Z.iC Z.tI GI hrI bI .nil pass0 (by rfl) Z.gC (pa_cons (pe_op op_catA (pv 2) (pe_tup (pa_cons (pe_op op_sub (pe_callB call_len_seq (by rfl) T.len PySem.boot_len (pa_cons (pv 1) pa_nil)) pe_int) pa_nil))) pa_nil)))) pss_nil))), ?_⟩
    obtain ⟨l1, l3, ho, lp, nw⟩ := opsV_len eo
    obtain ⟨oa, kd, _, hoa⟩ := OA.at_ wd ops eo
    refine ⟨_, rfl, oA, wd, _, rfl, rfl, kd, oa, ops, rfl, hoa H, for_it (walk_enT (K := K) (a := oa) (xs := ops)) (fun i σ H' => (∃ x3 x4 : Option V, σ = [some (.str wd), some (.ref a), some (.ref q), x3, x4]) ∧ i ≤ ops.length ∧ firstW (ops.drop i) (ks.drop i) i = firstW ops ks 0 ∧ Same H H') ⟨⟨_, _, rfl⟩, Nat.zero_le _, rfl, Same.refl H⟩ (fun i σ H' _ q => hoa H') ?_ ?_⟩
    · rintro i x σ Ha Hb hi ⟨⟨x3, x4, rfl⟩, il, fw, sa⟩ ⟨q1, i', z, rfl, hq1, rfl, e1, e2⟩
      obtain rfl : V.int ((i : Nat) : Int) = i' := Option.some.inj e1
      have zq := Same.upd (o := .tup [.int ((i : Nat) : Int), z]) hq1
      have sb := sa.trans zq
      have lt : i < ops.length := (List.getElem?_eq_some_iff.mp e2).1
      have e2 : ops[i]? = some z := e2
      rw [firstW_at lk ho lt, e2] at fw
      refine ⟨q1, _, rfl, SqT.of upd_same, rfl, _, _, rfl, _, _, rfl, rfl, _, rfl, rfl, _, rfl, ?_⟩
      rcases ho z (List.mem_of_getElem? e2) with rfl | ⟨kk, rfl⟩
      · rw [decide_eq_true rfl]
        exact iteF (iteF ⟨⟨_, _, rfl⟩, lt, fw, sb⟩)
      · rw [decide_eq_false (show V.str kk ≠ V.non from nofun)]
        have lti : i < ks.length := by omega
        have ek : ks[i]? = some ks[i] := List.getElem?_eq_getElem lti
        generalize ks[i] = kx at ek
        have hm : (ks.map V.str)[i]? = some (.str kx) := by rw [List.getElem?_map, ek]; rfl
        have fw : (if kx = kk then firstW (ops.drop (i + 1)) (ks.drop (i + 1)) (i + 1) else some i) = firstW ops ks 0 := by rw [ek] at fw; exact fw
        refine iteT ⟨_, rfl, _, rfl, a, _, _, .str kx, rfl, rfl, SqL.of (sb _ _ ha), at_of (j := i) rfl hm, _, rfl, rfl, _, rfl, ?_⟩
        show if (!decide (V.str kx = V.str kk)) = true then _ else _
        by_cases e : kx = kk
        · rw [decide_eq_true (show V.str kx = V.str kk by rw [e])]
          rw [if_pos e] at fw
          exact iteF ⟨⟨_, _, rfl⟩, lt, fw, sb⟩
        · rw [decide_eq_false (fun q => e (by injection q))]
          rw [if_neg e] at fw
          have cko : ckO ops wd ks = some i := by unfold ckO; rw [← fw]
          refine iteT ⟨_, rfl, _, rfl, one, fun t1 ht1 => catA_path (sb _ _ hq) l8 ht1 fun r H' s' hr' => ⟨by show 1 ≤ 1000; decide, tells_ofF (k2 i cko _ _ (sb.trans s') (dh_path hr'))⟩⟩
    · rintro σ H1 ⟨⟨x3, x4, rfl⟩, _, fw, s1⟩
      rw [List.drop_length, firstW_end] at fw
      refine ⟨_, rfl, pA, _, rfl, .inr (OA.ap H1), rfl, rfl, _, rfl, ?_⟩
      rw [show inV (.str wd) [.str "same", .str "if"] = decide (wd ∈ (["same", "if"] : List Str)) from in_strs (ss := ["same", "if"])]
      have un : ckO ops wd ks = if wd = "same" ∨ wd = "if" then (if lastTwo ks = true then none else some (ks.length - 1)) else none := by unfold ckO; rw [← fw]
      by_cases pr : wd = "same" ∨ wd = "if"
      · rw [decide_eq_true (by simpa using pr)]
        rw [if_pos pr] at un
        have l2 := lp pr
        obtain ⟨l, b, c, ek, lt2⟩ : ∃ l b c, ks = l ++ [b, c] ∧ lastTwo ks = decide (b = c) := by
          match ks, lk with
          | [b, c], _ => exact ⟨[], b, c, rfl, rfl⟩
          | [x, b, c], _ => exact ⟨[x], b, c, rfl, rfl⟩
          | [], h => exact absurd h (by show ¬ 0 = _; omega)
          | [_], h => exact absurd h (by show ¬ 1 = _; omega)
          | _ :: _ :: _ :: _ :: r, h => exact absurd h (by rw [List.length_cons, List.length_cons, List.length_cons, List.length_cons]; omega)
        have ha1 := s1 _ _ ha
        have e2 : atI (ks.map V.str) (-2) = some (.str b) := by
          rw [ek]
          unfold atI ixN
          rw [if_neg (by decide), if_pos (by simp; omega)]
          simp
          have : ((-2 : Int) + ((l.length : Int) + 2)).toNat = l.length := by omega
          rw [this]
          simp
        have e1 : atI (ks.map V.str) (-1) = some (.str c) := by
          rw [ek, show (l ++ [b, c]).map V.str = (l ++ [b]).map V.str ++ [.str c] by simp]
          exact atI_last _ _
        refine iteT ⟨_, rfl, _, rfl, a, _, _, .str b, rfl, rfl, SqL.of ha1, e2, _, rfl, _, rfl, a, _, _, .str c, rfl, rfl, SqL.of ha1, e1, rfl, _, rfl, ?_⟩
        show if (!decide (V.str b = V.str c)) = true then _ else _
        rw [lt2] at un
        by_cases bc : b = c
        · rw [decide_eq_true (show V.str b = V.str c by rw [bc])]
          rw [decide_eq_true bc, if_pos rfl] at un
          exact iteF (k1 un H1 s1)
        · rw [decide_eq_false (fun q => bc (by injection q))]
          rw [decide_eq_false bc, if_neg (by decide)] at un
          have lks : ((ks.length : Int) - 1) = ((ks.length - 1 : Nat) : Int) := by omega
          refine iteT ⟨_, rfl, _, rfl, a, _, rfl, .inl (SqL.of ha1), _, _, rfl, rfl, one, fun t1 ht1 => ?_⟩
          rw [List.length_map]
          show rCatA _ _ _ (upd H1 t1 (.tup [.int ((ks.length : Int) - 1)])) _
          rw [lks]
          exact catA_path (s1 _ _ hq) l8 ht1 fun r H' s' hr' => ⟨by show 1 ≤ 1000; decide, tells_ofF (k2 _ un _ _ (s1.trans s') (dh_path hr'))⟩
      · rw [decide_eq_false (by simpa using pr)]
        rw [if_neg pr] at un
        exact iteF (iteF (k1 un H1 s1))
end
end
end K09
set_option Elab.async false
set_option linter.all false
set_option maxRecDepth 100000
set_option maxHeartbeats 4000000
namespace K09
open PySem PySem.Spec PyProof.Rows L2 Lc
def spKa (C : Addr) (n : Nat) : Sp := fun vs H Q E => ∃ (g q : Addr) (v : V) (kvs : List (Key × V)) (ps : List (Str × Str)) (p : List Nat) (d : PyData), vs = [.ref g, v, .ref q] ∧ H g = some (.dK kvs) ∧ KdX kvs ps ∧ Dh H v d ∧ okB n d = true ∧ H q = some (.tup (pathV p)) ∧ p.length + n = 8 ∧ (∀ k, kdA ps n p d = .inl k → ∀ H', Same H H' → Q (.str k) H') ∧ (∀ r, kdA ps n p d = .inr r → BadP C H E r)
def spKaP (C : Addr) : Nat → Sp
  | 0 => fun _ _ _ _ => False
  | n + 1 => spKa C n
def spKo (C : Addr) : Sp := fun vs H Q E => ∃ (L : Addr) (v : V) (xs : List V) (ps : List (Str × Str)) (d : PyData), vs = [.ref L, v] ∧ H L = some (.tup xs) ∧ Cols H xs ps ∧ (ps.map (·.1)).Nodup ∧ ps.length ≤ 8 ∧ Dh H v d ∧ okB 8 d = true ∧ (∀ k, kdA ps 8 [] d = .inl k → ∀ H', Same H H' → Q (.str k) H') ∧ (∀ r, kdA ps 8 [] d = .inr r → BadP C H E r)
abbrev teKa (C : Addr) (n : Nat) (K : PySem.W.Frag) (W : WX) : TE := tCallS (spKaP C n) (WE W) (tCons (tVar 0) (tCons (tVar 7) (tCons (tOp (rCatA K) (tVar 2) (tTup (tCons (tVar 6) tNil))) tNil)))
theorem fn_noneX {P : Program} {w : World} {K : PySem.W.Frag} {mg : Str → Option Value} {base : Heap} {CX : CXT} {C : Addr} {f : Addr} {fd : FuncData} {ps : List Str} {k : Nat} : FnOk P w K mg base CX k f fd ps (spKaP C 0) := ⟨fun _ _ _ _ h => h.elim, fun _ _ _ _ _ _ _ _ _ _ _ _ _ h => h.elim⟩
section
variable {P : Program} {w : World} {K : PySem.W.Frag} {mg : Str → Option Value} {base : Heap} {f C fI oA pA : Addr} {fd fdI : FuncData} {u1 : Tok}
abbrev sKa : Stmt := top 21
abbrev nKa : List Str := ["kinds", "part", "path", "word", "kind", "found", "at", "operand"]
abbrev pKa : List Str := ["kinds", "part", "path"]
theorem scKa : FnScope nKa pKa (defScope sKa) := ⟨rfl, rfl, rfl, by decide +kernel, rfl, by decide +kernel, by decide +kernel⟩
section
variable {fA_ fB_ fC_ fD_ fE_ : Addr} {fdA_ fdB_ fdC_ fdD_ fdE_ : FuncData}
theorem ok_Ka (F : Fun K "kind_at" "kind_at" sKa f fd) (T : Bt mg) (n : Nat) (OA : OpsA K w mg oA pA) (mP : mg "DEEPEST" = some (.int 8 u1)) (Z : ErF K mg "BadExpression" "path" C fI) (GI : FnOk P w K mg base CX0 1 fI fdI ["self", "path"] (spIni C "path")) (bI : Binds K fdI ["self", "path"] [])
    (GA_ : FnOk P w K mg base CX0 1 fA_ fdA_ ["part"] (spHw)) (mA_ : mg "has_word" = some (.ref fA_)) (kA_ : PySem.W.keepIn K (.ref fA_) = true) (bA_ : Binds K fdA_ ["part"] [])
    (GB_ : FnOk P w K mg base CX0 5 fB_ fdB_ ["kinds", "part"] (spLk)) (mB_ : mg "leaf_kind" = some (.ref fB_)) (kB_ : PySem.W.keepIn K (.ref fB_) = true) (bB_ : Binds K fdB_ ["kinds", "part"] [])
    (GC_ : FnOk P w K mg base (L2.CX P w) 3 fC_ fdC_ ["word", "found", "path"] (spCk C)) (mC_ : mg "check_operands" = some (.ref fC_)) (kC_ : PySem.W.keepIn K (.ref fC_) = true) (bC_ : Binds K fdC_ ["word", "found", "path"] [])
    (GD_ : FnOk P w K mg base CX0 1 fD_ fdD_ ["word", "found"] (spRk)) (mD_ : mg "result_kind" = some (.ref fD_)) (kD_ : PySem.W.keepIn K (.ref fD_) = true) (bD_ : Binds K fdD_ ["word", "found"] [])
    (GE_ : FnOk P w K mg base (L2.CX P w) (5 + n) fE_ fdE_ ["kinds", "part", "path"] (spKaP C n)) (mE_ : mg "kind_at" = some (.ref fE_)) (kE_ : PySem.W.keepIn K (.ref fE_) = true) (bE_ : Binds K fdE_ ["kinds", "part", "path"] []) : FnOk P w K mg base (L2.CX P w) (5 + n + 1) f fd pKa (spKa C n) := by
  refine F.okX scKa (fun vs H Q E h => ?_) (fun cdv A outer s H vs Q E hr h => ?_)
  · obtain ⟨g, q, v, kvs, ps, p, d, rfl, _⟩ := h
    rfl
  · obtain ⟨g, q, v, kvs, ps, p, d, rfl, hg, kx, hd, ok, hq, l8, k1, k2⟩ := h
    have hrA_ : Room (1) _ := hr.mono (by first | decide | omega)
    have hrB_ : Room (5) _ := hr.mono (by first | decide | omega)
    have hrC_ : Room (3) _ := hr.mono (by first | decide | omega)
    have hrD_ : Room (1) _ := hr.mono (by first | decide | omega)
    have hrE_ : Room ((5 + n)) _ := hr.mono (by first | decide | omega)
    have hrI : Room 2 _ := hr.mono (by first | decide | omega)
    obtain ⟨es, nn, KD⟩ := OA.d
    refine ⟨_, (pss_cons (ps_if (PW.pt (pw_or (pt_cmpR op_ge (pe_callB call_len_seq (by rfl) T.len PySem.boot_len (pa_cons (pv 2) pa_nil)) (pe_glob (v := .int 8) (by rfl) mP ⟨_, rfl⟩) (nomark _)) (pw_or1 (pt_not (pt_val (pe_call GA_ hrA_ (by rfl) mA_ kA_ bA_ .nil pass0 (pa_cons (pv 1) pa_nil))))))) (pss_one (ps_raise (W := fun cls d _ H => E cls d H) rfl (takes_of rfl rfl rfl rfl) (pmk_oex Z.oex Z.iC Z.tI GI hrI bI .nil pass0 (by rfl) Z.gC (pa_cons (pv 2) pa_nil)))) pss_nil)
      (pss_cons (ps_set (i := 3) scKa.nd rfl (Or.inl rfl) (pe_ix ix_tup (pv 1) pe_int (fun _ _ => rfl)))
      (pss_cons (ps_if (PW.pt (pw_or (pt_cmpR op_eq (pv 3) pe_str (nomark _)) (pw_or1 (pt_cmpR op_eq (pv 3) pe_str (nomark _))))) (pss_cons (ps_set (i := 4) scKa.nd rfl (Or.inl rfl) (pe_call GB_ hrB_ (by rfl) mB_ kB_ bB_ .nil pass0 (pa_cons (pv 0) (pa_cons (pv 1) pa_nil))))
      (pss_cons (ps_if (pt_cmpR op_isN (pv 4) pe_non (nomark _)) (pss_one (ps_raise (W := fun cls d _ H => E cls d H) rfl (takes_of rfl rfl rfl rfl) (pmk_oex Z.oex Z.iC Z.tI GI hrI bI .nil pass0 (by rfl) Z.gC (pa_cons (pv 2) pa_nil)))) pss_nil)
      (pss_one (ps_ret (pv 4))))) pss_nil)
      (pss_cons (ps_if (PW.pt (pw_or (pt_cmpR (op_notIn_kd KD) (pv 3) (pe_glob (v := .ref oA) (by rfl) OA.g rfl) (by rfl)) (pw_or1 (pt_cmpR op_ne (pe_callB call_len_seq (by rfl) T.len PySem.boot_len (pa_cons (pv 1) pa_nil)) (pe_op op_add (pe_callB call_len_seq (by rfl) T.len PySem.boot_len (pa_cons (pe_ix ix_kdict (pe_glob (v := .ref oA) (by rfl) OA.g rfl) (pv 3) (fun _ _ => rfl)) pa_nil)) pe_int) (nomark _))))) (pss_one (ps_raise (W := fun cls d _ H => E cls d H) rfl (takes_of rfl rfl rfl rfl) (pmk_oex Z.oex Z.iC Z.tI GI hrI bI .nil pass0 (by rfl) Z.gC (pa_cons (pv 2) pa_nil)))) pss_nil)
      (pss_cons (ps_setLcE (i := 5) (own := [("at", 6), ("operand", 7)]) (g := gTup K 2 (gCons (gName 6) (gCons (gName 7) gNil))) (tt := tYes) (te := fun Wb => teKa C n K Wb) (W := fun cls d _ H => E cls d H) rfl rfl (takes_of rfl rfl rfl rfl) (by rfl) scKa.nd (pi_enT (by rfl) T.enum (pa_cons (pe_slice sl_tup (pv 1) (po_some pe_int) po_none) pa_nil)) (blkOk_by (own := [("at", 6), ("operand", 7)]) (N := nKa) (sc := defScope sKa) (by decide +kernel))
          (fun _ _ _ _ _ _ => (pg_tup rfl (pgs_cons (pg_name (i := 6) scKa.nd rfl (.inl rfl)) (pgs_cons (pg_name (i := 7) scKa.nd rfl (.inl rfl)) pgs_nil)))) (fun _ _ _ _ _ _ => pts_nil) (fun _ _ _ _ _ _ Wb hp => (pe_callS GE_ hrE_ (by rfl) mE_ kE_ bE_ hp (pa_cons (pv 0) (pa_cons (pv 7) (pa_cons (pe_op op_catA (pv 2) (pe_tup (pa_cons (pv 6) pa_nil))) pa_nil))))) rfl rfl (sw_true rfl rfl rfl (by decide +kernel)))
      (pss_cons (ps_expr (pe_callS GC_ hrC_ (by rfl) mC_ kC_ bC_ (fun σ => passAt (W := fun cls d _ H => E cls d H) (takes_of rfl rfl rfl rfl) σ) (pa_cons (pv 3) (pa_cons (pv 5) (pa_cons (pv 2) pa_nil)))))
      (pss_one (ps_ret (pe_call GD_ hrD_ (by rfl) mD_ kD_ bD_ .nil pass0 (pa_cons (pv 3) (pa_cons (pv 5) pa_nil))))))))))), ?_⟩
    have sE : ∀ (a b : Str), decide (V.str a = V.str b) = decide (a = b) := fun a b => decide_eq_decide.mpr ⟨fun e => by injection e, fun e => by rw [e]⟩
    have lp : (pathV p).length = p.length := by unfold pathV; rw [List.length_map]
    have here : ∀ {H' : Hp}, Same H H' → kdA ps n p d = .inr p → TellsF C "path" H' (.ref q) E := fun s' e => k2 p e _ _ s' (dh_path (s' _ _ hq))
    refine ⟨_, rfl, q, _, rfl, .inr (SqT.of hq), _, _, rfl, rfl, _, rfl, ?_⟩
    rw [lp]
    cases n with
    | zero =>
      rw [decide_eq_true (by omega)]
      exact iteT ⟨_, rfl, by show 1 ≤ 1000; decide, tells_ofF (here (Same.refl H) (by unfold kdA; rfl))⟩
    | succ n =>
    rw [decide_eq_false (by omega)]
    refine iteF ⟨_, rfl, v, d, rfl, hd, _, rfl, ?_⟩
    cases hw : hwD d with
    | false =>
      exact iteT ⟨_, rfl, by show 1 ≤ 1000; decide, tells_ofF (here (Same.refl H) (kdA_other hw))⟩
    | true =>
    refine iteF ?_
    obtain ⟨wd, os, rfl⟩ := hw_is hw
    rw [okB] at ok
    have unf : kdA ps (n + 1) p (.tuple (.str wd :: os)) = kdT ps (kdA ps n) p wd os := rfl
    rw [unf] at k1 k2 here
    unfold kdT at k1 k2 here
    cases hd with
    | @tup a ys0 _ ea hs0 =>
    cases hs0 with
    | @cons _ ys _ _ h1 r1 =>
    cases h1
    have ly := r1.len
    refine ⟨_, rfl, a, _, _, .str wd, rfl, rfl, SqT.of ea, at_zero, ?_⟩
    refine ⟨_, rfl, rfl, _, rfl, ?_⟩
    rw [sE]
    have leaf : ∀ {D : Ends} {σ : L2.St}, (wd = "column" ∨ wd = "value") → True := fun _ => True.intro
    by_cases cv : wd = "column" ∨ wd = "value"
    · rw [if_pos cv] at k1 k2 here
      have okl : okB 1 (.tuple (.str wd :: os)) = true := by
        show okT (okB 0) wd os = true
        exact okT_mono (fun d _ => by unfold okB; rfl) ok
      have go : ∀ {H' : Hp}, Same H H' → leafK ps wd os = none → TellsF C "path" H' (.ref q) E := fun s' e => here s' (by rw [e]; rfl)
      by_cases w1 : wd = "column"
      · rw [decide_eq_true w1]
        refine iteT (iteT ⟨_, rfl, _, rfl, g, a, kvs, ps, wd, ys, os, rfl, hg, kx, ea, r1, okl, cv, fun H' s' => ⟨_, rfl, rfl, _, rfl, ?_⟩⟩)
        cases e : leafK ps wd os with
        | none =>
          rw [decide_eq_true (show optS none = V.non from rfl)]
          exact iteT ⟨_, rfl, by show 1 ≤ 1000; decide, tells_ofF (go s' e)⟩
        | some kd =>
          rw [decide_eq_false (show optS (some kd) ≠ V.non from nofun)]
          exact iteF ⟨_, rfl, k1 kd (by rw [e]; rfl) H' s'⟩
      · rw [decide_eq_false w1]
        refine iteF ⟨_, rfl, rfl, _, rfl, ?_⟩
        rw [sE, decide_eq_true (cv.resolve_left w1)]
        refine iteT ⟨_, rfl, _, rfl, g, a, kvs, ps, wd, ys, os, rfl, hg, kx, ea, r1, okl, cv, fun H' s' => ⟨_, rfl, rfl, _, rfl, ?_⟩⟩
        cases e : leafK ps wd os with
        | none =>
          rw [decide_eq_true (show optS none = V.non from rfl)]
          exact iteT ⟨_, rfl, by show 1 ≤ 1000; decide, tells_ofF (go s' e)⟩
        | some kd =>
          rw [decide_eq_false (show optS (some kd) ≠ V.non from nofun)]
          exact iteF ⟨_, rfl, k1 kd (by rw [e]; rfl) H' s'⟩
    · rw [if_neg cv] at k1 k2 here
      unfold kdO at k1 k2 here
      have okO : ∀ o ∈ os, okB n o = true := by
        unfold okT at ok
        rw [if_neg (fun z => cv (.inl z)), if_neg (fun z => cv (.inr z)), List.all_eq_true] at ok
        exact ok
      rw [decide_eq_false (fun z => cv (.inl z))]
      refine iteF ⟨_, rfl, rfl, _, rfl, ?_⟩
      rw [sE, decide_eq_false (fun z => cv (.inr z))]
      refine iteF ?_
      cases eo : opsV wd with
      | none =>
        rw [eo] at here
        exact ⟨_, rfl, wd, _, rfl, rfl, OA.no wd eo, _, rfl, iteT ⟨_, rfl, by show 1 ≤ 1000; decide, tells_ofF (here (Same.refl H) rfl)⟩⟩
      | some ops =>
      rw [eo] at k1 k2 here
      dsimp only at k1 k2 here
      obtain ⟨oa, kd1, kd2, hoa⟩ := OA.at_ wd ops eo
      obtain ⟨lo1, lo3, _, _, _⟩ := opsV_len eo
      refine ⟨_, rfl, wd, _, rfl, rfl, kd2, _, rfl, iteF ⟨_, rfl, a, _, rfl, .inr (SqT.of ea), _, rfl, oA, wd, _, rfl, rfl, kd1, oa, _, rfl, .inr (hoa H), _, _, rfl, rfl, rfl, _, rfl, ?_⟩⟩
      show if (!decide (V.int ((V.str wd :: ys).length : Int) = V.int ((ops.length : Int) + 1))) = true then _ else _
      by_cases ll : os.length = ops.length
      · rw [decide_eq_true (show V.int ((V.str wd :: ys).length : Int) = V.int ((ops.length : Int) + 1) by rw [List.length_cons, ly, ll]; rfl)]
        rw [if_pos ll] at k1 k2 here
        refine iteF ⟨_, rfl, 1, rfl, a, _, rfl, SqT.of ea, tail_not, fun t0 ht0 => ?_⟩
        rw [cut_tail]
        have zp := Same.upd (o := .tup ys) ht0
        have hp2 : upd H t0 (.tup ys) t0 = some (.tup ys) := upd_same
        generalize upd H t0 (.tup ys) = H2 at zp hp2 ⊢
        refine ⟨t0, ys, rfl, SqT.of hp2, fun D hD => lc_it (walk_enT (K := K) (a := t0) (xs := ys)) (fun i H' => ∃ ks : List Str, H' D = some (.lst (ks.map V.str)) ∧ ks.length = i ∧ i ≤ os.length ∧ kdF (kdA ps n) p ops wd i (os.drop i) ks = kdF (kdA ps n) p ops wd 0 os [] ∧ Same H2 H') ⟨[], upd_same, rfl, Nat.zero_le _, rfl, Same.upd hD⟩ (fun i H' _ pr => by obtain ⟨_, _, _, _, _, s'⟩ := pr; exact SqT.of (s' _ _ hp2)) ?_ ?_⟩
        · rintro i x Ha Hb hi ⟨ks, hD1, lks, li, er, sa⟩ ⟨q1, i', z, rfl, hq1, rfl, e1, e2⟩
          obtain rfl : V.int ((i : Nat) : Int) = i' := Option.some.inj e1
          have zq := Same.upd (o := .tup [.int ((i : Nat) : Int), z]) hq1
          have sb := sa.trans zq
          have s0 := zp.trans sb
          obtain ⟨o, eo', dh⟩ := r1.get _ _ e2
          have lt : i < os.length := (List.getElem?_eq_some_iff.mp eo').1
          have ed : os.drop i = o :: os.drop (i + 1) := by rw [List.drop_eq_getElem_cons lt, (List.getElem?_eq_some_iff.mp eo').2]
          rw [ed, kdF] at er
          refine ⟨q1, _, rfl, SqT.of upd_same, rfl, _, _, rfl, _, _, rfl, rfl, rfl, ?_⟩
          change teKa C (n + 1) K _ _ _ _
          have hD2 := zq _ _ hD1
          have offD : ∀ b o', H2 b = some o' → b ≠ D := fun b o' eb => ne_of_none eb hD
          refine ⟨_, rfl, _, rfl, _, rfl, _, rfl, by show 1 ≤ sizeLine; decide, fun t1 ht1 => catA_path (s0 _ _ hq) (by omega) ht1 fun r H' s' hr' => ?_⟩
          refine ⟨g, r, z, kvs, ps, p ++ [i], o, rfl, s' _ _ (s0 _ _ hg), kx, dh.same (s0.trans s'), okO o (List.mem_of_getElem? eo'), hr', by rw [List.length_append]; show p.length + 1 + n = 8; omega, fun kk ek H4 s4 => ?_, fun rr er2 => ?_⟩
          · rw [ek] at er
            refine ⟨_, s4 _ _ (s' _ _ hD2), by rw [List.length_map, lks]; exact Nat.lt_of_le_of_lt (show _ ≤ 3 by omega) (by decide), ks ++ [kk], by rw [upd_same, List.map_append]; rfl, by rw [List.length_append, lks]; rfl, lt, er, fun b o' eb => by rw [upd_ne (offD b o' eb)]; exact s4 _ _ (s' _ _ (sb _ _ eb))⟩
          · rw [er2] at er
            exact (k2 rr er.symm).same (s0.trans s')
        · rintro H3 ⟨ks, hD3, lks, _, er, s3⟩
          rw [ly] at lks er
          rw [List.drop_length, kdF] at er
          have s03 := zp.trans s3
          unfold endK at er
          refine ⟨_, rfl, _, rfl, _, rfl, D, q, wd, ks, ops, p, rfl, hD3, eo, by omega, s03 _ _ hq, by omega, fun ec H4 s4 => ?_, fun i ec => ?_⟩
          · rw [ec] at er
            obtain ⟨k0, l0, ek⟩ : ∃ k0 l0, ks = l0 ++ [k0] := by
              rcases List.eq_nil_or_concat ks with e | ⟨l0, k0, e⟩
              · rw [e] at lks; exact absurd lks (by show ¬ 0 = _; omega)
              · exact ⟨k0, l0, by rw [e]; simp⟩
            refine ⟨_, rfl, _, rfl, D, wd, k0, l0, rfl, by rw [← ek]; exact s4 _ _ hD3, fun H5 s5 => ?_⟩
            rw [← ek]
            exact k1 _ er.symm H5 ((s03.trans s4).trans s5)
          · rw [ec] at er
            exact (k2 _ er.symm).same s03
      · rw [decide_eq_false (show V.int ((V.str wd :: ys).length : Int) ≠ V.int ((ops.length : Int) + 1) from fun q => ll (by injection q with q; rw [List.length_cons, ly] at q; omega))]
        rw [if_neg ll] at here
        exact iteT ⟨_, rfl, by show 1 ≤ 1000; decide, tells_ofF (here (Same.refl H) rfl)⟩
end
end
end K09
set_option Elab.async false
set_option linter.all false
set_option maxRecDepth 100000
set_option maxHeartbeats 4000000
namespace K09
open PySem PySem.Spec PyProof.Rows L2 Lc
theorem take_new : ∀ {ps : List (Str × Str)} {i : Nat} {p : Str × Str}, (ps.map (·.1)).Nodup → ps[i]? = some p → ∀ q ∈ ps.take i, q.1 ≠ p.1
  | [], i, p, _, e => by simp at e
  | a :: r, 0, p, _, _ => by simp
  | a :: r, i + 1, p, nd, e => by
    have e' : r[i]? = some p := by simpa using e
    rw [List.map_cons, List.nodup_cons] at nd
    intro q hq
    rw [List.take_succ_cons] at hq
    rcases List.mem_cons.mp hq with rfl | hq
    · exact fun z => nd.1 (List.mem_map.mpr ⟨p, List.mem_of_getElem? e', z.symm⟩)
    · exact take_new nd.2 e' q hq
theorem lookup_app : ∀ (xs ys : List (Str × Str)) (z : Str), (xs ++ ys).lookup z = (xs.lookup z).or (ys.lookup z)
  | [], ys, z => by simp
  | (a, b) :: xs, ys, z => by
    rw [List.cons_append, List.lookup_cons, List.lookup_cons]
    cases z == a with
    | true => rfl
    | false => exact lookup_app xs ys z
theorem lookup_none : ∀ {xs : List (Str × Str)} {z : Str}, (∀ p ∈ xs, p.1 ≠ z) → xs.lookup z = none
  | [], z, _ => rfl
  | (a, b) :: xs, z, h => by
    have ne : (z == a) = false := by
      have := h (a, b) List.mem_cons_self
      simpa using fun e : z = a => this e.symm
    rw [List.lookup_cons, ne]
    exact lookup_none fun p hp => h p (List.mem_cons_of_mem _ hp)
theorem kdx_put {kvs : List (Key × V)} {ps : List (Str × Str)} {i : Nat} {z k : Str} (nd : (ps.map (·.1)).Nodup) (e : ps[i]? = some (z, k)) (h : KdX kvs (ps.take i)) : KdX (putK kvs (Sum.inr z : Key) (.str k)) (ps.take (i + 1)) := by
  refine ⟨fun z' => ?_⟩
  rw [valV_put, List.take_add_one, e, lookup_app]
  show _ = Option.map V.str ((List.lookup z' (List.take i ps)).or (List.lookup z' [(z, k)]))
  rw [List.lookup_cons]
  by_cases q : z' = z
  · subst q
    rw [if_pos rfl, lookup_none (fun p hp => take_new nd e _ hp)]
    simp
  · rw [if_neg (fun w => q (by injection w)), h.at_ z', show (z' == z) = false by simpa using q]
    simp
section
variable {P : Program} {w : World} {K : PySem.W.Frag} {mg : Str → Option Value} {base : Heap} {f C fI oA pA : Addr} {fd fdI : FuncData} {u1 : Tok}
theorem ok_KaN {fH fL fC fR : Addr} {fdH fdL fdC fdR : FuncData} (F : Fun K "kind_at" "kind_at" sKa f fd) (T : Bt mg) (OA : OpsA K w mg oA pA) (mP : mg "DEEPEST" = some (.int 8 u1)) (Z : ErF K mg "BadExpression" "path" C fI) (GI : FnOk P w K mg base CX0 1 fI fdI ["self", "path"] (spIni C "path")) (bI : Binds K fdI ["self", "path"] [])
    (GH : FnOk P w K mg base CX0 1 fH fdH ["part"] spHw) (mH : mg "has_word" = some (.ref fH)) (kH : PySem.W.keepIn K (.ref fH) = true) (bH : Binds K fdH ["part"] [])
    (GL : FnOk P w K mg base CX0 5 fL fdL ["kinds", "part"] spLk) (mL : mg "leaf_kind" = some (.ref fL)) (kL : PySem.W.keepIn K (.ref fL) = true) (bL : Binds K fdL ["kinds", "part"] [])
    (GC : FnOk P w K mg base (L2.CX P w) 3 fC fdC ["word", "found", "path"] (spCk C)) (mC : mg "check_operands" = some (.ref fC)) (kC : PySem.W.keepIn K (.ref fC) = true) (bC : Binds K fdC ["word", "found", "path"] [])
    (GR : FnOk P w K mg base CX0 1 fR fdR ["word", "found"] spRk) (mR : mg "result_kind" = some (.ref fR)) (kR : PySem.W.keepIn K (.ref fR) = true) (bR : Binds K fdR ["word", "found"] [])
    (mX : mg "kind_at" = some (.ref f)) (kX : PySem.W.keepIn K (.ref f) = true) (bX : Binds K fd pKa []) : ∀ n : Nat, FnOk P w K mg base (L2.CX P w) (5 + n + 1) f fd pKa (spKa C n)
  | 0 => ok_Ka F T 0 OA mP Z GI bI GH mH kH bH GL mL kL bL GC mC kC bC GR mR kR bR fn_noneX mX kX bX
  | n + 1 => ok_Ka F T (n + 1) OA mP Z GI bI GH mH kH bH GL mL kL bL GC mC kC bC GR mR kR bR (ok_KaN F T OA mP Z GI bI GH mH kH bH GL mL kL bL GC mC kC bC GR mR kR bR mX kX bX n) mX kX bX
abbrev sKo : Stmt := top 20
abbrev nKo : List Str := ["columns", "expression", "kinds", "name", "kind"]
abbrev pKo : List Str := ["columns", "expression"]
theorem scKo : FnScope nKo pKo (defScope sKo) := ⟨rfl, rfl, rfl, by decide +kernel, rfl, by decide +kernel, by decide +kernel⟩
section
variable {fA_ : Addr} {fdA_ : FuncData}
theorem ok_Ko (F : Fun K "kind_of" "kind_of" sKo f fd) (T : Bt mg)
    (GA_ : FnOk P w K mg base (L2.CX P w) 14 fA_ fdA_ ["kinds", "part", "path"] (spKa C 8)) (mA_ : mg "kind_at" = some (.ref fA_)) (kA_ : PySem.W.keepIn K (.ref fA_) = true) (bA_ : Binds K fdA_ ["kinds", "part", "path"] []) : FnOk P w K mg base (L2.CX P w) 15 f fd pKo (spKo C) := by
  refine F.okX scKo (fun vs H Q E h => ?_) (fun cdv A outer s H vs Q E hr h => ?_)
  · obtain ⟨L, v, xs, ps, d, rfl, _⟩ := h
    rfl
  · obtain ⟨L, v, xs, ps, d, rfl, hL, hc, nd, l8, hd, ok, k1, k2⟩ := h
    have hrA_ : Room (14) _ := hr.mono (by first | decide | omega)
    refine ⟨_, (pss_cons (ps_setDc (i := 2) (own := [("name", 3), ("kind", 4)]) (g := (gTup K 2 (gCons (gName 3) (gCons (gName 4) gNil)))) (tt := tYes) (tk := (tVar 3)) (tv := (tVar 4)) (by rfl) scKo.nd rfl rfl (sw_dict rfl rfl rfl (by decide +kernel)) (pi_tup (pv 0)) (blkOk_by (own := [("name", 3), ("kind", 4)]) (N := nKo) (sc := defScope sKo) (by decide +kernel)) (fun _ _ _ _ _ => (pg_tup rfl (pgs_cons (pg_name (i := 3) scKo.nd rfl (.inl rfl)) (pgs_cons (pg_name (i := 4) scKo.nd rfl (.inl rfl)) pgs_nil)))) (fun _ _ _ _ _ => pts_nil) (fun _ _ _ _ _ => (pv 3)) (fun _ _ _ _ _ => (pv 4)))
      (pss_one (ps_ret (pe_callS GA_ hrA_ (by rfl) mA_ kA_ bA_ (fun σ => passAt (W := fun cls d _ H => E cls d H) (takes_of rfl rfl rfl rfl) σ) (pa_cons (pv 2) (pa_cons (pv 1) (pa_cons (pe_tup pa_nil) pa_nil))))))), ?_⟩
    refine ⟨_, rfl, L, rfl, ⟨_, SqT.of hL⟩, fun D hD => dc_tup (K := K) (a := L) (xs := xs) (fun i H' => ∃ kvs, H' D = some (.dK kvs) ∧ kvs.length ≤ i ∧ KdX kvs (ps.take i) ∧ Same H H') ⟨[], upd_same, Nat.le_refl _, ⟨fun _ => rfl⟩, Same.upd hD⟩ (fun i H' _ p => by obtain ⟨_, _, _, _, s'⟩ := p; exact SqT.of (s' _ _ hL)) ?_ ?_⟩
    · rintro i x H1 hx ⟨kvs, hD1, ln, kp, s1⟩
      obtain ⟨q, z, kk, rfl, ea, ep⟩ := hc.get _ _ hx
      have hi : i < xs.length := (List.getElem?_eq_some_iff.mp hx).1
      have lx := hc.len
      refine ⟨q, _, rfl, SqT.of (s1 _ _ ea), rfl, _, _, rfl, _, _, rfl, rfl, rfl, ?_⟩
      dsimp only [tYes]
      refine iteT ⟨_, rfl, _, rfl, kvs, Sum.inr z, rfl, hD1, Nat.lt_of_le_of_lt (show _ ≤ 8 by omega) (by decide), _, upd_same, Nat.le_trans (length_putK _ _ _) (by omega), kdx_put nd ep kp, fun b o e => by rw [upd_ne (ne_of_none e hD)]; exact s1 b o e⟩
    · rintro H1 ⟨kvs, hD1, ln, kp, s1⟩
      rw [hc.len, List.take_length] at kp
      refine ⟨_, rfl, _, rfl, by show 0 ≤ sizeLine; decide, fun t ht => ?_⟩
      have zt := Same.upd (o := .tup []) ht
      exact ⟨D, t, v, kvs, ps, [], d, rfl, zt _ _ hD1, kp, hd.same (s1.trans zt), ok, upd_same, by decide, fun k ek H' s' => k1 k ek H' ((s1.trans zt).trans s'), fun r er => (k2 r er).same (s1.trans zt)⟩
end
end
end K09
set_option Elab.async false
set_option linter.all false
set_option maxRecDepth 100000
set_option maxHeartbeats 4000000
namespace K09
open PySem PySem.Spec PyProof.Rows L2 Lc
/-! ## texts -/
abbrev CL (x : Str) : List Nat := x.cps.toList
def TS (l : List Nat) : Str := ⟨l.toArray⟩
theorem cl_ts (l : List Nat) : CL (TS l) = l := by simp [CL, TS]
theorem ts_cl (x : Str) : TS (CL x) = x := str_ext (cl_ts _)
theorem ts_of {x : Str} {l : List Nat} (h : CL x = l) : x = TS l := by rw [← h, ts_cl]
theorem ts_inj {a b : List Nat} (h : TS a = TS b) : a = b := by rw [← cl_ts a, h, cl_ts]
theorem ts_len (l : List Nat) : (TS l).length = l.length := by rw [lenL]; exact congrArg List.length (cl_ts l)
theorem ts_app (a b : List Nat) : TS a ++ TS b = TS (a ++ b) := str_ext (by rw [appL]; show CL (TS a) ++ CL (TS b) = CL (TS (a ++ b)); rw [cl_ts, cl_ts, cl_ts])
theorem name_signs {z : Str} (h : nameB (.str z) = true) : CL z ≠ [] ∧ (CL z).length ≤ 12 ∧ (∀ c ∈ CL z, 48 ≤ c ∧ c ≤ 122) ∧ ∀ c r, CL z = c :: r → 97 ≤ c := by
  have h : nameL z.cps.toList = true := h
  have all : ∀ c ∈ signs.cps.toList, 48 ≤ c ∧ c ≤ 122 := by decide +kernel
  have low : ∀ c ∈ letters.cps.toList, 97 ≤ c := by decide +kernel
  cases e : z.cps.toList with
  | nil => rw [e] at h; cases h
  | cons c r =>
    rw [e] at h
    have h : (decide ((c :: r).length ≤ 12) && (inL c && (c :: r).all inS)) = true := h
    obtain ⟨h1, h2⟩ := Bool.and_eq_true_iff.mp h
    obtain ⟨h3, h4⟩ := Bool.and_eq_true_iff.mp h2
    rw [show CL z = c :: r from e]
    refine ⟨nofun, of_decide_eq_true h1, fun x hx => all x (of_decide_eq_true (List.all_eq_true.mp h4 x hx)), fun x y e' => ?_⟩
    injection e' with e1 e2
    rw [← e1]
    exact low c (of_decide_eq_true h3)
def rNIS : R2 := fun x y H Q => ∃ (c : Nat) (z : Str), x = .str ⟨#[c]⟩ ∧ y = .str z ∧ Q (.bl (!decide (c ∈ z.cps.toList))) H
structure Tx (l : List Nat) : Prop where
  len : l.length ≤ 400000
  ok : ∀ c ∈ l, c < 128
theorem Tx.line {l : List Nat} (h : Tx l) : (TS l).length ≤ sizeLine := by rw [ts_len]; exact Nat.le_trans h.len (by decide)
theorem grow_f {x : List Nat} {i c : Nat} (h : x[i]? = some c) (g : Nat → Bool) : ((x.take (i + 1)).filter g).map (fun c => V.str ⟨#[c]⟩) = if g c = true then ((x.take i).filter g).map (fun c => V.str ⟨#[c]⟩) ++ [.str ⟨#[c]⟩] else ((x.take i).filter g).map fun c => V.str ⟨#[c]⟩ := by
  rw [List.take_add_one, h]
  by_cases z : g c = true <;> simp [z, List.filter_append]
theorem at_ts {l : List Nat} {i c : Nat} (h : (TS l).cps[i]? = some c) : l[i]? = some c := by
  have q : (TS l).cps.toList[i]? = some c := by simpa using h
  rw [show (TS l).cps.toList = l from cl_ts l] at q
  exact q
theorem ts_size (l : List Nat) : (TS l).cps.size = l.length := ts_len l
theorem dec_ts {l m : List Nat} {z : Str} (e : CL z = m) : decide (V.str (TS l) = V.str z) = decide (l = m) := decide_eq_decide.mpr ⟨fun q => by injection q with q; rw [← e, ← q, cl_ts], fun q => by rw [q, ← e, ts_cl]⟩
theorem sgn_ok {c : Nat} (h : c < 128) : PyData.canLay0 (.str ⟨#[c]⟩) = true := by
  have key : ∀ c, c < 128 → PyData.canLay0 (.str ⟨#[c]⟩) = true := by decide +kernel
  exact key c h
theorem sgns_shaped {cs : List Nat} (h : ∀ c ∈ cs, c < 128) : SeqAt.shaped (.list (cs.map fun c => .str ⟨#[c]⟩)) = true := by
  have a : PyData.canLayAll0 (cs.map fun c => .str ⟨#[c]⟩) = true := by
    induction cs with
    | nil => rfl
    | cons c r ih =>
      show (PyData.canLay0 (.str ⟨#[c]⟩) && PyData.canLayAll0 (r.map fun c => .str ⟨#[c]⟩)) = true
      rw [sgn_ok (h c List.mem_cons_self), ih fun x hx => h x (List.mem_cons_of_mem _ hx)]
      rfl
  have d : PyData.depthAll (cs.map fun c => .str ⟨#[c]⟩) = 0 := by
    induction cs with
    | nil => rfl
    | cons c r ih =>
      show max 0 (PyData.depthAll (r.map fun c => .str ⟨#[c]⟩)) = 0
      rw [ih (fun x hx => h x (List.mem_cons_of_mem _ hx)) (by
        show PyData.canLayAll0 (r.map fun c => .str ⟨#[c]⟩) = true
        have : (PyData.canLay0 (.str ⟨#[c]⟩) && PyData.canLayAll0 (r.map fun c => .str ⟨#[c]⟩)) = true := a
        exact (Bool.and_eq_true_iff.mp this).2)]
      rfl
  show (PyData.canLay0 (.list (cs.map fun c => .str ⟨#[c]⟩)) && decide ((PyData.list (cs.map fun c => .str ⟨#[c]⟩)).depth ≤ 64)) = true
  rw [show PyData.canLay0 (.list (cs.map fun c => .str ⟨#[c]⟩)) = PyData.canLayAll0 (cs.map fun c => .str ⟨#[c]⟩) by rw [PyData.canLay0], a, show (PyData.list (cs.map fun c => .str ⟨#[c]⟩)).depth = PyData.depthAll (cs.map fun c => .str ⟨#[c]⟩) + 1 by rw [PyData.depth], d]
  rfl
theorem sgns_nil (cs : List Nat) : PyData.eqv (.list (cs.map fun c => .str ⟨#[c]⟩)) (.list []) = decide (cs = []) := by
  cases cs with
  | nil => rfl
  | cons c r => rw [decide_eq_false (by simp)]; rfl
theorem Dps.sgns {K : PySem.W.Frag} {H : Hp} (cs : List Nat) : DpAll K H (cs.map fun c => V.str ⟨#[c]⟩) (cs.map fun c => PyData.str ⟨#[c]⟩) := by
  induction cs with
  | nil => exact .nil
  | cons c r ih => exact .cons (.str _) ih
theorem filter_nil {l : List Nat} {g : Nat → Bool} : decide (l.filter (fun c => !g c) = []) = l.all g := by
  induction l with
  | nil => rfl
  | cons c r ih => cases e : g c <;> simp [e, ← ih]
theorem low_same {s d : Int} (h : 0 < d) : (lowN s d = s ∧ lowD s d = d) ↔ gd s d = 1 := by
  refine ⟨fun ⟨_, h2⟩ => ?_, fun g => ?_⟩
  · have m := (low_mul (n := s) (d := d) (by omega)).2
    rw [h2] at m
    have : d * gd s d = d * 1 := by rw [m, Int.mul_one]
    exact Int.eq_of_mul_eq_mul_left (by omega) this
  · unfold lowN lowD
    rw [g, Int.ediv_one, Int.ediv_one]
    exact ⟨rfl, rfl⟩
theorem low_eqv {n d : Int} (h : 0 < d) : PyData.eqv (.tuple [.int (lowN n d), .int (lowD n d)]) (.tuple [.int n, .int d]) = decide (gd n d = 1) := by
  have m := low_mul (n := n) (d := d) (by omega)
  have g := gd_pos (a := n) (b := d) (by omega)
  by_cases z : gd n d = 1
  · rw [decide_eq_true z]
    rw [z, Int.mul_one, Int.mul_one] at m
    rw [m.1, m.2]
    simp [PyData.eqv, PyData.eqvAll]
  · rw [decide_eq_false z]
    have ne : lowD n d ≠ d := fun e => by
      rw [e] at m
      have : d * gd n d = d * 1 := by rw [Int.mul_one]; exact m.2
      exact z (Int.eq_of_mul_eq_mul_left (by omega) this)
    simp [PyData.eqv, PyData.eqvAll, ne]
def AzD (d : PyData) : Prop := ∀ z, d = .str z → azT z = true
theorem az_tx {z : Str} (h : azT z = true) : ∃ l, z = TS l ∧ Tx l ∧ l.length ≤ 1000 := by
  unfold azT at h
  simp only [Bool.and_eq_true, decide_eq_true_eq, List.all_eq_true] at h
  exact ⟨CL z, (ts_cl z).symm, ⟨Nat.le_trans h.1 (by decide), h.2⟩, h.1⟩
theorem AzD.tx {d : PyData} (h : AzD d) : TxD d := fun z e => by
  obtain ⟨l, rfl, tx, _⟩ := az_tx (h z e)
  exact tx.line
def spLin : Sp := fun vs H Q _ => ∃ (v : V) (d : PyData), vs = [v] ∧ Dh H v d ∧ AzD d ∧ ∀ H', Same H H' → Q (.bl (nameD d)) H'
def spVl : Sp := fun vs H Q _ => ∃ (v : V) (d : PyData), vs = [v] ∧ Dh H v d ∧ AzD d ∧ ∀ H', Same H H' → Q (optS (vK d)) H'
/-- a whole number within the limit -/
def intL : PyData → Bool
  | .int i => decide (i.natAbs ≤ 10000000000000000000000000000000000000000)
  | _ => false
section
variable {P : Program} {w : World} {K : PySem.W.Frag} {mg : Str → Option Value} {base : Heap} {f : Addr} {fd : FuncData}
abbrev sLin : Stmt := top 37
abbrev nLin : List Str := ["_law_value", "_law_sign"]
abbrev pLin : List Str := ["_law_value"]
theorem scLin : FnScope nLin pLin (defScope sLin) := ⟨rfl, rfl, rfl, by decide +kernel, rfl, by decide +kernel, by decide +kernel⟩
section
theorem ok_Lin (F : Fun K "_law_is_name" "_law_is_name" sLin f fd) (T : Bt mg) : FnOk P w K mg base CX0 1 f fd pLin (spLin) := by
  refine F.ok scLin (fun vs H Q E h => ?_) (fun cdv A outer s H vs Q E hr h => ?_)
  · obtain ⟨v, d, rfl, _⟩ := h
    rfl
  · obtain ⟨v, d, rfl, hd, az, k⟩ := h
    refine ⟨_, (pss_cons (ps_if (PW.pt (pw_or (pt_not (pt_val (pe_callB call_isi (by rfl) T.isi boot_isinstance (pa_cons (pv 0) (pa_cons (pe_bltn (v := .ty "str") (by rfl) T.str boot_str rfl) pa_nil))))) (pw_or (pt_not (pt_chain op_le op_le pe_int (pe_callB call_len_str (by rfl) T.len PySem.boot_len (pa_cons (pv 0) pa_nil)) pe_int)) (pw_or1 (pt_cmpR op_notIn_sign (pe_ix ix_str (pv 0) pe_int (fun _ _ => rfl)) pe_str (by rfl)))))) (pss_one (ps_ret pe_bl)) pss_nil)
      (pss_one (ps_ret (pe_cmpR (op_eqD hr.units) (pe_lc (own := [("_law_sign", 1)]) (g := (gName 1)) (tt := (tTest (tOp rNIS (tVar 1) (tC (.str signs))))) (te := (tVar 1)) (by rfl) scLin.nd (pi_str (pv 0)) (blkOk_by (own := [("_law_sign", 1)]) (N := nLin) (sc := defScope sLin) (by decide +kernel)) (fun _ _ _ _ _ => (pg_name (i := 1) scLin.nd rfl (.inl rfl))) (fun _ _ _ _ _ => (pts_one (pt_cmpR op_notIn_sign (pv 1) pe_str (by rfl)))) (fun _ _ _ _ _ => (pv 1))) (pe_lst pa_nil) (nomark _))))), ?_⟩
    refine ⟨_, rfl, v, .ty "str", _, _, _, rfl, .ty "str", hd.ty.x, kit_str hd.ty.mem, _, rfl, ?_⟩
    cases hd with
    | str z =>
      obtain ⟨l, rfl, tx, _⟩ := az_tx (az z rfl)
      have k : ∀ H', Same H H' → Q (.bl (nameB (.str (TS l)))) H' := k
      have hc := cl_ts l
      have k0 := k H (Same.refl H)
      refine iteF ⟨_, rfl, _, rfl, tx.line, _, _, rfl, rfl, _, rfl, ?_⟩
      rw [ts_len]
      cases e : l with
      | nil =>
        rw [decide_eq_false (by simp)]
        rw [name_nil (by rw [show (TS l).cps.toList = l from hc]; exact e)] at k0
        exact iteF ⟨_, rfl, iteT (iteT k0)⟩
      | cons c r =>
        rw [decide_eq_true (by simp only [List.length_cons]; omega)]
        refine iteT ⟨_, _, rfl, rfl, _, rfl, ?_⟩
        rw [← e]
        by_cases l12 : l.length ≤ 12
        · rw [decide_eq_true (by omega)]
          have ni := name_is (x := TS l) (by rw [show (TS l).cps.toList = l from hc]; exact e) (by rw [show (TS l).cps.toList = l from hc]; exact l12)
          rw [ni] at k
          refine iteF ⟨_, rfl, TS l, 0, c, rfl, rfl, tx.line, (show atI (TS l).cps.toList ((0 : Nat) : Int) = some c from atI_nat (by rw [show (TS l).cps.toList = l from hc, e]; rfl)), c, letters, rfl, rfl, _, rfl, ?_⟩
          show if (!inL c) = true then _ else _
          cases q : inL c with
          | false =>
            have k1 := k H (Same.refl H)
            rw [q] at k1
            exact iteT k1
          | true =>
            refine iteF ⟨_, rfl, TS l, rfl, fun D hD => lc_it walk_str (fun i H' => H' = upd H D (.lst (((l.take i).filter fun c => !inS c).map fun c => .str ⟨#[c]⟩))) rfl (fun _ _ _ _ => True.intro) ?_ ?_⟩
            · rintro i y H' H'' hi rfl ⟨rfl, c', hc', rfl⟩
              have hc' := at_ts hc'
              have gr := grow_f hc' fun c => !inS c
              refine ⟨rfl, ?_⟩
              refine ⟨_, rfl, c', signs, rfl, rfl, _, rfl, ?_⟩
              show if (!inS c') = true then _ else _
              cases q : inS c' with
              | true =>
                rw [q, if_neg (by decide)] at gr
                exact iteF (congrArg (fun z => upd H D (.lst z)) gr.symm)
              | false =>
                rw [q, if_pos (show (!false) = true from rfl)] at gr
                refine iteT ⟨_, rfl, _, upd_same, ?_, ?_⟩
                · rw [List.length_map]
                  refine Nat.lt_of_le_of_lt (List.length_filter_le _ _) ?_
                  rw [List.length_take]
                  exact Nat.lt_of_le_of_lt (Nat.min_le_right _ _) (Nat.lt_of_le_of_lt tx.len (by decide))
                · rw [upd_upd]
                  exact congrArg (fun z => upd H D (.lst z)) gr.symm
            rintro H' rfl
            rw [ts_size, List.take_length]
            have zD := Same.upd (o := .lst ((l.filter fun c => !inS c).map fun c => .str ⟨#[c]⟩)) hD
            refine ⟨by show 0 ≤ sizeLine; decide, fun D2 hD2 => ?_⟩
            have zE := Same.upd (o := .lst []) hD2
            refine ⟨_, _, .lst (SqL.of (zE _ _ upd_same)) (Dps.sgns _), .lst (SqL.of upd_same) .nil, sgns_shaped (fun c hc => tx.ok c (List.mem_filter.mp hc).1), rfl, ?_⟩
            have k1 := k _ (zD.trans zE)
            rw [sgns_nil, filter_nil]
            rw [q, Bool.true_and, ← e] at k1
            exact k1
        · rw [decide_eq_false (by omega)]
          rw [name_long (by rw [show (TS l).cps.toList = l from hc]; exact l12)] at k0
          exact iteT (iteT k0)
    | _ => exact iteT (iteT (k H (Same.refl H)))
end
end
end K09
set_option Elab.async false
set_option linter.all false
set_option maxRecDepth 100000
set_option maxHeartbeats 4000000
namespace K09
open PySem PySem.Spec PyProof.Rows L2 Lc
section
variable {P : Program} {w : World} {K : PySem.W.Frag} {mg : Str → Option Value} {base : Heap} {f : Addr} {fd : FuncData}
abbrev sVl : Stmt := top 38
abbrev nVl : List Str := ["_law_value", "_law_number"]
abbrev pVl : List Str := ["_law_value"]
theorem scVl : FnScope nVl pVl (defScope sVl) := ⟨rfl, rfl, rfl, by decide +kernel, rfl, by decide +kernel, by decide +kernel⟩
section
variable {fA_ fB_ : Addr} {fdA_ fdB_ : FuncData}
theorem ok_Vl (F : Fun K "_law_value_kind" "_law_value_kind" sVl f fd) (T : Bt mg)
    (GA_ : FnOk P w K mg base CX0 1 fA_ fdA_ ["_law_value"] (spLin)) (mA_ : mg "_law_is_name" = some (.ref fA_)) (kA_ : PySem.W.keepIn K (.ref fA_) = true) (bA_ : Binds K fdA_ ["_law_value"] [])
    (GB_ : FnOk P w K mg base CX0 1 fB_ fdB_ ["_law_n", "_law_d"] (spLowest)) (mB_ : mg "_law_lowest" = some (.ref fB_)) (kB_ : PySem.W.keepIn K (.ref fB_) = true) (bB_ : Binds K fdB_ ["_law_n", "_law_d"] []) : FnOk P w K mg base CX0 2 f fd pVl (spVl) := by
  refine F.ok scVl (fun vs H Q E h => ?_) (fun cdv A outer s H vs Q E hr h => ?_)
  · obtain ⟨v, d, rfl, _⟩ := h
    rfl
  · obtain ⟨v, d, rfl, hd, az, k⟩ := h
    have hrA_ : Room (1) _ := hr.mono (by first | decide | omega)
    have hrB_ : Room (1) _ := hr.mono (by first | decide | omega)
    refine ⟨_, (pss_cons (ps_if (pt_val (pe_callB call_isi (by rfl) T.isi boot_isinstance (pa_cons (pv 0) (pa_cons (pe_bltn (v := .ty "bool") (by rfl) T.bool boot_bool rfl) pa_nil)))) (pss_one (ps_ret pe_str)) pss_nil)
      (pss_cons (ps_if (pt_val (pe_call GA_ hrA_ (by rfl) mA_ kA_ bA_ .nil pass0 (pa_cons (pv 0) pa_nil))) (pss_one (ps_ret pe_str)) pss_nil)
      (pss_cons (ps_if (PW.pt (pw_or (pt_not (pt_val (pe_callB call_isi (by rfl) T.isi boot_isinstance (pa_cons (pv 0) (pa_cons (pe_bltn (v := .ty "tuple") (by rfl) T.tuple boot_tuple rfl) pa_nil))))) (pw_or1 (pt_cmpR op_ne (pe_callB call_len_seq (by rfl) T.len PySem.boot_len (pa_cons (pv 0) pa_nil)) pe_int (nomark _))))) (pss_one (ps_ret pe_non)) pss_nil)
      (pss_cons (ps_for PassesOwn.never rfl (pi_tup (pv 0)) (pg_name (i := 1) scVl.nd rfl (.inl rfl)) (pss_one (ps_if (PW.pt (pw_or (pt_not (pt_val (pe_callB call_isi (by rfl) T.isi boot_isinstance (pa_cons (pv 1) (pa_cons (pe_bltn (v := .ty "int") (by rfl) T.int boot_int rfl) pa_nil))))) (pw_or (pt_val (pe_callB call_isi (by rfl) T.isi boot_isinstance (pa_cons (pv 1) (pa_cons (pe_bltn (v := .ty "bool") (by rfl) T.bool boot_bool rfl) pa_nil)))) (pw_or1 (pt_cmpR op_gt (pe_callB call_abs (by rfl) T.abs boot_abs (pa_cons (pv 1) pa_nil)) (pe_op op_pow pe_int pe_int) (nomark _)))))) (pss_one (ps_ret pe_non)) pss_nil)))
      (pss_cons (ps_if (PW.pt (pw_and (pt_cmpR op_ge (pe_ix ix_tup (pv 0) pe_int (fun _ _ => rfl)) pe_int (nomark _)) (pw_and1 (pt_cmpR (op_eqD hr.units) (pe_call GB_ hrB_ (by rfl) mB_ kB_ bB_ .nil pass0 (pa_cons (pe_ix ix_tup (pv 0) pe_int (fun _ _ => rfl)) (pa_cons (pe_ix ix_tup (pv 0) pe_int (fun _ _ => rfl)) pa_nil))) (pv 0) (nomark _))))) (pss_one (ps_ret pe_str)) pss_nil)
      (pss_one (ps_ret pe_non))))))), ?_⟩
    have two : 2 ≤ sizeLine := by decide
    have pw40 : CPow 10 40 := ⟨by decide, by decide, by decide⟩
    have nb : ∀ {d2 : PyData}, nameD d2 = true → numD d2 = false := fun {d2} h => by cases d2 <;> first | rfl | cases h
    refine ⟨_, rfl, v, .ty "bool", _, _, _, rfl, .ty "bool", hd.ty.x, kit_bool hd.ty.mem, _, rfl, ?_⟩
    rw [show (tyD d == "bool") = boolD d by cases d <;> rfl]
    cases bt : boolD d with
    | true =>
      have e : vK d = some ("flag" : Str) := by cases d <;> first | rfl | cases bt
      rw [e] at k
      exact iteT (k H (Same.refl H))
    | false =>
    refine iteF ⟨_, rfl, v, d, rfl, hd, az, fun H1 s1 => ⟨_, rfl, ?_⟩⟩
    cases nm : nameD d with
    | true =>
      have e : vK d = some ("word" : Str) := by unfold vK; rw [if_neg (by rw [nb nm]; decide), if_pos nm]
      rw [e] at k
      exact iteT (k H1 s1)
    | false =>
    have un : vK d = if numD d = true then some ("number" : Str) else none := by
      unfold vK
      split
      · rfl
      · rw [if_neg (by rw [nm]; decide), if_neg (by rw [bt]; decide)]
    have hd1 := hd.same s1
    clear hd
    refine iteF ⟨_, rfl, v, .ty "tuple", _, _, _, rfl, .ty "tuple", hd1.ty.x, kit_tuple hd1.ty.mem, _, rfl, ?_⟩
    by_cases tp : tyD d = "tuple"
    · cases hd1 with
      | @tup a xs ds ea hs =>
        have lx := hs.len
        refine iteF ⟨_, rfl, a, _, rfl, .inr (SqT.of ea), rfl, _, rfl, ?_⟩
        show if (!decide (V.int (xs.length : Int) = V.int 2)) = true then _ else _
        by_cases l2 : ds.length = 2
        · rw [decide_eq_true (show V.int (xs.length : Int) = V.int 2 by rw [lx, l2]; rfl)]
          match ds, l2 with
          | [dx, dy], _ =>
          cases hs with
          | @cons x _ _ _ hx r =>
          cases r with
          | @cons y _ _ _ hy r =>
          cases r
          have bad : (intL dx = false ∨ intL dy = false) → vK (.tuple [dx, dy]) = none := fun h => by
            rw [un, if_neg fun z => ?_]
            unfold numD at z
            split at z
            · rename_i n m e
              injection e with e
              injection e with e1 e2
              injection e2 with e2 _
              subst e1
              subst e2
              have z : ((decide (0 < m) && decide (gd n m = 1)) && (decide ((if n < 0 then -n else n) ≤ lim) && decide (m ≤ lim))) = true := z
              simp only [Bool.and_eq_true, decide_eq_true_eq] at z
              obtain ⟨⟨a1, _⟩, a3, a4⟩ := z
              unfold lim at a3 a4
              rcases h with h | h
              · have h : ¬ n.natAbs ≤ 10000000000000000000000000000000000000000 := of_decide_eq_false h
                split at a3 <;> omega
              · have h : ¬ m.natAbs ≤ 10000000000000000000000000000000000000000 := of_decide_eq_false h
                omega
            · cases z
          refine iteF ⟨_, rfl, a, rfl, ⟨_, SqT.of ea⟩, for_tup (K := K) (a := a) (xs := [x, y]) (fun j σ H' => (∃ x1 : Option V, σ = [some (.ref a), x1]) ∧ (0 < j → intL dx = true) ∧ (1 < j → intL dy = true) ∧ H' = H1) ⟨⟨_, rfl⟩, by omega, by omega, rfl⟩ (fun j σ H' _ p => by obtain ⟨_, _, _, rfl⟩ := p; exact SqT.of ea) ?_ ?_⟩
          · rintro j z σ H2 hz ⟨⟨x1, rfl⟩, i1, i2, rfl⟩
            obtain ⟨dz, hdz, which⟩ : ∃ dz, Dh H2 z dz ∧ ((j = 0 ∧ dz = dx) ∨ (j = 1 ∧ dz = dy)) := by
              match j, hz with
              | 0, e => injection e with e; rw [← e]; exact ⟨dx, hx, .inl ⟨rfl, rfl⟩⟩
              | 1, e => injection e with e; rw [← e]; exact ⟨dy, hy, .inr ⟨rfl, rfl⟩⟩
            have no : intL dz = false → Q .non H2 := fun e => by
              have := bad (by rcases which with ⟨_, w⟩ | ⟨_, w⟩ <;> rw [← w]; exact .inl e; exact .inr e)
              rw [this] at k
              exact k H2 s1
            have yes : intL dz = true → (∃ x1' : Option V, [some (.ref a), some z] = [some (.ref a), x1']) ∧ (0 < j + 1 → intL dx = true) ∧ (1 < j + 1 → intL dy = true) ∧ H2 = H2 := fun e => ⟨⟨_, rfl⟩, fun _ => by
              rcases which with ⟨w1, w⟩ | ⟨w1, w⟩
              · rw [← w]; exact e
              · exact i1 (by omega), fun h => by
              rcases which with ⟨w1, w⟩ | ⟨w1, w⟩
              · omega
              · rw [← w]; exact e, rfl⟩
            refine ⟨_, rfl, z, .ty "int", _, _, _, rfl, .ty "int", hdz.ty.x, kit_int hdz.ty.mem, _, rfl, ?_⟩
            cases hdz with
            | int i =>
              refine iteF ⟨_, rfl, _, .ty "bool", _, _, _, rfl, .ty "bool", (TyN.int i).x, kit_bool (TyN.int (H := H2) i).mem, _, rfl, iteF ⟨_, rfl, i, rfl, _, _, rfl, rfl, pw40, _, _, rfl, rfl, _, rfl, ?_⟩⟩
              have ip : intL (.int i) = decide (i.natAbs ≤ 10000000000000000000000000000000000000000) := rfl
              show if decide ((10 : Int) ^ (40 : Int).toNat < if i < 0 then -i else i) = true then _ else _
              rw [p40]
              by_cases b : i.natAbs ≤ 10000000000000000000000000000000000000000
              · rw [decide_eq_false (by split <;> omega)]
                exact iteF (yes (decide_eq_true b))
              · rw [decide_eq_true (by split <;> omega)]
                exact iteT (no (decide_eq_false b))
            | bl b => exact iteF ⟨_, rfl, _, .ty "bool", _, _, _, rfl, .ty "bool", (TyN.bl b).x, kit_bool (TyN.bl (H := H2) b).mem, _, rfl, iteT (iteT (no rfl))⟩
            | _ => exact iteT (iteT (no rfl))
          · rintro σ H2 ⟨⟨x1, rfl⟩, i1, i2, rfl⟩
            have j1 := i1 (show 0 < 2 by decide)
            have j2 := i2 (show 1 < 2 by decide)
            cases hx with
            | int n =>
              cases hy with
              | int m =>
                have b1 : n.natAbs ≤ 10000000000000000000000000000000000000000 := of_decide_eq_true j1
                have b2 : m.natAbs ≤ 10000000000000000000000000000000000000000 := of_decide_eq_true j2
                refine ⟨_, rfl, a, _, 1, .int m, rfl, rfl, SqT.of ea, rfl, _, _, rfl, rfl, _, rfl, ?_⟩
                have nd : numD (.tuple [.int n, .int m]) = (decide (1 ≤ m) && decide (gd n m = 1)) := by
                  show ((decide (0 < m) && decide (gd n m = 1)) && (decide ((if n < 0 then -n else n) ≤ lim) && decide (m ≤ lim))) = _
                  rw [decide_eq_true (show (if n < 0 then -n else n) ≤ lim by unfold lim; split <;> omega), decide_eq_true (show m ≤ lim by unfold lim; omega), Bool.and_self, Bool.and_true]
                  rfl
                rw [nd] at un
                show if decide ((1 : Int) ≤ m) = true then _ else _
                by_cases m1 : 1 ≤ m
                · rw [decide_eq_true m1] at un ⊢
                  have pm : 0 < m := by omega
                  refine iteT ⟨_, rfl, a, _, 0, .int n, rfl, rfl, SqT.of ea, rfl, _, rfl, a, _, 1, .int m, rfl, rfl, SqT.of ea, rfl, n, m, rfl, pm, ?_, fun p hp => ?_⟩
                  · exact Nat.lt_of_le_of_lt b2 (Nat.lt_of_lt_of_le (show 10000000000000000000000000000000000000000 < 2 ^ 140 by decide) (Nat.pow_le_pow_right (by decide) (by decide)))
                  have zp := Same.upd (o := .tup [.int (lowN n m), .int (lowD n m)]) hp
                  have dp1 : Dh (upd H2 p (.tup [.int (lowN n m), .int (lowD n m)])) (.ref p) (.tuple [.int (lowN n m), .int (lowD n m)]) := .tup upd_same (.cons (.int _) (.cons (.int _) .nil))
                  have dp2 : Dh (upd H2 p (.tup [.int (lowN n m), .int (lowD n m)])) (.ref a) (.tuple [.int n, .int m]) := .tup (zp _ _ ea) (.cons (.int _) (.cons (.int _) .nil))
                  refine ⟨_, rfl, _, _, dp1.dp rfl, dp2.dp rfl, rfl, rfl, _, rfl, ?_⟩
                  rw [low_eqv pm]
                  rw [Bool.true_and] at un
                  have k2 := k _ (s1.trans zp)
                  by_cases g1 : gd n m = 1
                  · rw [decide_eq_true g1, if_pos rfl] at un
                    rw [un] at k2
                    rw [decide_eq_true g1]
                    exact iteT k2
                  · rw [decide_eq_false g1, if_neg (by decide)] at un
                    rw [un] at k2
                    rw [decide_eq_false g1]
                    exact iteF k2
                · rw [decide_eq_false m1] at un ⊢
                  rw [Bool.false_and, if_neg (by decide)] at un
                  rw [un] at k
                  exact iteF (iteF (k H2 s1))
              | _ => cases j2
            | _ => cases j1
        · rw [decide_eq_false (show V.int (xs.length : Int) ≠ V.int 2 from fun q => l2 (by injection q with q; omega))]
          rw [if_neg (by rw [num_len2 l2]; decide)] at un
          rw [un] at k
          exact iteT (k H1 s1)
      | _ => exact absurd tp (by simp [tyD])
    · rw [show (tyD d == "tuple") = false by simpa using tp]
      have n0 : numD d = false := by cases d <;> first | rfl | exact absurd rfl tp
      rw [n0, if_neg (by decide)] at un
      rw [un] at k
      exact iteT (iteT (k H1 s1))
end
end
end K09
set_option Elab.async false
set_option linter.all false
set_option maxRecDepth 100000
set_option maxHeartbeats 4000000
namespace K09
open PySem PySem.Spec PyProof.Rows L2 Lc
/-! ## a tuple against the empty one -/
theorem op_eqT0 {X : Cx} (hu : X.A.units + 64 < cLine) : OpR X (compareOp .Eq) (fun x y H Q => ∃ a b xs, x = .ref a ∧ y = .ref b ∧ SqT X.K H a xs ∧ SqT X.K H b [] ∧ Q (.bl (decide (xs = []))) H) := by
  intro pins s σ H x y v u Q I rx ry h
  obtain ⟨a, b, xs, rfl, rfl, ha, hb, q⟩ := h
  obtain rfl : v = Value.ref a := rx
  obtain rfl : u = Value.ref b := ry
  obtain ⟨its, r1, t1, _⟩ := I.tuple ha
  obtain ⟨its2, r2, t2, _⟩ := I.tuple hb
  cases r2
  refine SeqAt.RcAt.tuples (e := fun _ => true) t1 t2 (show X.A.units < cLine by omega) (fun j _ h2 => absurd h2 (Nat.not_lt_zero _)) X.prog X.w _ _ ?_
  have e : ((List.range (min its.toArray.size ([] : List Value).toArray.size)).all (fun _ => true) && its.toArray.size == ([] : List Value).toArray.size) = decide (xs = []) := by
    have l := r1.length
    cases xs with
    | nil =>
      cases its with
      | nil => rfl
      | cons => cases l
    | cons x r =>
      cases its with
      | nil => cases l
      | cons y r2 => simp
  rw [e]
  exact ⟨.bl _, H, I, rfl, q⟩
/-! ## how names are shown -/
theorem rep_name : ∀ {l : List Nat}, (∀ c ∈ l, 48 ≤ c ∧ c ≤ 122 ∧ c ≠ 92) → ∀ acc : Array Nat, (l.foldl (fun out c => out ++ (Builtin.Str.reprChar 39 c).toArray) acc).toList = acc.toList ++ l
  | [], _, acc => by simp
  | c :: r, h, acc => by
    have one : Builtin.Str.reprChar 39 c = [c] := by
      have key : ∀ c, c < 123 → 48 ≤ c → c ≠ 92 → Builtin.Str.reprChar 39 c = [c] := by decide +kernel
      obtain ⟨a, b, d⟩ := h c List.mem_cons_self
      exact key c (by omega) a d
    rw [List.foldl_cons, rep_name (fun x hx => h x (List.mem_cons_of_mem _ hx)), one]
    simp
theorem name_ok {z : Str} (h : nameB (.str z) = true) : ∀ c ∈ CL z, 48 ≤ c ∧ c ≤ 122 ∧ c ≠ 92 := by
  intro c hc
  have h3 := (name_signs h).2.2.1 c hc
  refine ⟨h3.1, h3.2, fun e => ?_⟩
  have ins : inS c = true := by
    cases e2 : CL z with
    | nil => rw [e2] at hc; cases hc
    | cons d r =>
      have q := name_is (x := z) e2 (name_signs h).2.1
      rw [h] at q
      have q := (Bool.and_eq_true_iff.mp q.symm).2
      rw [List.all_eq_true] at q
      exact q c (by rw [← e2]; exact hc)
  rw [e] at ins
  have : inS 92 = false := by decide +kernel
  rw [this] at ins
  cases ins
theorem repr_name {z : Str} (h : nameB (.str z) = true) : CL (reprText z) = 39 :: CL z ++ [39] := by
  have ok := name_ok h
  have rq : reprQuote z = 39 := by
    unfold reprQuote
    have : z.cps.contains 39 = false := by
      cases q : z.cps.contains 39 with
      | false => rfl
      | true =>
        have := (ok 39 (by simpa using q)).1
        omega
    rw [this]
    rfl
  unfold reprText
  rw [rq]
  show ((z.cps.foldl (fun out c => out ++ (Builtin.Str.reprChar 39 c).toArray) #[39]).push 39).toList = _
  rw [Array.toList_push, ← Array.foldl_toList, rep_name ok]
  rfl
theorem repr_inj {a b : Str} (ha : nameB (.str a) = true) (hb : nameB (.str b) = true) : decide (V.str (reprText a) = V.str (reprText b)) = decide (a = b) := by
  refine decide_eq_decide.mpr ⟨fun e => ?_, fun e => by rw [e]⟩
  injection e with e
  have q := repr_name ha
  rw [e, repr_name hb] at q
  have q := List.cons.inj q |>.2
  have q := List.append_cancel_right q
  rw [← ts_cl a, ← ts_cl b, q]
theorem repr_ne {a b : Str} (ha : nameB (.str a) = true) (hb : (CL b).head? ≠ some 39) : decide (V.str (reprText a) = V.str b) = false := decide_eq_false fun e => by
  injection e with e
  rw [← e, repr_name ha] at hb
  exact hb rfl
/-- what a column may hold -/
theorem held_cases {R : PyData → Bool} {w : Str} {d : PyData} (hw : w = "column") (h : okT R w [d] = true) : (∃ z, d = .str z ∧ nameB (.str z) = true ∧ azT z = true) ∨ d = .none ∨ d = .int 5 ∨ d = .list [] := by
  unfold okT at h
  rw [if_pos hw] at h
  split at h
  · rename_i z e
    injection e with e _
    rw [Bool.and_eq_true] at h
    exact .inl ⟨z, e, h.1, h.2⟩
  · rename_i e; injection e with e _; exact .inr (.inl e)
  · rename_i i e; injection e with e _; rw [of_decide_eq_true h] at e; exact .inr (.inr (.inl e))
  · rename_i e; injection e with e _; exact .inr (.inr (.inr e))
  · cases h
  · rename_i h1 h2 h3 h4 h5
    exact absurd rfl (h5 d)
/-! ## what the law wants -/
def wantV (w : Str) : List Str := if w = "plus" ∨ w = "minus" ∨ w = "times" ∨ w = "over" ∨ w = "less" then ["number", "number"] else if w = "both" ∨ w = "either" then ["flag", "flag"] else if w = "same" then ["any", "alike"] else if w = "if" then ["flag", "any", "alike"] else if w = "not" then ["flag"] else ["any"]
def badAt (want ks : List Str) (i : Nat) : Bool := !(decide ((if want.getD i "" = "alike" then ks.getD (i - 1) "" else want.getD i "") = "any") || decide ((if want.getD i "" = "alike" then ks.getD (i - 1) "" else want.getD i "") = ks.getD i ""))
def lawB (want ks : List Str) : Nat → Nat → Option Nat
  | 0, _ => none
  | m + 1, i => if badAt want ks i = true then some i else lawB want ks m (i + 1)
abbrev kinds3 : List Str := ["number", "word", "flag"]
theorem law_ck {w : Str} {ops : List V} (h : opsV w = some ops) {ks : List Str} (l : ks.length = ops.length) (hk : ∀ k ∈ ks, KindS k) : lawB (wantV w) ks (wantV w).length 0 = ckO ops w ks ∧ (wantV w).length = ops.length := by
  have mem : ∀ k ∈ ks, k ∈ kinds3 := fun k hm => by
    rcases hk k hm with rfl | rfl | rfl <;> simp [kinds3]
  have key : ∀ w ops, opsV w = some ops → (wantV w).length = ops.length ∧ (∀ a ∈ kinds3, ops.length = 1 → lawB (wantV w) [a] (wantV w).length 0 = ckO ops w [a]) ∧ (∀ a ∈ kinds3, ∀ b ∈ kinds3, ops.length = 2 → lawB (wantV w) [a, b] (wantV w).length 0 = ckO ops w [a, b]) ∧ (∀ a ∈ kinds3, ∀ b ∈ kinds3, ∀ c ∈ kinds3, ops.length = 3 → lawB (wantV w) [a, b, c] (wantV w).length 0 = ckO ops w [a, b, c]) := by
    refine opsV_all ?_ ?_ ?_ ?_ ?_ ?_ ?_ ?_ ?_ ?_ ?_ <;> decide +kernel
  obtain ⟨k0, k1, k2, k3⟩ := key w ops h
  obtain ⟨l1, l3, _⟩ := opsV_len h
  refine ⟨?_, k0⟩
  match ks, l, mem with
  | [], l, _ => exact absurd l (by show ¬ 0 = _; omega)
  | [a], l, m => exact k1 a (m a (by simp)) l.symm
  | [a, b], l, m => exact k2 a (m a (by simp)) b (m b (by simp)) l.symm
  | [a, b, c], l, m => exact k3 a (m a (by simp)) b (m b (by simp)) c (m c (by simp)) l.symm
  | _ :: _ :: _ :: _ :: r, l, _ => exact absurd l (by rw [List.length_cons, List.length_cons, List.length_cons, List.length_cons]; omega)
theorem vK_kind {d : PyData} {k : Str} (h : vK d = some k) : KindS k := by
  unfold vK at h
  split at h
  · exact .inl (Option.some.inj h).symm
  split at h
  · exact .inr (.inl (Option.some.inj h).symm)
  split at h
  · exact .inr (.inr (Option.some.inj h).symm)
  · cases h
theorem look_mem : ∀ {ps : List (Str × Str)} {z k : Str}, ps.lookup z = some k → (z, k) ∈ ps
  | [], _, _, h => by cases h
  | (a, b) :: r, z, k, h => by
    rw [List.lookup_cons] at h
    split at h
    · rename_i e
      injection h with h
      rw [show z = a by simpa using e, h]
      exact List.mem_cons_self
    · exact List.mem_cons_of_mem _ (look_mem h)
theorem leafK_kind {ps : List (Str × Str)} (hp : ∀ p ∈ ps, KindS p.2) {w : Str} {os : List PyData} {k : Str} (h : leafK ps w os = some k) : KindS k := by
  unfold leafK at h
  split at h
  · split at h
    · exact hp _ (look_mem h)
    · exact vK_kind h
  · split at h
    · cases h
    · exact vK_kind h
  · cases h
theorem kd_kind {ps : List (Str × Str)} (hp : ∀ p ∈ ps, KindS p.2) : ∀ (n : Nat) (p : List Nat) (d : PyData) (k : Str), kdA ps n p d = .inl k → KindS k
  | 0, p, d, k, h => by unfold kdA at h; cases h
  | n + 1, p, d, k, h => by
    cases z : hwD d with
    | false => rw [kdA_other z] at h; cases h
    | true =>
      obtain ⟨w, os, rfl⟩ := hw_is z
      have h : kdT ps (kdA ps n) p w os = .inl k := h
      unfold kdT at h
      split at h
      · cases e : leafK ps w os with
        | none => rw [e] at h; cases h
        | some k2 => rw [e] at h; injection h with h; rw [← h]; exact leafK_kind hp e
      · unfold kdO at h
        cases eo : opsV w with
        | none => rw [eo] at h; cases h
        | some ops =>
        rw [eo] at h
        dsimp only at h
        split at h
        · have go : ∀ (os : List PyData) (i : Nat) (ks : List Str), (∀ x ∈ ks, KindS x) → (0 < os.length ∨ ks ≠ []) → kdF (kdA ps n) p ops w i os ks = .inl k → KindS k := by
            intro os
            induction os with
            | nil =>
              intro i ks hks ne h
              rw [kdF] at h
              unfold endK at h
              split at h
              · cases h
              · injection h with h
                rw [← h]
                unfold resK
                split
                · have ne : ks ≠ [] := ne.resolve_left (by simp)
                  rw [List.getLastD_eq_getLast?, List.getLast?_eq_some_getLast ne]
                  exact hks _ (List.getLast_mem ne)
                split
                · exact .inl rfl
                · exact .inr (.inr rfl)
            | cons o r ih =>
              intro i ks hks _ h
              rw [kdF] at h
              split at h
              · cases h
              · rename_i k2 e
                exact ih (i + 1) (ks ++ [k2]) (fun x hx => by
                  rcases List.mem_append.mp hx with hx | hx
                  · exact hks x hx
                  · rw [List.mem_singleton.mp hx]; exact kd_kind hp n _ _ _ e) (.inr (by simp)) h
          rename_i ll
          exact go os 0 [] (fun x hx => by cases hx) (.inl (by have := (opsV_len eo).1; omega)) h
        · cases h
def spWn : Sp := fun vs H Q _ => ∃ (w : Str) (ops : List V), vs = [.str w] ∧ opsV w = some ops ∧ ∀ r H', Same H H' → H' r = some (.lst ((wantV w).map V.str)) → Q (.ref r) H'
section
variable {P : Program} {w : World} {K : PySem.W.Frag} {mg : Str → Option Value} {base : Heap} {f : Addr} {fd : FuncData}
abbrev sWn : Stmt := top 39
abbrev nWn : List Str := ["_law_word"]
abbrev pWn : List Str := ["_law_word"]
theorem scWn : FnScope nWn pWn (defScope sWn) := ⟨rfl, rfl, rfl, by decide +kernel, rfl, by decide +kernel, by decide +kernel⟩
section
theorem ok_Wn (F : Fun K "_law_wanted" "_law_wanted" sWn f fd) (T : Bt mg) : FnOk P w K mg base CX0 1 f fd pWn (spWn) := by
  refine F.ok scWn (fun vs H Q E h => ?_) (fun cdv A outer s H vs Q E hr h => ?_)
  · obtain ⟨wd, ops, rfl, _⟩ := h
    rfl
  · obtain ⟨wd, ops, rfl, eo, k⟩ := h
    refine ⟨_, (pss_cons (ps_if (pt_cmpR op_in_seq (pv 0) (pe_lst (pa_cons pe_str (pa_cons pe_str (pa_cons pe_str (pa_cons pe_str (pa_cons pe_str pa_nil)))))) (by rfl)) (pss_one (ps_ret (pe_lst (pa_cons pe_str (pa_cons pe_str pa_nil))))) pss_nil)
      (pss_cons (ps_if (pt_cmpR op_in_seq (pv 0) (pe_lst (pa_cons pe_str (pa_cons pe_str pa_nil))) (by rfl)) (pss_one (ps_ret (pe_lst (pa_cons pe_str (pa_cons pe_str pa_nil))))) pss_nil)
      (pss_cons (ps_if (pt_cmpR op_eq (pv 0) pe_str (nomark _)) (pss_one (ps_ret (pe_lst (pa_cons pe_str (pa_cons pe_str pa_nil))))) pss_nil)
      (pss_cons (ps_if (pt_cmpR op_eq (pv 0) pe_str (nomark _)) (pss_one (ps_ret (pe_lst (pa_cons pe_str (pa_cons pe_str (pa_cons pe_str pa_nil)))))) pss_nil)
      (pss_one (ps_ret (pe_ix ix_list (pe_lst (pa_cons (pe_lst (pa_cons pe_str pa_nil)) (pa_cons (pe_lst (pa_cons pe_str pa_nil)) pa_nil))) (pe_callTy call_int1 (by rfl) T.int boot_int (pa_cons (pe_cmpR op_eq (pv 0) pe_str (nomark _)) pa_nil)) (fun _ _ => rfl)))))))), ?_⟩
    have two : 2 ≤ sizeLine := by decide
    have one : 1 ≤ sizeLine := by decide
    have sE : ∀ (a b : Str), decide (V.str a = V.str b) = decide (a = b) := fun a b => decide_eq_decide.mpr ⟨fun e => by injection e, fun e => by rw [e]⟩
    unfold wantV at k
    refine ⟨_, rfl, by show 5 ≤ sizeLine; decide, fun p1 h1 => ⟨p1, _, rfl, .inl (SqL.of upd_same), rfl, rfl, _, rfl, ?_⟩⟩
    have z1 := Same.upd (o := .lst [.str "plus", .str "minus", .str "times", .str "over", .str "less"]) h1
    rw [show inV (.str wd) [.str "plus", .str "minus", .str "times", .str "over", .str "less"] = decide (wd ∈ (["plus", "minus", "times", "over", "less"] : List Str)) from in_strs (ss := ["plus", "minus", "times", "over", "less"])]
    generalize upd H p1 (.lst [.str "plus", .str "minus", .str "times", .str "over", .str "less"]) = H1 at z1 ⊢
    by_cases c1 : wd = "plus" ∨ wd = "minus" ∨ wd = "times" ∨ wd = "over" ∨ wd = "less"
    · rw [decide_eq_true (by simpa using c1)]
      rw [if_pos c1] at k
      exact iteT ⟨two, fun r hr => k r _ (z1.trans (Same.upd hr)) upd_same⟩
    rw [decide_eq_false (by simpa using c1)]
    rw [if_neg c1] at k
    refine iteF ⟨_, rfl, two, fun p2 h2 => ⟨p2, _, rfl, .inl (SqL.of upd_same), rfl, rfl, _, rfl, ?_⟩⟩
    have z2 := z1.trans (Same.upd (o := .lst [.str "both", .str "either"]) h2)
    rw [show inV (.str wd) [.str "both", .str "either"] = decide (wd ∈ (["both", "either"] : List Str)) from in_strs (ss := ["both", "either"])]
    generalize upd H1 p2 (.lst [.str "both", .str "either"]) = H2 at z2 ⊢
    by_cases c2 : wd = "both" ∨ wd = "either"
    · rw [decide_eq_true (by simpa using c2)]
      rw [if_pos c2] at k
      exact iteT ⟨two, fun r hr => k r _ (z2.trans (Same.upd hr)) upd_same⟩
    rw [decide_eq_false (by simpa using c2)]
    rw [if_neg c2] at k
    refine iteF ⟨_, rfl, rfl, _, rfl, ?_⟩
    rw [sE]
    by_cases c3 : wd = "same"
    · rw [decide_eq_true c3]
      rw [if_pos c3] at k
      exact iteT ⟨two, fun r hr => k r _ (z2.trans (Same.upd hr)) upd_same⟩
    rw [decide_eq_false c3]
    rw [if_neg c3] at k
    refine iteF ⟨_, rfl, rfl, _, rfl, ?_⟩
    rw [sE]
    by_cases c4 : wd = "if"
    · rw [decide_eq_true c4]
      rw [if_pos c4] at k
      exact iteT ⟨by show 3 ≤ sizeLine; decide, fun r hr => k r _ (z2.trans (Same.upd hr)) upd_same⟩
    rw [decide_eq_false c4]
    rw [if_neg c4] at k
    refine iteF ⟨one, fun q1 g1 => ⟨one, fun q2 g2 => ⟨two, fun q3 g3 => ?_⟩⟩⟩
    have y1 := Same.upd (o := .lst [.str "any"]) g1
    have y2 := Same.upd (o := .lst [.str "flag"]) g2
    have y3 := Same.upd (o := .lst [.ref q1, .ref q2]) g3
    have f1 := (y2.trans y3) q1 (.lst [.str "any"]) upd_same
    have f2 := y3 q2 (.lst [.str "flag"]) upd_same
    have z3 := z2.trans (y1.trans (y2.trans y3))
    refine ⟨_, rfl, rfl, .inr ⟨_, rfl, ?_⟩⟩
    rw [sE]
    by_cases c5 : wd = "not"
    · rw [decide_eq_true c5]
      rw [if_pos c5] at k
      exact ⟨q3, _, 1, .ref q2, rfl, rfl, SqL.of upd_same, rfl, k q2 _ z3 f2⟩
    · rw [decide_eq_false c5]
      rw [if_neg c5] at k
      exact ⟨q3, _, 0, .ref q1, rfl, rfl, SqL.of upd_same, rfl, k q1 _ z3 f1⟩
end
end
end K09
set_option Elab.async false
set_option linter.all false
set_option maxRecDepth 100000
set_option maxHeartbeats 4000000
namespace K09
open PySem PySem.Spec PyProof.Rows L2 Lc
abbrev every11 : List Str := ["plus", "minus", "times", "over", "less", "same", "both", "either", "not", "missing", "if"]
theorem every_is {w : Str} : decide (w ∈ every11) = (opsV w).isSome := by
  cases e : opsV w with
  | some os =>
    have key : ∀ w os, opsV w = some os → w ∈ every11 := by refine opsV_all ?_ ?_ ?_ ?_ ?_ ?_ ?_ ?_ ?_ ?_ ?_ <;> decide +kernel
    exact decide_eq_true (key w os e)
  | none =>
    refine decide_eq_false fun h => ?_
    have key : ∀ x ∈ every11, (opsV x).isSome = true := by decide +kernel
    have := key w h
    rw [e] at this
    cases this
structure ColsN (ps : List (Str × Str)) : Prop where
  nm : ∀ p ∈ ps, Sh 12 p.1 ∧ nameB (.str p.1) = true
  kd : ∀ p ∈ ps, KindS p.2
  nd : (ps.map (·.1)).Nodup
  ln : ps.length ≤ 8
def spKl (n : Nat) : Sp := fun vs H Q _ => ∃ (L q : Addr) (v : V) (xs : List V) (ps : List (Str × Str)) (p : List Nat) (d : PyData), vs = [.ref L, v, .ref q] ∧ H L = some (.tup xs) ∧ Cols H xs ps ∧ ColsN ps ∧ Dh H v d ∧ okB n d = true ∧ H q = some (.tup (pathV p)) ∧ p.length + n = 8 ∧ (∀ k, kdA ps n p d = .inl k → ∀ r H', Same H H' → H' r = some (.lst [.str "kind", .str k]) → Q (.ref r) H') ∧ (∀ p', kdA ps n p d = .inr p' → ∀ r v H', Same H H' → H' r = some (.lst [.str "bad", v]) → Dh H' v (pathD p') → Q (.ref r) H')
def spKlP : Nat → Sp
  | 0 => fun _ _ _ _ => False
  | n + 1 => spKl n
theorem fn_noneG {P : Program} {w : World} {K : PySem.W.Frag} {mg : Str → Option Value} {base : Heap} {f : Addr} {fd : FuncData} {ps : List Str} {k : Nat} : FnG P w K mg base k f fd ps (spKlP 0) := ⟨fun _ _ _ _ h => h.elim, fun _ _ _ _ _ _ _ _ _ _ _ _ _ _ h => h.elim⟩
theorem look_filter : ∀ {ps : List (Str × Str)} {z : Str}, ((ps.filter fun p => decide (p.1 = z)).map (·.2)).head? = ps.lookup z
  | [], _ => rfl
  | (a, b) :: r, z => by
    rw [List.lookup_cons, List.filter_cons]
    by_cases e : a = z
    · rw [if_pos (decide_eq_true e), show (z == a) = true by simp [e]]
      rfl
    · rw [if_neg (by simpa using e), show (z == a) = false by simpa using fun q : z = a => e q.symm]
      exact look_filter
theorem shw_name {K : PySem.W.Frag} {H : Hp} {z : Str} (h : Sh 12 z) : Shw K H (.str z) (reprText z) := shw_text (h.mono (show 12 ≤ 100 by decide)) (by decide)
theorem az_sh {z : Str} (h : azT z = true) : Sh 1000 z := by
  unfold azT at h
  simp only [Bool.and_eq_true, decide_eq_true_eq, List.all_eq_true] at h
  exact ⟨h.1, fun c hc => Nat.lt_trans (h.2 c hc) (by decide)⟩
theorem names_filter {ps : List (Str × Str)} (h : ∀ p ∈ ps, nameB (.str p.1) = true) {b : Str} (hb : (CL b).head? ≠ some 39) : (ps.filter fun p => decide (V.str (reprText p.1) = V.str b)) = [] := List.filter_eq_nil_iff.mpr fun p hp => by rw [repr_ne (h p hp) hb]; decide
section
variable {P : Program} {w : World} {K : PySem.W.Frag} {mg : Str → Option Value} {base : Heap} {f : Addr} {fd : FuncData}
abbrev sKl : Stmt := top 40
abbrev nKl : List Str := ["_law_columns_here", "_law_expression_here", "_law_path", "_law_bad", "_law_word", "_law_found", "_law_same", "_law_name_here", "_law_kind_here", "_law_every", "_law_wanted_here", "_law_kinds", "_law_at", "_law_operand", "_law_told_here", "_law_own", "_law_due"]
abbrev pKl : List Str := ["_law_columns_here", "_law_expression_here", "_law_path"]
theorem scKl : FnScope nKl pKl (defScope sKl) := ⟨rfl, rfl, rfl, by decide +kernel, rfl, by decide +kernel, by decide +kernel⟩
section
variable {fA_ fB_ fC_ : Addr} {fdA_ fdB_ fdC_ : FuncData}
theorem ok_Kl (F : Fun K "_law_kind" "_law_kind" sKl f fd) (T : Bt mg) (n : Nat)
    (GA_ : FnOk P w K mg base CX0 2 fA_ fdA_ ["_law_value"] (spVl)) (mA_ : mg "_law_value_kind" = some (.ref fA_)) (kA_ : PySem.W.keepIn K (.ref fA_) = true) (bA_ : Binds K fdA_ ["_law_value"] [])
    (GB_ : FnOk P w K mg base CX0 1 fB_ fdB_ ["_law_word"] (spWn)) (mB_ : mg "_law_wanted" = some (.ref fB_)) (kB_ : PySem.W.keepIn K (.ref fB_) = true) (bB_ : Binds K fdB_ ["_law_word"] [])
    (GC_ : FnG P w K mg base (2 + n) fC_ fdC_ ["_law_columns_here", "_law_expression_here", "_law_path"] (spKlP n)) (mC_ : mg "_law_kind" = some (.ref fC_)) (kC_ : PySem.W.keepIn K (.ref fC_) = true) (bC_ : Binds K fdC_ ["_law_columns_here", "_law_expression_here", "_law_path"] []) : FnG P w K mg base (2 + n + 1) f fd pKl (spKl n) := by
  refine Lc.Fun.okG F scKl (fun vs H Q E h => ?_) (fun cdv A outer s H vs Q E hg hr h => ?_)
  · obtain ⟨L, q, v, xs, ps, p, d, rfl, _⟩ := h
    rfl
  · obtain ⟨L, q, v, xs, ps, p, d, rfl, hL, hc, cn, hd, ok, hq, l8, k1, k2⟩ := h
    have hrA_ : Room (2) _ := hr.mono (by first | decide | omega)
    have hrB_ : Room (1) _ := hr.mono (by first | decide | omega)
    have hrC_ : Room ((2 + n)) _ := hr.mono (by first | decide | omega)
    refine ⟨_, (pss_cons (ps_set (i := 3) scKl.nd rfl (Or.inl rfl) (pe_lst (pa_cons pe_str (pa_cons (pv 2) pa_nil))))
      (pss_cons (ps_if (PW.pt (pw_or (pt_cmpR op_gt (pe_callB call_len_seq (by rfl) T.len PySem.boot_len (pa_cons (pv 2) pa_nil)) pe_int (nomark _)) (pw_or (pt_not (pt_val (pe_callB call_isi (by rfl) T.isi boot_isinstance (pa_cons (pv 1) (pa_cons (pe_bltn (v := .ty "tuple") (by rfl) T.tuple boot_tuple rfl) pa_nil))))) (pw_or1 (pt_cmpR (op_eqT0 hr.units) (pv 1) (pe_tup pa_nil) (nomark _)))))) (pss_one (ps_ret (pv 3))) pss_nil)
      (pss_cons (ps_if (pt_not (pt_val (pe_callB call_isi (by rfl) T.isi boot_isinstance (pa_cons (pe_ix ix_tup (pv 1) pe_int (fun _ _ => rfl)) (pa_cons (pe_bltn (v := .ty "str") (by rfl) T.str boot_str rfl) pa_nil))))) (pss_one (ps_ret (pv 3))) pss_nil)
      (pss_cons (ps_set (i := 4) scKl.nd rfl (Or.inl rfl) (pe_ix ix_tup (pv 1) pe_int (fun _ _ => rfl)))
      (pss_cons (ps_if (pt_cmpR op_in_seq (pv 4) (pe_lst (pa_cons pe_str (pa_cons pe_str pa_nil))) (by rfl)) (pss_cons (ps_set (i := 5) scKl.nd rfl (Or.inl rfl) pe_non)
      (pss_cons (ps_if (PW.pt (pw_and (pt_cmpR op_eq (pe_callB call_len_seq (by rfl) T.len PySem.boot_len (pa_cons (pv 1) pa_nil)) pe_int (nomark _)) (pw_and1 (pt_cmpR op_eq (pv 4) pe_str (nomark _))))) (pss_one (ps_set (i := 5) scKl.nd rfl (Or.inl rfl) (pe_call GA_ hrA_ (by rfl) mA_ kA_ bA_ .nil pass0 (pa_cons (pe_ix ix_tup (pv 1) pe_int (fun _ _ => rfl)) pa_nil)))) pss_nil)
      (pss_cons (ps_if (PW.pt (pw_and (pt_cmpR op_eq (pe_callB call_len_seq (by rfl) T.len PySem.boot_len (pa_cons (pv 1) pa_nil)) pe_int (nomark _)) (pw_and1 (pt_cmpR op_eq (pv 4) pe_str (nomark _))))) (pss_cons (ps_setLc (i := 6) (own := [("_law_name_here", 7), ("_law_kind_here", 8)]) (g := (gTup K 2 (gCons (gName 7) (gCons (gName 8) gNil)))) (tt := (tTest (tOp rEq (tCB (rReprV K) (tCons (tVar 7) tNil)) (tCB (rReprV K) (tCons (tOp (rIxT K) (tVar 1) (tC (.int 1))) tNil))))) (te := (tVar 8)) (by rfl) scKl.nd rfl rfl (sw_true rfl rfl rfl (by decide +kernel)) (pi_tup (pv 0)) (blkOk_by (own := [("_law_name_here", 7), ("_law_kind_here", 8)]) (N := nKl) (sc := defScope sKl) (by decide +kernel)) (fun _ _ _ _ _ => (pg_tup rfl (pgs_cons (pg_name (i := 7) scKl.nd rfl (.inl rfl)) (pgs_cons (pg_name (i := 8) scKl.nd rfl (.inl rfl)) pgs_nil)))) (fun _ _ _ _ _ => (pts_one (pt_cmpR op_eq (pe_callB (call_reprV hg hr.units) (by rfl) T.repr boot_repr (pa_cons (pv 7) pa_nil)) (pe_callB (call_reprV hg hr.units) (by rfl) T.repr boot_repr (pa_cons (pe_ix ix_tup (pv 1) pe_int (fun _ _ => rfl)) pa_nil)) (nomark _)))) (fun _ _ _ _ _ => (pv 8)))
      (pss_one (ps_set (i := 5) scKl.nd rfl (Or.inl rfl) (pe_ix ix_list (pe_op op_cat (pv 6) (pe_lst (pa_cons pe_non pa_nil))) pe_int (fun _ _ => rfl))))) pss_nil)
      (pss_one (ps_ret (pe_ifExp (pt_cmpR op_isN (pv 5) pe_non (nomark _)) (pv 3) (pe_lst (pa_cons pe_str (pa_cons (pv 5) pa_nil))))))))) pss_nil)
      (pss_cons (ps_set (i := 9) scKl.nd rfl (Or.inl rfl) (pe_lst (pa_cons pe_str (pa_cons pe_str (pa_cons pe_str (pa_cons pe_str (pa_cons pe_str (pa_cons pe_str (pa_cons pe_str (pa_cons pe_str (pa_cons pe_str (pa_cons pe_str (pa_cons pe_str pa_nil)))))))))))))
      (pss_cons (ps_if (pt_cmpR op_notIn_seq (pv 4) (pv 9) (by rfl)) (pss_one (ps_ret (pv 3))) pss_nil)
      (pss_cons (ps_set (i := 10) scKl.nd rfl (Or.inl rfl) (pe_call GB_ hrB_ (by rfl) mB_ kB_ bB_ .nil pass0 (pa_cons (pv 4) pa_nil)))
      (pss_cons (ps_if (pt_cmpR op_ne (pe_callB call_len_seq (by rfl) T.len PySem.boot_len (pa_cons (pv 1) pa_nil)) (pe_op op_add pe_int (pe_callB call_len_seq (by rfl) T.len PySem.boot_len (pa_cons (pv 10) pa_nil))) (nomark _)) (pss_one (ps_ret (pv 3))) pss_nil)
      (pss_cons (ps_set (i := 11) scKl.nd rfl (Or.inl rfl) (pe_lst pa_nil))
      (pss_cons (ps_for PassesOwn.never rfl (pi_enT (by rfl) T.enum (pa_cons (pe_slice sl_tup (pv 1) (po_some pe_int) po_none) pa_nil)) (pg_tup rfl (pgs_cons (pg_name (i := 12) scKl.nd rfl (.inl rfl)) (pgs_cons (pg_name (i := 13) scKl.nd rfl (.inl rfl)) pgs_nil))) (pss_cons (ps_set (i := 14) scKl.nd rfl (Or.inl rfl) (pe_callG GC_ hg hrC_ (by rfl) mC_ kC_ bC_ (pa_cons (pv 0) (pa_cons (pv 13) (pa_cons (pe_op op_catA (pv 2) (pe_tup (pa_cons (pv 12) pa_nil))) pa_nil)))))
      (pss_cons (ps_if (pt_cmpR op_eq (pe_ix ix_list (pv 14) pe_int (fun _ _ => rfl)) pe_str (nomark _)) (pss_one (ps_ret (pv 14))) pss_nil)
      (pss_one (ps_expr (pe_bm PySem.F.plainAttrs_list PySem.F.slot_list_append PySem.F.type_list_append mt_append (pv 11) (pa_cons (pe_ix ix_list (pv 14) pe_int (fun _ _ => rfl)) pa_nil)))))))
      (pss_cons (ps_for PassesOwn.never rfl (pi_enum (by rfl) T.enum (pa_cons (pv 10) pa_nil)) (pg_tup rfl (pgs_cons (pg_name (i := 12) scKl.nd rfl (.inl rfl)) (pgs_cons (pg_name (i := 15) scKl.nd rfl (.inl rfl)) pgs_nil))) (pss_cons (ps_set (i := 16) scKl.nd rfl (Or.inl rfl) (pe_ifExp (pt_cmpR op_eq (pv 15) pe_str (nomark _)) (pe_ix ix_list (pv 11) (pe_op op_sub (pv 12) pe_int) (fun _ _ => rfl)) (pv 15)))
      (pss_one (ps_if (pt_cmpR op_notIn_seq (pv 16) (pe_lst (pa_cons pe_str (pa_cons (pe_ix ix_list (pv 11) (pv 12) (fun _ _ => rfl)) pa_nil))) (by rfl)) (pss_one (ps_ret (pe_lst (pa_cons pe_str (pa_cons (pe_op op_catA (pv 2) (pe_tup (pa_cons (pv 12) pa_nil))) pa_nil))))) pss_nil))))
      (pss_cons (ps_if (pt_cmpR op_in_seq (pv 4) (pe_lst (pa_cons pe_str (pa_cons pe_str (pa_cons pe_str (pa_cons pe_str pa_nil))))) (by rfl)) (pss_one (ps_ret (pe_lst (pa_cons pe_str (pa_cons pe_str pa_nil))))) pss_nil)
      (pss_one (ps_ret (pe_lst (pa_cons pe_str (pa_cons (pe_ifExp (pt_cmpR op_eq (pv 4) pe_str (nomark _)) (pe_ix ix_list (pv 11) (pe_un un_neg pe_int) (fun _ _ => rfl)) pe_str) pa_nil)))))))))))))))))), ?_⟩
    have two : 2 ≤ sizeLine := by decide
    have one : 1 ≤ sizeLine := by decide
    have sE : ∀ (a b : Str), decide (V.str a = V.str b) = decide (a = b) := fun a b => decide_eq_decide.mpr ⟨fun e => by injection e, fun e => by rw [e]⟩
    have lp : (pathV p).length = p.length := by unfold pathV; rw [List.length_map]
    refine ⟨_, rfl, two, fun B hB => ?_⟩
    have zB := Same.upd (o := .lst [.str "bad", .ref q]) hB
    have fB : upd H B (.lst [.str "bad", .ref q]) B = some (.lst [.str "bad", .ref q]) := upd_same
    have bad0 : kdA ps n p d = .inr p → ∀ H', Same (upd H B (.lst [.str "bad", .ref q])) H' → Q (.ref B) H' := fun e H' s' => k2 p e B (.ref q) H' (zB.trans s') (s' _ _ fB) (dh_path ((zB.trans s') _ _ hq))
    have hd1 := hd.same zB
    generalize upd H B (.lst [.str "bad", .ref q]) = H1 at zB fB bad0 hd1 ⊢
    clear hd
    refine ⟨_, rfl, q, _, rfl, .inr (SqT.of (zB _ _ hq)), _, _, rfl, rfl, _, rfl, ?_⟩
    rw [lp]
    cases n with
    | zero =>
      rw [decide_eq_true (by omega)]
      exact iteT (iteT ⟨_, rfl, bad0 (by unfold kdA; rfl) H1 (Same.refl _)⟩)
    | succ n =>
    rw [decide_eq_false (by omega)]
    refine iteF ⟨_, rfl, v, .ty "tuple", _, _, _, rfl, .ty "tuple", hd1.ty.x, kit_tuple hd1.ty.mem, _, rfl, ?_⟩
    by_cases tp : tyD d ≠ "tuple"
    · rw [show (tyD d == "tuple") = false by simpa using tp]
      exact iteT (iteT ⟨_, rfl, bad0 (kdA_other (by cases d <;> first | rfl | exact absurd rfl tp)) H1 (Same.refl _)⟩)
    have tp := Classical.not_not.mp tp
    cases hd1 with
    | @tup a xs0 ds ea hs =>
      refine iteF ⟨_, rfl, by show 0 ≤ sizeLine; decide, fun e0 he0 => ?_⟩
      have z0 := Same.upd (o := .tup []) he0
      refine ⟨a, e0, xs0, rfl, rfl, SqT.of (z0 _ _ ea), SqT.of upd_same, _, rfl, ?_⟩
      cases hs with
      | nil =>
        rw [decide_eq_true rfl]
        exact iteT ⟨_, rfl, bad0 (kdA_other rfl) _ z0⟩
      | @cons x ys dx os h1 r1 =>
      rw [decide_eq_false (List.cons_ne_nil _ _)]
      have ea0 := z0 _ _ ea
      have zB0 := zB.trans z0
      have bad1 : kdA ps (n + 1) p (.tuple (dx :: os)) = .inr p → ∀ H', Same (upd H1 e0 (.tup [])) H' → Q (.ref B) H' := fun e H' s' => bad0 e H' (z0.trans s')
      have h1 := h1.same z0
      have r1 := DhAll.same z0 r1
      generalize upd H1 e0 (.tup []) = H2 at ea0 zB0 bad1 h1 r1 ⊢
      refine iteF ⟨_, rfl, a, _, _, x, rfl, rfl, SqT.of ea0, at_zero, x, .ty "str", _, _, _, rfl, .ty "str", h1.ty.x, kit_str h1.ty.mem, _, rfl, ?_⟩
      by_cases st : tyD dx ≠ "str"
      · rw [show (tyD dx == "str") = false by simpa using st]
        exact iteT ⟨_, rfl, bad1 (kdA_other (by cases dx <;> first | rfl | exact absurd rfl st)) H2 (Same.refl _)⟩
      have st := Classical.not_not.mp st
      cases h1 with
      | str wd =>
        refine iteF ⟨_, rfl, a, _, _, .str wd, rfl, rfl, SqT.of ea0, at_zero, ?_⟩
        have unf : kdA ps (n + 1) p (.tuple (.str wd :: os)) = kdT ps (kdA ps n) p wd os := rfl
        rw [unf] at k1 k2 bad1
        unfold kdT at k1 k2 bad1
        have ly := r1.len
        rw [okB] at ok
        refine ⟨_, rfl, two, fun p1 g1 => ⟨p1, _, rfl, .inl (SqL.of upd_same), rfl, rfl, _, rfl, ?_⟩⟩
        have y1 := Same.upd (o := .lst [.str "column", .str "value"]) g1
        rw [show inV (.str wd) [.str "column", .str "value"] = decide (wd ∈ (["column", "value"] : List Str)) from in_strs (ss := ["column", "value"])]
        have ea1 := y1 _ _ ea0
        have zB1 := zB0.trans y1
        have r2 := DhAll.same y1 r1
        have bad2 : (if wd = "column" ∨ wd = "value" then optK p (leafK ps wd os) else kdO (kdA ps n) p wd os) = .inr p → ∀ H', Same (upd H2 p1 (.lst [.str "column", .str "value"])) H' → Q (.ref B) H' := fun e H' s' => bad1 e H' (y1.trans s')
        generalize upd H2 p1 (.lst [.str "column", .str "value"]) = H3 at ea1 zB1 r2 bad2 ⊢
        clear bad1 r1 bad0
        by_cases cv : wd = "column" ∨ wd = "value"
        · rw [decide_eq_true (by simpa using cv)]
          rw [if_pos cv] at k1 bad2
          have finN : leafK ps wd os = none → ∀ H', Same H3 H' → Q (.ref B) H' := fun e H' s' => bad2 (by rw [e]; rfl) H' s'
          have finS : ∀ kk, leafK ps wd os = some kk → ∀ H', Same H3 H' → ∀ r, H' r = none → Q (.ref r) (upd H' r (.lst [.str "kind", .str kk])) := fun kk e H' s' r hr => k1 kk (by rw [e]; rfl) r _ ((zB1.trans s').trans (Same.upd hr)) upd_same
          refine iteT ?_
          refine ⟨_, rfl, a, _, rfl, .inr (SqT.of ea1), rfl, _, rfl, ?_⟩
          by_cases l1 : os.length = 1
          · have le : decide (V.int ((V.str wd :: ys).length : Int) = V.int 2) = true := decide_eq_true (by rw [List.length_cons, ly, l1]; rfl)
            rw [le]
            obtain ⟨dh, rfl⟩ := List.length_eq_one_iff.mp l1
            cases r2 with
            | @cons y _ _ _ hy r =>
            cases r
            refine iteT ⟨_, rfl, rfl, _, rfl, ?_⟩
            rw [sE]
            by_cases wv : wd = "value"
            · rw [decide_eq_true wv]
              have wc : wd ≠ "column" := fun e => by rw [wv] at e; exact absurd e (by decide +kernel)
              have lf : leafK ps wd [dh] = vK dh := by
                unfold leafK
                split
                · rename_i z e
                  injection e with e1 _
                  rw [e1, if_neg wc]
                · rename_i e
                  injection e with e1 _
                  rw [e1, if_neg wc]
                · rename_i _ h2
                  exact absurd rfl (h2 dh)
              rw [lf] at finN finS
              have azd : AzD dh := fun z ez => by
                subst ez
                unfold okT at ok
                rw [if_neg wc, if_pos wv] at ok
                exact ok
              refine iteT ⟨_, rfl, a, _, 1, y, rfl, rfl, SqT.of ea1, rfl, y, dh, rfl, hy, azd, fun H4 s4 => ?_⟩
              refine ⟨_, rfl, a, _, rfl, .inr (SqT.of (s4 _ _ ea1)), rfl, _, rfl, ?_⟩
              rw [le]
              refine iteT ⟨_, rfl, rfl, _, rfl, ?_⟩
              rw [sE, decide_eq_false wc]
              refine iteF ⟨_, rfl, rfl, _, rfl, ?_⟩
              cases e : vK dh with
              | none =>
                rw [decide_eq_true (show optS none = V.non from rfl)]
                exact iteT ⟨_, rfl, finN e H4 s4⟩
              | some kk =>
                rw [decide_eq_false (show optS (some kk) ≠ V.non from nofun)]
                exact iteF ⟨_, rfl, two, fun r hr => finS kk e H4 s4 r hr⟩
            · rw [decide_eq_false wv]
              have wc : wd = "column" := cv.resolve_right wv
              refine iteF ⟨_, rfl, a, _, rfl, .inr (SqT.of ea1), rfl, _, rfl, ?_⟩
              rw [le]
              refine iteT ⟨_, rfl, rfl, _, rfl, ?_⟩
              rw [sE, decide_eq_true wc]
              refine iteT ?_
              have hL3 := zB1 _ _ hL
              have hc3 := hc.t (SameT.of zB1)
              -- how what is held is shown
              obtain ⟨zs, shy, flt⟩ : ∃ zs : Str, (∀ H', Same H3 H' → Shw K H' y zs) ∧ ((ps.filter fun p => decide (V.str (reprText p.1) = V.str zs)).map (·.2)).head? = leafK ps wd [dh] := by
                have nmn : ∀ p ∈ ps, nameB (.str p.1) = true := fun p hp => (cn.nm p hp).2
                have lfo : ∀ {d2 : PyData}, (∀ z, d2 ≠ .str z) → leafK ps wd [d2] = none := fun {d2} hn => by
                  unfold leafK
                  split
                  · rename_i z e
                    injection e with e1 _
                    exact absurd e1 (hn z)
                  · rw [if_pos wc]
                  · rfl
                rcases held_cases wc ok with ⟨z, rfl, nz, az⟩ | rfl | rfl | rfl
                · cases hy
                  refine ⟨reprText z, fun H' s' => shw_text (az_sh az) (by decide), ?_⟩
                  have e1 : leafK ps wd [.str z] = ps.lookup z := if_pos wc
                  rw [e1, ← look_filter]
                  congr 2
                  exact List.filter_congr fun p hp => repr_inj (nmn p hp) nz
                · refine ⟨_, fun H' s' => (hy.same s').shw (by decide +kernel) rfl (by decide +kernel) (by decide +kernel), ?_⟩
                  rw [lfo (fun z e => by cases e), names_filter nmn (by decide +kernel)]
                  rfl
                · refine ⟨_, fun H' s' => (hy.same s').shw (by decide +kernel) rfl (by decide +kernel) (by decide +kernel), ?_⟩
                  rw [lfo (fun z e => by cases e), names_filter nmn (by decide +kernel)]
                  rfl
                · refine ⟨_, fun H' s' => (hy.same s').shw (by decide +kernel) rfl (by decide +kernel) (by decide +kernel), ?_⟩
                  rw [lfo (fun z e => by cases e), names_filter nmn (by decide +kernel)]
                  rfl
              refine ⟨_, rfl, L, rfl, ⟨_, SqT.of hL3⟩, fun D hD => lc_tup (K := K) (a := L) (xs := xs) (fun i H' => H' D = some (.lst ((((ps.take i).filter fun p => decide (V.str (reprText p.1) = V.str zs)).map (·.2)).map V.str)) ∧ Same H3 H') ⟨upd_same, Same.upd hD⟩ (fun i H' _ pr => SqT.of (pr.2 _ _ hL3)) ?_ ?_⟩
              · rintro i x H4 hx ⟨hD1, s1⟩
                obtain ⟨qa, z, kk, rfl, eqa, ep⟩ := hc3.get _ _ hx
                refine ⟨qa, _, rfl, SqT.of (s1 _ _ eqa), rfl, _, _, rfl, _, _, rfl, rfl, rfl, ?_⟩
                have nz := cn.nm _ (List.mem_of_getElem? ep)
                have ln : ((ps.take i).filter fun p => decide (V.str (reprText p.1) = V.str zs)).length ≤ 8 := Nat.le_trans (List.length_filter_le _ _) (by rw [List.length_take]; exact Nat.le_trans (Nat.min_le_right _ _) cn.ln)
                refine ⟨_, rfl, .str z, _, rfl, shw_name nz.1, _, rfl, a, _, 1, y, rfl, rfl, SqT.of (s1 _ _ ea1), rfl, y, zs, rfl, shy H4 s1, rfl, _, rfl, ?_⟩
                refine ite2 (fun w => ?_) (fun w => ?_)
                · refine ⟨_, rfl, _, hD1, by rw [List.length_map, List.length_map]; exact Nat.lt_of_le_of_lt ln (by decide), ?_, fun b o e => by rw [upd_ne (ne_of_none e hD)]; exact s1 b o e⟩
                  rw [upd_same, List.take_add_one, ep]
                  simp only [Option.toList, List.filter_append, List.map_append]
                  rw [List.filter_cons, if_pos w]
                  rfl
                · refine ⟨?_, s1⟩
                  rw [hD1, List.take_add_one, ep]
                  simp only [Option.toList, List.filter_append]
                  rw [List.filter_cons, if_neg w, List.filter_nil, List.append_nil]
              · rintro H4 ⟨hD1, s1⟩
                rw [hc3.len, List.take_length] at hD1
                have lks : ((ps.filter fun p => decide (V.str (reprText p.1) = V.str zs)).map (·.2)).length ≤ 8 := by rw [List.length_map]; exact Nat.le_trans (List.length_filter_le _ _) cn.ln
                generalize (ps.filter fun p => decide (V.str (reprText p.1) = V.str zs)).map (·.2) = ks at hD1 flt lks
                refine ⟨_, rfl, one, fun M hM => ?_⟩
                have zM := Same.upd (o := .lst [.non]) hM
                refine ⟨D, M, _, _, rfl, rfl, zM _ _ hD1, upd_same, by rw [List.length_map]; exact Nat.le_trans (Nat.add_le_add_right lks 1) (by decide), fun N hN => ?_⟩
                have zN := Same.upd (o := .lst (ks.map V.str ++ [.non])) hN
                have s4 := s1.trans (zM.trans zN)
                cases ks with
                | nil =>
                  refine ⟨N, _, 0, .non, rfl, rfl, SqL.of upd_same, rfl, ?_⟩
                  refine ⟨_, rfl, rfl, _, rfl, ?_⟩
                  exact iteT ⟨_, rfl, finN flt.symm _ s4⟩
                | cons kk kr =>
                  refine ⟨N, _, 0, .str kk, rfl, rfl, SqL.of upd_same, (show atI (V.str kk :: (kr.map V.str ++ [V.non])) 0 = some (V.str kk) from at_zero), ?_⟩
                  refine ⟨_, rfl, rfl, _, rfl, ?_⟩
                  exact iteF ⟨_, rfl, two, fun r hr => finS kk flt.symm _ s4 r hr⟩
          · have le : decide (V.int ((V.str wd :: ys).length : Int) = V.int 2) = false := decide_eq_false fun q => l1 (by injection q with q; rw [List.length_cons, ly] at q; omega)
            rw [le]
            refine iteF (iteF ⟨_, rfl, a, _, rfl, .inr (SqT.of ea1), rfl, _, rfl, ?_⟩)
            rw [le]
            have lf : leafK ps wd os = none := by
              unfold leafK
              split
              · exact absurd rfl l1
              · exact absurd rfl l1
              · rfl
            refine iteF (iteF ⟨_, rfl, rfl, _, rfl, ?_⟩)
            exact iteT ⟨_, rfl, finN lf H3 (Same.refl _)⟩
        · rw [decide_eq_false (by simpa using cv)]
          rw [if_neg cv] at k1 k2 bad2
          have okO : ∀ o ∈ os, okB n o = true := by
            unfold okT at ok
            rw [if_neg (fun z => cv (.inl z)), if_neg (fun z => cv (.inr z)), List.all_eq_true] at ok
            exact ok
          refine iteF ⟨by show 11 ≤ sizeLine; decide, fun Ev hEv => ⟨_, rfl, _, rfl, Ev, _, rfl, .inl (SqL.of upd_same), rfl, rfl, _, rfl, ?_⟩⟩
          have y2 := Same.upd (o := .lst [.str "plus", .str "minus", .str "times", .str "over", .str "less", .str "same", .str "both", .str "either", .str "not", .str "missing", .str "if"]) hEv
          rw [show inV (.str wd) [.str "plus", .str "minus", .str "times", .str "over", .str "less", .str "same", .str "both", .str "either", .str "not", .str "missing", .str "if"] = decide (wd ∈ every11) from in_strs (ss := every11), every_is]
          have ea2 := y2 _ _ ea1
          have zB2 := zB1.trans y2
          have r3 := DhAll.same y2 r2
          have bad3 : kdO (kdA ps n) p wd os = .inr p → ∀ H', Same (upd H3 Ev (.lst [.str "plus", .str "minus", .str "times", .str "over", .str "less", .str "same", .str "both", .str "either", .str "not", .str "missing", .str "if"])) H' → Q (.ref B) H' := fun e H' s' => bad2 e H' (y2.trans s')
          generalize upd H3 Ev (.lst [.str "plus", .str "minus", .str "times", .str "over", .str "less", .str "same", .str "both", .str "either", .str "not", .str "missing", .str "if"]) = H4 at ea2 zB2 r3 bad3 ⊢
          clear bad2 r2
          unfold kdO at k1 k2 bad3
          cases eo : opsV wd with
          | none =>
            rw [eo] at bad3
            exact iteT ⟨_, rfl, bad3 rfl H4 (Same.refl _)⟩
          | some ops =>
          rw [eo] at k1 k2 bad3
          dsimp only at k1 k2 bad3
          obtain ⟨lo1, lo3, _, _, _⟩ := opsV_len eo
          refine iteF ⟨_, rfl, wd, ops, rfl, eo, fun W H5 s5 hW => ?_⟩
          have lw : (wantV wd).length = ops.length := by
            have := (law_ck eo (ks := List.replicate ops.length "flag") (by rw [List.length_replicate]) (fun k hk => .inr (.inr (List.eq_of_mem_replicate hk)))).2
            exact this
          have ea3 := s5 _ _ ea2
          refine ⟨_, rfl, a, _, rfl, .inr (SqT.of ea3), _, rfl, W, _, rfl, .inl (SqL.of hW), _, _, rfl, rfl, rfl, _, rfl, ?_⟩
          show if (!decide (V.int ((V.str wd :: ys).length : Int) = V.int (1 + (((wantV wd).map V.str).length : Int)))) = true then _ else _
          rw [List.length_map, lw]
          by_cases ll : os.length = ops.length
          · rw [decide_eq_true (show V.int ((V.str wd :: ys).length : Int) = V.int (1 + (ops.length : Int)) by rw [List.length_cons, ly, ll]; congr 1; omega)]
            rw [if_pos ll] at k1 k2
            refine iteF ⟨by show 0 ≤ sizeLine; decide, fun D hD => ?_⟩
            have zD := Same.upd (o := .lst []) hD
            have hD0 : upd H5 D (.lst []) D = some (.lst []) := upd_same
            have sD : Same H (upd H5 D (.lst [])) → True := fun _ => True.intro
            -- what stood ahead of the list of kinds
            have z5 : Same H H5 := zB2.trans s5
            have offD : ∀ b o', H5 b = some o' → b ≠ D := fun b o' eb => ne_of_none eb hD
            refine ⟨_, rfl, 1, rfl, a, _, rfl, SqT.of (zD _ _ ea3), tail_not, fun t0 ht0 => ?_⟩
            rw [cut_tail]
            have zt := Same.upd (o := .tup ys) ht0
            have hp2 : upd (upd H5 D (.lst [])) t0 (.tup ys) t0 = some (.tup ys) := upd_same
            have hD1 := zt _ _ hD0
            have nt0 : t0 ≠ D := fun e => by rw [e, hD0] at ht0; cases ht0
            generalize hH6 : upd (upd H5 D (.lst [])) t0 (.tup ys) = H6 at zt hp2 hD1 ⊢
            have s56 : Same H5 H6 := by rw [← hH6]; exact zD.trans (Same.upd ht0)
            have keepD : ∀ {H' : Hp}, Same H6 H' → H' t0 = some (.tup ys) := fun s' => s' _ _ hp2
            refine ⟨t0, ys, rfl, SqT.of hp2, for_it (walk_enT (K := K) (a := t0) (xs := ys)) (fun i σ H' => ∃ (ks : List Str) (x12 x13 x14 : Option V), σ = [some (.ref L), some (.ref a), some (.ref q), some (.ref B), some (.str wd), none, none, none, none, some (.ref Ev), some (.ref W), some (.ref D), x12, x13, x14, none, none] ∧ H' D = some (.lst (ks.map V.str)) ∧ ks.length = i ∧ i ≤ os.length ∧ (∀ k ∈ ks, KindS k) ∧ kdF (kdA ps n) p ops wd i (os.drop i) ks = kdF (kdA ps n) p ops wd 0 os [] ∧ Same H5 H' ∧ H' t0 = some (.tup ys)) ⟨[], none, none, none, rfl, hD1, rfl, Nat.zero_le _, nofun, rfl, s56, hp2⟩ (fun i σ H' _ pr => by obtain ⟨_, _, _, _, _, _, _, _, _, _, _, e⟩ := pr; exact SqT.of e) ?_ ?_⟩
            · rintro i x σ Ha Hb hi ⟨ks, x12, x13, x14, rfl, hDa, lks, li, hks, er, sa, ta⟩ ⟨q1, i', z, rfl, hq1, rfl, e1, e2⟩
              obtain rfl : V.int ((i : Nat) : Int) = i' := Option.some.inj e1
              have zq := Same.upd (o := .tup [.int ((i : Nat) : Int), z]) hq1
              have sb := sa.trans zq
              have s0 := z5.trans sb
              obtain ⟨o, eo', dh⟩ := r3.get _ _ e2
              have dh5 := dh.same s5
              have lt : i < os.length := (List.getElem?_eq_some_iff.mp eo').1
              have ed : os.drop i = o :: os.drop (i + 1) := by rw [List.drop_eq_getElem_cons lt, (List.getElem?_eq_some_iff.mp eo').2]
              rw [ed, kdF] at er
              refine ⟨q1, _, rfl, SqT.of upd_same, rfl, _, _, rfl, _, _, rfl, rfl, ?_⟩
              have hDb := zq _ _ hDa
              have tb := zq _ _ ta
              refine ⟨_, rfl, _, rfl, _, rfl, _, rfl, one, fun t1 ht1 => catA_path (s0 _ _ hq) (by omega) ht1 fun r H' s' hr' => ?_⟩
              refine ⟨L, r, z, xs, ps, p ++ [i], o, rfl, s' _ _ (s0 _ _ hL), (hc.t (SameT.of (s0.trans s'))), cn, dh5.same (sb.trans s'), okO o (List.mem_of_getElem? eo'), hr', by rw [List.length_append]; show p.length + 1 + n = 8; omega, fun kk ek rr H7 s7 hrr => ?_, fun pp ep rr v7 H7 s7 hrr hv7 => ?_⟩
              · rw [ek] at er
                refine ⟨_, rfl, rr, _, 0, .str "kind", rfl, rfl, SqL.of hrr, rfl, rfl, _, rfl, ?_⟩
                rw [decide_eq_false (show V.str "kind" ≠ V.str "bad" by decide +kernel)]
                have s67 := s'.trans s7
                have hD7 := s67 _ _ hDb
                refine iteF ⟨_, rfl, .inl ⟨rfl, _, SqL.of hD7⟩, _, rfl, rr, _, 1, .str kk, rfl, rfl, SqL.of hrr, rfl, D, _, _, rfl, rfl, hD7, by rw [List.length_map, lks]; exact Nat.lt_of_le_of_lt (show _ ≤ 3 by omega) (by decide), ?_⟩
                refine ⟨ks ++ [kk], _, _, _, rfl, by rw [upd_same, List.map_append]; rfl, by rw [List.length_append, lks]; rfl, lt, fun k hk => ?_, er, fun b o' eb => by rw [upd_ne (offD b o' eb)]; exact s67 _ _ (sb _ _ eb), by rw [upd_ne nt0]; exact s67 _ _ tb⟩
                rcases List.mem_append.mp hk with hk | hk
                · exact hks k hk
                · rw [List.mem_singleton.mp hk]; exact kd_kind cn.kd n _ _ _ ek
              · rw [ep] at er
                refine ⟨_, rfl, rr, _, 0, .str "bad", rfl, rfl, SqL.of hrr, rfl, rfl, _, rfl, ?_⟩
                rw [decide_eq_true rfl]
                exact iteT ⟨_, rfl, k2 pp er.symm rr v7 H7 (s0.trans (s'.trans s7)) hrr hv7⟩
            · rintro σ H7 ⟨ks, x12, x13, x14, rfl, hD7, lks, _, hks, er, s7, _⟩
              rw [ly] at lks er
              rw [List.drop_length, kdF] at er
              have s07 := z5.trans s7
              unfold endK at er
              have lko : ks.length = ops.length := by omega
              have lck := (law_ck eo lko hks).1
              rw [← lck] at er
              have hW7 := s7 _ _ hW
              refine ⟨_, rfl, W, (wantV wd).map V.str, rfl, SqL.of hW7, for_it (walk_enum (K := K) (a := W) (xs := (wantV wd).map V.str)) (fun i σ H' => ∃ (x12 x13 x14 x15 x16 : Option V), σ = [some (.ref L), some (.ref a), some (.ref q), some (.ref B), some (.str wd), none, none, none, none, some (.ref Ev), some (.ref W), some (.ref D), x12, x13, x14, x15, x16] ∧ i ≤ (wantV wd).length ∧ lawB (wantV wd) ks ((wantV wd).length - i) i = lawB (wantV wd) ks (wantV wd).length 0 ∧ Same H7 H') ⟨_, _, _, _, _, rfl, Nat.zero_le _, rfl, Same.refl _⟩ (fun i σ H' _ pr => by obtain ⟨_, _, _, _, _, _, _, _, s'⟩ := pr; exact SqL.of (s' _ _ hW7)) ?_ ?_⟩
              · rintro i x σ Ha Hb hi ⟨x12, x13, x14, x15, x16, rfl, li, lb, sa⟩ ⟨q1, i', z, rfl, hq1, rfl, e1, e2⟩
                obtain rfl : V.int ((i : Nat) : Int) = i' := Option.some.inj e1
                have zq := Same.upd (o := .tup [.int ((i : Nat) : Int), z]) hq1
                have sb := sa.trans zq
                have e2 : ((wantV wd).map V.str)[i]? = some z := e2
                have lt : i < (wantV wd).length := by have := (List.getElem?_eq_some_iff.mp e2).1; rw [List.length_map] at this; exact this
                rw [List.getElem?_map, List.getElem?_eq_getElem lt] at e2
                have e2 := Option.some.inj e2
                have gw : (wantV wd).getD i "" = (wantV wd)[i] := by rw [List.getD_eq_getElem?_getD, List.getElem?_eq_getElem lt]; rfl
                rw [← gw] at e2
                have lti : i < ks.length := by omega
                have ek : ks[i]? = some (ks.getD i "") := by rw [List.getD_eq_getElem?_getD, List.getElem?_eq_getElem lti]; rfl
                have hmk : (ks.map V.str)[i]? = some (.str (ks.getD i "")) := by rw [List.getElem?_map, ek]; rfl
                rw [show (wantV wd).length - i = ((wantV wd).length - (i + 1)) + 1 by omega, lawB] at lb
                subst e2
                refine ⟨q1, _, rfl, SqT.of upd_same, rfl, _, _, rfl, _, _, rfl, rfl, ?_⟩
                have hDb := sb _ _ hD7
                -- what is due here
                have step : ∀ {due : Str} {Hc : Hp}, due = (if (wantV wd).getD i "" = "alike" then ks.getD (i - 1) "" else (wantV wd).getD i "") → Same H7 Hc → True := fun _ _ => True.intro
                refine ⟨_, rfl, rfl, _, rfl, ?_⟩
                rw [sE]
                by_cases hal : (wantV wd).getD i "" = "alike"
                · rw [decide_eq_true hal]
                  have i0 : 0 < i := by
                    rcases Nat.eq_zero_or_pos i with e | e
                    · rw [e] at hal
                      have : (wantV wd).getD 0 "" ≠ "alike" := by unfold wantV; split <;> first | decide +kernel | (split <;> first | decide +kernel | (split <;> first | decide +kernel | (split <;> first | decide +kernel | (split <;> decide +kernel))))
                      exact absurd hal this
                    · exact e
                  have ek1 : (ks.map V.str)[i - 1]? = some (.str (ks.getD (i - 1) "")) := by rw [List.getElem?_map, List.getD_eq_getElem?_getD, List.getElem?_eq_getElem (show i - 1 < ks.length by omega)]; rfl
                  refine iteT ⟨_, rfl, _, rfl, _, _, rfl, rfl, D, _, _, .str (ks.getD (i - 1) ""), rfl, rfl, SqL.of hDb, at_of (j := i - 1) (by omega) ek1, ?_⟩
                  refine ⟨_, rfl, _, rfl, _, rfl, D, _, _, .str (ks.getD i ""), rfl, rfl, SqL.of hDb, at_of (j := i) rfl hmk, two, fun p5 g5 => ⟨p5, _, rfl, .inl (SqL.of upd_same), rfl, rfl, _, rfl, ?_⟩⟩
                  have y5 := Same.upd (o := .lst [.str "any", .str (ks.getD i "")]) g5
                  rw [show inV (.str (ks.getD (i - 1) "")) [.str "any", .str (ks.getD i "")] = decide ((ks.getD (i - 1) "") ∈ (["any", ks.getD i ""] : List Str)) from in_strs (ss := ["any", ks.getD i ""])]
                  have ba : badAt (wantV wd) ks i = !decide ((ks.getD (i - 1) "") ∈ (["any", ks.getD i ""] : List Str)) := by
                    unfold badAt
                    rw [if_pos hal]
                    congr 1
                    rw [Bool.eq_iff_iff]
                    simp
                  rw [ba] at lb
                  cases bb : decide ((ks.getD (i - 1) "") ∈ (["any", ks.getD i ""] : List Str)) with
                  | true =>
                    rw [bb, if_neg (by decide)] at lb
                    exact iteF ⟨_, _, _, _, _, rfl, lt, lb, sb.trans y5⟩
                  | false =>
                    rw [bb, if_pos (by decide)] at lb
                    rw [← lb] at er
                    refine iteT ⟨_, rfl, _, rfl, one, fun t1 ht1 => catA_path ((s07.trans (sb.trans y5)) _ _ hq) (by omega) ht1 fun r H' s' hr' => ⟨two, fun rr hrr => ?_⟩⟩
                    have zr := Same.upd (o := .lst [.str "bad", .ref r]) hrr
                    exact k2 _ er.symm rr (.ref r) _ (((s07.trans (sb.trans y5)).trans s').trans zr) upd_same (dh_path (zr _ _ hr'))
                · rw [decide_eq_false hal]
                  refine iteF ⟨_, rfl, ?_⟩
                  refine ⟨_, rfl, _, rfl, _, rfl, D, _, _, .str (ks.getD i ""), rfl, rfl, SqL.of hDb, at_of (j := i) rfl hmk, two, fun p5 g5 => ⟨p5, _, rfl, .inl (SqL.of upd_same), rfl, rfl, _, rfl, ?_⟩⟩
                  have y5 := Same.upd (o := .lst [.str "any", .str (ks.getD i "")]) g5
                  rw [show inV (.str ((wantV wd).getD i "")) [.str "any", .str (ks.getD i "")] = decide (((wantV wd).getD i "") ∈ (["any", ks.getD i ""] : List Str)) from in_strs (ss := ["any", ks.getD i ""])]
                  have ba : badAt (wantV wd) ks i = !decide (((wantV wd).getD i "") ∈ (["any", ks.getD i ""] : List Str)) := by
                    unfold badAt
                    rw [if_neg hal]
                    congr 1
                    rw [Bool.eq_iff_iff]
                    simp
                  rw [ba] at lb
                  cases bb : decide (((wantV wd).getD i "") ∈ (["any", ks.getD i ""] : List Str)) with
                  | true =>
                    rw [bb, if_neg (by decide)] at lb
                    exact iteF ⟨_, _, _, _, _, rfl, lt, lb, sb.trans y5⟩
                  | false =>
                    rw [bb, if_pos (by decide)] at lb
                    rw [← lb] at er
                    refine iteT ⟨_, rfl, _, rfl, one, fun t1 ht1 => catA_path ((s07.trans (sb.trans y5)) _ _ hq) (by omega) ht1 fun r H' s' hr' => ⟨two, fun rr hrr => ?_⟩⟩
                    have zr := Same.upd (o := .lst [.str "bad", .ref r]) hrr
                    exact k2 _ er.symm rr (.ref r) _ (((s07.trans (sb.trans y5)).trans s').trans zr) upd_same (dh_path (zr _ _ hr'))
              · rintro σ H8 ⟨x12, x13, x14, x15, x16, rfl, _, lb, s8⟩
                rw [List.length_map, Nat.sub_self, lawB] at lb
                rw [← lb] at er
                dsimp only at er
                have s08 := s07.trans s8
                refine ⟨_, rfl, by show 4 ≤ sizeLine; decide, fun p4 g4 => ⟨p4, _, rfl, .inl (SqL.of upd_same), rfl, rfl, _, rfl, ?_⟩⟩
                have y4 := Same.upd (o := .lst [.str "plus", .str "minus", .str "times", .str "over"]) g4
                rw [show inV (.str wd) [.str "plus", .str "minus", .str "times", .str "over"] = decide (wd ∈ (["plus", "minus", "times", "over"] : List Str)) from in_strs (ss := ["plus", "minus", "times", "over"])]
                have kr := k1 _ er.symm
                unfold resK at kr
                have hD9 := y4 _ _ (s8 _ _ hD7)
                generalize upd H8 p4 (.lst [.str "plus", .str "minus", .str "times", .str "over"]) = H9 at y4 hD9 ⊢
                by_cases ar : wd = "plus" ∨ wd = "minus" ∨ wd = "times" ∨ wd = "over"
                · rw [decide_eq_true (by simpa using ar)]
                  have ni : wd ≠ "if" := fun e => by rw [e] at ar; exact absurd ar (by decide +kernel)
                  rw [if_neg ni, if_pos ar] at kr
                  exact iteT ⟨two, fun r hr => kr r _ ((s08.trans y4).trans (Same.upd hr)) upd_same⟩
                · rw [decide_eq_false (by simpa using ar)]
                  refine iteF ⟨_, rfl, rfl, _, rfl, ?_⟩
                  rw [sE]
                  by_cases wi : wd = "if"
                  · rw [decide_eq_true wi]
                    rw [if_pos wi] at kr
                    obtain ⟨l0, k0, rfl⟩ : ∃ l0 k0, ks = l0 ++ [k0] := by
                      rcases List.eq_nil_or_concat ks with e | ⟨l0, k0, e⟩
                      · rw [e] at lko; exact absurd lko (by show ¬ 0 = _; omega)
                      · exact ⟨l0, k0, by rw [e]; simp⟩
                    rw [show (l0 ++ [k0]).getLastD "" = k0 by simp] at kr
                    refine iteT ⟨_, rfl, _, rfl, D, _, _, .str k0, rfl, rfl, SqL.of hD9, ?_, two, fun r hr => kr r _ ((s08.trans y4).trans (Same.upd hr)) upd_same⟩
                    rw [List.map_append]
                    exact atI_last _ _
                  · rw [decide_eq_false wi]
                    rw [if_neg wi, if_neg ar] at kr
                    exact iteF ⟨two, fun r hr => kr r _ ((s08.trans y4).trans (Same.upd hr)) upd_same⟩
          · rw [decide_eq_false (show V.int ((V.str wd :: ys).length : Int) ≠ V.int (1 + (ops.length : Int)) from fun q => ll (by injection q with q; rw [List.length_cons, ly] at q; omega))]
            rw [if_neg ll] at bad3
            exact iteT ⟨_, rfl, bad3 rfl H5 s5⟩
      | _ => exact absurd st (by simp [tyD])
    | _ => exact absurd tp (by simp [tyD])
end
end
end K09
set_option Elab.async false
set_option linter.all false
set_option maxRecDepth 100000
set_option maxHeartbeats 4000000
namespace K09
open PySem PySem.Spec PyProof.Rows L2 Lc
/-! ## data that does not reach the tape -/
def dl (t : Addr) (H : Hp) : Hp := fun b => if b = t then none else H b
theorem dl_at {t a : Addr} {H : Hp} {o : HO} (n : a ≠ t) (e : H a = some o) : dl t H a = some o := by
  unfold dl
  rw [if_neg n]
  exact e
theorem dl_of {t a : Addr} {H : Hp} {o : HO} (e : dl t H a = some o) : a ≠ t ∧ H a = some o := by
  unfold dl at e
  by_cases q : a = t
  · rw [if_pos q] at e; cases e
  · rw [if_neg q] at e; exact ⟨q, e⟩
theorem dl_same {t : Addr} {H H' : Hp} (s : SameB t H H') : Same (dl t H) (dl t H') := fun b o e => dl_at (dl_of e).1 (s b o (dl_of e).1 (dl_of e).2)
theorem dl_here {t : Addr} {H : Hp} : Same (dl t H) H := fun b o e => (dl_of e).2
abbrev DhT (t : Addr) (H : Hp) (v : V) (d : PyData) : Prop := Dh (dl t H) v d
theorem DhF.t {t : Addr} {H H' : Hp} {v : V} {d : PyData} (T : Tape H t) (h : DhF H H' v d) : DhT t H' v d := h (dl t H') fun b o n e => dl_at (T.ne n) e
/-- what is drawn is showable, at most k deep and n long -/
structure Sz (k n : Nat) (d : PyData) : Prop where
  sh : d.showable = true
  dz : d.depth ≤ k
  ln : d.shown.length ≤ n
theorem Sz.mono {k n k' n' : Nat} {d : PyData} (h : Sz k n d) (a : k ≤ k') (b : n ≤ n') : Sz k' n' d := ⟨h.sh, Nat.le_trans h.dz a, Nat.le_trans h.ln b⟩
theorem tm_sz {k n : Nat} {d : PyData} (h : Tm k n d) : Sz k n d := ⟨h.sh, h.dz, h.ln⟩
inductive SzA (k : Nat) : Nat → List PyData → Prop
  | nil : SzA k 0 []
  | cons {n m : Nat} {d : PyData} {ds : List PyData} (h : Sz k n d) (r : SzA k m ds) : SzA k (n + m) (d :: ds)
theorem SzA.all {k n : Nat} {ds : List PyData} (h : SzA k n ds) : PyData.showableAll ds = true ∧ PyData.depthAll ds ≤ k ∧ ((PyData.shownAll ds).map (·.length)).sum ≤ n ∧ (PyData.shownAll ds).length = ds.length := by
  induction h with
  | nil => exact ⟨rfl, Nat.zero_le _, Nat.le_refl _, rfl⟩
  | @cons n m d ds h r ih =>
    obtain ⟨h1, h2, h3, h4⟩ := ih
    refine ⟨by simp [PyData.showableAll, h.sh, h1], ?_, ?_, by simp [PyData.shownAll, h4]⟩
    · simp only [PyData.depthAll]
      have := h.dz
      omega
    · simp only [PyData.shownAll, List.map_cons, List.sum_cons]
      have := h.ln
      omega
theorem SzA.tup {k n : Nat} {ds : List PyData} (h : SzA k n ds) : Sz (k + 1) (n + 2 * ds.length + 3) (.tuple ds) := by
  obtain ⟨h1, h2, h3, h4⟩ := h.all
  refine ⟨by simpa [PyData.showable] using h1, ?_, ?_⟩
  · simp only [PyData.depth]
    omega
  · have := tupleText_len_le (PyData.shownAll ds)
    simp only [PyData.shown]
    omega
theorem SzA.app {k n m : Nat} {ds es : List PyData} (h : SzA k n ds) (g : SzA k m es) : SzA k (n + m) (ds ++ es) := by
  induction h with
  | nil => rw [Nat.zero_add]; exact g
  | cons h r ih => rw [Nat.add_assoc]; exact .cons h ih
theorem SzA.mono {k n : Nat} {k' : Nat} {ds : List PyData} (h : SzA k n ds) (l : k ≤ k') : SzA k' n ds := by
  induction h with
  | nil => exact .nil
  | cons h r ih => exact .cons (h.mono l (Nat.le_refl _)) ih
theorem tm_int {i : Int} (h : i.natAbs ≤ 10000000000000000000000000000000000000000) : Tm 0 2000 (.int i) := by
  have b : i.natAbs < 2 ^ 1000 := Nat.lt_of_le_of_lt h (Nat.lt_of_lt_of_le (show 10000000000000000000000000000000000000000 < 2 ^ 140 by decide) (Nat.pow_le_pow_right (by decide) (by decide)))
  obtain ⟨h1, h2⟩ := num_len b
  exact ⟨h1, rfl, Nat.le_refl _, Nat.le_trans h2 (by decide)⟩
theorem tm_txt {x : Str} (h : Sh 100 x) : Tm 0 2000 (.str x) := by
  refine ⟨rfl, rfl, Nat.le_refl _, ?_⟩
  show (reprText x).length ≤ 2000
  have := StrLaws.reprText_len x (fun c hc => Nat.lt_trans (h.ok c hc) (by decide))
  have e := lenL x
  have := h.len
  omega
theorem tm_nonB : Tm 0 2000 .none ∧ ∀ b : Bool, Tm 0 2000 (.bool b) := ⟨⟨rfl, rfl, Nat.le_refl _, by decide +kernel⟩, fun b => ⟨rfl, rfl, Nat.le_refl _, by cases b <;> decide +kernel⟩⟩
theorem Vk.tm {k : Str} {d : PyData} (h : Vk k d) : Tm 1 4100 d := by
  cases h with
  | non => exact tm_nonB.1.mono (by decide) (by decide)
  | flag b => exact (tm_nonB.2 b).mono (by decide) (by decide)
  | word h _ => exact (tm_txt (h.mono (by decide))).mono (by decide) (by decide)
  | @num n d _ h1 h2 =>
    exact (tm_tup (k := 0) (n := 2000) (fun x hx => by simp at hx; rcases hx with rfl | rfl; exact tm_int h1; exact tm_int h2)).mono (by decide) (by show 2000 * 2 + 2 * 2 + 4 ≤ 4100; decide)
/-- by the sum of the parts -/
theorem tm_tupS {k n : Nat} {ds : List PyData} (h : ∀ d ∈ ds, ∃ m, Tm k m d) (s : ((PyData.shownAll ds).map (·.length)).sum ≤ n) : Tm (k + 1) (n + 2 * ds.length + 4) (.tuple ds) := by
  have key : PyData.showableAll ds = true ∧ PyData.hasDictAll ds = false ∧ PyData.depthAll ds ≤ k ∧ (PyData.shownAll ds).length = ds.length := by
    clear s
    induction ds with
    | nil => exact ⟨rfl, rfl, Nat.zero_le _, rfl⟩
    | cons d ds ih =>
      obtain ⟨h1, h2, h3, h4⟩ := ih fun x hx => h x (List.mem_cons_of_mem _ hx)
      obtain ⟨m, hd⟩ := h d List.mem_cons_self
      refine ⟨by simp [PyData.showableAll, hd.sh, h1], by simp [PyData.hasDictAll, hd.nd, h2], ?_, by simp [PyData.shownAll, h4]⟩
      simp only [PyData.depthAll]
      have := hd.dz
      omega
  obtain ⟨h1, h2, h3, h4⟩ := key
  refine ⟨by simpa [PyData.showable] using h1, by simpa [PyData.hasDict] using h2, ?_, ?_⟩
  · simp only [PyData.depth]
    omega
  · have := tupleText_len_le (PyData.shownAll ds)
    simp only [PyData.shown]
    omega
theorem tm_word {w : Str} {os : List PyData} {k m : Nat} (hw : (PyData.str w).shown.length ≤ 20) (ho : ∀ o ∈ os, Tm k m o) : Tm (k + 1) (m * os.length + 2 * os.length + 26) (.tuple (.str w :: os)) := by
  have tw : Tm 0 20 (.str w) := ⟨rfl, rfl, Nat.le_refl _, hw⟩
  have a := (tm_all ho).2.2.2.1
  refine (tm_tupS (k := k) (n := 20 + m * os.length) (fun d hd => ?_) ?_).mono (Nat.le_refl _) (by rw [List.length_cons]; omega)
  · rcases List.mem_cons.mp hd with rfl | hd
    · exact ⟨20, tw.mono (Nat.zero_le _) (Nat.le_refl _)⟩
    · exact ⟨m, ho d hd⟩
  · simp only [PyData.shownAll, List.map_cons, List.sum_cons]
    have := tw.ln
    omega
def szX : Nat → Nat
  | 0 => 0
  | n + 1 => 3 * szX n + 4200
theorem oneW_len {w k r : Str} (h : OneW w k r) : (PyData.str w).shown.length ≤ 20 := by
  rcases h with ⟨rfl, _⟩ | ⟨rfl, _⟩ <;> decide +kernel
theorem twoW_len {w k r : Str} (h : TwoW w k r) : (PyData.str w).shown.length ≤ 20 := by
  rcases h with ⟨rfl | rfl | rfl | rfl, _⟩ | ⟨rfl, _⟩ | ⟨rfl, _⟩ | ⟨rfl | rfl, _⟩ <;> decide +kernel
theorem xp_tm {ps : List (Str × Str)} (hp : ∀ p ∈ ps, Sh 12 p.1) {n : Nat} {k : Str} {d : PyData} (h : Xp ps n k d) : Tm (n + 1) (szX n) d := by
  induction h with
  | @col n z k h =>
    have t := (tm_txt ((hp _ h).mono (show 12 ≤ 100 by decide))).mono (show 0 ≤ 1 by decide) (show 2000 ≤ 4100 by decide)
    refine (tm_word (w := "column") (k := 1) (m := 4100) (by decide +kernel) (fun o ho => by rw [List.mem_singleton.mp ho]; exact t)).mono (by omega) ?_
    show 4100 * 1 + 2 * 1 + 26 ≤ 3 * szX n + 4200
    omega
  | @val n k d h _ =>
    refine (tm_word (w := "value") (k := 1) (m := 4100) (by decide +kernel) (fun o ho => by rw [List.mem_singleton.mp ho]; exact h.tm)).mono (by omega) ?_
    show 4100 * 1 + 2 * 1 + 26 ≤ 3 * szX n + 4200
    omega
  | @one n w k r a hw ha ia =>
    refine (tm_word (k := n + 1) (m := szX n) (oneW_len hw) (fun o ho => by rw [List.mem_singleton.mp ho]; exact ia)).mono (by omega) ?_
    show szX n * 1 + 2 * 1 + 26 ≤ 3 * szX n + 4200
    omega
  | @two n w k r a b hw ha hb ia ib =>
    refine (tm_word (k := n + 1) (m := szX n) (twoW_len hw) (fun o ho => by simp only [List.mem_cons, List.not_mem_nil, or_false] at ho; rcases ho with rfl | rfl; exact ia; exact ib)).mono (by omega) ?_
    show szX n * 2 + 2 * 2 + 26 ≤ 3 * szX n + 4200
    omega
  | @iff n k a b c ha hb hc ia ib ic =>
    refine (tm_word (w := "if") (k := n + 1) (m := szX n) (by decide +kernel) (fun o ho => by simp only [List.mem_cons, List.not_mem_nil, or_false] at ho; rcases ho with rfl | rfl | rfl; exact ia; exact ib; exact ic)).mono (by omega) ?_
    show szX n * 3 + 2 * 3 + 26 ≤ 3 * szX n + 4200
    omega
/-! ## odd parts -/
/-- an expression of any depth up to m -/
def spXs (m : Nat) : Sp := fun vs H Q E => ∃ n, n ≤ m ∧ spXp n vs H Q E
theorem fn_xs {P : Program} {w : World} {K : PySem.W.Frag} {mg : Str → Option Value} {base : Heap} {CX : CXT} {f : Addr} {fd : FuncData} {ps : List Str} (m : Nat) (h : ∀ n, FnOk P w K mg base CX (3 + n) f fd ps (spXp n)) : FnOk P w K mg base CX (3 + m) f fd ps (spXs m) :=
  ⟨fun vs H Q E ⟨n, _, q⟩ => (h n).len vs H Q E q, fun A outer s H args us vs Q E hr a b c ⟨n, l, q⟩ => (h n).run A outer s H args us vs Q E (hr.mono (by omega)) a b c q⟩
def od0 : List PyData := [.none, .tuple [], .int 5, .str "plus", .tuple [.str "column"], .tuple [.str "column", .str "a", .str "b"], .tuple [.str "column", .int 5], .tuple [.str "column", .none], .tuple [.str "column", .list []]]
def od1 : List PyData := [.none, .int 5, .tuple [.int 2, .int 4], .tuple [.int 1, .int 0], .str "", .str "A", .str (Txt.mul "a" 13), .tuple [.int 10000000000000000000000000000000000000001, .int 1], .tuple [.int 1, .bool true], .list [], .dict [], .tuple [.int 1, .int 10000000000000000000000000000000000000001]]
abbrev vT : PyData := .tuple [.str "value", .bool true]
def od2 : List PyData := [.tuple [.str "plus"], .tuple [.str "plus", .tuple [.str "value", .tuple [.int 1, .int 1]]], .tuple [.str "not"], .tuple [.str "Not", vT], .tuple [.str "", .int 1], .tuple [.none, .int 1], .tuple [.tuple [.str "not"], vT], .list [.str "not", vT], .tuple [.str "if", vT, vT]]
def oddC (d : PyData) : Bool := okB 8 d && d.showable && decide (d.depth ≤ 12) && decide (d.shown.length ≤ 55000)
theorem od_all : ((od0 ++ od1.map fun x => PyData.tuple [.str "value", x]) ++ od2).all oddC = true := by decide +kernel
theorem od_ok {d : PyData} (h : d ∈ (od0 ++ od1.map fun x => PyData.tuple [.str "value", x]) ++ od2) : okB 8 d = true ∧ Sz 12 55000 d := by
  have := List.all_eq_true.mp od_all d h
  unfold oddC at this
  simp only [Bool.and_eq_true, decide_eq_true_eq] at this
  exact ⟨this.1.1.1, this.1.1.2, this.1.2, this.2⟩
theorem xp_ok {ps : List (Str × Str)} (hp : ∀ p ∈ ps, Sh 12 p.1 ∧ nameB (.str p.1) = true) {n : Nat} {k : Str} {d : PyData} (h : Xp ps n k d) : ∀ m, okB m d = true := by
  have az : ∀ {z : Str}, nameB (.str z) = true → azT z = true := fun {z} h => by
    obtain ⟨_, h1, h2, _⟩ := name_signs h
    unfold azT
    rw [Bool.and_eq_true, decide_eq_true_eq, List.all_eq_true]
    exact ⟨Nat.le_trans h1 (by decide), fun c hc => decide_eq_true (by have := (h2 c hc).2; omega)⟩
  have oth : ∀ {m : Nat} {w : Str} {os : List PyData}, w ≠ "column" → w ≠ "value" → (∀ o ∈ os, ∀ m, okB m o = true) → okB m (.tuple (.str w :: os)) = true := fun {m w os} h1 h2 h3 => by
    cases m with
    | zero => unfold okB; rfl
    | succ m =>
      rw [okB]
      unfold okT
      rw [if_neg h1, if_neg h2, List.all_eq_true]
      exact fun o ho => h3 o ho m
  induction h with
  | @col n z k h =>
    intro m
    cases m with
    | zero => unfold okB; rfl
    | succ m =>
      obtain ⟨h1, h2⟩ := hp _ h
      rw [okB]
      unfold okT
      rw [if_pos rfl]
      show (nameB (.str z) && azT z) = true
      rw [h2, az h2]
      rfl
  | @val n k d h _ =>
    intro m
    cases m with
    | zero => unfold okB; rfl
    | succ m =>
      rw [okB]
      unfold okT
      rw [if_neg (by decide +kernel), if_pos rfl]
      cases h with
      | word _ h => exact az h
      | _ => rfl
  | @one n w k r a hw ha ia =>
    refine fun m => oth ?_ ?_ fun o ho => by rw [List.mem_singleton.mp ho]; exact ia
    · rcases hw with ⟨rfl, _⟩ | ⟨rfl, _⟩ <;> decide +kernel
    · rcases hw with ⟨rfl, _⟩ | ⟨rfl, _⟩ <;> decide +kernel
  | @two n w k r a b hw ha hb ia ib =>
    refine fun m => oth ?_ ?_ fun o ho => by simp only [List.mem_cons, List.not_mem_nil, or_false] at ho; rcases ho with rfl | rfl; exact ia; exact ib
    · rcases hw with ⟨rfl | rfl | rfl | rfl, _⟩ | ⟨rfl, _⟩ | ⟨rfl, _⟩ | ⟨rfl | rfl, _⟩ <;> decide +kernel
    · rcases hw with ⟨rfl | rfl | rfl | rfl, _⟩ | ⟨rfl, _⟩ | ⟨rfl, _⟩ | ⟨rfl | rfl, _⟩ <;> decide +kernel
  | @iff n k a b c ha hb hc ia ib ic =>
    refine fun m => oth (by decide +kernel) (by decide +kernel) fun o ho => by simp only [List.mem_cons, List.not_mem_nil, or_false] at ho; rcases ho with rfl | rfl | rfl; exact ia; exact ib; exact ic
theorem okB_word {w : Str} {os : List PyData} (h1 : w ≠ "column") (h2 : w ≠ "value") (h : ∀ o ∈ os, okB 8 o = true) : okB 8 (.tuple (.str w :: os)) = true := by
  rw [okB]
  unfold okT
  rw [if_neg h1, if_neg h2, List.all_eq_true]
  exact fun o ho => okB_le (h o ho) (by decide)
/-- what is drawn: valid or not, of this size -/
def NewO (t c : Addr) (H : Hp) (k n : Nat) (Q : VK) : Prop := ∀ (v : V) (d : PyData) (H' : Hp), DhT t H' v d → okB 8 d = true → Sz k n d → TapeL c H' t → SameB t H H' → Q v H'
def spOd : Sp := fun vs H Q _ => ∃ (t c L : Addr) (xs : List V) (ps : List (Str × Str)), vs = [.ref t, .ref L] ∧ TapeL c H t ∧ H L = some (.tup xs) ∧ Cols H xs ps ∧ ColsN ps ∧ NewO t c H 12 55000 Q
theorem newT {t c : Addr} {H : Hp} {a : Addr} {xs : List V} {ds : List PyData} (T : TapeL c H t) (g : H a = none) (h : DhAll (dl t H) xs ds) : ∃ H1, upd H a (.tup xs) = H1 ∧ DhT t H1 (.ref a) (.tuple ds) ∧ TapeL c H1 t ∧ Same H H1 := by
  have s := Same.upd (o := .tup xs) g
  exact ⟨_, rfl, .tup (dl_at (T.tape.ne g) upd_same) (h.same (dl_same (Same.b t s))), T.same s, s⟩
theorem newL {t c : Addr} {H : Hp} {a : Addr} {xs : List V} {ds : List PyData} (T : TapeL c H t) (g : H a = none) (h : DhAll (dl t H) xs ds) : ∃ H1, upd H a (.lst xs) = H1 ∧ DhT t H1 (.ref a) (.list ds) ∧ TapeL c H1 t ∧ Same H H1 := by
  have s := Same.upd (o := .lst xs) g
  exact ⟨_, rfl, .lst (dl_at (T.tape.ne g) upd_same) (h.same (dl_same (Same.b t s))), T.same s, s⟩
theorem newD {t c : Addr} {H : Hp} {a : Addr} (T : TapeL c H t) (g : H a = none) : ∃ H1, upd H a (.dK []) = H1 ∧ DhT t H1 (.ref a) (.dict []) ∧ TapeL c H1 t ∧ Same H H1 := by
  have s := Same.upd (o := .dK []) g
  exact ⟨_, rfl, .dct (dl_at (T.tape.ne g) upd_same), T.same s, s⟩
theorem dts {t : Addr} {H H1 : Hp} {v : V} {d : PyData} (h : DhT t H v d) (s : Same H H1) : DhT t H1 v d := h.same (dl_same (Same.b t s))
theorem dtsA {t : Addr} {H H1 : Hp} {vs : List V} {ds : List PyData} (h : DhAll (dl t H) vs ds) (s : Same H H1) : DhAll (dl t H1) vs ds := h.same (dl_same (Same.b t s))
/-! ## terms of data -/
structure Lit (te : TE) (d : PyData) : Prop where
  go : ∀ {σ : L2.St} {H : Hp} {Q : VK} {t c : Addr}, TapeL c H t → (∀ v H', DhT t H' v d → TapeL c H' t → Same H H' → Q v H') → te σ H Q
structure LitA (ta : TA) (ds : List PyData) : Prop where
  go : ∀ {σ : L2.St} {H : Hp} {Q : List V → Hp → Prop} {t c : Addr}, TapeL c H t → (∀ vs H', DhAll (dl t H') vs ds → TapeL c H' t → Same H H' → Q vs H') → ta σ H Q
theorem lit_non : Lit (tC .non) .none := ⟨fun T k => k _ _ .non T (Same.refl _)⟩
theorem lit_int {i : Int} : Lit (tC (.int i)) (.int i) := ⟨fun T k => k _ _ (.int _) T (Same.refl _)⟩
theorem lit_str {z : Str} : Lit (tC (.str z)) (.str z) := ⟨fun T k => k _ _ (.str _) T (Same.refl _)⟩
theorem lit_bl {b : Bool} : Lit (tC (.bl b)) (.bool b) := ⟨fun T k => k _ _ (.bl _) T (Same.refl _)⟩
theorem lita_nil : LitA tNil [] := ⟨fun T k => k _ _ .nil T (Same.refl _)⟩
theorem lita_cons {te : TE} {ta : TA} {d : PyData} {ds : List PyData} (h : Lit te d) (r : LitA ta ds) : LitA (tCons te ta) (d :: ds) := ⟨fun T k => h.go T fun v H1 d1 T1 s1 => r.go T1 fun vs H2 d2 T2 s2 => k _ _ (.cons (dts d1 s2) d2) T2 (s1.trans s2)⟩
theorem lit_tup {ta : TA} {ds : List PyData} (h : LitA ta ds) (l : ds.length ≤ sizeLine := by decide) : Lit (tTup ta) (.tuple ds) := ⟨fun T k => h.go T fun vs H1 d1 T1 s1 => ⟨by rw [d1.len]; exact l, fun p hp => by
  obtain ⟨H2, e, d2, T2, s2⟩ := newT T1 hp d1
  rw [e]
  exact k _ _ d2 T2 (s1.trans s2)⟩⟩
theorem lit_lst {ta : TA} {ds : List PyData} (h : LitA ta ds) (l : ds.length ≤ sizeLine := by decide) : Lit (tLst ta) (.list ds) := ⟨fun T k => h.go T fun vs H1 d1 T1 s1 => ⟨by rw [d1.len]; exact l, fun p hp => by
  obtain ⟨H2, e, d2, T2, s2⟩ := newL T1 hp d1
  rw [e]
  exact k _ _ d2 T2 (s1.trans s2)⟩⟩
theorem lit_dct : Lit tDNewK (.dict []) := ⟨fun T k p hp => by
  obtain ⟨H2, e, d2, T2, s2⟩ := newD T hp
  rw [e]
  exact k _ _ d2 T2 s2⟩
theorem lit_big : Lit (tOp (rI0 fun i j => V.int (i + j)) (tOp (rI CPow fun i j => .int (i ^ j.toNat)) (tC (.int 10)) (tC (.int 40))) (tC (.int 1))) (.int 10000000000000000000000000000000000000001) := ⟨fun {σ H Q t c} T k => by
  refine ⟨_, _, rfl, rfl, ⟨by decide, by decide, by decide⟩, _, _, rfl, rfl, ?_⟩
  show Q (.int ((10 : Int) ^ (40 : Int).toNat + 1)) H
  rw [p40]
  exact k _ _ (.int _) T (Same.refl _)⟩
theorem lit_a13 : Lit (tOp rMulS (tC (.str "a")) (tC (.int 13))) (.str (Txt.mul "a" 13)) := ⟨fun T k => ⟨_, _, rfl, rfl, (by unfold MulOk; decide +kernel), k _ _ (.str _) T (Same.refl _)⟩⟩
/-- a local that holds a list, and a list of data -/
theorem lit_cat {i : Nat} {te : TE} {ds es : List PyData} (h : Lit te (.list es)) (l : ds.length + es.length ≤ sizeLine := by decide) {σ : L2.St} {H : Hp} {Q : VK} {t c : Addr} {v : V} (T : TapeL c H t) (hi : σ[i]? = some (some v)) (hv : DhT t H v (.list ds))
    (k : ∀ v H', DhT t H' v (.list (ds ++ es)) → TapeL c H' t → Same H H' → Q v H') : tOp rCat (tVar i) te σ H Q := by
  refine ⟨v, hi, h.go T fun u H1 d1 T1 s1 => ?_⟩
  cases dts hv s1 with
  | @lst a xs _ e1 e2 =>
  cases d1 with
  | @lst b ys _ g1 g2 =>
  refine ⟨_, _, _, _, rfl, rfl, (dl_of e1).2, (dl_of g1).2, by rw [e2.len, g2.len]; exact l, fun p hp => ?_⟩
  obtain ⟨H2, e, d2, T2, s2⟩ := newL T1 hp (e2.append g2)
  rw [e]
  exact k _ _ d2 T2 (s1.trans s2)
theorem dhs_snoc {H : Hp} {vs : List V} {ds : List PyData} {v : V} {d : PyData} (h : DhAll H vs ds) (g : Dh H v d) : DhAll H (vs ++ [v]) (ds ++ [d]) := h.append (.cons g .nil)
section
variable {P : Program} {w : World} {K : PySem.W.Frag} {mg : Str → Option Value} {base : Heap} {f : Addr} {fd : FuncData}
theorem ok_KlN {fA fB : Addr} {fdA fdB : FuncData} (F : Fun K "_law_kind" "_law_kind" sKl f fd) (T : Bt mg)
    (GA : FnOk P w K mg base CX0 2 fA fdA ["_law_value"] (spVl)) (mA : mg "_law_value_kind" = some (.ref fA)) (kA : PySem.W.keepIn K (.ref fA) = true) (bA : Binds K fdA ["_law_value"] [])
    (GB : FnOk P w K mg base CX0 1 fB fdB ["_law_word"] (spWn)) (mB : mg "_law_wanted" = some (.ref fB)) (kB : PySem.W.keepIn K (.ref fB) = true) (bB : Binds K fdB ["_law_word"] [])
    (mX : mg "_law_kind" = some (.ref f)) (kX : PySem.W.keepIn K (.ref f) = true) (bX : Binds K fd pKl []) : ∀ n : Nat, FnG P w K mg base (2 + n + 1) f fd pKl (spKl n)
  | 0 => ok_Kl F T 0 GA mA kA bA GB mB kB bB fn_noneG mX kX bX
  | n + 1 => ok_Kl F T (n + 1) GA mA kA bA GB mB kB bB (ok_KlN F T GA mA kA bA GB mB kB bB mX kX bX n) mX kX bX
abbrev sOd : Stmt := top 41
abbrev nOd : List Str := ["_law_tape_here", "_law_columns_here", "_law_way", "_law_odd", "_law_bad", "_law_found", "_law_turn"]
abbrev pOd : List Str := ["_law_tape_here", "_law_columns_here"]
theorem scOd : FnScope nOd pOd (defScope sOd) := ⟨rfl, rfl, rfl, by decide +kernel, rfl, by decide +kernel, by decide +kernel⟩
section
variable {fA_ fB_ : Addr} {fdA_ fdB_ : FuncData}
theorem ok_Od (F : Fun K "_law_odd_part" "_law_odd_part" sOd f fd) (T : Bt mg)
    (GA_ : FnOk P w K mg base CX0 1 fA_ fdA_ ["_law_tape_here", "_law_many"] (spDrawL)) (mA_ : mg "_law_draw" = some (.ref fA_)) (kA_ : PySem.W.keepIn K (.ref fA_) = true) (bA_ : Binds K fdA_ ["_law_tape_here", "_law_many"] [])
    (GB_ : FnOk P w K mg base CX0 9 fB_ fdB_ ["_law_tape_here", "_law_columns_here", "_law_kind_here", "_law_depth"] (spXs 6)) (mB_ : mg "_law_expression" = some (.ref fB_)) (kB_ : PySem.W.keepIn K (.ref fB_) = true) (bB_ : Binds K fdB_ ["_law_tape_here", "_law_columns_here", "_law_kind_here", "_law_depth"] []) : FnOk P w K mg base CX0 10 f fd pOd (spOd) := by
  refine F.ok scOd (fun vs H Q E h => ?_) (fun cdv A outer s H vs Q E hr h => ?_)
  · obtain ⟨t, c, L, xs, ps, rfl, _⟩ := h
    rfl
  · obtain ⟨t, c, L, xs, ps, rfl, hT, hL, hc, cn, k⟩ := h
    have hrA_ : Room (1) _ := hr.mono (by first | decide | omega)
    have hrB_ : Room (9) _ := hr.mono (by first | decide | omega)
    refine ⟨_, (pss_cons (ps_set (i := 2) scOd.nd rfl (Or.inl rfl) (pe_call GA_ hrA_ (by rfl) mA_ kA_ bA_ .nil pass0 (pa_cons (pv 0) (pa_cons pe_int pa_nil))))
      (pss_cons (ps_if (pt_cmpR op_eq (pv 2) pe_int (nomark _)) (pss_cons (ps_set (i := 3) scOd.nd rfl (Or.inl rfl) (pe_lst (pa_cons pe_non (pa_cons (pe_tup pa_nil) (pa_cons pe_int (pa_cons pe_str (pa_cons (pe_tup (pa_cons pe_str pa_nil)) (pa_cons (pe_tup (pa_cons pe_str (pa_cons pe_str (pa_cons pe_str pa_nil)))) (pa_cons (pe_tup (pa_cons pe_str (pa_cons pe_int pa_nil))) pa_nil)))))))))
      (pss_one (ps_ret (pe_ix ix_list (pe_op op_cat (pv 3) (pe_lst (pa_cons (pe_tup (pa_cons pe_str (pa_cons pe_non pa_nil))) (pa_cons (pe_tup (pa_cons pe_str (pa_cons (pe_lst pa_nil) pa_nil))) pa_nil)))) (pe_call GA_ hrA_ (by rfl) mA_ kA_ bA_ .nil pass0 (pa_cons (pv 0) (pa_cons pe_int pa_nil))) (fun _ _ => rfl))))) pss_nil)
      (pss_cons (ps_if (pt_cmpR op_eq (pv 2) pe_int (nomark _)) (pss_cons (ps_set (i := 4) scOd.nd rfl (Or.inl rfl) (pe_lst (pa_cons pe_non (pa_cons pe_int (pa_cons (pe_tup (pa_cons pe_int (pa_cons pe_int pa_nil))) (pa_cons (pe_tup (pa_cons pe_int (pa_cons pe_int pa_nil))) (pa_cons pe_str (pa_cons pe_str (pa_cons (pe_op op_mulS pe_str pe_int) (pa_cons (pe_tup (pa_cons (pe_op op_add (pe_op op_pow pe_int pe_int) pe_int) (pa_cons pe_int pa_nil))) (pa_cons (pe_tup (pa_cons pe_int (pa_cons pe_bl pa_nil))) pa_nil)))))))))))
      (pss_one (ps_ret (pe_tup (pa_cons pe_str (pa_cons (pe_ix ix_list (pe_op op_cat (pv 4) (pe_lst (pa_cons (pe_lst pa_nil) (pa_cons pe_dnewK (pa_cons (pe_tup (pa_cons pe_int (pa_cons (pe_op op_add (pe_op op_pow pe_int pe_int) pe_int) pa_nil))) pa_nil))))) (pe_call GA_ hrA_ (by rfl) mA_ kA_ bA_ .nil pass0 (pa_cons (pv 0) (pa_cons pe_int pa_nil))) (fun _ _ => rfl)) pa_nil)))))) pss_nil)
      (pss_cons (ps_if (pt_cmpR op_eq (pv 2) pe_int (nomark _)) (pss_cons (ps_set (i := 4) scOd.nd rfl (Or.inl rfl) (pe_lst (pa_cons (pe_tup (pa_cons pe_str pa_nil)) (pa_cons (pe_tup (pa_cons pe_str (pa_cons (pe_tup (pa_cons pe_str (pa_cons (pe_tup (pa_cons pe_int (pa_cons pe_int pa_nil))) pa_nil))) pa_nil))) (pa_cons (pe_tup (pa_cons pe_str pa_nil)) (pa_cons (pe_tup (pa_cons pe_str (pa_cons (pe_tup (pa_cons pe_str (pa_cons pe_bl pa_nil))) pa_nil))) (pa_cons (pe_tup (pa_cons pe_str (pa_cons pe_int pa_nil))) (pa_cons (pe_tup (pa_cons pe_non (pa_cons pe_int pa_nil))) pa_nil))))))))
      (pss_cons (ps_set (i := 4) scOd.nd rfl (Or.inl rfl) (pe_op op_cat (pv 4) (pe_lst (pa_cons (pe_tup (pa_cons (pe_tup (pa_cons pe_str pa_nil)) (pa_cons (pe_tup (pa_cons pe_str (pa_cons pe_bl pa_nil))) pa_nil))) (pa_cons (pe_lst (pa_cons pe_str (pa_cons (pe_tup (pa_cons pe_str (pa_cons pe_bl pa_nil))) pa_nil))) pa_nil)))))
      (pss_one (ps_ret (pe_ix ix_list (pe_op op_cat (pv 4) (pe_lst (pa_cons (pe_tup (pa_cons pe_str (pa_cons (pe_tup (pa_cons pe_str (pa_cons pe_bl pa_nil))) (pa_cons (pe_tup (pa_cons pe_str (pa_cons pe_bl pa_nil))) pa_nil)))) pa_nil))) (pe_call GA_ hrA_ (by rfl) mA_ kA_ bA_ .nil pass0 (pa_cons (pv 0) (pa_cons pe_int pa_nil))) (fun _ _ => rfl)))))) pss_nil)
      (pss_cons (ps_if (pt_cmpR op_eq (pv 2) pe_int (nomark _)) (pss_cons (ps_set (i := 5) scOd.nd rfl (Or.inl rfl) (pe_call GB_ hrB_ (by rfl) mB_ kB_ bB_ .nil pass0 (pa_cons (pv 0) (pa_cons (pv 1) (pa_cons pe_str (pa_cons pe_int pa_nil))))))
      (pss_cons (ps_for PassesOwn.never rfl (pi_range1 (by rfl) T.range (pa_cons pe_int pa_nil)) (pg_name (i := 6) scOd.nd rfl (.inl rfl)) (pss_one (ps_set (i := 5) scOd.nd rfl (Or.inl rfl) (pe_tup (pa_cons pe_str (pa_cons (pv 5) pa_nil))))))
      (pss_one (ps_ret (pv 5))))) pss_nil)
      (pss_one (ps_ret (pe_call GB_ hrB_ (by rfl) mB_ kB_ bB_ .nil pass0 (pa_cons (pv 0) (pa_cons (pv 1) (pa_cons (pe_ix ix_list (pe_lst (pa_cons pe_str (pa_cons pe_str (pa_cons pe_str pa_nil)))) (pe_call GA_ hrA_ (by rfl) mA_ kA_ bA_ .nil pass0 (pa_cons (pv 0) (pa_cons pe_int pa_nil))) (fun _ _ => rfl)) (pa_cons pe_int pa_nil)))))))))))), ?_⟩
    have S0 := SameB.refl t H
    have fin : ∀ {H3 : Hp} {v : V} {d : PyData}, DhT t H3 v d → d ∈ (od0 ++ od1.map fun x => PyData.tuple [.str "value", x]) ++ od2 → TapeL c H3 t → SameB t H H3 → Q v H3 := fun {H3 v d} dd hm T3 S3 => k v d H3 dd (od_ok hm).1 (od_ok hm).2 T3 S3
    refine ⟨_, rfl, t, c, _, rfl, hT, by decide, big1000 (by decide) (by decide), fun j H1 j0 j5 T1 S1 => ?_⟩
    refine ⟨_, rfl, rfl, _, rfl, ite2 (fun _ => ?_) (fun _ => ?_)⟩
    · have l0 : Lit _ (.list (od0.take 7)) := lit_lst (lita_cons lit_non (lita_cons (lit_tup lita_nil) (lita_cons lit_int (lita_cons lit_str (lita_cons (lit_tup (lita_cons lit_str lita_nil)) (lita_cons (lit_tup (lita_cons lit_str (lita_cons lit_str (lita_cons lit_str lita_nil)))) (lita_cons (lit_tup (lita_cons lit_str (lita_cons lit_int lita_nil))) lita_nil)))))))
      have l1 : Lit _ (.list (od0.drop 7)) := lit_lst (lita_cons (lit_tup (lita_cons lit_str (lita_cons lit_non lita_nil))) (lita_cons (lit_tup (lita_cons lit_str (lita_cons (lit_lst lita_nil) lita_nil))) lita_nil))
      unfold tSeq tAsg
      refine l0.go T1 fun v H2 d2 T2 s2 => ?_
      refine lit_cat (i := 3) l1 (by decide) T2 rfl d2 fun u H3 d3 T3 s3 => ?_
      cases d3 with
      | @lst r xs _ er dr =>
      have er := dl_of er
      refine ⟨_, rfl, t, c, _, rfl, T3, by decide, big1000 (by decide) (by decide), fun i H4 i0 i9 T4 S4 => ?_⟩
      have lr := dr.len
      have hi : i.toNat < xs.length := by rw [lr]; show i.toNat < 9; omega
      obtain ⟨d, ed, dd⟩ := dr.get _ _ (List.getElem?_eq_getElem hi)
      refine ⟨r, _, _, _, rfl, rfl, SqL.of (S4 _ _ er.1 er.2), at_of (j := i.toNat) (by omega) (List.getElem?_eq_getElem hi), ?_⟩
      exact fin (dd.same (dl_same S4)) (List.mem_append_left _ (List.mem_append_left _ (List.mem_of_getElem? (l := od0) ed))) T4 ((S1.trans (Same.b t (s2.trans s3))).trans S4)
    refine ⟨_, rfl, rfl, _, rfl, ite2 (fun _ => ?_) (fun _ => ?_)⟩
    · have l0 : Lit _ (.list (od1.take 9)) := (lit_lst (lita_cons lit_non (lita_cons lit_int (lita_cons (lit_tup (lita_cons lit_int (lita_cons lit_int lita_nil))) (lita_cons (lit_tup (lita_cons lit_int (lita_cons lit_int lita_nil))) (lita_cons lit_str (lita_cons lit_str (lita_cons lit_a13 (lita_cons (lit_tup (lita_cons lit_big (lita_cons lit_int lita_nil))) (lita_cons (lit_tup (lita_cons lit_int (lita_cons lit_bl lita_nil))) lita_nil))))))))))
      have l1 : Lit _ (.list (od1.drop 9)) := (lit_lst (lita_cons (lit_lst lita_nil) (lita_cons lit_dct (lita_cons (lit_tup (lita_cons lit_int (lita_cons lit_big lita_nil))) lita_nil))))
      unfold tSeq tAsg
      refine l0.go T1 fun v H2 d2 T2 s2 => ?_
      refine lit_cat (i := 4) l1 (by decide) T2 rfl d2 fun u H3 d3 T3 s3 => ?_
      cases d3 with
      | @lst r xs _ er dr =>
      have er := dl_of er
      refine ⟨_, rfl, t, c, _, rfl, T3, by decide, big1000 (by decide) (by decide), fun i H4 i0 i9 T4 S4 => ?_⟩
      have lr := dr.len
      have hi : i.toNat < xs.length := by rw [lr]; show i.toNat < 12; omega
      obtain ⟨d, ed, dd⟩ := dr.get _ _ (List.getElem?_eq_getElem hi)
      refine ⟨r, _, _, _, rfl, rfl, SqL.of (S4 _ _ er.1 er.2), at_of (j := i.toNat) (by omega) (List.getElem?_eq_getElem hi), ?_⟩
      refine ⟨by show 2 ≤ sizeLine; decide, fun p hp => ?_⟩
      obtain ⟨H5, e5, d5, T5, s5⟩ := newT (ds := [.str "value", d]) T4 hp (.cons (.str _) (.cons (dd.same (dl_same S4)) .nil))
      rw [e5]
      exact fin d5 (List.mem_append_left _ (List.mem_append_right _ (List.mem_map.mpr ⟨d, List.mem_of_getElem? (l := od1) ed, rfl⟩))) T5 (((S1.trans (Same.b t (s2.trans s3))).trans S4).trans (Same.b t s5))
    refine ⟨_, rfl, rfl, _, rfl, ite2 (fun _ => ?_) (fun _ => ?_)⟩
    · have l0 : Lit _ (.list (od2.take 6)) := (lit_lst (lita_cons (lit_tup (lita_cons lit_str lita_nil)) (lita_cons (lit_tup (lita_cons lit_str (lita_cons (lit_tup (lita_cons lit_str (lita_cons (lit_tup (lita_cons lit_int (lita_cons lit_int lita_nil))) lita_nil))) lita_nil))) (lita_cons (lit_tup (lita_cons lit_str lita_nil)) (lita_cons (lit_tup (lita_cons lit_str (lita_cons (lit_tup (lita_cons lit_str (lita_cons lit_bl lita_nil))) lita_nil))) (lita_cons (lit_tup (lita_cons lit_str (lita_cons lit_int lita_nil))) (lita_cons (lit_tup (lita_cons lit_non (lita_cons lit_int lita_nil))) lita_nil)))))))
      have l1 : Lit _ (.list ((od2.drop 6).take 2)) := (lit_lst (lita_cons (lit_tup (lita_cons (lit_tup (lita_cons lit_str lita_nil)) (lita_cons (lit_tup (lita_cons lit_str (lita_cons lit_bl lita_nil))) lita_nil))) (lita_cons (lit_lst (lita_cons lit_str (lita_cons (lit_tup (lita_cons lit_str (lita_cons lit_bl lita_nil))) lita_nil))) lita_nil)))
      have l2 : Lit _ (.list (od2.drop 8)) := (lit_lst (lita_cons (lit_tup (lita_cons lit_str (lita_cons (lit_tup (lita_cons lit_str (lita_cons lit_bl lita_nil))) (lita_cons (lit_tup (lita_cons lit_str (lita_cons lit_bl lita_nil))) lita_nil)))) lita_nil))
      unfold tSeq tAsg
      refine l0.go T1 fun v H2 d2 T2 s2 => ?_
      refine lit_cat (i := 4) l1 (by decide) T2 rfl d2 fun u H3 d3 T3 s3 => ?_
      refine lit_cat (i := 4) l2 (by decide) T3 rfl d3 fun u4 H4 d4 T4 s4 => ?_
      cases d4 with
      | @lst r xs _ er dr =>
      have er := dl_of er
      refine ⟨_, rfl, t, c, _, rfl, T4, by decide, big1000 (by decide) (by decide), fun i H5 i0 i9 T5 S5 => ?_⟩
      have lr := dr.len
      have hi : i.toNat < xs.length := by rw [lr]; show i.toNat < 9; omega
      obtain ⟨d, ed, dd⟩ := dr.get _ _ (List.getElem?_eq_getElem hi)
      refine ⟨r, _, _, _, rfl, rfl, SqL.of (S5 _ _ er.1 er.2), at_of (j := i.toNat) (by omega) (List.getElem?_eq_getElem hi), ?_⟩
      exact fin (dd.same (dl_same S5)) (List.mem_append_right _ (List.mem_of_getElem? (l := od2) ed)) T5 ((S1.trans (Same.b t ((s2.trans s3).trans s4))).trans S5)
    have hL1 := S1 _ _ (hT.tape.neT hL) hL
    have hc1 := hc.b hT.tape S1
    have xpz : ∀ {n : Nat} {kd : Str} {d : PyData}, Xp ps n kd d → Sz (n + 1) (szX n) d := fun h => tm_sz (xp_tm (fun p hp => (cn.nm p hp).1) h)
    refine ⟨_, rfl, rfl, _, rfl, ite2 (fun _ => ?_) (fun _ => ?_)⟩
    · refine ⟨_, rfl, _, rfl, 3, by decide, t, c, L, "flag", xs, ps, rfl, .inr (.inr rfl), T1, hL1, hc1, cn.ln, fun v d H2 df xp T2 S2 => ?_⟩
      have dt := df.t T1.tape
      have z3 := xpz xp
      refine ⟨8, rfl, by decide, by decide, for_range (n := 8) (fun i σ H' => ∃ (v : V) (d : PyData) (x6 : Option V), σ = [some (.ref t), some (.ref L), some (.int j), none, none, some v, x6] ∧ DhT t H' v d ∧ okB 8 d = true ∧ Sz (4 + i) (szX 3 + 30 * i) d ∧ TapeL c H' t ∧ SameB t H H') ⟨v, d, none, rfl, dt, xp_ok cn.nm xp 8, z3, T2, S1.trans S2⟩ ?_ ?_⟩
      · rintro i σ H3 hi ⟨v, d, x6, rfl, dd, ok, zz, T3, S3⟩
        refine ⟨_, rfl, by show 2 ≤ sizeLine; decide, fun p hp => ?_⟩
        obtain ⟨H4, e4, d4, T4, s4⟩ := newT (ds := [.str "not", d]) T3 hp (.cons (.str _) (.cons dd .nil))
        rw [e4]
        have zn : Sz 0 20 (.str "not") := ⟨rfl, Nat.le_refl _, by decide +kernel⟩
        refine ⟨_, _, _, rfl, d4, okB_word (by decide +kernel) (by decide +kernel) (fun o ho => by rw [List.mem_singleton.mp ho]; exact ok), ((SzA.cons (zn.mono (Nat.zero_le _) (Nat.le_refl _)) (.cons zz .nil)).tup).mono (by omega) (by show 20 + (szX 3 + 30 * i + 0) + 2 * 2 + 3 ≤ szX 3 + 30 * (i + 1); omega), T4, S3.trans (Same.b t s4)⟩
      · rintro σ H3 ⟨v, d, x6, rfl, dd, ok, zz, T3, S3⟩
        exact ⟨_, rfl, k v d H3 dd ok (zz.mono (by decide) (by decide +kernel)) T3 S3⟩
    · refine ⟨_, rfl, _, rfl, by show 3 ≤ sizeLine; decide, fun Y hY => ?_⟩
      have zY := Same.upd (o := .lst [.str "number", .str "word", .str "flag"]) hY
      have nY := T1.tape.ne hY
      refine ⟨_, rfl, t, c, _, rfl, T1.same zY, by decide, big1000 (by decide) (by decide), fun i H3 i0 i3 T3 S3 => ?_⟩
      have S13 := (Same.b t zY).trans S3
      have all : ∀ v ∈ ([.str "number", .str "word", .str "flag"] : List V), ∃ z : Str, v = .str z ∧ KindS z := by
        intro v hv
        simp only [List.mem_cons, List.not_mem_nil, or_false] at hv
        rcases hv with rfl | rfl | rfl
        · exact ⟨_, rfl, .inl rfl⟩
        · exact ⟨_, rfl, .inr (.inl rfl)⟩
        · exact ⟨_, rfl, .inr (.inr rfl)⟩
      have hj : i.toNat < ([.str "number", .str "word", .str "flag"] : List V).length := by show i.toNat < 3; omega
      obtain ⟨z, ez, sz⟩ := all _ (List.getElem_mem hj)
      refine ⟨Y, _, _, _, rfl, rfl, SqL.of (S3 _ _ nY upd_same), at_of (j := i.toNat) (by omega) ((List.getElem?_eq_getElem hj).trans (congrArg some ez)), 2, by decide, t, c, L, z, xs, ps, rfl, sz, T3, S13 _ _ (T1.tape.neT hL1) hL1, hc1.b T1.tape S13, cn.ln, fun v d H4 df xp T4 S4 => ?_⟩
      exact k v d H4 (df.t T3.tape) (xp_ok cn.nm xp 8) ((xpz xp).mono (by decide) (by decide +kernel)) T4 ((S1.trans S13).trans S4)
end
end
end K09
set_option Elab.async false
set_option linter.all false
set_option maxRecDepth 100000
set_option maxHeartbeats 4000000
namespace K09
open PySem PySem.Spec PyProof.Rows L2 Lc
/-! ## bent expressions -/
def cutD (ds : List PyData) (lo hi : Option Int) : List PyData := (ds.drop (HT.sIx ds.length 0 lo)).take (HT.sIx ds.length ds.length hi - HT.sIx ds.length 0 lo)
theorem dh_drop {H : Hp} : ∀ {xs : List V} {ds : List PyData} (i : Nat), DhAll H xs ds → DhAll H (xs.drop i) (ds.drop i)
  | _, _, 0, h => h
  | _, _, i + 1, .nil => .nil
  | _, _, i + 1, .cons _ r => dh_drop i r
theorem dh_take {H : Hp} : ∀ {xs : List V} {ds : List PyData} (i : Nat), DhAll H xs ds → DhAll H (xs.take i) (ds.take i)
  | _, _, 0, _ => .nil
  | _, _, i + 1, .nil => .nil
  | _, _, i + 1, .cons h r => .cons h (dh_take i r)
theorem dh_cut {H : Hp} {xs : List V} {ds : List PyData} {lo hi : Option Int} (h : DhAll H xs ds) : DhAll H (cutV xs lo hi) (cutD ds lo hi) := by
  unfold cutV cutD
  rw [h.len]
  exact dh_take _ (dh_drop _ h)
theorem cutD_to {ds : List PyData} {v : Nat} (h : v ≤ ds.length) : cutD ds none (some (v : Int)) = ds.take v := by
  have e1 : HT.sIx ds.length 0 none = 0 := rfl
  have e2 : HT.sIx ds.length ds.length (some (v : Int)) = v := by
    rw [HT.sIx_nat]
    omega
  unfold cutD
  rw [e1, e2]
  simp
theorem cutD_from {ds : List PyData} {v : Nat} (h : v ≤ ds.length) : cutD ds (some (v : Int)) none = ds.drop v := by
  have e1 : HT.sIx ds.length ds.length none = ds.length := rfl
  have e2 : HT.sIx ds.length 0 (some (v : Int)) = v := by
    rw [HT.sIx_nat]
    omega
  unfold cutD
  rw [e1, e2]
  exact List.take_of_length_le (by rw [List.length_drop]; omega)
theorem slA {K : PySem.W.Frag} {t c : Addr} {H : Hp} {Q : VK} {v : V} {ds : List PyData} {lo hi : Option Int} (h : DhT t H v (.tuple ds)) (T : TapeL c H t) (k : ∀ r H', DhT t H' r (.tuple (cutD ds lo hi)) → TapeL c H' t → Same H H' → Q r H') : rSlA K v lo hi H Q := by
  cases h with
  | @tup a xs _ e hs =>
  refine ⟨a, xs, rfl, SqT.of (dl_of e).2, fun z => ?_, fun _ p hp => ?_⟩
  · refine k _ _ ?_ T (Same.refl H)
    have : cutD ds lo hi = ds := by
      rw [hs.len] at z
      unfold cutD
      rw [z.1, z.2]
      simp
    rw [this]
    exact .tup e hs
  · obtain ⟨H1, e1, d1, T1, s1⟩ := newT T hp (dh_cut (lo := lo) (hi := hi) hs)
    rw [e1]
    exact k _ _ d1 T1 s1
theorem catD {K : PySem.W.Frag} {t c : Addr} {H : Hp} {Q : VK} {v u : V} {ds es : List PyData} (h : DhT t H v (.tuple ds)) (g : DhT t H u (.tuple es)) (T : TapeL c H t) (l : ds.length + es.length ≤ 1000) (k : ∀ r H', DhT t H' r (.tuple (ds ++ es)) → TapeL c H' t → Same H H' → Q r H') : rCatA K v u H Q := by
  have h0 := h
  have g0 := g
  cases h with
  | @tup a xs _ e hs =>
  cases g with
  | @tup b ys _ e' gs =>
  refine ⟨a, b, xs, ys, rfl, rfl, SqT.of (dl_of e).2, SqT.of (dl_of e').2, by rw [hs.len, gs.len]; exact Nat.le_trans l (by decide), fun z => ?_, fun _ z => ?_, fun _ _ p hp => ?_⟩
  · subst z
    cases hs
    exact k _ _ g0 T (Same.refl H)
  · subst z
    cases gs
    rw [List.append_nil] at k
    exact k _ _ h0 T (Same.refl H)
  · obtain ⟨H1, e1, d1, T1, s1⟩ := newT T hp (hs.append gs)
    rw [e1]
    exact k _ _ d1 T1 s1
theorem sz_all {k m : Nat} : ∀ {l : List PyData}, (∀ o ∈ l, Sz k m o) → SzA k (m * l.length) l
  | [], _ => .nil
  | d :: l, h => by
    rw [List.length_cons, Nat.mul_succ, Nat.add_comm]
    exact .cons (h d List.mem_cons_self) (sz_all fun o ho => h o (List.mem_cons_of_mem _ ho))
/-- what an expression is made of -/
theorem xp_ops {ps : List (Str × Str)} {n : Nat} {k : Str} {d : PyData} (h : Xp ps (n + 1) k d) : ∃ w os, d = .tuple (.str w :: os) ∧ (PyData.str w).shown.length ≤ 20 ∧ os.length ≤ 3 ∧ 1 ≤ os.length ∧ ((w = "column" ∨ w = "value") ∨ (w ≠ "column" ∧ w ≠ "value" ∧ ∀ o ∈ os, ∃ k', Xp ps n k' o)) := by
  cases h with
  | @col _ z k h => exact ⟨_, _, rfl, by decide +kernel, by simp, by simp, .inl (.inl rfl)⟩
  | @val _ k d h nn => exact ⟨_, _, rfl, by decide +kernel, by simp, by simp, .inl (.inr rfl)⟩
  | @one _ w k r a hw ha =>
    refine ⟨_, _, rfl, oneW_len hw, by simp, by simp, .inr ⟨?_, ?_, fun o ho => by rw [List.mem_singleton.mp ho]; exact ⟨_, ha⟩⟩⟩
    · rcases hw with ⟨rfl, _⟩ | ⟨rfl, _⟩ <;> decide +kernel
    · rcases hw with ⟨rfl, _⟩ | ⟨rfl, _⟩ <;> decide +kernel
  | @two _ w k r a b hw ha hb =>
    refine ⟨_, _, rfl, twoW_len hw, by simp, by simp, .inr ⟨?_, ?_, fun o ho => by simp only [List.mem_cons, List.not_mem_nil, or_false] at ho; rcases ho with rfl | rfl; exact ⟨_, ha⟩; exact ⟨_, hb⟩⟩⟩
    · rcases hw with ⟨rfl | rfl | rfl | rfl, _⟩ | ⟨rfl, _⟩ | ⟨rfl, _⟩ | ⟨rfl | rfl, _⟩ <;> decide +kernel
    · rcases hw with ⟨rfl | rfl | rfl | rfl, _⟩ | ⟨rfl, _⟩ | ⟨rfl, _⟩ | ⟨rfl | rfl, _⟩ <;> decide +kernel
  | @iff _ k a b c ha hb hc =>
    exact ⟨_, _, rfl, by decide +kernel, by simp, by simp, .inr ⟨by decide +kernel, by decide +kernel, fun o ho => by simp only [List.mem_cons, List.not_mem_nil, or_false] at ho; rcases ho with rfl | rfl | rfl; exact ⟨_, ha⟩; exact ⟨_, hb⟩; exact ⟨_, hc⟩⟩⟩
def bsz : Nat → Nat
  | 0 => 55000
  | n + 1 => bsz n + 2 * szX n + 40
theorem bsz_le : ∀ n, 55000 ≤ bsz n
  | 0 => Nat.le_refl _
  | n + 1 => Nat.le_trans (bsz_le n) (by show bsz n ≤ bsz n + 2 * szX n + 40; omega)
def spBn (n : Nat) : Sp := fun vs H Q _ => ∃ (t c L : Addr) (v : V) (xs : List V) (ps : List (Str × Str)) (kd : Str) (d : PyData), vs = [.ref t, .ref L, v] ∧ TapeL c H t ∧ H L = some (.tup xs) ∧ Cols H xs ps ∧ ColsN ps ∧ DhT t H v d ∧ Xp ps (n + 1) kd d ∧ NewO t c H (13 + n) (bsz (n + 1)) Q
def spBnP : Nat → Sp
  | 0 => fun _ _ _ _ => False
  | n + 1 => spBn n
theorem fn_noneB {P : Program} {w : World} {K : PySem.W.Frag} {mg : Str → Option Value} {base : Heap} {f : Addr} {fd : FuncData} {ps : List Str} {k : Nat} : FnOk P w K mg base CX0 k f fd ps (spBnP 0) := ⟨fun _ _ _ _ h => h.elim, fun _ _ _ _ _ _ _ _ _ _ _ _ _ h => h.elim⟩
section
variable {P : Program} {w : World} {K : PySem.W.Frag} {mg : Str → Option Value} {base : Heap} {f : Addr} {fd : FuncData}
abbrev sBn : Stmt := top 42
abbrev nBn : List Str := ["_law_tape_here", "_law_columns_here", "_law_expression_here", "_law_at", "_law_new"]
abbrev pBn : List Str := ["_law_tape_here", "_law_columns_here", "_law_expression_here"]
theorem scBn : FnScope nBn pBn (defScope sBn) := ⟨rfl, rfl, rfl, by decide +kernel, rfl, by decide +kernel, by decide +kernel⟩
section
variable {fA_ fB_ fC_ : Addr} {fdA_ fdB_ fdC_ : FuncData}
theorem ok_Bn (F : Fun K "_law_bent" "_law_bent" sBn f fd) (T : Bt mg) (n : Nat)
    (GA_ : FnOk P w K mg base CX0 1 fA_ fdA_ ["_law_tape_here", "_law_many"] (spDrawL)) (mA_ : mg "_law_draw" = some (.ref fA_)) (kA_ : PySem.W.keepIn K (.ref fA_) = true) (bA_ : Binds K fdA_ ["_law_tape_here", "_law_many"] [])
    (GB_ : FnOk P w K mg base CX0 10 fB_ fdB_ ["_law_tape_here", "_law_columns_here"] (spOd)) (mB_ : mg "_law_odd_part" = some (.ref fB_)) (kB_ : PySem.W.keepIn K (.ref fB_) = true) (bB_ : Binds K fdB_ ["_law_tape_here", "_law_columns_here"] [])
    (GC_ : FnOk P w K mg base CX0 (10 + n) fC_ fdC_ ["_law_tape_here", "_law_columns_here", "_law_expression_here"] (spBnP n)) (mC_ : mg "_law_bent" = some (.ref fC_)) (kC_ : PySem.W.keepIn K (.ref fC_) = true) (bC_ : Binds K fdC_ ["_law_tape_here", "_law_columns_here", "_law_expression_here"] []) : FnOk P w K mg base CX0 (10 + n + 1) f fd pBn (spBn n) := by
  refine F.ok scBn (fun vs H Q E h => ?_) (fun cdv A outer s H vs Q E hr h => ?_)
  · obtain ⟨t, c, L, v, xs, ps, kd, d, rfl, _⟩ := h
    rfl
  · obtain ⟨t, c, L, v, xs, ps, kd, d, rfl, hT, hL, hc, cn, hd, hx, k⟩ := h
    have hrA_ : Room (1) _ := hr.mono (by first | decide | omega)
    have hrB_ : Room (10) _ := hr.mono (by first | decide | omega)
    have hrC_ : Room ((10 + n)) _ := hr.mono (by first | decide | omega)
    refine ⟨_, (pss_cons (ps_if (PW.pt (pw_or (pt_cmpR op_in_seq (pe_ix ix_tup (pv 2) pe_int (fun _ _ => rfl)) (pe_tup (pa_cons pe_str (pa_cons pe_str pa_nil))) (by rfl)) (pw_or1 (pt_cmpR op_eq (pe_call GA_ hrA_ (by rfl) mA_ kA_ bA_ .nil pass0 (pa_cons (pv 0) (pa_cons pe_int pa_nil))) pe_int (nomark _))))) (pss_one (ps_ret (pe_call GB_ hrB_ (by rfl) mB_ kB_ bB_ .nil pass0 (pa_cons (pv 0) (pa_cons (pv 1) pa_nil))))) pss_nil)
      (pss_cons (ps_set (i := 3) scBn.nd rfl (Or.inl rfl) (pe_op op_add pe_int (pe_call GA_ hrA_ (by rfl) mA_ kA_ bA_ .nil pass0 (pa_cons (pv 0) (pa_cons (pe_op op_sub (pe_callB call_len_seq (by rfl) T.len PySem.boot_len (pa_cons (pv 2) pa_nil)) pe_int) pa_nil)))))
      (pss_cons (ps_set (i := 4) scBn.nd rfl (Or.inl rfl) (pe_call GC_ hrC_ (by rfl) mC_ kC_ bC_ .nil pass0 (pa_cons (pv 0) (pa_cons (pv 1) (pa_cons (pe_ix ix_tup (pv 2) (pv 3) (fun _ _ => rfl)) pa_nil)))))
      (pss_one (ps_ret (pe_op op_catA (pe_op op_catA (pe_slice sl_tupA (pv 2) po_none (po_some (pv 3))) (pe_tup (pa_cons (pv 4) pa_nil))) (pe_slice sl_tupA (pv 2) (po_some (pe_op op_add (pv 3) pe_int)) po_none))))))), ?_⟩
    obtain ⟨wd, os, rfl, hw, l3, l1, hs⟩ := xp_ops hx
    cases hd with
    | @tup a ys0 _ ea hs0 =>
    have hd0 : DhT t H (.ref a) (.tuple (.str wd :: os)) := .tup ea hs0
    cases hs0 with
    | @cons _ ys _ _ h1 r1 =>
    cases h1
    have ly := r1.len
    have sE : ∀ (a b : Str), decide (V.str a = V.str b) = decide (a = b) := fun a b => decide_eq_decide.mpr ⟨fun e => by injection e, fun e => by rw [e]⟩
    have odd : ∀ {H1 : Hp}, TapeL c H1 t → SameB t H H1 → spOd [.ref t, .ref L] H1 Q E0 := fun T1 S1 => ⟨t, c, L, xs, ps, rfl, T1, S1 _ _ (hT.tape.neT hL) hL, hc.b hT.tape S1, cn, fun v d H2 dd ok zz T2 S2 => k v d H2 dd ok (zz.mono (by omega) (bsz_le _)) T2 (S1.trans S2)⟩
    refine ⟨_, rfl, a, _, _, .str wd, rfl, rfl, SqT.of (dl_of ea).2, at_zero, by show 2 ≤ sizeLine; decide, fun p4 g4 => ⟨p4, _, rfl, .inr (SqT.of upd_same), rfl, rfl, ?_⟩⟩
    obtain ⟨H1, e1, _, T1, s1⟩ := newT (ds := [.str "column", .str "value"]) hT g4 (.cons (.str _) (.cons (.str _) .nil))
    rw [e1]
    have S1 := Same.b t s1
    refine ⟨_, rfl, ite2 (fun _ => iteT ⟨_, rfl, _, rfl, odd T1 S1⟩) (fun z => ?_)⟩
    have nw : ¬ (wd = "column" ∨ wd = "value") := fun q => z (by
      show inV (.str wd) [.str "column", .str "value"] = true
      rw [show inV (.str wd) [.str "column", .str "value"] = decide (wd ∈ (["column", "value"] : List Str)) from in_strs (ss := ["column", "value"])]
      exact decide_eq_true (by simpa using q))
    obtain ⟨w1, w2, hs⟩ := hs.resolve_left nw
    refine ⟨_, rfl, t, c, _, rfl, T1, by decide, big1000 (by decide) (by decide), fun j H2 j0 j3 T2 S2 => ⟨rfl, _, rfl, ite2 (fun _ => ⟨_, rfl, _, rfl, odd T2 (S1.trans S2)⟩) (fun _ => ?_)⟩⟩
    have S12 := S1.trans S2
    have ea2 := S12 _ _ (dl_of ea).1 (dl_of ea).2
    refine ⟨_, rfl, _, rfl, a, _, rfl, .inr (SqT.of ea2), _, _, rfl, rfl, t, c, _, rfl, T2, by rw [List.length_cons, ly]; omega, big1000 (by rw [List.length_cons, ly]; omega) (by rw [List.length_cons, ly]; omega), fun i H3 i0 i1 T3 S3 => ⟨_, _, rfl, rfl, ?_⟩⟩
    rw [List.length_cons, ly] at i1
    have S13 := S12.trans S3
    have ea3 := S13 _ _ (dl_of ea).1 (dl_of ea).2
    have hi : i.toNat < os.length := by omega
    have hy : i.toNat < ys.length := by omega
    obtain ⟨o, eo, dho⟩ := r1.get _ _ (List.getElem?_eq_getElem hy)
    obtain ⟨ko, xo⟩ := hs o (List.mem_of_getElem? eo)
    have go : spBnP n [.ref t, .ref L, ys[i.toNat]] H3 (fun v H4 => True) E0 → True := fun _ => True.intro
    refine ⟨_, rfl, _, rfl, _, rfl, _, rfl, a, _, _, ys[i.toNat], rfl, rfl, SqT.of ea3, at_of (j := i.toNat + 1) (by show (1 : Int) + i = _; omega) (by rw [List.getElem?_cons_succ]; exact List.getElem?_eq_getElem hy), ?_⟩
    cases n with
    | zero => cases xo
    | succ m =>
    refine ⟨t, c, L, _, xs, ps, ko, o, rfl, T3, S13 _ _ (hT.tape.neT hL) hL, hc.b hT.tape S13, cn, dho.same (dl_same S13), xo, fun v2 d2 H4 dd ok zz T4 S4 => ?_⟩
    have S14 := S13.trans S4
    have hd4 : DhT t H4 (.ref a) (.tuple (.str wd :: os)) := hd0.same (dl_same S14)
    have e1 : (1 : Int) + i = ((i.toNat + 1 : Nat) : Int) := by omega
    have e2 : (1 : Int) + i + 1 = ((i.toNat + 2 : Nat) : Int) := by omega
    refine ⟨_, rfl, _, rfl, _, rfl, slA hd4 T4 fun r5 H5 d5 T5 s5 => ⟨_, rfl, by show 1 ≤ sizeLine; decide, fun p hp => ?_⟩⟩
    obtain ⟨H6, e6, d6, T6, s6⟩ := newT (ds := [d2]) T5 hp (.cons (dts dd s5) .nil)
    rw [e6]
    rw [e1, cutD_to (by rw [List.length_cons]; omega)] at d5
    refine catD (dts d5 s6) d6 T6 (by rw [List.length_take, List.length_cons]; show _ + 1 ≤ 1000; omega) fun r7 H7 d7 T7 s7 => ⟨_, rfl, _, rfl, ?_⟩
    have s47 := (s5.trans s6).trans s7
    refine ⟨_, _, rfl, rfl, _, rfl, ?_⟩
    unfold tNoPart
    dsimp only
    refine slA (dts hd4 s47) T7 fun r8 H8 d8 T8 s8 => ?_
    rw [e2, cutD_from (by rw [List.length_cons]; omega)] at d8
    refine catD (dts d7 s8) d8 T8 (by rw [List.length_append, List.length_take, List.length_drop, List.length_cons]; show _ + 1 + _ ≤ 1000; omega) fun r9 H9 d9 T9 s9 => ?_
    rw [List.take_succ_cons, List.drop_succ_cons, List.cons_append, List.cons_append] at d9
    have xz : ∀ o ∈ os, Sz (m + 2) (szX (m + 1)) o := fun o ho => by
      obtain ⟨_, xo⟩ := hs o ho
      exact tm_sz (xp_tm (fun p hp => (cn.nm p hp).1) xo)
    have zw : Sz 0 20 (.str wd) := ⟨rfl, Nat.le_refl _, hw⟩
    have za := ((SzA.cons (k := 13 + m) (zw.mono (Nat.zero_le _) (Nat.le_refl _)) (((sz_all fun o ho => xz o (List.mem_of_mem_take ho)).mono (show m + 2 ≤ 13 + m by omega)).app (.cons zz ((sz_all fun o ho => xz o (List.mem_of_mem_drop ho)).mono (show m + 2 ≤ 13 + m by omega))) |>.app .nil)).tup : Sz _ _ (.tuple (.str wd :: (os.take i.toNat ++ d2 :: os.drop (i.toNat + 1) ++ []))))
    rw [List.append_nil] at za
    refine k _ _ _ d9 (okB_word w1 w2 fun o ho => ?_) ?_ T9 (S14.trans (Same.b t ((s47.trans s8).trans s9)))
    · rw [List.append_assoc] at ho
      rcases List.mem_append.mp ho with q | q
      · obtain ⟨_, xo⟩ := hs o (List.mem_of_mem_take q)
        exact xp_ok cn.nm xo 8
      · rcases List.mem_cons.mp q with rfl | q
        · exact ok
        · obtain ⟨_, xo⟩ := hs o (List.mem_of_mem_drop q)
          exact xp_ok cn.nm xo 8
    · rw [List.append_assoc]
      refine za.mono (by omega) ?_
      rw [List.length_cons, List.length_append, List.length_cons, List.length_take, List.length_drop, show min i.toNat os.length = i.toNat by omega]
      have : szX (m + 1) * i.toNat + szX (m + 1) * (os.length - (i.toNat + 1)) ≤ szX (m + 1) * 2 := by
        rw [← Nat.mul_add]
        exact Nat.mul_le_mul_left _ (by omega)
      show _ ≤ bsz (m + 1) + 2 * szX (m + 1) + 40
      omega
end
theorem ok_BnN {fA fB : Addr} {fdA fdB : FuncData} (F : Fun K "_law_bent" "_law_bent" sBn f fd) (T : Bt mg)
    (GA : FnOk P w K mg base CX0 1 fA fdA ["_law_tape_here", "_law_many"] spDrawL) (mA : mg "_law_draw" = some (.ref fA)) (kA : PySem.W.keepIn K (.ref fA) = true) (bA : Binds K fdA ["_law_tape_here", "_law_many"] [])
    (GB : FnOk P w K mg base CX0 10 fB fdB ["_law_tape_here", "_law_columns_here"] spOd) (mB : mg "_law_odd_part" = some (.ref fB)) (kB : PySem.W.keepIn K (.ref fB) = true) (bB : Binds K fdB ["_law_tape_here", "_law_columns_here"] [])
    (mX : mg "_law_bent" = some (.ref f)) (kX : PySem.W.keepIn K (.ref f) = true) (bX : Binds K fd pBn []) : ∀ n : Nat, FnOk P w K mg base CX0 (10 + n + 1) f fd pBn (spBn n)
  | 0 => ok_Bn F T 0 GA mA kA bA GB mB kB bB fn_noneB mX kX bX
  | n + 1 => ok_Bn F T (n + 1) GA mA kA bA GB mB kB bB (ok_BnN F T GA mA kA bA GB mB kB bB mX kX bX n) mX kX bX
end
end K09
set_option Elab.async false
set_option linter.all false
set_option maxRecDepth 100000
set_option maxHeartbeats 4000000
namespace K09
open PySem PySem.Spec PyProof.Rows L2 Lc
/-! ## told -/
structure ExB (K : PySem.W.Frag) (C : Addr) : Prop where
  xf : XfC K C
  xc : XisC K C
  cc : PySem.W.exmOne K (.ref C) (.ref C) = some true
  cv : PySem.W.kitOne K (.ref C) (.type "ValueError") = some true
def trX (K : PySem.W.Frag) (C : Addr) : Addr → Value → Option Addr → L2.TS := fun a cls d => tRet (tIf (tB (tCB (rIsX K cls d C a) (tCons (tVar 2) (tCons (tC (.ty "ValueError")) tNil)))) (tLst (tCons (tC (.str "bad")) (tCons (tXf a cls d C "path" (tVar 2)) tNil))) (tLst (tCons (tC (.str "odd")) tNil)))
def spTd : Sp := fun vs H Q _ => ∃ (L : Addr) (v : V) (xs : List V) (ps : List (Str × Str)) (d : PyData), vs = [.ref L, v] ∧ H L = some (.tup xs) ∧ Cols H xs ps ∧ ColsN ps ∧ Dh H v d ∧ okB 8 d = true ∧ (∀ k, kdA ps 8 [] d = .inl k → ∀ r H', Same H H' → H' r = some (.lst [.str "kind", .str k]) → Q (.ref r) H') ∧ (∀ p', kdA ps 8 [] d = .inr p' → ∀ r v H', Same H H' → H' r = some (.lst [.str "bad", v]) → Dh H' v (pathD p') → Q (.ref r) H')
section
variable {P : Program} {w : World} {K : PySem.W.Frag} {mg : Str → Option Value} {base : Heap} {f C fI fC : Addr} {fd fdI fdC : FuncData}
abbrev sTd : Stmt := top 43
abbrev nTd : List Str := ["_law_columns_here", "_law_expression_here", "_law_kept", "e"]
abbrev pTd : List Str := ["_law_columns_here", "_law_expression_here"]
theorem scTd : FnScope nTd pTd (defScope sTd) := ⟨rfl, rfl, rfl, by decide +kernel, rfl, by decide +kernel, by decide +kernel⟩
theorem ok_Td (F : Fun K "_law_told" "_law_told" sTd f fd) (T : Bt mg) (R : ErF K mg "BadExpression" "path" C fI) (X : ExB K C)
    (GC : FnOk P w K mg base (L2.CX P w) 15 fC fdC ["columns", "expression"] (spKo C)) (mC : mg "kind_of" = some (.ref fC)) (kC : PySem.W.keepIn K (.ref fC) = true) (bC : Binds K fdC ["columns", "expression"] []) : FnOk P w K mg base CX0 16 f fd pTd spTd := by
  refine F.ok scTd (fun vs H Q E h => ?_) (fun cdv A outer s H vs Q E hr h => ?_)
  · obtain ⟨L, v, xs, ps, d, rfl, _⟩ := h
    rfl
  · obtain ⟨L, v, xs, ps, d, rfl, hL, hc, cn, hd, ok, k1, k2⟩ := h
    refine ⟨_, pss_cons (ps_set (i := 2) scTd.nd rfl (Or.inl rfl) pe_non)
      (pss_keep (i := 3) (c := .ref C) (u := fun _ _ _ => False) (ts := fun _ _ _ => tAsg (tVar 3) (gName 2)) (tr := trX K C) (Wout := fun _ _ _ _ => False) (tb := fun W => tRet (tLst (tCons (tC (.str "kind")) (tCons (tCallS (spKo C) (WE W) (tCons (tVar 0) (tCons (tVar 1) tNil))) tNil)))) rfl rfl takes0 ⟨rfl, by decide, Or.inl R.gC⟩ scTd.nd rfl rfl
        (fun W pn xe tk _ => pss_one (ps_ret (pe_lst (pa_cons pe_str (pa_cons (pe_callS GC hr (by rfl) mC kC bC (fun σ => passAt tk σ) (pa_cons (pv 0) (pa_cons (pv 1) pa_nil))) pa_nil)))))
        (fun a ob cls d pn hz hf => pss_one (ps_set (i := 2) scTd.nd rfl (Or.inl rfl) (pv 3)))
        pss_dead
        (fun a ob cls d pn hz hf => pss_one (ps_ret (pe_ifExp (pt_val (pe_callB (call_isP X.xc List.mem_cons_self hz hf) (by rfl) T.isi boot_isinstance (pa_cons (pv 2) (pa_cons (pe_bltn (v := .ty "ValueError") (by rfl) T.ve PyProof.Rows.Boot.«ValueError» rfl) pa_nil))))
          (pe_lst (pa_cons pe_str (pa_cons (pe_xfP X.xf R.nG List.mem_cons_self hz hf (pv 2)) pa_nil))) (pe_lst (pa_cons pe_str pa_nil)))))), ?_⟩
    have two : 2 ≤ sizeLine := by decide
    refine ⟨_, rfl, _, rfl, L, v, xs, ps, d, rfl, hL, hc, cn.nd, cn.ln, hd, ok, fun k0 ek H' s' => ⟨two, fun r hr' => k1 k0 ek r _ (s'.trans (Same.upd hr')) upd_same⟩, fun p ep u H1 s1 hu dx H2 s2 hd2 hx => ?_⟩
    refine ⟨true, X.cc, fun _ a ha => ?_, nofun⟩
    have dd : ∀ dd, some dx = some dd → ∃ fs, H2 dd = some (.xd fs) := fun dd e => by cases e; exact ⟨_, hx⟩
    refine ⟨_, rfl, ?_⟩
    refine ⟨_, rfl, rfl, _, _, _, rfl, .ty "ValueError", dd, X.cv, _, rfl, iteT ⟨_, rfl, rfl, rfl, dx, _, _, rfl, hx, by simp [List.lookup], two, fun r hr' => k2 p ep r u _ ((s1.trans s2).trans (Same.upd hr')) upd_same (hu.same (s2.trans (Same.upd hr')))⟩⟩
end
end K09
set_option Elab.async false
set_option linter.all false
set_option maxRecDepth 100000
set_option maxHeartbeats 4000000
namespace K09
open PySem PySem.Spec PyProof.Rows L2 Lc
/-! ## the law -/
theorem sum_piled : ∀ ts : List Str, (ts.map (·.length)).sum ≤ piled ts
  | [] => Nat.le_refl _
  | t :: ts => by
    rw [piled_cons, List.map_cons, List.sum_cons]
    have := sum_piled ts
    omega
theorem sza_of {k : Nat} : ∀ {ds : List PyData}, PyData.showableAll ds = true → PyData.depthAll ds ≤ k → (∀ d ∈ ds, d.shown.length ≤ ((PyData.shownAll ds).map (·.length)).sum) ∧ SzA k ((PyData.shownAll ds).map (·.length)).sum ds
  | [], _, _ => ⟨nofun, .nil⟩
  | d :: ds, h, g => by
    simp only [PyData.showableAll, Bool.and_eq_true] at h
    simp only [PyData.depthAll] at g
    obtain ⟨i1, i2⟩ := sza_of (k := k) h.2 (by omega)
    simp only [PyData.shownAll, List.map_cons, List.sum_cons]
    refine ⟨fun x hx => ?_, .cons ⟨h.1, by omega, Nat.le_refl _⟩ i2⟩
    rcases List.mem_cons.mp hx with rfl | hx
    · omega
    · have := i1 x hx
      omega
theorem sz_parts {k n : Nat} {ds : List PyData} (h : Sz (k + 1) n (.tuple ds)) : ∃ m, m ≤ n ∧ SzA k m ds := by
  have h1 : PyData.showableAll ds = true := by simpa [PyData.showable] using h.sh
  have h2 := h.dz
  simp only [PyData.depth] at h2
  obtain ⟨_, h3⟩ := sza_of (k := k) h1 (by omega)
  refine ⟨_, ?_, h3⟩
  have h4 := h.ln
  simp only [PyData.shown] at h4
  exact Nat.le_trans (sum_piled _) (Nat.le_trans (piled_le_tupleText _) h4)
theorem SzA.take {k n : Nat} {ds : List PyData} (h : SzA k n ds) : ∀ i, ∃ m, m ≤ n ∧ SzA k m (ds.take i) := by
  induction h with
  | nil => exact fun i => ⟨0, Nat.le_refl _, by rw [List.take_nil]; exact .nil⟩
  | @cons n m d ds h r ih =>
    intro i
    cases i with
    | zero => exact ⟨0, Nat.zero_le _, .nil⟩
    | succ i =>
      obtain ⟨j, l, q⟩ := ih i
      exact ⟨n + j, by omega, .cons h q⟩
theorem ok_two {R : PyData → Bool} {w : Str} {os : List PyData} (h : 2 ≤ os.length) (hR : w ≠ "column" → w ≠ "value" → os.all R = true) : okT R w os = true := by
  unfold okT
  split
  · rcases os with _ | ⟨a, _ | ⟨b, r⟩⟩
    · exact absurd h (by decide)
    · exact absurd h (by show ¬ 2 ≤ 1; decide)
    · cases a <;> first | rfl | (rename_i l; cases l <;> rfl)
  · split
    · rcases os with _ | ⟨a, _ | ⟨b, r⟩⟩
      · exact absurd h (by decide)
      · exact absurd h (by show ¬ 2 ≤ 1; decide)
      · cases a <;> rfl
    · exact hR (by assumption) (by assumption)
theorem ok_twice {ds : List PyData} {x : PyData} (h : okB 8 (.tuple ds) = true) (hx : okB 8 x = true) (l : 3 ≤ ds.length) : okB 8 (.tuple (ds.take (ds.length - 1) ++ [x])) = true := by
  match ds, l with
  | d0 :: rest, l =>
    rw [List.length_cons] at l ⊢
    rw [show rest.length + 1 - 1 = (rest.length - 1) + 1 by omega, List.take_succ_cons, List.cons_append]
    cases d0 with
    | str w =>
      rw [okB] at h ⊢
      refine ok_two (by rw [List.length_append, List.length_take]; show 2 ≤ _ + 1; omega) fun h1 h2 => ?_
      unfold okT at h
      rw [if_neg h1, if_neg h2, List.all_eq_true] at h
      rw [List.all_eq_true]
      intro o ho
      rcases List.mem_append.mp ho with q | q
      · exact h o (List.mem_of_mem_take q)
      · rw [List.mem_singleton.mp q]
        exact okB_le hx (by decide)
    | _ => exact okB_other rfl
theorem cutD_most {ds : List PyData} : cutD ds none (some (-1)) = ds.take (ds.length - 1) := by
  have e1 : HT.sIx ds.length 0 none = 0 := rfl
  have e2 : HT.sIx ds.length ds.length (some (-1)) = ds.length - 1 := by
    simp only [HT.sIx]
    split <;> omega
  unfold cutD
  rw [e1, e2]
  simp
def spLaw (K : PySem.W.Frag) : Sp := fun vs H Q _ => ∃ (a : Addr) (ns : List Int), vs = [.ref a] ∧ SqL K H a (ns.map V.int) ∧ ∀ H', Q (.bl true) H'
abbrev z9 : Str × Str := ("zz9", "number")
/-- a path is short, and its numbers are small -/
def PathOk (n : Nat) (p : List Nat) : Prop := p.length ≤ n ∧ ∀ i ∈ p, i ≤ 10
theorem PathOk.app {n : Nat} {p : List Nat} {i : Nat} (h : PathOk n p) (l : i ≤ 10) : PathOk (n + 1) (p ++ [i]) := ⟨by rw [List.length_append]; exact Nat.succ_le_succ h.1, fun j hj => by
  rcases List.mem_append.mp hj with q | q
  · exact h.2 j q
  · rw [List.mem_singleton.mp q]; exact l⟩
theorem PathOk.mono {n m : Nat} {p : List Nat} (h : PathOk n p) (l : n ≤ m) : PathOk m p := ⟨Nat.le_trans h.1 l, h.2⟩
theorem firstW_lt : ∀ {ops : List V} {ks : List Str} {i j : Nat}, firstW ops ks i = some j → j < i + ks.length := by
  intro ops
  induction ops with
  | nil => intro ks i j h; unfold firstW at h; cases h
  | cons o r ih =>
    intro ks i j h
    cases ks with
    | nil => unfold firstW at h; cases o <;> cases h
    | cons x xs =>
      unfold firstW at h
      rw [List.length_cons]
      split at h
      · rename_i e1 e2
        cases e2
        split at h
        · cases e1
          have := ih h
          omega
        · cases h
          omega
      · rename_i e1 e2
        cases e2
        cases e1
        have := ih h
        omega
      · cases h
theorem ckO_lt {ops : List V} {w : Str} {ks : List Str} {i : Nat} (h : ckO ops w ks = some i) : i ≤ ks.length := by
  unfold ckO at h
  split at h
  · rename_i j e
    cases h
    have := firstW_lt e
    omega
  · split at h
    · split at h
      · cases h
      · cases h
        omega
    · cases h
theorem kd_path {ps : List (Str × Str)} : ∀ (n : Nat) (p : List Nat) (d : PyData) (q : List Nat) (m : Nat), PathOk m p → kdA ps n p d = .inr q → PathOk (m + n) q
  | 0, p, d, q, m, hp, h => by unfold kdA at h; cases h; exact hp
  | n + 1, p, d, q, m, hp, h => by
    cases z : hwD d with
    | false => rw [kdA_other z] at h; cases h; exact hp.mono (by omega)
    | true =>
      obtain ⟨w, os, rfl⟩ := hw_is z
      have h : kdT ps (kdA ps n) p w os = .inr q := h
      have here : ∀ {q : List Nat}, (Sum.inr p : Str ⊕ List Nat) = .inr q → PathOk (m + (n + 1)) q := fun e => by cases e; exact hp.mono (by omega)
      unfold kdT at h
      split at h
      · cases e : leafK ps w os with
        | none => rw [e] at h; exact here h
        | some k2 => rw [e] at h; cases h
      · unfold kdO at h
        cases eo : opsV w with
        | none => rw [eo] at h; exact here h
        | some ops =>
        rw [eo] at h
        dsimp only at h
        have l3 := (opsV_len eo).2.1
        split at h
        · rename_i ll
          have go : ∀ (os : List PyData) (i : Nat) (ks : List Str), i = ks.length → i + os.length ≤ 3 → kdF (kdA ps n) p ops w i os ks = .inr q → PathOk (m + (n + 1)) q := by
            intro os
            induction os with
            | nil =>
              intro i ks ei l h
              rw [kdF] at h
              unfold endK at h
              split at h
              · rename_i j e
                cases h
                have := ckO_lt e
                exact (hp.app (by have : i + 0 ≤ 3 := l; omega)).mono (by omega)
              · cases h
            | cons o r ih =>
              intro i ks ei l h
              rw [List.length_cons] at l
              rw [kdF] at h
              split at h
              · rename_i q' e
                cases h
                exact (kd_path n (p ++ [i]) o q (m + 1) (hp.app (by omega)) e).mono (by omega)
              · rename_i k2 e
                exact ih (i + 1) (ks ++ [k2]) (by rw [List.length_append, ← ei]; rfl) (by omega) h
          exact go os 0 [] rfl (by rw [Nat.zero_add]; omega) h
        · exact here h
/-- what both answer -/
def outZ (ps : List (Str × Str)) (d : PyData) : PyData := match kdA ps 8 [] d with
  | .inl k => .list [.str "kind", .str k]
  | .inr p => .list [.str "bad", pathD p]
theorem outZ_sz {ps : List (Str × Str)} {d : PyData} (hp : ∀ p ∈ ps, KindS p.2) : Sz 5 100000 (outZ ps d) := by
  unfold outZ
  cases e : kdA ps 8 [] d with
  | inl k =>
    dsimp only
    have := kd_kind hp 8 [] d k e
    rcases this with rfl | rfl | rfl <;> exact ⟨by decide +kernel, by decide +kernel, by decide +kernel⟩
  | inr p =>
    dsimp only
    obtain ⟨h1, h2⟩ := kd_path 8 [] d p 0 ⟨Nat.le_refl _, nofun⟩ e
    have t1 : Tm 1 (2000 * (p.map fun i : Nat => PyData.int (i : Int)).length + 2 * (p.map fun i : Nat => PyData.int (i : Int)).length + 4) (pathD p) := tm_tup (k := 0) (n := 2000) fun x hx => by
      obtain ⟨i, hi, rfl⟩ := List.mem_map.mp hx
      have := h2 i hi
      exact tm_int (by show i ≤ _; omega)
    rw [List.length_map] at t1
    have t2 : Tm 2 40000 (.list [.str "bad", pathD p]) := (tm_lst (k := 1) (n := 16100) (ds := [.str "bad", pathD p]) fun x hx => by
      simp only [List.mem_cons, List.not_mem_nil, or_false] at hx
      rcases hx with rfl | rfl
      · exact (tm_txt (x := "bad") ⟨by decide +kernel, by decide +kernel⟩).mono (by decide) (by decide)
      · exact t1.mono (Nat.le_refl _) (by omega)).mono (by decide) (by show 16100 * 2 + 2 * 2 + 4 ≤ _; decide)
    exact (tm_sz t2).mono (by decide) (by decide)
/-- what the law looks at -/
structure Seen (t : Addr) (H : Hp) (v : V) (d : PyData) : Prop where
  dh : DhT t H v d
  ok : okB 8 d = true
  sz : Sz 20 3000000 d
theorem Seen.b {t : Addr} {H H' : Hp} {v : V} {d : PyData} (h : Seen t H v d) (s : SameB t H H') : Seen t H' v d := ⟨h.dh.same (dl_same s), h.ok, h.sz⟩
section
variable {P : Program} {w : World} {K : PySem.W.Frag} {mg : Str → Option Value} {base : Heap} {f : Addr} {fd : FuncData}
abbrev sLaw : Stmt := top 44
abbrev nLaw : List Str := ["_law_script", "_law_tape_here", "_law_columns_here", "_law_turn", "_law_kind_here", "_law_expression_here", "_law_once", "_law_twice", "_law_one", "_law_kept", "_law_due"]
abbrev pLaw : List Str := ["_law_script"]
theorem scLaw : FnScope nLaw pLaw (defScope sLaw) := ⟨rfl, rfl, rfl, by decide +kernel, rfl, by decide +kernel, by decide +kernel⟩
section
variable {fA_ fB_ fC_ fD_ fE_ fF_ fG_ : Addr} {fdA_ fdB_ fdC_ fdD_ fdE_ fdF_ fdG_ : FuncData}
theorem ok_Law (F : Fun K "law" "law" sLaw f fd) (T : Bt mg) (sm : SmK K)
    (GA_ : FnOk P w K mg base CX0 1 fA_ fdA_ ["_law_script"] (spTape K)) (mA_ : mg "_law_tape" = some (.ref fA_)) (kA_ : PySem.W.keepIn K (.ref fA_) = true) (bA_ : Binds K fdA_ ["_law_script"] [])
    (GB_ : FnOk P w K mg base CX0 4 fB_ fdB_ ["_law_tape_here", "_law_lead", "_law_many", "_law_taken"] (spCls)) (mB_ : mg "_law_columns" = some (.ref fB_)) (kB_ : PySem.W.keepIn K (.ref fB_) = true) (bB_ : Binds K fdB_ ["_law_tape_here", "_law_lead", "_law_many", "_law_taken"] [])
    (GC_ : FnOk P w K mg base CX0 9 fC_ fdC_ ["_law_tape_here", "_law_columns_here", "_law_kind_here", "_law_depth"] (spXs 6)) (mC_ : mg "_law_expression" = some (.ref fC_)) (kC_ : PySem.W.keepIn K (.ref fC_) = true) (bC_ : Binds K fdC_ ["_law_tape_here", "_law_columns_here", "_law_kind_here", "_law_depth"] [])
    (GD_ : FnOk P w K mg base CX0 16 fD_ fdD_ ["_law_tape_here", "_law_columns_here", "_law_expression_here"] (spBn 5)) (mD_ : mg "_law_bent" = some (.ref fD_)) (kD_ : PySem.W.keepIn K (.ref fD_) = true) (bD_ : Binds K fdD_ ["_law_tape_here", "_law_columns_here", "_law_expression_here"] [])
    (GE_ : FnOk P w K mg base CX0 10 fE_ fdE_ ["_law_tape_here", "_law_columns_here"] (spOd)) (mE_ : mg "_law_odd_part" = some (.ref fE_)) (kE_ : PySem.W.keepIn K (.ref fE_) = true) (bE_ : Binds K fdE_ ["_law_tape_here", "_law_columns_here"] [])
    (GF_ : FnOk P w K mg base CX0 16 fF_ fdF_ ["_law_columns_here", "_law_expression_here"] (spTd)) (mF_ : mg "_law_told" = some (.ref fF_)) (kF_ : PySem.W.keepIn K (.ref fF_) = true) (bF_ : Binds K fdF_ ["_law_columns_here", "_law_expression_here"] [])
    (GG_ : FnG P w K mg base 11 fG_ fdG_ ["_law_columns_here", "_law_expression_here", "_law_path"] (spKl 8)) (mG_ : mg "_law_kind" = some (.ref fG_)) (kG_ : PySem.W.keepIn K (.ref fG_) = true) (bG_ : Binds K fdG_ ["_law_columns_here", "_law_expression_here", "_law_path"] []) : FnG P w K mg base 17 f fd pLaw (spLaw K) := by
  refine Lc.Fun.okG F scLaw (fun vs H Q E h => ?_) (fun cdv A outer s H vs Q E hg hr h => ?_)
  · obtain ⟨a0, ns, rfl, _⟩ := h
    rfl
  · obtain ⟨a0, ns, rfl, hS, k⟩ := h
    have hrA_ : Room (1) _ := hr.mono (by first | decide | omega)
    have hrB_ : Room (4) _ := hr.mono (by first | decide | omega)
    have hrC_ : Room (9) _ := hr.mono (by first | decide | omega)
    have hrD_ : Room (16) _ := hr.mono (by first | decide | omega)
    have hrE_ : Room (10) _ := hr.mono (by first | decide | omega)
    have hrF_ : Room (16) _ := hr.mono (by first | decide | omega)
    have hrG_ : Room (11) _ := hr.mono (by first | decide | omega)
    refine ⟨_, (pss_cons (ps_set (i := 1) scLaw.nd rfl (Or.inl rfl) (pe_call GA_ hrA_ (by rfl) mA_ kA_ bA_ .nil pass0 (pa_cons (pv 0) pa_nil)))
      (Evl.pss_cut (ps_set (i := 2) scLaw.nd rfl (Or.inl rfl) (pe_op op_catA (pe_call GB_ hrB_ (by rfl) mB_ kB_ bB_ .nil pass0 (pa_cons (pv 1) (pa_cons (pe_tup pa_nil) (pa_cons pe_int (pa_cons (pe_tup (pa_cons pe_str pa_nil)) pa_nil))))) (pe_tup (pa_cons (pe_tup (pa_cons pe_str (pa_cons pe_str pa_nil))) pa_nil))))
      (pss_cons (ps_for PassesOwn.never rfl (pi_range1 (by rfl) T.range (pa_cons pe_int pa_nil)) (pg_name (i := 3) scLaw.nd rfl (.inl rfl)) (pss_one (ps_for PassesOwn.never rfl (pi_list (pe_lst (pa_cons pe_str (pa_cons pe_str (pa_cons pe_str pa_nil))))) (pg_name (i := 4) scLaw.nd rfl (.inl rfl)) (pss_cons (ps_set (i := 5) scLaw.nd rfl (Or.inl rfl) (pe_call GC_ hrC_ (by rfl) mC_ kC_ bC_ .nil pass0 (pa_cons (pv 1) (pa_cons (pv 2) (pa_cons (pv 4) (pa_cons pe_int pa_nil))))))
      (pss_cons (ps_set (i := 6) scLaw.nd rfl (Or.inl rfl) (pe_call GD_ hrD_ (by rfl) mD_ kD_ bD_ .nil pass0 (pa_cons (pv 1) (pa_cons (pv 2) (pa_cons (pv 5) pa_nil)))))
      (pss_cons (ps_set (i := 7) scLaw.nd rfl (Or.inl rfl) (pv 5))
      (Evl.pss_cut (ps_if (PW.pt (pw_and (pt_val (pe_callB call_isi (by rfl) T.isi boot_isinstance (pa_cons (pv 6) (pa_cons (pe_bltn (v := .ty "tuple") (by rfl) T.tuple boot_tuple rfl) pa_nil)))) (pw_and (pt_cmpR op_eq (pe_callB call_len_seq (by rfl) T.len PySem.boot_len (pa_cons (pv 6) pa_nil)) (pe_callB call_len_seq (by rfl) T.len PySem.boot_len (pa_cons (pv 5) pa_nil)) (nomark _)) (pw_and1 (pt_cmpR op_gt (pe_callB call_len_seq (by rfl) T.len PySem.boot_len (pa_cons (pv 5) pa_nil)) pe_int (nomark _)))))) (pss_one (ps_if (pt_cmpR op_eq (pe_callB (call_reprF sm hg hr.units) (by rfl) T.repr boot_repr (pa_cons (pe_ix ix_tup (pv 6) pe_int (fun _ _ => rfl)) pa_nil)) (pe_callB (call_reprF sm hg hr.units) (by rfl) T.repr boot_repr (pa_cons (pe_ix ix_tup (pv 5) pe_int (fun _ _ => rfl)) pa_nil)) (nomark _)) (pss_one (ps_set (i := 7) scLaw.nd rfl (Or.inl rfl) (pe_op op_catA (pe_slice sl_tupA (pv 6) po_none (po_some (pe_un un_neg pe_int))) (pe_tup (pa_cons (pe_call GE_ hrE_ (by rfl) mE_ kE_ bE_ .nil pass0 (pa_cons (pv 1) (pa_cons (pv 2) pa_nil))) pa_nil))))) pss_nil)) pss_nil)
      (pss_one (ps_for PassesOwn.never rfl (pi_list (pe_lst (pa_cons (pv 5) (pa_cons (pv 6) (pa_cons (pv 7) pa_nil))))) (pg_name (i := 8) scLaw.nd rfl (.inl rfl)) (pss_cons (ps_set (i := 9) scLaw.nd rfl (Or.inl rfl) (pe_callB (call_reprF sm hg hr.units) (by rfl) T.repr boot_repr (pa_cons (pv 8) pa_nil)))
      (pss_cons (ps_set (i := 10) scLaw.nd rfl (Or.inl rfl) (pe_callG GG_ hg hrG_ (by rfl) mG_ kG_ bG_ (pa_cons (pv 2) (pa_cons (pv 8) (pa_cons (pe_tup pa_nil) pa_nil)))))
      (pss_one (ps_if (PW.pt (pw_or (pt_cmpR op_ne (pe_callB (call_reprF sm hg hr.units) (by rfl) T.repr boot_repr (pa_cons (pe_call GF_ hrF_ (by rfl) mF_ kF_ bF_ .nil pass0 (pa_cons (pv 2) (pa_cons (pv 8) pa_nil))) pa_nil)) (pe_callB (call_reprF sm hg hr.units) (by rfl) T.repr boot_repr (pa_cons (pv 10) pa_nil)) (nomark _)) (pw_or1 (pt_cmpR op_ne (pe_callB (call_reprF sm hg hr.units) (by rfl) T.repr boot_repr (pa_cons (pv 8) pa_nil)) (pv 9) (nomark _))))) (pss_one (ps_ret pe_bl)) pss_nil)))))))))))))
      (pss_one (ps_ret pe_bl))))), ?_⟩
    have one : 1 ≤ sizeLine := by decide
    have two : 2 ≤ sizeLine := by decide
    have three : 3 ≤ sizeLine := by decide
    have big : (3000000 : Nat) ≤ sizeLine := by decide
    refine ⟨_, rfl, a0, ns, rfl, hS, fun t H0 e0 ht hT0 => ?_⟩
    obtain ⟨c, hT0⟩ := hT0
    have hT0 : TapeL c H0 t := hT0
    -- the columns
    refine ⟨fun σ H' => ∃ (L : Addr) (xs : List V) (ps : List (Str × Str)), σ = [some (.ref a0), some (.ref t), some (.ref L), none, none, none, none, none, none, none, none] ∧ H' L = some (.tup xs) ∧ Cols H' xs ps ∧ ColsN ps ∧ TapeL c H' t, ?_, ?_⟩
    · refine ⟨_, rfl, by show 0 ≤ sizeLine; decide, fun p1 hp1 => ?_⟩
      have z1 := Same.upd (o := .tup []) hp1
      refine ⟨one, fun p2 hp2 => ?_⟩
      have z2 := Same.upd (o := .tup [.str "zz9"]) hp2
      refine ⟨t, c, p1, p2, 6, [], ["zz9"], rfl, hT0.same (z1.trans z2), z2 _ _ upd_same, upd_same, by decide, by decide, by decide, by decide, nofun, fun L xs ps H1 hL hc ho nd nt l1 l6 T1 S1 => ?_⟩
      have cn : ColsN (ps ++ [z9]) := by
        refine ⟨fun p hp => ?_, fun p hp => ?_, ?_, by rw [List.length_append]; show _ + 1 ≤ 8; have : ps.length ≤ 6 := l6; omega⟩
        · rcases List.mem_append.mp hp with q | q
          · exact ⟨(ho p q).1, (ho p q).2.1⟩
          · rw [List.mem_singleton.mp q]
            exact ⟨⟨by decide +kernel, by decide +kernel⟩, by decide +kernel⟩
        · rcases List.mem_append.mp hp with q | q
          · exact (ho p q).2.2
          · rw [List.mem_singleton.mp q]
            exact .inl rfl
        · rw [List.map_append, List.nodup_append]
          refine ⟨nd, by simp, fun a ha b hb => ?_⟩
          obtain ⟨p, hp, rfl⟩ := List.mem_map.mp ha
          rw [List.mem_singleton.mp hb]
          exact fun e => nt p hp (by rw [e]; exact List.mem_singleton.mpr rfl)
      refine ⟨two, fun p3 hp3 => ?_⟩
      have z3 := Same.upd (o := .tup [.str "zz9", .str "number"]) hp3
      have e3 : upd H1 p3 (.tup [.str "zz9", .str "number"]) p3 = some (.tup [.str "zz9", .str "number"]) := upd_same
      generalize upd H1 p3 (.tup [.str "zz9", .str "number"]) = H2 at z3 e3 ⊢
      refine ⟨one, fun p4 hp4 => ?_⟩
      have z4 := Same.upd (o := .tup [.ref p3]) hp4
      have e4 : upd H2 p4 (.tup [.ref p3]) p4 = some (.tup [.ref p3]) := upd_same
      generalize upd H2 p4 (.tup [.ref p3]) = H3 at z4 e4 ⊢
      have s13 := z3.trans z4
      have c3 : Cols H3 (xs ++ [.ref p3]) (ps ++ [z9]) := Cols.app (hc.t (SameT.of s13)) (.cons (z4 _ _ e3) .nil)
      refine ⟨L, p4, xs, [.ref p3], rfl, rfl, SqT.of (s13 _ _ hL), SqT.of e4, by have := hc.len; have : ps.length ≤ 6 := l6; exact Nat.le_trans (show xs.length + 1 ≤ 7 by omega) (by decide), fun z => ?_, nofun, fun _ _ p hp => ?_⟩
      · subst z
        exact ⟨p4, [.ref p3], _, rfl, e4, c3, cn, T1.same s13⟩
      · have zp := Same.upd (o := .tup (xs ++ [.ref p3])) hp
        exact ⟨p, _, _, rfl, upd_same, c3.t (SameT.of zp), cn, T1.same (s13.trans zp)⟩
    clear hT0 hS e0 ht
    rintro σ H1 ⟨L, xs, ps, rfl, hL, hc, cn, T1⟩
    have nL := T1.tape.neT hL
    have at1 : ∀ {H' : Hp}, SameB t H1 H' → H' L = some (.tup xs) ∧ Cols H' xs ps := fun s' => ⟨s' _ _ nL hL, hc.b T1.tape s'⟩
    refine ⟨8, rfl, by decide, by decide, for_range (n := 8) (fun i σ H' => (∃ (x3 x4 x5 x6 x7 x8 x9 x10 : Option V), σ = [some (.ref a0), some (.ref t), some (.ref L), x3, x4, x5, x6, x7, x8, x9, x10]) ∧ TapeL c H' t ∧ SameB t H1 H') ⟨⟨none, none, none, none, none, none, none, none, rfl⟩, T1, SameB.refl t H1⟩ ?_ (fun σ H' _ => k H')⟩
    rintro i σ H2 hi ⟨⟨x3, x4, x5, x6, x7, x8, x9, x10, rfl⟩, T2, S2⟩
    refine ⟨three, fun q hq => ⟨q, rfl, ⟨_, SqL.of upd_same⟩, ?_⟩⟩
    have zq := Same.upd (o := .lst [.str "number", .str "word", .str "flag"]) hq
    have nq := T2.tape.ne hq
    have hq3 : upd H2 q (.lst [.str "number", .str "word", .str "flag"]) q = some (.lst [.str "number", .str "word", .str "flag"]) := upd_same
    generalize upd H2 q (.lst [.str "number", .str "word", .str "flag"]) = H3 at zq hq3 ⊢
    have T3 := T2.same zq
    have S3 := S2.trans (Same.b t zq)
    refine for_list (K := K) (a := q) (xs := [.str "number", .str "word", .str "flag"]) (fun j σ H' => (∃ (x4 x5 x6 x7 x8 x9 x10 : Option V), σ = [some (.ref a0), some (.ref t), some (.ref L), some (.int (0 + (i : Int))), x4, x5, x6, x7, x8, x9, x10]) ∧ TapeL c H' t ∧ SameB t H3 H') ⟨⟨_, _, _, _, _, _, _, rfl⟩, T3, SameB.refl t H3⟩ (fun j σ H' _ pr => by obtain ⟨_, _, s'⟩ := pr; exact SqL.of (s' _ _ nq hq3)) ?_ (fun σ H' pr => by obtain ⟨⟨_, _, _, _, _, _, _, rfl⟩, T', S'⟩ := pr; exact ⟨⟨_, _, _, _, _, _, _, _, rfl⟩, T', S3.trans S'⟩)
    clear x4 x5 x6 x7 x8 x9 x10
    rintro j x σ H4 hj ⟨⟨x4, x5, x6, x7, x8, x9, x10, rfl⟩, T4, S34⟩
    obtain ⟨kk, rfl, skk⟩ : ∃ kk : Str, x = .str kk ∧ KindS kk := by
      have := List.mem_of_getElem? hj
      simp only [List.mem_cons, List.not_mem_nil, or_false] at this
      rcases this with rfl | rfl | rfl
      · exact ⟨_, rfl, .inl rfl⟩
      · exact ⟨_, rfl, .inr (.inl rfl)⟩
      · exact ⟨_, rfl, .inr (.inr rfl)⟩
    have S4 := S3.trans S34
    refine ⟨_, rfl, _, rfl, _, rfl, 6, by decide, t, c, L, kk, xs, ps, rfl, skk, T4, (at1 S4).1, (at1 S4).2, cn.ln, fun v d H5 df xp T5 S5 => ?_⟩
    have dt := df.t T4.tape
    have S15 := S4.trans S5
    refine ⟨_, rfl, _, rfl, _, rfl, t, c, L, v, xs, ps, kk, d, rfl, T5, (at1 S15).1, (at1 S15).2, cn, dt, xp, fun v6 d6 H6 dd6 ok6 z6 T6 S6 => ?_⟩
    have S16 := S15.trans S6
    have S36 := S34.trans (S5.trans S6)
    have sn5 : Seen t H6 v d := ⟨dt.same (dl_same S6), xp_ok cn.nm xp 8, (tm_sz (xp_tm (fun p hp => (cn.nm p hp).1) xp)).mono (by decide) (by decide +kernel)⟩
    have sn6 : Seen t H6 v6 d6 := ⟨dd6, ok6, z6.mono (by decide) (by decide +kernel)⟩
    refine ⟨_, rfl, ?_⟩
    -- once more
    refine ⟨fun σ H' => ∃ (v7 : V) (d7 : PyData), σ = [some (.ref a0), some (.ref t), some (.ref L), some (.int (0 + (i : Int))), some (.str kk), some v, some v6, some v7, x8, x9, x10] ∧ Seen t H' v d ∧ Seen t H' v6 d6 ∧ Seen t H' v7 d7 ∧ TapeL c H' t ∧ SameB t H3 H', ?_, ?_⟩
    · have stay : ∃ (v7 : V) (d7 : PyData), [some (.ref a0), some (.ref t), some (.ref L), some (.int (0 + (i : Int))), some (.str kk), some v, some v6, some v, x8, x9, x10] = [some (.ref a0), some (.ref t), some (.ref L), some (.int (0 + (i : Int))), some (.str kk), some v, some v6, some v7, x8, x9, x10] ∧ Seen t H6 v d ∧ Seen t H6 v6 d6 ∧ Seen t H6 v7 d7 ∧ TapeL c H6 t ∧ SameB t H3 H6 := ⟨v, d, rfl, sn5, sn6, sn5, T6, S36⟩
      have h6 := dd6.same dl_here
      have h5 := sn5.dh.same dl_here
      refine ⟨_, rfl, v6, .ty "tuple", _, _, _, rfl, .ty "tuple", h6.ty.x, kit_tuple h6.ty.mem, _, rfl, ?_⟩
      obtain ⟨wd, os, rfl, hw, l3, l1, _⟩ := xp_ops xp
      cases h6 with
      | @tup a6 ys6 ds6 e6 hs6 =>
        have l6 := hs6.len
        cases h5 with
        | @tup a5 ys5 _ e5 hs5 =>
        have l5 := hs5.len
        refine iteT ⟨_, rfl, a6, _, rfl, .inr (SqT.of e6), _, rfl, a5, _, rfl, .inr (SqT.of e5), rfl, _, rfl, ite2 (fun q => ?_) (fun _ => iteF stay)⟩
        have q : ys6.length = ys5.length := by have := of_decide_eq_true q; injection this with this; omega
        refine ⟨_, rfl, a5, _, rfl, .inr (SqT.of e5), _, _, rfl, rfl, _, rfl, ite2 (fun qq => ?_) (fun _ => stay)⟩
        have q2 : 3 ≤ ds6.length := by have := of_decide_eq_true qq; omega
        have lt : ds6.length ≤ 4 := by rw [List.length_cons] at l5; omega
        have m6 : ∃ m, m ≤ bsz 6 ∧ SzA 17 m ds6 := sz_parts z6
        obtain ⟨m, hm, za⟩ := m6
        obtain ⟨x0, xr, rfl⟩ : ∃ x0 xr, ds6 = x0 :: xr := by
          cases ds6 with
          | nil => exact absurd q2 (by decide)
          | cons x0 xr => exact ⟨x0, xr, rfl⟩
        have b6 : bsz 6 ≤ 2900000 := by decide +kernel
        have zx : ∃ m0, m0 ≤ m ∧ Sz 17 m0 x0 := by
          cases za with
          | @cons n m' _ _ h r => exact ⟨n, by omega, h⟩
        obtain ⟨m0, hm0, zx⟩ := zx
        cases hs6 with
        | @cons y0 yr _ _ hy0 hyr =>
        cases hs5 with
        | @cons w0 wr _ _ hw0 hwr =>
        have bigm : bsz 6 ≤ sizeLine := Nat.le_trans b6 (Nat.le_trans (by decide) big)
        refine ⟨_, rfl, a6, _, _, y0, rfl, rfl, SqT.of e6, at_zero, y0, x0, rfl, hy0, zx.sh, Nat.le_trans zx.dz (by decide), Nat.le_trans zx.ln (by omega), _, rfl, a5, _, _, w0, rfl, rfl, SqT.of e5, at_zero, w0, .str wd, rfl, hw0, rfl, Nat.zero_le _, Nat.le_trans hw (by decide), rfl, _, rfl, ite2 (fun _ => ?_) (fun _ => stay)⟩
        refine ⟨_, rfl, _, rfl, _, rfl, slA dd6 T6 fun r8 H8 d8 T8 s8 => ?_⟩
        have S18 := S16.trans (Same.b t s8)
        rw [cutD_most] at d8
        refine ⟨_, rfl, _, rfl, t, c, L, xs, ps, rfl, T8, (at1 S18).1, (at1 S18).2, cn, fun v9 d9 H9 dd9 ok9 zz9 T9 S9 => ⟨one, fun p hp => ?_⟩⟩
        obtain ⟨H10, e10, d10, T10, s10⟩ := newT (ds := [d9]) T9 hp (.cons dd9 .nil)
        rw [e10]
        refine catD (dts (d8.same (dl_same S9)) s10) d10 T10 (by rw [List.length_take]; show _ + 1 ≤ 1000; omega) fun r11 H11 d11 T11 s11 => ?_
        have S611 : SameB t H6 H11 := ((Same.b t s8).trans S9).trans (Same.b t (s10.trans s11))
        obtain ⟨m1, hm1, zt⟩ := za.take ((x0 :: xr).length - 1)
        have zf := (zt.app (.cons (zz9.mono (show 12 ≤ 17 by decide) (Nat.le_refl _)) .nil)).tup
        rw [List.length_append, List.length_take] at zf
        refine ⟨r11, _, rfl, sn5.b S611, sn6.b S611, ⟨d11, ok_twice ok6 ok9 q2, zf.mono (by decide) (by show m1 + (55000 + 0) + 2 * (_ + 1) + 3 ≤ 3000000; omega)⟩, T11, S36.trans S611⟩
      | _ => first | exact iteF (iteF stay) | exact iteF stay
    clear dt df xp dd6 sn5 sn6
    rintro σ H7 ⟨v7, d7, rfl, sn5, sn6, sn7, T7, S37⟩
    have S7 := S3.trans S37
    refine ⟨_, rfl, _, rfl, _, rfl, three, fun M hM => ⟨M, rfl, ⟨_, SqL.of upd_same⟩, ?_⟩⟩
    have zM := Same.upd (o := .lst [v, v6, v7]) hM
    have hM8 : upd H7 M (.lst [v, v6, v7]) M = some (.lst [v, v6, v7]) := upd_same
    generalize upd H7 M (.lst [v, v6, v7]) = H8 at zM hM8 ⊢
    have T8 := T7.same zM
    have S8 := S7.trans (Same.b t zM)
    have S38 := S37.trans (Same.b t zM)
    refine for_list (K := K) (a := M) (xs := [v, v6, v7]) (fun j σ H' => (∃ (x8 x9 x10 : Option V), σ = [some (.ref a0), some (.ref t), some (.ref L), some (.int (0 + (i : Int))), some (.str kk), some v, some v6, some v7, x8, x9, x10]) ∧ Same H8 H') ⟨⟨_, _, _, rfl⟩, Same.refl _⟩ (fun j σ H' _ pr => SqL.of (pr.2 _ _ hM8)) ?_ (fun σ H' pr => by obtain ⟨⟨_, _, _, rfl⟩, s'⟩ := pr; exact ⟨⟨_, _, _, _, _, _, _, rfl⟩, T8.same s', S38.trans (Same.b t s')⟩)
    clear x8 x9 x10
    rintro j x σ H9 hj ⟨⟨x8, x9, x10, rfl⟩, s9⟩
    obtain ⟨d0, sn⟩ : ∃ d0, Seen t H7 x d0 := by
      have := List.mem_of_getElem? hj
      simp only [List.mem_cons, List.not_mem_nil, or_false] at this
      rcases this with rfl | rfl | rfl
      · exact ⟨_, sn5⟩
      · exact ⟨_, sn6⟩
      · exact ⟨_, sn7⟩
    have sn := sn.b (Same.b t (zM.trans s9))
    have S9 := S8.trans (Same.b t s9)
    have dh := sn.dh.same dl_here
    have b2 := Nat.le_trans sn.sz.ln big
    have b1 : d0.depth ≤ 60 := Nat.le_trans sn.sz.dz (by decide)
    refine ⟨_, rfl, x, d0, rfl, dh, sn.sz.sh, b1, b2, ?_⟩
    refine ⟨_, rfl, _, rfl, by show 0 ≤ sizeLine; decide, fun q0 hq0 => ?_⟩
    have z0 := Same.upd (o := .tup []) hq0
    have e0 : upd H9 q0 (.tup []) q0 = some (.tup (pathV [])) := upd_same
    generalize upd H9 q0 (.tup []) = H10 at z0 e0 ⊢
    have S10 := S9.trans (Same.b t z0)
    have zz := outZ_sz (ps := ps) (d := d0) cn.kd
    have zl : (outZ ps d0).shown.length ≤ sizeLine := Nat.le_trans zz.ln (by decide)
    have zd : (outZ ps d0).depth ≤ 60 := Nat.le_trans zz.dz (by decide)
    refine ⟨L, q0, x, xs, ps, [], d0, rfl, (at1 S10).1, (at1 S10).2, cn, dh.same z0, sn.ok, e0, rfl, fun k0 ek r H11 s11 hr11 => ?_, fun p0 ep r u H11 s11 hr11 hu => ?_⟩
    · have hz : Dh H11 (.ref r) (outZ ps d0) := by unfold outZ; rw [ek]; exact .lst hr11 (.cons (.str _) (.cons (.str _) .nil))
      have S11 := S10.trans (Same.b t s11)
      refine ⟨_, rfl, _, rfl, L, x, xs, ps, d0, rfl, (at1 S11).1, (at1 S11).2, cn, dh.same (z0.trans s11), sn.ok, fun k1 ek1 r2 H12 s12 hr2 => ?_, fun p1 ep1 r2 u2 H12 s12 hr2 hu2 => ?_⟩
      · have hz2 : Dh H12 (.ref r2) (outZ ps d0) := by unfold outZ; rw [ek1]; exact .lst hr2 (.cons (.str _) (.cons (.str _) .nil))
        refine ⟨.ref r2, _, rfl, hz2, zz.sh, zd, zl, _, rfl, .ref r, _, rfl, hz.same s12, zz.sh, zd, zl, rfl, _, rfl, ?_⟩
        rw [decide_eq_true rfl]
        refine iteF ⟨_, rfl, x, d0, rfl, dh.same (z0.trans (s11.trans s12)), sn.sz.sh, b1, b2, _, rfl, rfl, _, rfl, ?_⟩
        rw [decide_eq_true rfl]
        exact iteF ⟨⟨_, _, _, rfl⟩, s9.trans (z0.trans (s11.trans s12))⟩
      · have hz2 : Dh H12 (.ref r2) (outZ ps d0) := by unfold outZ; rw [ep1]; exact .lst hr2 (.cons (.str _) (.cons hu2 .nil))
        refine ⟨.ref r2, _, rfl, hz2, zz.sh, zd, zl, _, rfl, .ref r, _, rfl, hz.same s12, zz.sh, zd, zl, rfl, _, rfl, ?_⟩
        rw [decide_eq_true rfl]
        refine iteF ⟨_, rfl, x, d0, rfl, dh.same (z0.trans (s11.trans s12)), sn.sz.sh, b1, b2, _, rfl, rfl, _, rfl, ?_⟩
        rw [decide_eq_true rfl]
        exact iteF ⟨⟨_, _, _, rfl⟩, s9.trans (z0.trans (s11.trans s12))⟩
    · have hz : Dh H11 (.ref r) (outZ ps d0) := by unfold outZ; rw [ep]; exact .lst hr11 (.cons (.str _) (.cons hu .nil))
      have S11 := S10.trans (Same.b t s11)
      refine ⟨_, rfl, _, rfl, L, x, xs, ps, d0, rfl, (at1 S11).1, (at1 S11).2, cn, dh.same (z0.trans s11), sn.ok, fun k1 ek1 r2 H12 s12 hr2 => ?_, fun p1 ep1 r2 u2 H12 s12 hr2 hu2 => ?_⟩
      · have hz2 : Dh H12 (.ref r2) (outZ ps d0) := by unfold outZ; rw [ek1]; exact .lst hr2 (.cons (.str _) (.cons (.str _) .nil))
        refine ⟨.ref r2, _, rfl, hz2, zz.sh, zd, zl, _, rfl, .ref r, _, rfl, hz.same s12, zz.sh, zd, zl, rfl, _, rfl, ?_⟩
        rw [decide_eq_true rfl]
        refine iteF ⟨_, rfl, x, d0, rfl, dh.same (z0.trans (s11.trans s12)), sn.sz.sh, b1, b2, _, rfl, rfl, _, rfl, ?_⟩
        rw [decide_eq_true rfl]
        exact iteF ⟨⟨_, _, _, rfl⟩, s9.trans (z0.trans (s11.trans s12))⟩
      · have hz2 : Dh H12 (.ref r2) (outZ ps d0) := by unfold outZ; rw [ep1]; exact .lst hr2 (.cons (.str _) (.cons hu2 .nil))
        refine ⟨.ref r2, _, rfl, hz2, zz.sh, zd, zl, _, rfl, .ref r, _, rfl, hz.same s12, zz.sh, zd, zl, rfl, _, rfl, ?_⟩
        rw [decide_eq_true rfl]
        refine iteF ⟨_, rfl, x, d0, rfl, dh.same (z0.trans (s11.trans s12)), sn.sz.sh, b1, b2, _, rfl, rfl, _, rfl, ?_⟩
        rw [decide_eq_true rfl]
        exact iteF ⟨⟨_, _, _, rfl⟩, s9.trans (z0.trans (s11.trans s12))⟩
end
end
end K09
set_option Elab.async false
set_option linter.all false
set_option maxRecDepth 100000
set_option maxHeartbeats 4000000
namespace Lc
open PySem PySem.Spec PyProof.Rows L2 He
/-! ## The head's facts, with one more Bool -/
abbrev AlE : Type := AlD × Bool
def obsE (n : Nat) (fa : List Fa) (fn : List DefD) (ex : PySem.W.Frag → Bool) (g : Addr → Option Obj) : AlE := (obsD fa fn (frG g (asD g n)), ex (frG g (asD g n)))
def hookE (n : Nat) (fa : List Fa) (fn : List DefD) (ex : PySem.W.Frag → Bool) : PySem.W.Hook where
  α := AlE
  obs := fun s => obsE n fa fn ex s.heap.get?
  val := fun _ => (valD fn, true)
  says := fun _ h => ∃ K : PySem.W.Frag, K.In h ∧ SaysD fa fn K ∧ ex K = true
  of := fun _ _ e => ⟨_, frG_in, congrArg (fun z : AlE => z.1) e, congrArg (fun z : AlE => z.2) e⟩
  keeps := fun _ _ _ ⟨K, hK, c⟩ k => ⟨K, PySem.W.Frag.In.keeps hK k, c⟩
theorem obsE_eq {n : Nat} {fa : List Fa} {fn : List DefD} {ex : PySem.W.Frag → Bool} {g : Addr → Option Obj} {s : Shared} (h : ∀ a, g a = s.heap.get? a) : obsE n fa fn ex g = (hookE n fa fn ex).obs s := by
  have e : g = s.heap.get? := funext h
  rw [e] <;> rfl
/-! ## What is asked of the error classes -/
def optB (a b : Option Bool) : Bool := decide (a = b)
def optV (a b : Option Value) : Bool := decide (a = b)
def oexB (K : PySem.W.Frag) (C : Addr) : Bool := (match K.lookup C with
  | some ⟨.type "type", _, .cls cd, sl⟩ => (match cd.mro, sl.toList with
    | .ref C' :: bm, [_, _, _, _, some (.builtin n), _] => C' == C && n == "ValueError.__new__" && !cd.hasDel && cd.hasDict && PySem.HandSPX.refsVE bm
    | _, _ => false)
  | _ => false) && (eqO (PySem.W.findIn K (.ref C) "__setattr__") (some (some (.builtin "object.__setattr__"))) && (optB (PySem.W.subIn K (.ref C) (.type "BaseException")) (some true) && (optV (PySem.W.typeIn K (.ref C)) (some (.type "type")) && PySem.W.keepIn K (.ref C))))
theorem oexB_ok {K : PySem.W.Frag} {C : Addr} (h : oexB K C = true) : OexC K C := by
  obtain ⟨q, h⟩ := ba h
  obtain ⟨h1, h⟩ := ba h
  obtain ⟨h2, h⟩ := ba h
  obtain ⟨h3, h4⟩ := ba h
  refine ⟨?_, eqO_ok h1, of_decide_eq_true h2, of_decide_eq_true h3, h4⟩
  split at q
  · rename_i dd cd sl ho
    split at q
    · rename_i C' bm k0 k1 k2 k3 n k5 hm hs
      simp only [Bool.and_eq_true, beq_iff_eq, Bool.not_eq_true'] at q
      obtain ⟨⟨⟨⟨rfl, rfl⟩, hdel⟩, hdi⟩, ht⟩ := q
      obtain ⟨nm, bs, mro, ns, qn, hd, sn, sub, ab, col, del⟩ := cd
      dsimp only at hm hdel hdi
      subst hm hdel hdi
      have hsl : sl = #[k0, k1, k2, k3, some (.builtin "ValueError.__new__"), k5] := by
        obtain ⟨l⟩ := sl
        simp only at hs
        rw [hs]
      subst hsl
      exact ⟨nm, qn, ns, bs, bm, sn, sub, ab, col, dd, k0, k1, k2, k3, k5, ho, ht⟩
    · cases q
  · cases q
def xisB (K : PySem.W.Frag) (C : Addr) : Bool := (PySem.W.clsIn K C).isSome && (eqO (PySem.W.findIn K (.ref C) "__getattribute__") (some (some (.builtin "BaseException.__getattribute__"))) && (eqO (PySem.W.findIn K (.ref C) "__getattr__") (some none) &&
  (optB (PySem.W.subIn K (.ref C) (.type "BaseException")) (some true) && (eqO (PySem.W.findIn K (.ref C) "__class__") (some (some (.builtin "object.__class__"))) && (eqO (PySem.W.specialIn K (.builtin "object.__class__") "__get__") (some (some (.builtin "getset_descriptor.__get__"))) &&
  (optB (PySem.W.takesIn K (.builtin "object.__class__")) (some true) && optB (PySem.W.mroIn K C (.type "object")) (some true)))))))
theorem xisB_ok {K : PySem.W.Frag} {C : Addr} (h : xisB K C = true) : XisC K C := by
  obtain ⟨h1, h⟩ := ba h
  obtain ⟨h2, h⟩ := ba h
  obtain ⟨h3, h⟩ := ba h
  obtain ⟨h4, h⟩ := ba h
  obtain ⟨h5, h⟩ := ba h
  obtain ⟨h6, h⟩ := ba h
  obtain ⟨h7, h8⟩ := ba h
  exact ⟨h1, eqO_ok h2, eqO_ok h3, of_decide_eq_true h4, eqO_ok h5, eqO_ok h6, of_decide_eq_true h7, of_decide_eq_true h8⟩
/-- a def without defaults -/
theorem fun_of {K : PySem.W.Frag} {x qual : Str} {st : Stmt} {f : Addr} {fd : FuncData} (F : FunD K x qual (defArgs st) (defBody st) (defScope st) [] [] f fd) : Fun K x qual st f fd := by
  obtain ⟨oc, od, dV, kV, doc, pm, an, cdv, ct, osl, rfl, lk, hcd, hD, hK⟩ := F.ex
  rcases hD with ⟨_, rfl⟩ | ⟨e, _⟩
  · exact ⟨⟨oc, od, kV, doc, pm, an, cdv, ct, osl, rfl, lk, hcd⟩, F.kp⟩
  · exact absurd rfl e
/-! ## The end of a law whose defs are promised where no repr is under way -/
theorem walk_GE {l : PySem.W.OpenLaw} {n k : Nat} {q : Program} {loose : List Str} {XP : (Str → Option Value) → Heap → Prop} {YP : World → Heap → Prop} {d : DefRec} {x : Str}
    (hn : l.most = some n) (hn2 : n ≤ sizeLine) (hdf : d.params.defaults = []) (hr : Room k callerA)
    (F : ∀ (w : World) (mg : Str → Option Value) (fa : Addr) (h : Heap), YP w h → h.Ns mainGlobals mg → mg d.name = some (.ref fa) →
      ∃ (K : PySem.W.Frag) (fd : FuncData) (sp : Sp), K.In h ∧ (∀ (s : Shared) (u : Value), BindsTo s fd ⟨[u], []⟩ [(x, u)]) ∧
        (∀ (H : Hp) (a : Addr) (ns : List Int), ns.length ≤ n → SqL K H a (ns.map V.int) → sp [.ref a] H (fun v _ => v = .bl true) fun _ _ _ => False) ∧
        ∀ base : Heap, K.In base → base.Ns mainGlobals mg → FnG l.prog w K mg base k fa fd [x] sp) :
    PySem.W.WalkO q loose XP YP l.row.toRowW d [] (fun f vs => PySem.call f vs) := by
  refine Att.attach_call hn hdf fun w _ s mg mb fa _ _ _ _ a vs ns G Y _ _ _ hmg hobj hints hlen hg => ?_
  obtain ⟨K, fd, sp, KX, hb, hsp, hF⟩ := F w mg fa _ Y G.T.g hmg
  exact law_callG KX G.T.g G.T.b G.T.builtins G.T.nolimit hg hobj hints (Nat.le_trans hlen hn2) hr hF hb fun H hS => hsp H a ns hlen hS
end Lc
namespace Lc
theorem all_at {l : List Bool} (h : l.all id = true) (i : Nat) {b : Bool} (e : l[i]? = some b := by rfl) : b = true := List.all_eq_true.mp h b (List.mem_of_getElem? e)
end Lc
set_option Elab.async false
set_option linter.all false
set_option maxRecDepth 100000
set_option maxHeartbeats 4000000
namespace Lc
open PySem PySem.Spec PyProof.Rows L2 He
/-! ## The head's facts, with dicts of the module that have text keys -/
abbrev AlF : Type := AlE × List (Option (List (Option (Str × Int))))
def obsF (n : Nat) (fa : List Fa) (fn : List DefD) (ex : PySem.W.Frag → Bool) (ts : List Tab) (g : Addr → Option Obj) : AlF := (obsE n fa fn ex g, ts.map fun t => dicW (frG g (asD g n)) (t.1 (frG g (asD g n))))
def TabsOk (ts : List Tab) (w : World) (K : PySem.W.Frag) : Prop := ∀ (i : Nat) (t : Tab), ts[i]? = some t → ∃ es n, KDict K w (t.1 K) es n
theorem tabs_of {ts : List Tab} {w : World} {K : PySem.W.Frag} (e : ts.map (fun t => dicW K (t.1 K)) = ts.map fun t => some (keysIn w.params t.2)) : TabsOk ts w K := by
  intro i t h
  have e2 : (ts.map fun t => dicW K (t.1 K))[i]? = (ts.map fun t => some (keysIn w.params t.2))[i]? := congrArg (fun l => l[i]?) e
  rw [List.getElem?_map, h, List.getElem?_map, h] at e2
  exact dicW_ok (Option.some.inj e2)
def hookF (n : Nat) (fa : List Fa) (fn : List DefD) (ex : PySem.W.Frag → Bool) (ts : List Tab) : PySem.W.Hook where
  α := AlF
  obs := fun s => obsF n fa fn ex ts s.heap.get?
  val := fun w => ((valD fn, true), ts.map fun t : Tab => some (keysIn w.params t.2))
  says := fun w h => ∃ K : PySem.W.Frag, K.In h ∧ SaysD fa fn K ∧ ex K = true ∧ TabsOk ts w K
  of := fun _ _ e => ⟨_, frG_in, congrArg (fun z : AlF => z.1.1) e, congrArg (fun z : AlF => z.1.2) e, tabs_of (show _ = _ from congrArg (fun z : AlF => z.2) e)⟩
  keeps := fun _ _ _ ⟨K, hK, c⟩ k => ⟨K, PySem.W.Frag.In.keeps hK k, c⟩
theorem obsF_eq {n : Nat} {fa : List Fa} {fn : List DefD} {ex : PySem.W.Frag → Bool} {ts : List Tab} {g : Addr → Option Obj} {s : Shared} (h : ∀ a, g a = s.heap.get? a) : obsF n fa fn ex ts g = (hookF n fa fn ex ts).obs s := by
  have e : g = s.heap.get? := funext h
  rw [e] <;> rfl
/-! ## what stands in such a dict -/
def atD (K : PySem.W.Frag) (d : Addr) (x : Str) : Addr := match PySem.W.nsIn K d x with
  | some (some (.ref a)) => a
  | _ => 0
def tupA (K : PySem.W.Frag) (a : Addr) (vs : List Dv) : Bool := match K.lookup a with
  | some ⟨.type c, _, .seq its _, _⟩ => decide (c = "tuple") && (decide (its.size ≤ sizeLine) && relAll (vs.map (Dv.v K)) its.toList)
  | _ => false
theorem tupA_ok {K : PySem.W.Frag} {a : Addr} {vs : List Dv} (h : tupA K a vs = true) (H : Hp) : SqT K H a (vs.map (Dv.v K)) := by
  unfold tupA at h
  split at h
  · rename_i c od its n osl q
    obtain ⟨h1, h2⟩ := ba h
    obtain ⟨h3, h4⟩ := ba h2
    exact .inr ⟨_, its, n, q, congrArg Value.type (of_decide_eq_true h1), rfl, of_decide_eq_true h3, relAll_ok h4⟩
  · cases h
/-- at the key x a tuple of these -/
def dtB (K : PySem.W.Frag) (d : Addr) (x : Str) (vs : List Dv) : Bool := eqO (PySem.W.nsIn K d x) (some (some (.ref (atD K d x)))) && tupA K (atD K d x) vs
theorem kdct_of {K : PySem.W.Frag} {w : World} {d a : Addr} {x : Str} (D : ∃ es n, KDict K w d es n) (h : PySem.W.nsIn K d x = some (some (.ref a))) : KDct K w d x (.ref a) := by
  obtain ⟨es, n, D⟩ := D
  exact ⟨es, n, _, D.at_, D.lit, h, rfl⟩
theorem dt_ok {K : PySem.W.Frag} {w : World} {d : Addr} {x : Str} {vs : List Dv} (D : ∃ es n, KDict K w d es n) (h : dtB K d x vs = true) : ∃ a, KDct K w d x (.ref a) ∧ PySem.W.nsIn K d x = some (some (.ref a)) ∧ ∀ H, SqT K H a (vs.map (Dv.v K)) := by
  obtain ⟨h1, h2⟩ := ba h
  exact ⟨_, kdct_of D (eqO_ok h1), eqO_ok h1, fun H => tupA_ok h2 H⟩
/-- at the key x the def y -/
def dfB (K : PySem.W.Frag) (d : Addr) (x y : Str) : Bool := eqO (PySem.W.nsIn K d x) (some (some (.ref (ga K y))))
def dnB (K : PySem.W.Frag) (d : Addr) (x : Str) : Bool := eqO (PySem.W.nsIn K d x) (some none)
end Lc
set_option Elab.async false
set_option linter.all false
set_option maxRecDepth 100000
set_option maxHeartbeats 4000000
namespace Lc
open PySem PySem.Spec PyProof.Rows L2 He
/-! ## what does not stand in a dict of the module with text keys -/
def keysB (K : PySem.W.Frag) (d : Addr) (ks : List Str) : Bool := match K.lookup d with
  | some ⟨_, _, .dict es _, _⟩ => es.toList.all fun e => match e.key with
    | .str x _ => ks.contains x
    | _ => false
  | _ => false
theorem keys_no {K : PySem.W.Frag} {d : Addr} {ks : List Str} (h : keysB K d ks = true) {x : Str} (hx : x ∉ ks) : PySem.W.nsIn K d x = some none := by
  unfold keysB at h
  unfold PySem.W.nsIn
  split at h
  · rename_i ty o es n sl q
    rw [q]
    have key := List.all_eq_true.mp h
    have f : es.toList.find? (·.key.isStr x) = none := List.find?_eq_none.mpr fun e he hs => by
      have k := key e he
      split at k
      · rename_i y t qk
        rw [qk] at hs
        have e1 : y = x := by simpa [Value.isStr] using hs
        rw [e1] at k
        exact hx (by simpa using k)
      · cases k
    have g : es.toList.any (·.refKey) = false := by
      rw [List.any_eq_false]
      intro e he hs
      have k := key e he
      unfold DictEntry.refKey at hs
      split at k
      · rename_i y t qk
        rw [qk] at hs
        cases hs
      · cases k
    dsimp only
    rw [f, g]
    rfl
  · cases h
end Lc
set_option Elab.async false
set_option linter.all false
set_option maxRecDepth 100000
set_option maxHeartbeats 4000000
namespace Lc
open PySem PySem.Spec PyProof.Rows L2 He
/-! ## The head's facts, with dicts of the module, and what stands at the table of modules -/
abbrev asS (g : Addr → Option Obj) (n : Nat) : List Addr := sysModules :: asD g n
def obsS (n : Nat) (fa : List Fa) (fn : List DefD) (ex : PySem.W.Frag → Bool) (ts : List Tab) (g : Addr → Option Obj) : AlF := ((obsD fa fn (frG g (asS g n)), ex (frG g (asS g n))), ts.map fun t => dicW (frG g (asS g n)) (t.1 (frG g (asS g n))))
def hookS (n : Nat) (fa : List Fa) (fn : List DefD) (ex : PySem.W.Frag → Bool) (ts : List Tab) : PySem.W.Hook where
  α := AlF
  obs := fun s => obsS n fa fn ex ts s.heap.get?
  val := fun w => ((valD fn, true), ts.map fun t : Tab => some (keysIn w.params t.2))
  says := fun w h => ∃ K : PySem.W.Frag, K.In h ∧ SaysD fa fn K ∧ ex K = true ∧ TabsOk ts w K
  of := fun _ _ e => ⟨_, frG_in, congrArg (fun z : AlF => z.1.1) e, congrArg (fun z : AlF => z.1.2) e, tabs_of (show _ = _ from congrArg (fun z : AlF => z.2) e)⟩
  keeps := fun _ _ _ ⟨K, hK, c⟩ k => ⟨K, PySem.W.Frag.In.keeps hK k, c⟩
theorem obsS_eq {n : Nat} {fa : List Fa} {fn : List DefD} {ex : PySem.W.Frag → Bool} {ts : List Tab} {g : Addr → Option Obj} {s : Shared} (h : ∀ a, g a = s.heap.get? a) : obsS n fa fn ex ts g = (hookS n fa fn ex ts).obs s := by
  have e : g = s.heap.get? := funext h
  rw [e] <;> rfl
theorem sm_of {K : PySem.W.Frag} (h : (K.lookup sysModules).isSome = true) : ∃ o, K.lookup sysModules = some o := Option.isSome_iff_exists.mp h
end Lc
set_option Elab.async false
set_option linter.all false
set_option maxRecDepth 100000
set_option maxHeartbeats 8000000
namespace K09
open PySem PySem.Spec PyProof.Rows L2 Lc He
/-! ## the head -/
def dOf (x : Str) (st : Stmt) : DefD := ⟨(x, none), x, x, defArgs st, defBody st, defScope st, [], []⟩
def dMt (c m q : Str) (st : Stmt) : DefD := ⟨(c, some m), m, q, defArgs st, defBody st, defScope st, [], []⟩
def dKw (x : Str) (st : Stmt) (kw : List (Str × Dv)) : DefD := ⟨(x, none), x, x, defArgs st, defBody st, defScope st, [], kw⟩
def dDf (x : Str) (st : Stmt) (df : List Dv) : DefD := ⟨(x, none), x, x, defArgs st, defBody st, defScope st, df, []⟩
def dMd (c m q : Str) (st : Stmt) (df : List Dv) : DefD := ⟨(c, some m), m, q, defArgs st, defBody st, defScope st, df, []⟩
def fn : List DefD := [dMt "BadExpression" "__init__" "BadExpression.__init__" sIni, dOf "is_whole" sWhole, dOf "common_divisor" sCd, dOf "is_rational" sIsR, dOf "is_name" sName, dOf "within_limit" sWithin, dOf "is_value" sValue, dOf "kind_of" sKo, dOf "kind_at" sKa, dOf "has_word" sHw, dOf "leaf_kind" sLk, dOf "kind_of_value" sKv, dOf "check_operands" sCk, dOf "result_kind" sRk, dOf "_law_tape" sTape, dOf "_law_draw" sDraw, dOf "_law_lowest" sLst, dOf "_law_rational" sRat, dOf "_law_name" sLnm, dOf "_law_fresh" sFr, dOf "_law_columns" sCls, dOf "_law_leaf" sLf, dOf "_law_expression" sXp, dOf "_law_is_name" sLin, dOf "_law_value_kind" sVl, dOf "_law_wanted" sWn, dOf "_law_kind" sKl, dOf "_law_odd_part" sOd, dOf "_law_bent" sBn, dOf "_law_told" sTd, dOf "law" sLaw]
def gl : List Str := (["KINDS", "BadExpression", "OPERANDS", "PAIRED", "ARITHMETIC", "is_whole", "common_divisor", "is_rational", "is_name", "within_limit", "is_value", "kind_of", "kind_at", "has_word", "leaf_kind", "kind_of_value", "check_operands", "result_kind", "_law_tape", "_law_draw"] : List Str) ++ (["_law_lowest", "_law_rational", "_law_name", "_law_fresh", "_law_columns", "_law_leaf", "_law_expression", "_law_is_name", "_law_value_kind", "_law_wanted", "_law_kind", "_law_odd_part", "_law_bent", "_law_told"] : List Str)
def loose : List Str := gl ++ (["LETTERS", "NAME_SIGNS", "LONGEST_NAME", "LIMIT", "DEEPEST"] : List Str)
def fa : List Fa := (.glo "law") :: gl.map Fa.glo ++ (btNames ++ ([] : List Str)).map Fa.free ++ [.str "LETTERS" letters, .str "NAME_SIGNS" signs, .int "LONGEST_NAME" 12, .int "LIMIT" lim, .int "DEEPEST" 8]
def exL (K : PySem.W.Frag) : List Bool := [tupB K "KINDS" [.str "number", .str "word", .str "flag"], oexB K (ga K "BadExpression"), eqO (PySem.W.findIn K (.ref (ga K "BadExpression")) "__init__") (some (some (.ref (ma K (ga K "BadExpression") "__init__")))), Lc.optV (PySem.W.typeIn K (.ref (ma K (ga K "BadExpression") "__init__"))) (some (.type "function")), eqO (PySem.W.findIn K (.ref (ga K "BadExpression")) "path") (some none), xfB K (ga K "BadExpression"), xisB K (ga K "BadExpression"), optB (PySem.W.exmOne K (.ref (ga K "BadExpression")) (.ref (ga K "BadExpression"))) (some true), optB (PySem.W.kitOne K (.ref (ga K "BadExpression")) (.type "ValueError")) (some true), (K.lookup PySem.sysModules).isSome, tupB K "PAIRED" [.str "same", .str "if"], tupB K "ARITHMETIC" [.str "plus", .str "minus", .str "times", .str "over"], keysB K (ga K "OPERANDS") ["plus", "minus", "times", "over", "less", "same", "both", "either", "not", "missing", "if"], dtB K (ga K "OPERANDS") "plus" [.str "number", .str "number"], dtB K (ga K "OPERANDS") "minus" [.str "number", .str "number"], dtB K (ga K "OPERANDS") "times" [.str "number", .str "number"], dtB K (ga K "OPERANDS") "over" [.str "number", .str "number"], dtB K (ga K "OPERANDS") "less" [.str "number", .str "number"], dtB K (ga K "OPERANDS") "same" [.non, .non], dtB K (ga K "OPERANDS") "both" [.str "flag", .str "flag"], dtB K (ga K "OPERANDS") "either" [.str "flag", .str "flag"], dtB K (ga K "OPERANDS") "not" [.str "flag"], dtB K (ga K "OPERANDS") "missing" [.non], dtB K (ga K "OPERANDS") "if" [.str "flag", .non, .non]]
def ex (K : PySem.W.Frag) : Bool := (exL K).all id
def ts : List Tab := [((fun K => ga K "OPERANDS"), ["plus", "minus", "times", "over", "less", "same", "both", "either", "not", "missing", "if"])]
abbrev R : PySem.W.OpenRow := PySem.W.OpenLaw.row PySem.Challenge.rw_liveclaims_k09_invalid_expressions
abbrev hk : PySem.W.Hook := hookS 5 fa fn ex ts
def ob (s : PySem.W.SharedT) : AlF := obsS 5 fa fn ex ts (HandSHeadRun.getT s)
theorem ob_eq (s : PySem.W.SharedT) : ob s = hk.obs s.abs := obsS_eq (HandSHeadRun.getT_eq s)
theorem run_false (w : World) : HandSHeadRun.RunEq R (PySem.W.view R.prog [44]) hk ob 4000 loose (w.withFollow "special-get-raises" false) := by
  intro os
  kernel_rfl
theorem run_true (w : World) : HandSHeadRun.RunEq R (PySem.W.view R.prog [44]) hk ob 4000 loose (w.withFollow "special-get-raises" true) := by
  intro os
  kernel_rfl
theorem run (w : World) : HandSHeadRun.RunEq R (PySem.W.view R.prog [44]) hk ob 4000 loose w := PySem.W.byRow2 "special-get-raises" (P := fun w => HandSHeadRun.RunEq R (PySem.W.view R.prog [44]) hk ob 4000 loose w) run_false run_true w
theorem facts {P : Program} {w : World} {K : PySem.W.Frag} {h : Heap} {mg : Str → Option Value} {f : Addr} (X : K.In h) (G : h.Ns mainGlobals mg) (hfa : mg ("law" : Str) = some (.ref f)) (c : SaysD fa fn K) (e : ex K = true) (tb : TabsOk ts w K) :
    ∃ fd : FuncData, (∀ (s : Shared) (v : Value), BindsTo s fd ⟨[v], []⟩ [("_law_script", v)]) ∧ ∀ base : Heap, K.In base → base.Ns mainGlobals mg → FnG P w K mg base 17 f fd ["_law_script"] (spLaw K) := by
  obtain ⟨fd0, D0⟩ := c.def_ 0 (d := dMt "BadExpression" "__init__" "BadExpression.__init__" sIni) rfl
  obtain ⟨fd1, D1⟩ := c.def_ 1 (d := dOf "is_whole" sWhole) rfl
  obtain ⟨fd2, D2⟩ := c.def_ 2 (d := dOf "common_divisor" sCd) rfl
  obtain ⟨fd3, D3⟩ := c.def_ 3 (d := dOf "is_rational" sIsR) rfl
  obtain ⟨fd4, D4⟩ := c.def_ 4 (d := dOf "is_name" sName) rfl
  obtain ⟨fd5, D5⟩ := c.def_ 5 (d := dOf "within_limit" sWithin) rfl
  obtain ⟨fd6, D6⟩ := c.def_ 6 (d := dOf "is_value" sValue) rfl
  obtain ⟨fd7, D7⟩ := c.def_ 7 (d := dOf "kind_of" sKo) rfl
  obtain ⟨fd8, D8⟩ := c.def_ 8 (d := dOf "kind_at" sKa) rfl
  obtain ⟨fd9, D9⟩ := c.def_ 9 (d := dOf "has_word" sHw) rfl
  obtain ⟨fd10, D10⟩ := c.def_ 10 (d := dOf "leaf_kind" sLk) rfl
  obtain ⟨fd11, D11⟩ := c.def_ 11 (d := dOf "kind_of_value" sKv) rfl
  obtain ⟨fd12, D12⟩ := c.def_ 12 (d := dOf "check_operands" sCk) rfl
  obtain ⟨fd13, D13⟩ := c.def_ 13 (d := dOf "result_kind" sRk) rfl
  obtain ⟨fd14, D14⟩ := c.def_ 14 (d := dOf "_law_tape" sTape) rfl
  obtain ⟨fd15, D15⟩ := c.def_ 15 (d := dOf "_law_draw" sDraw) rfl
  obtain ⟨fd16, D16⟩ := c.def_ 16 (d := dOf "_law_lowest" sLst) rfl
  obtain ⟨fd17, D17⟩ := c.def_ 17 (d := dOf "_law_rational" sRat) rfl
  obtain ⟨fd18, D18⟩ := c.def_ 18 (d := dOf "_law_name" sLnm) rfl
  obtain ⟨fd19, D19⟩ := c.def_ 19 (d := dOf "_law_fresh" sFr) rfl
  obtain ⟨fd20, D20⟩ := c.def_ 20 (d := dOf "_law_columns" sCls) rfl
  obtain ⟨fd21, D21⟩ := c.def_ 21 (d := dOf "_law_leaf" sLf) rfl
  obtain ⟨fd22, D22⟩ := c.def_ 22 (d := dOf "_law_expression" sXp) rfl
  obtain ⟨fd23, D23⟩ := c.def_ 23 (d := dOf "_law_is_name" sLin) rfl
  obtain ⟨fd24, D24⟩ := c.def_ 24 (d := dOf "_law_value_kind" sVl) rfl
  obtain ⟨fd25, D25⟩ := c.def_ 25 (d := dOf "_law_wanted" sWn) rfl
  obtain ⟨fd26, D26⟩ := c.def_ 26 (d := dOf "_law_kind" sKl) rfl
  obtain ⟨fd27, D27⟩ := c.def_ 27 (d := dOf "_law_odd_part" sOd) rfl
  obtain ⟨fd28, D28⟩ := c.def_ 28 (d := dOf "_law_bent" sBn) rfl
  obtain ⟨fd29, D29⟩ := c.def_ 29 (d := dOf "_law_told" sTd) rfl
  obtain ⟨fd30, D30⟩ := c.def_ 30 (d := dOf "law" sLaw) rfl
  have ef := hfa.symm.trans (glo_ok X G (c.fact 0 (f := .glo "law") rfl))
  cases ef
  have g : ∀ (i : Nat) (x : Str), fa[i]? = some (.glo x) → mg x = some (.ref (ga K x)) := fun i x z => glo_ok X G (c.fact i (f := .glo x) z)
  have z : ∀ (i : Nat) (x : Str), fa[i]? = some (.free x) → mg x = none := fun i x z => free_ok X G (c.fact i (f := .free x) z)
  have T : Bt mg := ⟨z 35 _ rfl, z 36 _ rfl, z 37 _ rfl, z 38 _ rfl, z 39 _ rfl, z 40 _ rfl, z 41 _ rfl, z 42 _ rfl, z 43 _ rfl, z 44 _ rfl, z 45 _ rfl, z 46 _ rfl, z 47 _ rfl, z 48 _ rfl, z 49 _ rfl, z 50 _ rfl, z 51 _ rfl, z 52 _ rfl⟩
  obtain ⟨uc0, mc0⟩ := str_ok X G (c.fact 53 (f := .str "LETTERS" letters) rfl)
  obtain ⟨uc1, mc1⟩ := str_ok X G (c.fact 54 (f := .str "NAME_SIGNS" signs) rfl)
  obtain ⟨uc2, mc2⟩ := int_ok X G (c.fact 55 (f := .int "LONGEST_NAME" 12) rfl)
  obtain ⟨uc3, mc3⟩ := int_ok X G (c.fact 56 (f := .int "LIMIT" lim) rfl)
  obtain ⟨uc4, mc4⟩ := int_ok X G (c.fact 57 (f := .int "DEEPEST" 8) rfl)
  have a : ∀ (i : Nat) {b : Bool}, (exL K)[i]? = some b → b = true := fun i _ z => all_at e i z
  have b0 : Binds K fd0 ["self", "path"] [] := D0.bindsN fun _ _ _ _ _ _ us hl => match us, hl with | [_, _], _ => rfl
  have b1 : Binds K fd1 ["value"] [] := D1.bindsN fun _ _ _ _ _ _ us hl => match us, hl with | [_], _ => rfl
  have b2 : Binds K fd2 ["a", "b"] [] := D2.bindsN fun _ _ _ _ _ _ us hl => match us, hl with | [_, _], _ => rfl
  have b3 : Binds K fd3 ["value"] [] := D3.bindsN fun _ _ _ _ _ _ us hl => match us, hl with | [_], _ => rfl
  have b4 : Binds K fd4 ["value"] [] := D4.bindsN fun _ _ _ _ _ _ us hl => match us, hl with | [_], _ => rfl
  have b5 : Binds K fd5 ["number"] [] := D5.bindsN fun _ _ _ _ _ _ us hl => match us, hl with | [_], _ => rfl
  have b6 : Binds K fd6 ["value", "kind"] [] := D6.bindsN fun _ _ _ _ _ _ us hl => match us, hl with | [_, _], _ => rfl
  have b7 : Binds K fd7 ["columns", "expression"] [] := D7.bindsN fun _ _ _ _ _ _ us hl => match us, hl with | [_, _], _ => rfl
  have b8 : Binds K fd8 ["kinds", "part", "path"] [] := D8.bindsN fun _ _ _ _ _ _ us hl => match us, hl with | [_, _, _], _ => rfl
  have b9 : Binds K fd9 ["part"] [] := D9.bindsN fun _ _ _ _ _ _ us hl => match us, hl with | [_], _ => rfl
  have b10 : Binds K fd10 ["kinds", "part"] [] := D10.bindsN fun _ _ _ _ _ _ us hl => match us, hl with | [_, _], _ => rfl
  have b11 : Binds K fd11 ["value"] [] := D11.bindsN fun _ _ _ _ _ _ us hl => match us, hl with | [_], _ => rfl
  have b12 : Binds K fd12 ["word", "found", "path"] [] := D12.bindsN fun _ _ _ _ _ _ us hl => match us, hl with | [_, _, _], _ => rfl
  have b13 : Binds K fd13 ["word", "found"] [] := D13.bindsN fun _ _ _ _ _ _ us hl => match us, hl with | [_, _], _ => rfl
  have b14 : Binds K fd14 ["_law_script"] [] := D14.bindsN fun _ _ _ _ _ _ us hl => match us, hl with | [_], _ => rfl
  have b15 : Binds K fd15 ["_law_tape_here", "_law_many"] [] := D15.bindsN fun _ _ _ _ _ _ us hl => match us, hl with | [_, _], _ => rfl
  have b16 : Binds K fd16 ["_law_n", "_law_d"] [] := D16.bindsN fun _ _ _ _ _ _ us hl => match us, hl with | [_, _], _ => rfl
  have b17 : Binds K fd17 ["_law_tape_here", "_law_wide"] [] := D17.bindsN fun _ _ _ _ _ _ us hl => match us, hl with | [_, _], _ => rfl
  have b18 : Binds K fd18 ["_law_tape_here"] [] := D18.bindsN fun _ _ _ _ _ _ us hl => match us, hl with | [_], _ => rfl
  have b19 : Binds K fd19 ["_law_tape_here", "_law_taken"] [] := D19.bindsN fun _ _ _ _ _ _ us hl => match us, hl with | [_, _], _ => rfl
  have b20 : Binds K fd20 ["_law_tape_here", "_law_lead", "_law_many", "_law_taken"] [] := D20.bindsN fun _ _ _ _ _ _ us hl => match us, hl with | [_, _, _, _], _ => rfl
  have b21 : Binds K fd21 ["_law_tape_here", "_law_columns_here", "_law_kind_here"] [] := D21.bindsN fun _ _ _ _ _ _ us hl => match us, hl with | [_, _, _], _ => rfl
  have b22 : Binds K fd22 ["_law_tape_here", "_law_columns_here", "_law_kind_here", "_law_depth"] [] := D22.bindsN fun _ _ _ _ _ _ us hl => match us, hl with | [_, _, _, _], _ => rfl
  have b23 : Binds K fd23 ["_law_value"] [] := D23.bindsN fun _ _ _ _ _ _ us hl => match us, hl with | [_], _ => rfl
  have b24 : Binds K fd24 ["_law_value"] [] := D24.bindsN fun _ _ _ _ _ _ us hl => match us, hl with | [_], _ => rfl
  have b25 : Binds K fd25 ["_law_word"] [] := D25.bindsN fun _ _ _ _ _ _ us hl => match us, hl with | [_], _ => rfl
  have b26 : Binds K fd26 ["_law_columns_here", "_law_expression_here", "_law_path"] [] := D26.bindsN fun _ _ _ _ _ _ us hl => match us, hl with | [_, _, _], _ => rfl
  have b27 : Binds K fd27 ["_law_tape_here", "_law_columns_here"] [] := D27.bindsN fun _ _ _ _ _ _ us hl => match us, hl with | [_, _], _ => rfl
  have b28 : Binds K fd28 ["_law_tape_here", "_law_columns_here", "_law_expression_here"] [] := D28.bindsN fun _ _ _ _ _ _ us hl => match us, hl with | [_, _, _], _ => rfl
  have b29 : Binds K fd29 ["_law_columns_here", "_law_expression_here"] [] := D29.bindsN fun _ _ _ _ _ _ us hl => match us, hl with | [_, _], _ => rfl
  have bl := FunD.bindsA (ps := ["_law_script"]) D30 fun _ _ _ _ _ _ us hl => match us, hl with | [_], _ => rfl
  refine ⟨fd30, fun s v => bl s [v] rfl, fun base _ _ => ?_⟩
  have m_KINDS : mg "KINDS" = some (.ref (ga K "KINDS")) := g 1 _ rfl
  have m_BadExpression : mg "BadExpression" = some (.ref (ga K "BadExpression")) := g 2 _ rfl
  have m_OPERANDS : mg "OPERANDS" = some (.ref (ga K "OPERANDS")) := g 3 _ rfl
  have m_PAIRED : mg "PAIRED" = some (.ref (ga K "PAIRED")) := g 4 _ rfl
  have m_ARITHMETIC : mg "ARITHMETIC" = some (.ref (ga K "ARITHMETIC")) := g 5 _ rfl
  have m_is_whole : mg "is_whole" = some (.ref (ga K "is_whole")) := g 6 _ rfl
  have m_common_divisor : mg "common_divisor" = some (.ref (ga K "common_divisor")) := g 7 _ rfl
  have m_is_rational : mg "is_rational" = some (.ref (ga K "is_rational")) := g 8 _ rfl
  have m_is_name : mg "is_name" = some (.ref (ga K "is_name")) := g 9 _ rfl
  have m_within_limit : mg "within_limit" = some (.ref (ga K "within_limit")) := g 10 _ rfl
  have m_is_value : mg "is_value" = some (.ref (ga K "is_value")) := g 11 _ rfl
  have m_kind_of : mg "kind_of" = some (.ref (ga K "kind_of")) := g 12 _ rfl
  have m_kind_at : mg "kind_at" = some (.ref (ga K "kind_at")) := g 13 _ rfl
  have m_has_word : mg "has_word" = some (.ref (ga K "has_word")) := g 14 _ rfl
  have m_leaf_kind : mg "leaf_kind" = some (.ref (ga K "leaf_kind")) := g 15 _ rfl
  have m_kind_of_value : mg "kind_of_value" = some (.ref (ga K "kind_of_value")) := g 16 _ rfl
  have m_check_operands : mg "check_operands" = some (.ref (ga K "check_operands")) := g 17 _ rfl
  have m_result_kind : mg "result_kind" = some (.ref (ga K "result_kind")) := g 18 _ rfl
  have m__law_tape : mg "_law_tape" = some (.ref (ga K "_law_tape")) := g 19 _ rfl
  have m__law_draw : mg "_law_draw" = some (.ref (ga K "_law_draw")) := g 20 _ rfl
  have m__law_lowest : mg "_law_lowest" = some (.ref (ga K "_law_lowest")) := g 21 _ rfl
  have m__law_rational : mg "_law_rational" = some (.ref (ga K "_law_rational")) := g 22 _ rfl
  have m__law_name : mg "_law_name" = some (.ref (ga K "_law_name")) := g 23 _ rfl
  have m__law_fresh : mg "_law_fresh" = some (.ref (ga K "_law_fresh")) := g 24 _ rfl
  have m__law_columns : mg "_law_columns" = some (.ref (ga K "_law_columns")) := g 25 _ rfl
  have m__law_leaf : mg "_law_leaf" = some (.ref (ga K "_law_leaf")) := g 26 _ rfl
  have m__law_expression : mg "_law_expression" = some (.ref (ga K "_law_expression")) := g 27 _ rfl
  have m__law_is_name : mg "_law_is_name" = some (.ref (ga K "_law_is_name")) := g 28 _ rfl
  have m__law_value_kind : mg "_law_value_kind" = some (.ref (ga K "_law_value_kind")) := g 29 _ rfl
  have m__law_wanted : mg "_law_wanted" = some (.ref (ga K "_law_wanted")) := g 30 _ rfl
  have m__law_kind : mg "_law_kind" = some (.ref (ga K "_law_kind")) := g 31 _ rfl
  have m__law_odd_part : mg "_law_odd_part" = some (.ref (ga K "_law_odd_part")) := g 32 _ rfl
  have m__law_bent : mg "_law_bent" = some (.ref (ga K "_law_bent")) := g 33 _ rfl
  have m__law_told : mg "_law_told" = some (.ref (ga K "_law_told")) := g 34 _ rfl
  have x1 : ErF K mg "BadExpression" "path" (ga K "BadExpression") _ := ⟨oexB_ok (a 1 rfl), eqO_ok (a 2 rfl), of_decide_eq_true (a 3 rfl), eqO_ok (a 4 rfl), m_BadExpression⟩
  have x2 : ExB K (ga K "BadExpression") := ⟨xfB_ok (a 5 rfl), xisB_ok (a 6 rfl), of_decide_eq_true (a 7 rfl), of_decide_eq_true (a 8 rfl)⟩
  have x3 : SmK K := sm_of (a 9 rfl)
  have G0 : FnOk P w K mg base CX0 (1) _ fd0 ["self", "path"] (spIni (ga K "BadExpression") "path") := ok_ini (fun_of D0) x1
  have G1 : FnOk P w K mg base CX0 (1) _ fd1 ["value"] (spWhole) := ok_whole (fun_of D1) T
  have G2 : FnOk P w K mg base CX0 (1) _ fd2 ["a", "b"] (spCd) := ok_cd (fun_of D2)
  have G3 : FnOk P w K mg base CX0 (2) _ fd3 ["value"] (spIsR) := ok_isr (fun_of D3) T G1 m_is_whole D1.kp b1 G2 m_common_divisor D2.kp b2
  have G4 : FnOk P w K mg base CX0 (1) _ fd4 ["value"] (spName) := ok_name (fun_of D4) T mc0 mc1 mc2
  have G5 : FnOk P w K mg base CX0 (1) _ fd5 ["number"] (spWithin) := ok_within (fun_of D5) T mc3
  have G6 : FnOk P w K mg base CX0 (3) _ fd6 ["value", "kind"] (spValue) := ok_value (fun_of D6) G3 m_is_rational D3.kp b3 G5 m_within_limit D5.kp b5 G4 m_is_name D4.kp b4
  have tO := tb 0 _ rfl
  have ops_key : ∀ {x : Str}, opsV x = none → x ∈ (["plus", "minus", "times", "over", "less", "same", "both", "either", "not", "missing", "if"] : List Str) → False := fun {x} hx hm => by
    have key : ∀ x ∈ (["plus", "minus", "times", "over", "less", "same", "both", "either", "not", "missing", "if"] : List Str), (opsV x).isSome = true := by decide +kernel
    have := key x hm
    rw [hx] at this
    cases this
  have OA : OpsA K w mg (ga K "OPERANDS") (ga K "PAIRED") := ⟨m_OPERANDS, tO, opsV_all (dt_ok tO (a 13 rfl)) (dt_ok tO (a 14 rfl)) (dt_ok tO (a 15 rfl)) (dt_ok tO (a 16 rfl)) (dt_ok tO (a 17 rfl)) (dt_ok tO (a 18 rfl)) (dt_ok tO (a 19 rfl)) (dt_ok tO (a 20 rfl)) (dt_ok tO (a 21 rfl)) (dt_ok tO (a 22 rfl)) (dt_ok tO (a 23 rfl)), fun x hx => keys_no (ks := ["plus", "minus", "times", "over", "less", "same", "both", "either", "not", "missing", "if"]) (a 12 rfl) fun hm => ops_key hx hm, m_PAIRED, (fun H => tupB_ok (a 10 rfl) H)⟩
  have G9 : FnOk P w K mg base CX0 (1) _ fd9 ["part"] (spHw) := ok_Hw (fun_of D9) T
  have G11 : FnOk P w K mg base CX0 (4) _ fd11 ["value"] (spKv) := ok_Kv (fun_of D11) T m_KINDS (fun H => tupB_ok (a 0 rfl) H) G6 m_is_value D6.kp b6
  have G10 : FnOk P w K mg base CX0 (5) _ fd10 ["kinds", "part"] (spLk) := ok_Lk (fun_of D10) T G11 m_kind_of_value D11.kp b11
  have G12 : FnOk P w K mg base (L2.CX P w) (3) _ fd12 ["word", "found", "path"] (spCk (ga K "BadExpression")) := ok_Ck (fun_of D12) T OA x1 G0 b0
  have G13 : FnOk P w K mg base CX0 (1) _ fd13 ["word", "found"] (spRk) := ok_rk (fun_of D13) m_ARITHMETIC (fun H => tupB_ok (a 11 rfl) H)
  have G8 : FnOk P w K mg base (L2.CX P w) (5 + 8 + 1) _ fd8 ["kinds", "part", "path"] (spKa (ga K "BadExpression") 8) := ok_KaN (fun_of D8) T OA mc4 x1 G0 b0 G9 m_has_word D9.kp b9 G10 m_leaf_kind D10.kp b10 G12 m_check_operands D12.kp b12 G13 m_result_kind D13.kp b13 m_kind_at D8.kp b8 8
  have G7 : FnOk P w K mg base (L2.CX P w) (15) _ fd7 ["columns", "expression"] (spKo (ga K "BadExpression")) := ok_Ko (fun_of D7) T G8 m_kind_at D8.kp b8
  have G14 : FnOk P w K mg base CX0 (1) _ fd14 ["_law_script"] (spTape K) := ok_tape (fun_of D14) T
  have G15 : FnOk P w K mg base CX0 (1) _ fd15 ["_law_tape_here", "_law_many"] (spDrawL) := ok_draw (fun_of D15) T
  have G16 : FnOk P w K mg base CX0 (1) _ fd16 ["_law_n", "_law_d"] (spLowest) := ok_lst (fun_of D16) T
  have G17 : FnOk P w K mg base CX0 (2) _ fd17 ["_law_tape_here", "_law_wide"] (spRatL) := ok_rat (fun_of D17) T G15 m__law_draw D15.kp b15 G16 m__law_lowest D16.kp b16
  have G18 : FnOk P w K mg base CX0 (2) _ fd18 ["_law_tape_here"] (spLNm) := ok_lnm (fun_of D18) T G15 m__law_draw D15.kp b15
  have G19 : FnOk P w K mg base CX0 (3) _ fd19 ["_law_tape_here", "_law_taken"] (spFr) := ok_fr (fun_of D19) G18 m__law_name D18.kp b18
  have G20 : FnOk P w K mg base CX0 (4) _ fd20 ["_law_tape_here", "_law_lead", "_law_many", "_law_taken"] (spCls) := ok_cls (fun_of D20) T G15 m__law_draw D15.kp b15 G19 m__law_fresh D19.kp b19
  have G21 : FnOk P w K mg base CX0 (3) _ fd21 ["_law_tape_here", "_law_columns_here", "_law_kind_here"] (spLf) := ok_lf (fun_of D21) T G15 m__law_draw D15.kp b15 G17 m__law_rational D17.kp b17
  have G22 : FnOk P w K mg base CX0 (3 + 6) _ fd22 ["_law_tape_here", "_law_columns_here", "_law_kind_here", "_law_depth"] (spXs 6) := fn_xs 6 (ok_xp (fun_of D22) G15 m__law_draw D15.kp b15 G21 m__law_leaf D21.kp b21 m__law_expression D22.kp b22)
  have G23 : FnOk P w K mg base CX0 (1) _ fd23 ["_law_value"] (spLin) := ok_Lin (fun_of D23) T
  have G24 : FnOk P w K mg base CX0 (2) _ fd24 ["_law_value"] (spVl) := ok_Vl (fun_of D24) T G23 m__law_is_name D23.kp b23 G16 m__law_lowest D16.kp b16
  have G25 : FnOk P w K mg base CX0 (1) _ fd25 ["_law_word"] (spWn) := ok_Wn (fun_of D25) T
  have G26 : FnG P w K mg base (2 + 8 + 1) _ fd26 ["_law_columns_here", "_law_expression_here", "_law_path"] (spKl 8) := ok_KlN (fun_of D26) T G24 m__law_value_kind D24.kp b24 G25 m__law_wanted D25.kp b25 m__law_kind D26.kp b26 8
  have G27 : FnOk P w K mg base CX0 (10) _ fd27 ["_law_tape_here", "_law_columns_here"] (spOd) := ok_Od (fun_of D27) T G15 m__law_draw D15.kp b15 G22 m__law_expression D22.kp b22
  have G28 : FnOk P w K mg base CX0 (10 + 5 + 1) _ fd28 ["_law_tape_here", "_law_columns_here", "_law_expression_here"] (spBn 5) := ok_BnN (fun_of D28) T G15 m__law_draw D15.kp b15 G27 m__law_odd_part D27.kp b27 m__law_bent D28.kp b28 5
  have G29 : FnOk P w K mg base CX0 (16) _ fd29 ["_law_columns_here", "_law_expression_here"] (spTd) := ok_Td (fun_of D29) T x1 x2 G7 m_kind_of D7.kp b7
  exact ok_Law (fun_of D30) T x3 G14 m__law_tape D14.kp b14 G20 m__law_columns D20.kp b20 G22 m__law_expression D22.kp b22 G28 m__law_bent D28.kp b28 G27 m__law_odd_part D27.kp b27 G29 m__law_told D29.kp b29 G26 m__law_kind D26.kp b26
end K09
open PySem PySem.W PySem.Calls PyProof.Rows
theorem PySem.Challenge.cw_liveclaims_k09_invalid_expressions_holds : PySem.Challenge.rw_liveclaims_k09_invalid_expressions.Holds := by
  w_on; o_law
  refine HandSHeadRun.head_any (r := OpenLaw.row PySem.Challenge.rw_liveclaims_k09_invalid_expressions) (q := view (OpenLaw.row PySem.Challenge.rw_liveclaims_k09_invalid_expressions).prog [44]) (H := K09.hk) (ob := K09.ob) (M := 4000) (loose := K09.loose) (d := HandSHeadRun.topDef (OpenLaw.row PySem.Challenge.rw_liveclaims_k09_invalid_expressions).prog 44) (kwd := []) K09.ob_eq
    (by kernel_rfl) (fun s => by kernel_rfl) K09.run (by kernel_rfl) (by kernel_rfl) (by kernel_rfl) (by rfl) (by first | assumption | decide +kernel) (by decide +kernel) ⟨rfl, rfl, rfl, rfl, rfl, by decide +kernel⟩ ?hw ?hc
  case hw => w_witness2
  case hc =>
    refine Lc.walk_GE (l := PySem.Challenge.rw_liveclaims_k09_invalid_expressions) (n := 63) (k := 17) (x := "_law_script") rfl (by decide) (by kernel_rfl) ⟨rfl, by decide, by decide⟩ ?F
    intro w mg fa h Y G hmg0
    obtain ⟨K, KX, c, e, tb⟩ := Y
    have hmg : mg ("law" : PySem.Str) = some (.ref fa) := by
      have e : (HandSHeadRun.topDef (OpenLaw.row PySem.Challenge.rw_liveclaims_k09_invalid_expressions).prog 44).name = ("law" : PySem.Str) := by kernel_rfl
      rw [← e]
      exact hmg0
    obtain ⟨fd, hb, hF⟩ := K09.facts (P := (PySem.Challenge.rw_liveclaims_k09_invalid_expressions).prog) (w := w) KX G hmg c e tb
    exact ⟨K, fd, K09.spLaw K, KX, hb, fun H a ns hl hS => ⟨a, ns, rfl, hS, fun _ => rfl⟩, hF⟩
