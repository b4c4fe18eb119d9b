import PyProof.Rows.All
import Wide.All
import OpenK.AllK
import Wide.FinOn
import HandS.ForMost
import HandS.ForExc
import HandS.Wide
import HandS.Flow
import HandS.IsInst
import HandS.ExcInit
import HandS.ExcField
import HandS.ExcIs
import HandS.TryMany
import HandS.CallLocal
import HandS.RaiseMore
import HandS.CallSlots
import KE.KExcIs
import PyProof.ReprRoads
import PyProof.ReprText
import HandS.Evl
import HandS.Walk
import HandS.Style
import PyProof.StrBlock2
import PyProof.StrLawsRepr
import PyProof.ReprLen
import KE.GoesEnum
import HandS.Iter
import HandS.TupMul
import HandS.ListItems
import HandS.OwnIter
import HandS.More
import PyProof.InstSpecial
import HandS.Defaults
import HandS.DictComp
import HandS.Zip
import HandS.Head0
import HandS.Head1
import HandS.Head2
import HandS.HeadHook1
import HandS.HeadHook2
import KE.KStateDown
import HandS.HeadHook3
import PySem.Challenge.RW_liveclaims_k10_values_of_expressions
set_option maxRecDepth 100000
set_option maxHeartbeats 4000000
set_option linter.all false
namespace Lc
/-! ## Greatest common divisors and lowest terms -/
def gd (a b : Int) : Int := (Int.gcd a b : Int)
theorem gd_nonneg (a b : Int) : 0 ≤ gd a b := Int.natCast_nonneg _
theorem gd_pos {a b : Int} (h : b ≠ 0) : 0 < gd a b := by
  have : 0 < Int.gcd a b := Int.gcd_pos_of_ne_zero_right a h
  unfold gd
  omega
theorem gd_zero {a : Int} (h : 0 ≤ a) : gd a 0 = a := by
  unfold gd
  rw [Int.gcd_zero_right]
  omega
theorem gd_step {a b : Int} (ha : 0 ≤ a) (hb : 0 < b) : gd b (a % b) = gd a b := by
  unfold gd Int.gcd
  have e1 : (a % b).natAbs = a.natAbs % b.natAbs := by
    have h0 : 0 ≤ a % b := Int.emod_nonneg a (by omega)
    have : ((a % b).natAbs : Int) = ((a.natAbs % b.natAbs : Nat) : Int) := by
      rw [Int.natCast_emod, Int.natAbs_of_nonneg h0, Int.natAbs_of_nonneg ha, Int.natAbs_of_nonneg (by omega : 0 ≤ b)]
    exact Int.ofNat.inj this
  rw [e1, Nat.gcd_comm b.natAbs, ← Nat.gcd_rec, Nat.gcd_comm]
theorem gd_abs (a b : Int) : gd (if a < 0 then -a else a) b = gd a b := by
  unfold gd
  split
  · rw [Int.neg_gcd]
  · rfl
theorem gd_abs2 (a b : Int) : gd a (if b < 0 then -b else b) = gd a b := by
  unfold gd
  split
  · rw [Int.gcd_neg]
  · rfl
theorem gd_dvd1 (a b : Int) : gd a b ∣ a := Int.gcd_dvd_left a b
theorem gd_dvd2 (a b : Int) : gd a b ∣ b := Int.gcd_dvd_right a b
theorem gd_natAbs_le {a b : Int} (h : b ≠ 0) : (gd a b).natAbs ≤ b.natAbs := by
  have h1 : Int.gcd a b ≤ b.natAbs := Nat.le_of_dvd (by omega) (Int.gcd_dvd_natAbs_right a b)
  unfold gd
  rw [Int.natAbs_natCast]
  exact h1
def lowN (n d : Int) : Int := n / gd n d
def lowD (n d : Int) : Int := d / gd n d
structure Rt (n d : Int) : Prop where
  pos : 0 < d
  cop : gd n d = 1
theorem low_mul {n d : Int} (h : d ≠ 0) : lowN n d * gd n d = n ∧ lowD n d * gd n d = d := ⟨Int.ediv_mul_cancel (gd_dvd1 n d), Int.ediv_mul_cancel (gd_dvd2 n d)⟩
theorem lowD_pos {n d : Int} (h : 0 < d) : 0 < lowD n d := Int.ediv_pos_of_pos_of_dvd h (gd_nonneg n d) (gd_dvd2 n d)
theorem low_rt {n d : Int} (h : 0 < d) : Rt (lowN n d) (lowD n d) := by
  refine ⟨lowD_pos h, ?_⟩
  have hg : 0 < Int.gcd n d := Int.gcd_pos_of_ne_zero_right n (by omega)
  unfold lowN lowD gd
  rw [Int.gcd_ediv_gcd_ediv_gcd hg]
  rfl
theorem dvd_cop {k m n : Int} (h : k ∣ n * m) (g : Int.gcd m k = 1) : k ∣ n := by
  have h1 : k.natAbs ∣ m.natAbs * n.natAbs := by
    rw [← Int.natAbs_mul, Int.mul_comm]
    exact Int.natAbs_dvd_natAbs.mpr h
  have c : Nat.Coprime k.natAbs m.natAbs := by
    show Nat.gcd k.natAbs m.natAbs = 1
    rw [Nat.gcd_comm]
    exact g
  exact Int.natAbs_dvd_natAbs.mp (c.dvd_of_dvd_mul_left h1)
/-- lowest terms are one pair alone -/
theorem rt_unique {a b c d : Int} (h1 : Rt a b) (h2 : Rt c d) (e : a * d = c * b) : a = c ∧ b = d := by
  have g1 : Int.gcd a b = 1 := by have := h1.cop; unfold gd at this; omega
  have g2 : Int.gcd c d = 1 := by have := h2.cop; unfold gd at this; omega
  have db : b ∣ d := by
    have : b ∣ d * a := ⟨c, by rw [Int.mul_comm d a, e, Int.mul_comm]⟩
    exact dvd_cop this g1
  have dd : d ∣ b := by
    have : d ∣ b * c := ⟨a, by rw [Int.mul_comm b c, ← e, Int.mul_comm]⟩
    exact dvd_cop this g2
  have hb := h1.pos
  have hd := h2.pos
  have ebd : b = d := Int.le_antisymm (Int.le_of_dvd hd db) (Int.le_of_dvd hb dd)
  subst ebd
  exact ⟨Int.eq_of_mul_eq_mul_right (by omega) e, rfl⟩
theorem low_is {n d a b : Int} (hd : 0 < d) (h : Rt a b) (e : n * b = a * d) : lowN n d = a ∧ lowD n d = b := by
  have m := low_mul (n := n) (d := d) (by omega)
  have g := gd_pos (a := n) (b := d) (by omega)
  refine rt_unique (low_rt hd) h ?_
  have e2 : (lowN n d * b) * gd n d = (a * lowD n d) * gd n d := by
    rw [Int.mul_right_comm, m.1, Int.mul_assoc, m.2, e]
  exact Int.eq_of_mul_eq_mul_right (by omega) e2
theorem fdiv_neg_dvd {a g : Int} (hg : 0 < g) (h : g ∣ a) : a.fdiv (-g) = (-a) / g := by
  obtain ⟨m, rfl⟩ := h
  have e1 : g * m = (-g) * (-m) := by rw [Int.neg_mul_neg]
  have e2 : -(g * m) = g * (-m) := by rw [Int.mul_neg]
  rw [e2, Int.mul_ediv_cancel_left _ (by omega), e1, Int.mul_fdiv_cancel_left _ (by omega)]
/-- the sums and products of the law -/
theorem sub_add {an ad bn bd p q : Int} (had : 0 < ad) (hbd : 0 < bd) (hq : 0 < q) (h : p * (ad * bd) = (an * bd + bn * ad) * q) : (p * bd - bn * q) * ad = an * (q * bd) := by
  have e1 : (p * bd - bn * q) * ad = p * (ad * bd) - bn * q * ad := by
    rw [Int.sub_mul, Int.mul_assoc p bd ad, Int.mul_comm bd ad]
  have e2 : (an * bd + bn * ad) * q = an * (q * bd) + bn * q * ad := by
    rw [Int.add_mul, Int.mul_assoc an bd q, Int.mul_comm bd q, Int.mul_assoc bn ad q, Int.mul_comm ad q, Int.mul_assoc bn q ad]
  rw [e1, h, e2]
  omega
theorem mul_div {an ad bn bd p q : Int} (h : p * (ad * bn) = (an * bd) * q) (hbn : bn ≠ 0) : (p * bn) * ad = an * (q * bd) := by
  rw [Int.mul_assoc p bn ad, Int.mul_comm bn ad, h, Int.mul_assoc an bd q, Int.mul_comm bd q]
end Lc
namespace Lc
theorem low_le {n d : Int} (h : d ≠ 0) : (lowN n d).natAbs ≤ n.natAbs ∧ (lowD n d).natAbs ≤ d.natAbs := by
  have m := low_mul (n := n) (d := d) h
  have g := gd_pos (a := n) (b := d) h
  have e1 : n.natAbs = (lowN n d).natAbs * (gd n d).natAbs := by rw [← Int.natAbs_mul, m.1]
  have e2 : d.natAbs = (lowD n d).natAbs * (gd n d).natAbs := by rw [← Int.natAbs_mul, m.2]
  have gp : 0 < (gd n d).natAbs := by omega
  exact ⟨by rw [e1]; exact Nat.le_mul_of_pos_right _ gp, by rw [e2]; exact Nat.le_mul_of_pos_right _ gp⟩
theorem rt_one (n : Int) : Rt n 1 := ⟨by decide, by unfold gd; rw [Int.gcd_one]; rfl⟩
theorem rt_inv {d : Int} (h : 0 < d) : Rt 1 d := ⟨h, by unfold gd; rw [Int.one_gcd]; rfl⟩
theorem rt_ninv {d : Int} (h : 0 < d) : Rt (-1) d := ⟨h, by unfold gd; rw [Int.neg_gcd, Int.one_gcd]; rfl⟩
end Lc
set_option Elab.async false
set_option linter.all false
set_option maxRecDepth 100000
set_option maxHeartbeats 4000000
namespace Lc
open PySem PySem.Spec PyProof.Rows L2
/-! ## A try with clauses of both forms, «except X:» and «except X as n:» -/
structure Cl where
  c : Value
  slot : Option Nat
  ts : Addr → Value → Option Addr → TS
def putS : Option Nat → Option V → L2.St → L2.St
  | none, _, σ => σ
  | some i, v, σ => σ.set i v
def endS (q : Option Nat) (D : Ends) : Ends := ⟨fun σ H => D.nx (putS q none σ) H, D.rt, fun σ H => D.bk (putS q none σ) H, fun σ H => D.ct (putS q none σ) H⟩
def wCl (K : PySem.W.Frag) (Wout : WX) (D : Ends) : List Cl → WX
  | [] => Wout
  | q :: r => fun cls d σ H => ∃ b, PySem.W.exmOne K cls q.c = some b ∧ (b = true → ∀ a, H a = none → q.ts a cls d (endS q.slot D) (putS q.slot (some (.ref a)) σ) H) ∧
      (b = false → wCl K Wout D r cls d σ H)
abbrev SuiteOk (X : Cx) (st : List Stmt) (ts : Addr → Value → Option Addr → TS) : Prop :=
  ∀ (a : Addr) (ob : Obj) (cls : Value) (d : Option Addr) (pn : List (Addr × Obj)), Zc cls d ob → (∃ vs, ob.data = .fields vs) → PSs (X.suite a ((a, ob) :: pn)) st (ts a cls d)
inductive ClsOk (X : Cx) : List ExceptHandler → List Cl → Prop
  | nil : ClsOk X [] []
  | bare {x : Str} {q : Cl} {st : Stmt} {sts : List Stmt} {p1 p2 : Pos} {hds : List ExceptHandler} {l : List Cl} (hc : Names X x q.c) (hq : q.slot = none) (su : SuiteOk X (st :: sts) q.ts) (r : ClsOk X hds l) :
      ClsOk X (.ExceptHandler (some (.Name x p1)) none (st :: sts) p2 :: hds) (q :: l)
  | named {x n : Str} {q : Cl} {i : Nat} {st : Stmt} {sts : List Stmt} {p1 p2 : Pos} {hds : List ExceptHandler} {l : List Cl} (hc : Names X x q.c) (hq : q.slot = some i) (hN : X.N.Nodup) (hi : X.N[i]? = some n) (hn : X.env.kindOf n = some .local)
      (su : SuiteOk X (st :: sts) q.ts) (r : ClsOk X hds l) : ClsOk X (.ExceptHandler (some (.Name x p1)) (some n) (st :: sts) p2 :: hds) (q :: l)
section
variable {X : Cx}
theorem clauses_go {Wout : WX} {D : Ends} {pins : List (Addr × Obj)} {σ : L2.St} {H : Hp} {cls : Value} {d : Option Addr} {a : Addr} {B : Heap} {sI s' : Shared} {h3 : Heap}
    (hs : X.stack = X.env :: X.outer) (hf : X.env.frame = some X.env.locals) (tk : Takes X Wout) (J : Inv X pins σ H sI)
    (nb : ∀ b o, sI.heap.get? b = some o → b ∉ frs X.stack → B.get? b = some o) (na : H a = none) (os : s'.os = sI.os) (ag : AllBare s'.gens)
    (up : sI.heap.UpToSlots h3) (fl : HandSPX.FlyingZ B (X.env :: X.outer) a (Zc cls d) h3) :
    ∀ {hds : List ExceptHandler} {l : List Cl}, ClsOk X hds l → wCl X.K Wout D l cls d σ H → wpAny (model X.prog X.w) X.A (handleBy (.ref a) X.env hds) (SP X pins D) X.xe { s' with heap := h3 } := by
  have ok := J.ok
  have land : ∀ {h4 : Heap}, HandSPX.FlyingZ B (X.env :: X.outer) a (Zc cls d) h4 → sI.heap.UpToSlots h4 → Inv X pins σ H { s' with heap := h4 } ∧ ∃ ob vs, Zc cls d ob ∧ ob.data = .fields vs ∧ h4.get? a = some ob ∧
      Inv (X.suite a ((a, ob) :: (X.pn ++ pins))) [] σ H { s' with heap := h4 } := by
    intro h4 f4 u4
    have J4 : Inv X pins σ H { s' with heap := h4 } := J.landed nb f4.1 u4 os ag
    obtain ⟨ob, vs, hob, hz, hd⟩ := f4.there
    have nfr : a ∉ frs (X.env :: X.outer) := fun hm => by
      obtain ⟨_, ox, ex, nf⟩ := f4.2.2.1.mem hm
      rw [hob] at ex
      cases ex
      exact nf _ hd
    have nL : a ≠ X.env.locals := fun z => nfr (List.mem_filterMap.mpr ⟨X.env, List.mem_cons_self, by rw [hf, z]⟩)
    have nF : a ∉ X.fs := fun hm => by
      obtain ⟨en, hen, qq⟩ := List.mem_filterMap.mp hm
      exact nfr (List.mem_filterMap.mpr ⟨en, List.mem_cons_of_mem _ hen, qq⟩)
    exact ⟨J4, ob, vs, hz, hd, hob, J4.suite hob hd na nL nF⟩
  obtain ⟨J3, o3, vs3, hz3, hd3, ho3, S3⟩ := land fl up
  have ty : PySem.W.Looks (model X.prog X.w) h3 (typeOf (.ref a)) cls := fun _ _ _ _ kk qq => wpAny_typeOf_ref (kk _ _ ho3) (by rw [hz3.1]; exact qq)
  have tst : ∀ {x : Str} {c : Value} {p1 : Pos} {Q : Value → Shared → Prop} {E : Value → Shared → Prop}, Names X x c → Q c { s' with heap := h3 } →
      wpAny (model X.prog X.w) (X.A.mark (some (.ref a))) (eval (.Name x p1) X.env) Q E { s' with heap := h3 } := by
    intro x c p1 Q E hc hq
    rcases hc with ⟨hg, hdb, hm | ⟨hm, hv, hne⟩⟩
    · exact ld_glob (X := X.suite a ((a, o3) :: (X.pn ++ pins))) S3 hg hm hq hdb
    · exact ld_blt (X := X.suite a ((a, o3) :: (X.pn ++ pins))) S3 hg hm hv hq hne hdb
  intro hds l hk
  induction hk with
  | nil =>
    intro wi
    refine wpAny_handleBy_nil ?_
    obtain ⟨_, _, _, ox, vx, T, _, _, hox, _, hdx, h1, _⟩ := id fl
    have out : wpAny (model X.prog X.w) X.A (setFlight (.ref a) X.env.frame) (fun _ s4 => wpAny (model X.prog X.w) X.A (throw (.ref a) : Sem Flow) (SP X pins D) X.xe s4) X.xe { s' with heap := h3 } := by
      rw [hf]
      exact HandSPX.setFlight_upZ fl fun h4 f4 u4 => wpAny_throw (tk _ _ ⟨a, B, sI, pins, σ, H, cls, d, rfl, J, nb, up.trans u4, .inr (.inr (by rw [hs]; exact f4)), na, os, ag, wi⟩)
    unfold PySem.passOn
    refine wpAny_bind (wpAny_field hox hdx h1 ?_)
    rw [if_neg (by simp : ¬ ((Value.ref T == Value.none) = true))]
    first
      | exact wpAny_bind out
      | exact wpAny_bind (wpAny_pure (wpAny_bind out))
  | @bare x q st sts p1 p2 hds2 l2 hc hq su r ih =>
    intro wi
    obtain ⟨b, hb, yes, no⟩ := wi
    refine wpAny_handleBy_cons (codeAny_handlers_test (tst hc ((PySem.W.exm_one (M := model X.prog X.w) J3.kIn ty hb).here ?_))) (by intro z; cases z)
    cases b with
    | false => exact ih (no rfl)
    | true =>
      refine codeAny_handlers_suite (HandSPX.lands_againZ fl fun h4 f4 u4 => ?_)
      obtain ⟨J4, o4, vs4, hz4, hd4, ho4, S4⟩ := land f4 (up.trans u4)
      have yy := yes rfl a na
      rw [hq] at yy
      refine wpAny_mono ((su a o4 cls d (X.pn ++ pins) hz4 ⟨_, hd4⟩).run [] _ _ H _ S4 yy) (fun f s6 hsp => ?_) (fun _ _ z => z.elim)
      cases f with
      | ret u =>
        obtain ⟨v6, σ6, H6, S6, r6, q6⟩ := hsp
        exact ⟨v6, σ6, H6, S6.unsuite ok, r6, q6⟩
      | next => obtain ⟨σ6, H6, S6, q6⟩ := hsp; exact ⟨σ6, H6, S6.unsuite ok, q6⟩
      | brk => obtain ⟨σ6, H6, S6, q6⟩ := hsp; exact ⟨σ6, H6, S6.unsuite ok, q6⟩
      | cont => obtain ⟨σ6, H6, S6, q6⟩ := hsp; exact ⟨σ6, H6, S6.unsuite ok, q6⟩
  | @named x n q i st sts p1 p2 hds2 l2 hc hq hN hi hn su r ih =>
    intro wi
    obtain ⟨b, hb, yes, no⟩ := wi
    refine wpAny_handleBy_cons (codeAny_handlers_test (tst hc ((PySem.W.exm_one (M := model X.prog X.w) J3.kIn ty hb).here ?_))) (by intro z; cases z)
    cases b with
    | false => exact ih (no rfl)
    | true =>
      refine codeAny_handlers_suite_as (HandSPX.lands_againZ fl fun h4 f4 u4 => ?_)
      obtain ⟨J4, o4, vs4, hz4, hd4, ho4, S4⟩ := land f4 (up.trans u4)
      have yy := yes rfl a na
      rw [hq] at yy
      refine store_ok (X := X.suite a ((a, o4) :: (X.pn ++ pins))) (v := .ref a) S4 hN hi (.inl hn) rfl (fun s5 S5 => ?_) (.inr hn)
      refine wpAny_mono ((su a o4 cls d (X.pn ++ pins) hz4 ⟨_, hd4⟩).run [] s5 _ H _ S5 yy) (fun f s6 hsp => ?_) (fun _ _ z => z.elim)
      have fin : ∀ {σ6 : L2.St} {H6 : Hp} {Q : Shared → Prop}, Inv (X.suite a ((a, o4) :: (X.pn ++ pins))) [] σ6 H6 s6 → (∀ s7, Inv X pins (σ6.set i none) H6 s7 → Q s7) →
          wpAny (model X.prog X.w) X.A (do bindName X.env n .none; unbindBehindTheSuite X.env n p2) (fun _ s7 => Q s7) X.xe s6 := fun S6 k => gone_ok (S6.unsuite ok) hN hi hn k
      cases f with
      | ret u =>
        obtain ⟨v6, σ6, H6, S6, r6, q6⟩ := hsp
        exact fin S6 fun s7 J7 => ⟨_, _, _, J7, r6, q6⟩
      | next => obtain ⟨σ6, H6, S6, q6⟩ := hsp; exact fin S6 fun s7 J7 => ⟨_, _, J7, q6⟩
      | brk => obtain ⟨σ6, H6, S6, q6⟩ := hsp; exact fin S6 fun s7 J7 => ⟨_, _, J7, q6⟩
      | cont => obtain ⟨σ6, H6, S6, q6⟩ := hsp; exact fin S6 fun s7 J7 => ⟨_, _, J7, q6⟩
theorem ps_tryL {body : List Stmt} {h₀ : ExceptHandler} {hds : List ExceptHandler} {l : List Cl} {pos : Pos} {tb : WX → TS} {Wout : WX} (hs : X.stack = X.env :: X.outer) (hf : X.env.frame = some X.env.locals) (tk : Takes X Wout)
    (hb : ∀ (W : WX) (pn : List (Addr × Obj)) (xe : Value → Shared → Prop), Takes (X.tr pn xe) W → PassesOwn (model X.prog X.w) X.A X.env xe → PSs (X.tr pn xe) body (tb W)) (hh : ClsOk X (h₀ :: hds) l) :
    PS X (.Try body (h₀ :: hds) [] [] pos) (fun D σ H => tb (wCl X.K Wout D l) D σ H) := by
  refine ⟨fun pins s σ H D I h => ?_⟩
  have ok := I.ok
  have fr : X.A.frames = some (X.env :: X.outer) := ok.frames.trans (congrArg some hs)
  refine wpAny_Try_except (wpAny_mono ((hb (wCl X.K Wout D l) (X.pn ++ pins) (fun e s₁ => wpAny (model X.prog X.w) X.A (noteFrame e X.env) (fun _ s₂ => wpAny (model X.prog X.w) X.A (setFlight e none)
    (fun _ s₃ => wpAny (model X.prog X.w) X.A (handleBy e X.env (h₀ :: hds)) (SP X pins D) X.xe s₃) X.xe s₂) X.xe s₁) (fun u s' xx => ?_) PassesOwn.looking).run [] s σ H D (I.toTry _) h) (fun f s1 hsp => ?_) (fun _ _ he => he))
  · obtain ⟨a, B, sI, _, σ1, H1, cls, d, rfl, J', nb, up, sky, na, os, ag, wi⟩ := xx
    rw [hs] at sky
    exact Sky.land Zc.steady fr hf sky fun h3 f3 u3 => clauses_go hs hf tk (J'.ofTry ok) nb na os ag (up.trans u3) f3 hh wi
  · cases f with
    | ret u =>
      obtain ⟨v1, σ1, H1, J1, r1, q1⟩ := hsp
      exact ⟨v1, σ1, H1, J1.ofTry ok, r1, q1⟩
    | next => obtain ⟨σ1, H1, J1, q1⟩ := hsp; exact wpAny_execs_nil ⟨σ1, H1, J1.ofTry ok, q1⟩
    | brk => obtain ⟨σ1, H1, J1, q1⟩ := hsp; exact ⟨σ1, H1, J1.ofTry ok, q1⟩
    | cont => obtain ⟨σ1, H1, J1, q1⟩ := hsp; exact ⟨σ1, H1, J1.ofTry ok, q1⟩
end
/-! ## isinstance of the caught error, whether it has a dict or not -/
structure XisC (K : PySem.W.Frag) (C : Addr) : Prop where
  hc : (PySem.W.clsIn K C).isSome = true
  ga : PySem.W.findIn K (.ref C) "__getattribute__" = some (some (.builtin "BaseException.__getattribute__"))
  gt : PySem.W.findIn K (.ref C) "__getattr__" = some none
  sb : PySem.W.subIn K (.ref C) (.type "BaseException") = some true
  cl : PySem.W.findIn K (.ref C) "__class__" = some (some (.builtin "object.__class__"))
  sp : PySem.W.specialIn K (.builtin "object.__class__") "__get__" = some (some (.builtin "getset_descriptor.__get__"))
  tk : PySem.W.takesIn K (.builtin "object.__class__") = some true
  mo : PySem.W.mroIn K C (.type "object") = some true
def rIsX (K : PySem.W.Frag) (cls : Value) (d : Option Addr) (C a : Addr) : List V → Hp → VK → Prop := fun xs H Q => cls = .ref C ∧ ∃ (c : V) (cv : Value) (b : Bool), xs = [.ref a, c] ∧ ClsV c cv ∧ (∀ dd, d = some dd → ∃ fs, H dd = some (.xd fs)) ∧
  PySem.W.kitOne K (.ref C) cv = some b ∧ Q (.bl b) H
section
variable {X : Cx}
theorem call_isX {a C : Addr} {ob : Obj} {cls : Value} {d : Option Addr} {pn : List (Addr × Obj)} (T : XisC X.K C) (hz : Zc cls d ob) (hf : ∃ vs, ob.data = .fields vs) : CallR (X.suite a ((a, ob) :: pn)) (.builtin "isinstance") (rIsX X.K cls d C a) := by
  intro pins s σ H xs us Q I r h
  obtain ⟨ec, c, cv, b, rfl, hcv, hd, e, q⟩ := h
  obtain ⟨u1, u2, rfl, r1, r2⟩ := vals2 r
  have e2 := hcv.eq r2
  subst e2 ec
  obtain rfl : u1 = Value.ref a := r1
  obtain ⟨vs, hv⟩ := hf
  obtain ⟨hget, _⟩ := I.pin (a, ob) (List.mem_append_left _ List.mem_cons_self)
  have nc : PySem.W.notCls ob = true := by unfold PySem.W.notCls; rw [hv]
  have key : ∃ od, PySem.W.InstAt s.heap a ob C od := by
    cases d with
    | none => exact ⟨none, hget, hz.1, nc, by rw [hz.2]; trivial⟩
    | some dd =>
      obtain ⟨fs, hfs⟩ := hd dd rfl
      obtain ⟨mA, ⟨o, _, _, ho, _⟩, _⟩ := (show ObjOk X.prog X.w H s.heap dd (.xd fs) from I.hok dd _ hfs)
      exact ⟨some o, hget, hz.1, nc, by rw [hz.2]; exact ho⟩
  obtain ⟨od, J⟩ := key
  exact PySem.W.kia_one (PySem.W.kitx_exc T.hc T.ga T.gt T.sb T.cl T.sp T.tk T.mo) I.kIn J e (fun z => nomatch z) fun tk => ⟨.bl b, H, I.kept (t' := tk) fun _ _ z => z, rfl, q⟩
/-! ## f(e, ..), f a local name that holds a def which may raise -/
def tCallLS (i : Nat) (f : Addr) (sp : Sp) (E : L2.St → XK) (t : TA) : TE := fun σ H Q => σ[i]? = some (some (.ref f)) ∧ t σ H fun vs H1 => sp vs H1 Q (E σ)
theorem pe_callLS {CX : CXT} {k i : Nat} {f : Addr} {fd : FuncData} {ps : List Str} {sp : Sp} {E : L2.St → XK} {x : Str} {p pos : Pos} {e : Expr} {es : List Expr} {t : TA}
    (F : FnOk X.prog X.w X.K X.mg X.base CX k f fd ps sp) (hr : Room k X.A) (hN : X.N[i]? = some x) (hv : Vis X.env.scope x) (hk : PySem.W.keepIn X.K (.ref f) = true) (hb : Binds X.K fd ps []) (hx : ∀ σ, PassesAt CX X σ (E σ)) (ha : PA X (e :: es) t)
    (hdb : (x == ("__debug__" : Str)) = false := by decide) (hcd : (x == ("__classdict__" : Str)) = false := by decide)
    (he : starEach (e :: es) X.env = (false, eval e X.env) :: starEach es X.env := by rfl) (hpl : (backTo pos (starEach es X.env)).any (·.1) = false := by rfl) : PE X (.Call (.Name x p) (e :: es) [] pos) (tCallLS i f sp E t) := by
  refine ⟨fun pins s σ H Q I ⟨hs, ht⟩ => wpAny_Call_Name_kw (thn ((pe_var (pos := p) hN hv hdb hcd).run pins s σ H (fun v H1 => v = .ref f ∧ H1 = H) I ⟨.ref f, hs, rfl, rfl⟩) fun u s1 ⟨v, H1, I1, r1, e1, e2⟩ => ?_)⟩
  subst e1 e2
  obtain rfl : u = Value.ref f := r1
  exact PySem.W.callWith_K (h₀ := X.base) I.ok.mod.kin hk (thn (ha.run pos pins s1 σ _ _ I1 ht) fun us s2 ⟨vs, H2, I2, r, q⟩ => ⟨I2.kIn, run_fnS F hr hb (hx σ) I2 r q⟩) he hpl
/-! ## C(), an own error class without an __init__ -/
theorem pmk_own0 {C : Addr} {bmB : List Value} {B newId initId : String} {x : Str} {p pos : Pos} (F : ExcBaseFacts B newId initId bmB) (q : PySem.W.excIn X.K C bmB newId = true) (gC : X.mg x = some (.ref C)) (kC : PySem.W.keepIn X.K (.ref C) = true)
    (r : Raises X (.ref C)) (hg : Gl X x) (hdb : (x == ("__debug__" : Str)) = false := by decide) : PMk X (.Call (.Name x p) [] [] pos) (fun _ H Q => Q (.ref C) none H) := by
  intro pins s σ H Q I h
  refine wpAny_Call_Name_kw (ld_glob I hg gC (PySem.W.callWith_K0 I.kIn kC ?_) hdb)
  obtain ⟨_, _, _, _, _, _, _, _, _, _, _, _, _, _, _, _, _, hC, hN, hni, T⟩ := exc_obj I.kIn q
  exact wpAny_call_exc_subT F T hC hN hni (fun h' e hm => mk_of I hm r h (I.hok.gone hm.new)) (by show 0 ≤ sizeLine; omega)
/-! ## // by any great number but 0 -/
theorem op_fdivZ : OpR X (binaryOp .FloorDiv) (rI (fun _ j => j ≠ 0 ∧ j.natAbs.log2 < 9000) fun i j => .int (i.fdiv j)) := opI fun _ _ _ _ _ _ _ hc q => floordiv_int hc.1 q (.inl (PyProof.noPylong_of_log2 hc.2))
/-! ## repr of data -/
def rReprD (K : PySem.W.Frag) : List V → Hp → VK → Prop := fun xs H Q => ∃ (a : Addr) (d : PyData), xs = [.ref a] ∧ Dp K H (.ref a) d ∧ d.showable = true ∧ d.hasDict = false ∧ d.depth ≤ 60 ∧ d.shown.length ≤ sizeLine ∧ Q (.str d.shown) H
theorem call_reprD (hu : X.A.units + 64 < cLine) (hg : X.A.guards = some []) : CallR X (.builtin "repr") (rReprD X.K) := by
  intro pins s σ H xs us Q I r h
  obtain ⟨a, d, rfl, hd, hs, hn, hde, hl, q⟩ := h
  obtain ⟨u, rfl, ru⟩ := vals1 r
  obtain rfl : u = Value.ref a := ru
  obtain ⟨as, rd⟩ := Dp.reads I d _ _ hd rfl
  exact repr_of_reads' rd hs (fun z => by rw [hn] at z; cases z) hg (by omega) (fun _ _ e => e) (fun h' u tk hk => ⟨.str d.shown, H, I.kept (t' := tk) hk, ⟨u, rfl⟩, q⟩) hl
end
end Lc
set_option Elab.async false
set_option linter.all false
set_option maxRecDepth 100000
set_option maxHeartbeats 4000000
namespace Lc
open PySem PySem.Spec PyProof.Rows L2
/-! ## Promises of defs that are called where no repr is under way -/
structure FnG (P : Program) (w : World) (K : PySem.W.Frag) (mg : Str → Option Value) (base : Heap) (k : Nat) (f : Addr) (fd : FuncData) (ps : List Str) (sp : Sp) : Prop where
  len : ∀ vs H Q E, sp vs H Q E → vs.length = ps.length
  run : ∀ (A : Around) (outer : List Env) (s : Shared) (H : Hp) (args : Args) (us : List Value) (vs : List V) (Q : VK) (E : XK), A.guards = some [] → Room k A → Env0 P w K mg base A outer s H → BindsTo s fd args (ps.zip us) → Vals vs us → sp vs H Q E →
    codeAny (model P w) A (.call (.ref f) args) (CR CX0 outer P w H s Q E) s
section
variable {P : Program} {w : World} {K : PySem.W.Frag} {mg : Str → Option Value} {base : Heap}
theorem Fun.okG {x qual : Str} {st : Stmt} {f : Addr} {fd : FuncData} {N ps : List Str} {k : Nat} {sp : Sp} (F : Fun K x qual st f fd) (S : FnScope N ps (defScope st)) (len : ∀ vs H Q E, sp vs H Q E → vs.length = ps.length)
    (go : ∀ (cdv : Value) (A : Around) (outer : List Env) (s : Shared) (H : Hp) (vs : List V) (Q : VK) (E : XK), A.guards = some [] → Room k (A.deeper (envOfC qual (defScope st) s.heap.objs.size f cdv)) → sp vs H Q E →
      ∃ t, PSs (cxOf CX0 P w K mg base N qual (defScope st) f cdv A outer s H E).nox (defBody st) t ∧ t { nx := fun _ H' => Q .non H', rt := Q } (start N vs) H) : FnG P w K mg base (k + 1) f fd ps sp := by
  obtain ⟨oc, od, kV, doc, pm, an, cdv, ct, osl, rfl, lk, hcd⟩ := F.ex
  refine ⟨len, fun A outer s H args us vs Q E hg hr e0 hb r hsp => ?_⟩
  have up : ∀ b o, base.get? b = some o → s.heap.get? b = some o := fun b o z => (e0.bs b o z).1
  have KX := e0.mod.kin.keeps up
  refine codeAny_call_function hr.depth (KX _ _ lk) rfl S.co S.gen rfl (PySem.W.codeRec_of KX hcd) (hb _ _ _ _ ?_)
  refine wpAny_newFunctionEnv_cells S.kind (fun y hy => ?_) fun env he s1 x => ?_
  · rcases S.par y.1 (List.of_mem_zip (a := y.1) (b := y.2) hy).1 with z | z
    · exact .inl z
    · exact .inr ⟨z, PySem.W.cellsFrom_some _ _ _ (.inl z)⟩
  subst he
  obtain ⟨t, ht, hq⟩ := go cdv A outer s H vs Q E hg (hr.deeper _) hsp
  have I : Inv (cxOf CX0 P w K mg base N qual (defScope st) f cdv A outer s H E) [] (start N vs) H s1 := inv_start S hr.hd e0 (len _ _ _ _ hsp) r x
  refine ⟨(e0.mod.nolimit.keeps up).keeps x.toInCall.keep, codeAny_func (wpAny_mono (ht.nox.run [] s1 (start N vs) H _ I hq) (fun fl s' hs => ?_) fun _ _ z => z)⟩
  cases fl with
  | ret u => obtain ⟨v, _, H', J, rv, q⟩ := hs; exact ⟨v, H', J.os, J.bare, J.base, J.hok, rv, q⟩
  | next => obtain ⟨_, H', J, q⟩ := hs; exact ⟨V.non, H', J.os, J.bare, J.base, J.hok, rfl, q⟩
  | brk => obtain ⟨_, _, _, q⟩ := hs; exact q.elim
  | cont => obtain ⟨_, _, _, q⟩ := hs; exact q.elim
end
section
variable {X : Cx} {k : Nat} {f : Addr} {fd : FuncData} {ps : List Str} {sp : Sp} {x : Str} {p pos : Pos} {e : Expr} {es : List Expr} {t : TA}
/-- f(e, ..), f kept under FnG -/
theorem pe_callG (F : FnG X.prog X.w X.K X.mg X.base k f fd ps sp) (gg : X.A.guards = some []) (hr : Room k X.A) (hg : Gl X x) (hm : X.mg x = some (.ref f)) (hk : PySem.W.keepIn X.K (.ref f) = true) (hb : Binds X.K fd ps [])
    (ha : PA X (e :: es) t) (hdb : (x == ("__debug__" : Str)) = false := by decide) (he : starEach (e :: es) X.env = (false, eval e X.env) :: starEach es X.env := by rfl) (hpl : (backTo pos (starEach es X.env)).any (·.1) = false := by rfl) :
    PE X (.Call (.Name x p) (e :: es) [] pos) (tCall sp [] E0 t) := by
  refine ⟨fun pins s σ H Q I h => wpAny_Call_Name_kw (ld_glob I hg hm ?_ hdb)⟩
  refine PySem.W.callWith_K (h₀ := X.base) I.ok.mod.kin hk (thn (ha.run pos pins s σ H _ I h) fun us s1 ⟨vs, H1, I1, r, q⟩ => ⟨I1.kIn, ?_⟩) he hpl
  replace q : sp vs H1 Q E0 := by
    have z : sp (vs ++ []) H1 Q E0 := q
    rw [List.append_nil] at z
    exact z
  have hl : us.length = ps.length := by rw [← r.length]; exact F.len _ _ _ _ q
  have b := hb s1 us I1.kIn (by rw [List.append_nil]; exact hl)
  rw [List.append_nil] at b
  refine wpAny_call (codeAny_mono (F.run X.A X.stack s1 H1 ⟨us, []⟩ us vs Q E0 gg hr I1.env0 b r q) fun rr s' hq => ?_)
  cases rr with
  | error er => exact False.elim hq
  | ok fl =>
    cases fl with
    | ret u => exact I1.after hq
    | next => exact False.elim hq
    | brk => exact False.elim hq
    | cont => exact False.elim hq
end
/-! ## The law itself -/
section
variable {P : Program} {w : World} {K : PySem.W.Frag} {mg mb : Str → Option Value} {k : Nat} {fa a : Addr} {fd : FuncData} {x : Str} {sp : Sp} {s : Shared} {vs : List Value} {ns : List Int}
theorem env_of {H : Hp} (KX : K.In s.heap) (hns : s.heap.Ns mainGlobals mg) (hb : s.heap.Ns builtinsNs mb) (hbb : ∀ x : Str, x ≠ "__name__" → mb x = bootBuiltins x) (hlim : s.heap.NoLimit) (hg : s.gens = #[])
    (ha : s.heap.get? a = some { cls := .type "list", data := .seq vs.toArray }) (hok : HOk P w H s.heap) (one : ∀ b, b ≠ a → H b = none) (nk : H a = none ∨ K.lookup a = none) :
    K.In (hidT s.heap H) ∧ (hidT s.heap H).Ns mainGlobals mg ∧ Env0 P w K mg (hidT s.heap H) callerA [] s H := by
  have keepN : ∀ {b : Addr} {m : Str → Option Value}, s.heap.Ns b m → (hidT s.heap H).Ns b m := by
    rintro b m ⟨o, es, ep, e, d, r⟩
    have nb : b ≠ a := fun z => by
      rw [z, ha] at e
      cases e
      exact nomatch (show Data.seq vs.toArray _ = Data.dict es ep from d)
    exact ⟨o, es, ep, hidT_get e (one b nb), d, r⟩
  have kin : K.In (hidT s.heap H) := fun b o e => hidT_get (KX b o e) (by
    by_cases z : b = a
    · rcases nk with q | q
      · rw [z]; exact q
      · rw [z, q] at e; cases e
    · exact one b z)
  obtain ⟨mc, l1, l2⟩ := hlim
  exact ⟨kin, keepN hns, rfl, ⟨kin, keepN hns, ⟨mb, keepN hb, hbb⟩, ⟨mc, keepN l1, l2⟩⟩, fun b o e => of_hidT e, Nat.le_of_eq (hidT_size _ _), trivial, fun b z => absurd (show b ∈ ([] : List Addr) from z) (by simp), hok, .of_eq hg⟩
theorem law_callG (KX : K.In s.heap) (hns : s.heap.Ns mainGlobals mg) (hb : s.heap.Ns builtinsNs mb) (hbb : ∀ x : Str, x ≠ "__name__" → mb x = bootBuiltins x) (hlim : s.heap.NoLimit) (hg : s.gens = #[])
    (ha : s.heap.get? a = some { cls := .type "list", data := .seq vs.toArray }) (hi : IntsAre vs ns) (hl : ns.length ≤ sizeLine) (hr : Room k callerA)
    (F : ∀ base : Heap, K.In base → base.Ns mainGlobals mg → FnG P w K mg base k fa fd [x] sp) (hbind : ∀ (s : Shared) (u : Value), BindsTo s fd ⟨[u], []⟩ [(x, u)])
    (hsp : ∀ H : Hp, SqL K H a (ns.map V.int) → sp [.ref a] H (fun v _ => v = .bl true) fun _ _ _ => False) :
    codeAny (model P w) callerA (.call (.ref fa) ⟨[.ref a], []⟩) (fun r s' => r = .ok (.ret (.bool true)) ∧ OldK s.heap s'.heap ∧ s'.os = s.os ∧ AllBare s'.gens) s := by
  have rv := vals_ints hi
  have go : ∀ H : Hp, SqL K H a (ns.map V.int) → HOk P w H s.heap → (∀ b, b ≠ a → H b = none) → (H a = none ∨ K.lookup a = none) → (∀ o, H a = some o → ∃ ob u, o = .frz ob u) →
      codeAny (model P w) callerA (.call (.ref fa) ⟨[.ref a], []⟩) (fun r s' => r = .ok (.ret (.bool true)) ∧ OldK s.heap s'.heap ∧ s'.os = s.os ∧ AllBare s'.gens) s := by
    intro H hS hok one nk fz
    obtain ⟨k1, k2, e0⟩ := env_of KX hns hb hbb hlim hg ha hok one nk
    refine codeAny_mono ((F _ k1 k2).run callerA [] s H ⟨[.ref a], []⟩ [.ref a] [.ref a] _ _ rfl hr e0 (hbind s (.ref a)) (.cons rfl .nil) (hsp H hS)) fun r s' h => ?_
    cases r with
    | error _ => exact False.elim h
    | ok fl =>
      cases fl with
      | next => exact False.elim h
      | brk => exact False.elim h
      | cont => exact False.elim h
      | ret u =>
        obtain ⟨v, H', os, bare, un, hok', ru, ev⟩ := h
        subst ev
        obtain rfl : u = Value.bool true := ru
        refine ⟨rfl, OldK.of_keep fun b o e => ?_, os, bare⟩
        cases q : H b with
        | none => exact un.keep b o e q (fun z => absurd (show b ∈ ([] : List Addr) from z) (by simp)) (by simp)
        | some oo =>
          have zb : b = a := Classical.byContradiction fun z => by rw [one b z] at q; cases q
          subst zb
          obtain ⟨ob, u, rfl⟩ := fz oo q
          obtain ⟨e1, _⟩ := hok b _ q
          obtain ⟨e2, _⟩ := hok' b _ (un.frzs b ob u q)
          rw [e] at e1
          cases e1
          exact e2
  cases hk : K.lookup a with
  | some o =>
    have e := KX a o hk
    rw [ha] at e
    cases e
    exact go (fun _ => none) (.inr ⟨_, vs.toArray, _, hk, rfl, rfl, rfl, by rw [List.size_toArray, hi.length]; exact hl, by simpa using rv⟩) (fun b u z => nomatch z) (fun _ _ => rfl) (.inl rfl) (fun o z => nomatch z)
  | none =>
    let ob : Obj := { cls := .type "list", data := .seq vs.toArray }
    refine go (upd (fun _ => none) a (.frz ob (.lst (ns.map V.int)))) (.inl (.inr ⟨ob, upd_same⟩)) (fun b u z => ?_) (fun b z => upd_ne z) (.inr hk) (fun o z => ?_)
    · by_cases q : b = a
      · subst q
        rw [upd_same] at z
        cases z
        exact ⟨ha, by rw [List.length_map]; exact hl, vs, _, rv, ha⟩
      · rw [upd_ne q] at z
        cases z
    · rw [upd_same] at z
      cases z
      exact ⟨_, _, rfl⟩
end
theorem walk_G {l : PySem.W.OpenLaw} {n k : Nat} {q : Program} {loose : List Str} {XP : (Str → Option Value) → Heap → Prop} {YP : World → Heap → Prop} {d : DefRec} {K : Params → PySem.W.Frag} {sp : PySem.W.Frag → Sp} {x : Str}
    (hn : l.most = some n) (hn2 : n ≤ sizeLine) (hdf : d.params.defaults = []) (hr : Room k callerA) (hY : ∀ (w : World) (h : Heap), YP w h → (K w.params).In h)
    (F : ∀ (w : World) (mg : Str → Option Value) (fa : Addr) (h : Heap), (K w.params).In h → h.Ns mainGlobals mg → mg d.name = some (.ref fa) →
      ∃ fd : FuncData, (∀ (s : Shared) (u : Value), BindsTo s fd ⟨[u], []⟩ [(x, u)]) ∧ ∀ base : Heap, (K w.params).In base → base.Ns mainGlobals mg → FnG l.prog w (K w.params) mg base k fa fd [x] (sp (K w.params)))
    (hsp : ∀ (K : PySem.W.Frag) (H : Hp) (a : Addr) (ns : List Int), ns.length ≤ n → SqL K H a (ns.map V.int) → sp K [.ref a] H (fun v _ => v = .bl true) fun _ _ _ => False) :
    PySem.W.WalkO q loose XP YP l.row.toRowW d [] (fun f vs => PySem.call f vs) := by
  refine Att.attach_call hn hdf fun w _ s mg mb fa _ _ _ _ a vs ns G Y _ _ _ hmg hobj hints hlen hg => ?_
  obtain ⟨fd, hb, hF⟩ := F w mg fa _ (hY w _ Y) G.T.g hmg
  exact law_callG (hY w _ Y) G.T.g G.T.b G.T.builtins G.T.nolimit hg hobj hints (Nat.le_trans hlen hn2) hr hF hb fun H hS => hsp _ H a ns hlen hS
end Lc
set_option Elab.async false
set_option linter.all false
set_option maxRecDepth 100000
set_option maxHeartbeats 4000000
namespace Lc
open PySem PySem.Spec PyProof.Rows L2
/-! ## Kinds of values -/
inductive TyN (H : Hp) : V → String → Prop
  | non : TyN H .non "NoneType"
  | bl (b : Bool) : TyN H (.bl b) "bool"
  | int (i : Int) : TyN H (.int i) "int"
  | str (x : Str) : TyN H (.str x) "str"
  | tup {a : Addr} {xs : List V} (e : H a = some (.tup xs)) : TyN H (.ref a) "tuple"
  | lst {a : Addr} {xs : List V} (e : H a = some (.lst xs)) : TyN H (.ref a) "list"
  | dct {a : Addr} {kvs : List (Key × V)} (e : H a = some (.dK kvs)) : TyN H (.ref a) "dict"
theorem TyN.x {K : PySem.W.Frag} {H : Hp} {v : V} {t : String} (h : TyN H v t) : TyX K H v (.type t) := by
  cases h with
  | non => exact .base .non
  | bl b => exact .base (.bl b)
  | int i => exact .base (.int i)
  | str x => exact .base (.str x)
  | tup e => exact .base (.tup e)
  | lst e => exact .base (.lst e)
  | dct e => exact .base (.dK e)
theorem TyN.same {H H' : Hp} {v : V} {t : String} (h : TyN H v t) (s : Same H H') : TyN H' v t := by
  cases h with
  | non => exact .non
  | bl b => exact .bl b
  | int i => exact .int i
  | str x => exact .str x
  | tup e => exact .tup (s _ _ e)
  | lst e => exact .lst (s _ _ e)
  | dct e => exact .dct (s _ _ e)
theorem TyN.isInt {H : Hp} {v : V} {t : String} (h : TyN H v t) (e : t = "int") : ∃ i, v = .int i := by
  cases h <;> first | exact ⟨_, rfl⟩ | exact absurd e (by decide)
theorem TyN.isStr {H : Hp} {v : V} {t : String} (h : TyN H v t) (e : t = "str") : ∃ x, v = .str x := by
  cases h <;> first | exact ⟨_, rfl⟩ | exact absurd e (by decide)
theorem TyN.isTup {H : Hp} {v : V} {t : String} (h : TyN H v t) (e : t = "tuple") : ∃ a xs, v = .ref a ∧ H a = some (.tup xs) := by
  cases h <;> first | exact ⟨_, _, rfl, by assumption⟩ | exact absurd e (by decide)
def tyNames : List String := ["NoneType", "bool", "int", "str", "tuple", "list", "dict"]
theorem TyN.mem {H : Hp} {v : V} {t : String} (h : TyN H v t) : t ∈ tyNames := by
  cases h <;> simp [tyNames]
theorem kit_int {K : PySem.W.Frag} {t : String} (h : t ∈ tyNames) : PySem.W.kitOne K (.type t) (.type "int") = some (t == "int" || t == "bool") := by
  have : ∀ t ∈ tyNames, kitB t "int" = some (t == "int" || t == "bool") := by decide +kernel
  exact kit_ty (this t h)
theorem kit_bool {K : PySem.W.Frag} {t : String} (h : t ∈ tyNames) : PySem.W.kitOne K (.type t) (.type "bool") = some (t == "bool") := by
  have : ∀ t ∈ tyNames, kitB t "bool" = some (t == "bool") := by decide +kernel
  exact kit_ty (this t h)
theorem kit_tuple {K : PySem.W.Frag} {t : String} (h : t ∈ tyNames) : PySem.W.kitOne K (.type t) (.type "tuple") = some (t == "tuple") := by
  have : ∀ t ∈ tyNames, kitB t "tuple" = some (t == "tuple") := by decide +kernel
  exact kit_ty (this t h)
theorem kit_str {K : PySem.W.Frag} {t : String} (h : t ∈ tyNames) : PySem.W.kitOne K (.type t) (.type "str") = some (t == "str") := by
  have : ∀ t ∈ tyNames, kitB t "str" = some (t == "str") := by decide +kernel
  exact kit_ty (this t h)
/-! ## What is a rational -/
def ratB : V → V → Bool
  | .int n, .int d => decide (0 < d) && decide (gd n d = 1)
  | _, _ => false
inductive Rk (H : Hp) : V → Bool → Prop
  | other {v : V} {t : String} (h : TyN H v t) (n : t ≠ "tuple") : Rk H v false
  | len {a : Addr} {xs : List V} (e : H a = some (.tup xs)) (n : xs.length ≠ 2) : Rk H (.ref a) false
  | pair {a : Addr} {x y : V} {tx ty : String} (e : H a = some (.tup [x, y])) (hx : TyN H x tx) (hy : TyN H y ty) : Rk H (.ref a) (ratB x y)
theorem Rk.same {H H' : Hp} {v : V} {b : Bool} (h : Rk H v b) (s : Same H H') : Rk H' v b := by
  cases h with
  | other h n => exact .other (h.same s) n
  | len e n => exact .len (s _ _ e) n
  | pair e hx hy => exact .pair (s _ _ e) (hx.same s) (hy.same s)
theorem Rk.of {H : Hp} {a : Addr} {n d : Int} (e : H a = some (.tup [.int n, .int d])) (r : Rt n d) : Rk H (.ref a) true := by
  have z : ratB (.int n) (.int d) = true := by
    show (decide (0 < d) && decide (gd n d = 1)) = true
    rw [decide_eq_true r.pos, decide_eq_true r.cop]
    rfl
  rw [← z]
  exact .pair e (.int n) (.int d)
/-! ## repr -/
inductive Shw (K : PySem.W.Frag) (H : Hp) : V → Str → Prop
  | data {v : V} {d : PyData} (h : Dp K H v d) (h1 : d.showable = true) (h2 : d.hasDict = false) (h3 : d.depth ≤ 60) (h4 : d.shown.length ≤ sizeLine) : Shw K H v d.shown
  | empty {a : Addr} (e : H a = some (.dK [])) : Shw K H (.ref a) (PyData.dict []).shown
def rReprV (K : PySem.W.Frag) : List V → Hp → VK → Prop := fun xs H Q => ∃ (v : V) (z : Str), xs = [v] ∧ Shw K H v z ∧ Q (.str z) H
theorem call_reprV {X : Cx} (hg : X.A.guards = some []) (hu : X.A.units + 64 < cLine) : CallR X (.builtin "repr") (rReprV X.K) := by
  intro pins s σ H xs us Q I r h
  obtain ⟨v, z, rfl, hd, q⟩ := h
  obtain ⟨u, rfl, ru⟩ := vals1 r
  cases hd with
  | @data _ d hd h1 h2 h3 h4 =>
    obtain ⟨as, rd⟩ := Dp.reads I d _ _ hd ru
    cases hd with
    | non =>
      obtain rfl : u = Value.none := ru
      exact P.repr_of_none ⟨.str _, H, I.tok _, ⟨_, rfl⟩, q⟩
    | bl b =>
      obtain rfl : u = Value.bool b := ru
      exact P.repr_of_bool ⟨.str _, H, I.tok _, ⟨_, rfl⟩, q⟩
    | int i =>
      obtain ⟨t, rfl⟩ := (show ∃ t, u = Value.int i t from ru)
      exact P.repr_of_int (of_decide_eq_true (by simpa [PyData.showable] using h1)) ⟨.str _, H, I.tok _, ⟨_, rfl⟩, q⟩
    | str x =>
      obtain ⟨t, rfl⟩ := (show ∃ t, u = Value.str x t from ru)
      exact P.repr_of_str ⟨.str _, H, I.tok _, ⟨_, rfl⟩, q⟩ h4
    | @lst a xs ds e1 e2 =>
      obtain rfl : u = Value.ref a := ru
      exact repr_of_reads' rd h1 (PyData.noDict_hsm h2) hg (by omega) (fun _ _ e => e) (fun h' u tk hk => ⟨.str _, H, I.kept (t' := tk) hk, ⟨u, rfl⟩, q⟩) h4
    | @tup a xs ds e1 e2 =>
      obtain rfl : u = Value.ref a := ru
      exact repr_of_reads' rd h1 (PyData.noDict_hsm h2) hg (by omega) (fun _ _ e => e) (fun h' u tk hk => ⟨.str _, H, I.kept (t' := tk) hk, ⟨u, rfl⟩, q⟩) h4
  | @empty a e =>
    obtain rfl : u = Value.ref a := ru
    obtain ⟨_, ns, vs, kv, o, es, ep, h1, h2, h3, h4⟩ := (show ObjOk X.prog X.w H s.heap a (.dK []) from I.hok a _ e)
    cases kv
    have es0 : es.toList = [] := by
      obtain ⟨_, hp, _⟩ := h4
      generalize es.toList = l at hp
      cases hp
      rfl
    have rd : Reads s.heap (.ref a) (.dict []) (a :: [] ++ []) := Reads.dict h1 h2.1 h3 (by rw [es0]; exact .nil) (by rw [es0]; exact .nil)
    exact repr_of_reads' rd (by decide) (fun _ hm => by
      have : sysModules = a := by simpa using hm
      rw [this] at ns
      simp at ns) hg (by show X.A.units + (PyData.depth (.dict []) + 1) < cLine; have : PyData.depth (.dict []) ≤ 60 := by decide +kernel
                         omega) (fun _ _ e => e) (fun h' u tk hk => ⟨.str _, H, I.kept (t' := tk) hk, ⟨u, rfl⟩, q⟩) (by decide +kernel)
theorem dp_same {K : PySem.W.Frag} {H H' : Hp} (s : Same H H') : ∀ {v : V} {d : PyData}, Dp K H v d → Dp K H' v d := by
  have sq : ∀ {a xs}, SqT K H a xs → SqT K H' a xs := by
    intro a xs h
    rcases h with (h | ⟨o, h⟩) | h
    · exact .inl (.inl (s _ _ h))
    · exact .inl (.inr ⟨o, s _ _ h⟩)
    · exact .inr h
  intro v d h
  induction h using Dp.rec (motive_2 := fun vs ds _ => DpAll K H' vs ds) with
  | non => exact .non
  | bl b => exact .bl b
  | int i => exact .int i
  | str x => exact .str x
  | lst h1 _ ih => exact .lst (s.seq h1) ih
  | tup h1 _ ih => exact .tup (sq h1) ih
  | nil => exact .nil
  | cons _ _ i1 i2 => exact .cons i1 i2
theorem Shw.same {K : PySem.W.Frag} {H H' : Hp} (s : Same H H') {v : V} {z : Str} (h : Shw K H v z) : Shw K H' v z := by
  cases h with
  | data h h1 h2 h3 h4 => exact .data (dp_same s h) h1 h2 h3 h4
  | empty e => exact .empty (s _ _ e)
theorem Same.upd {H : Hp} {p : Addr} {o : HO} (h : H p = none) : Same H (upd H p o) := fun b u e => by rw [upd_ne (ne_of_none e h)]; exact e
end Lc
set_option Elab.async false
set_option linter.all false
set_option maxRecDepth 100000
set_option maxHeartbeats 4000000
namespace Lc
open PySem PySem.Spec PyProof.Rows L2
/-! ## The law's tape -/
def Tape (H : Hp) (t : Addr) : Prop := ∃ (l : Addr) (ns : List Int) (pos rest mix : Int), H t = some (.lst [.ref l, .int pos, .int rest, .int mix]) ∧ H l = some (.lst (ns.map V.int)) ∧ 0 ≤ pos ∧ 0 ≤ rest ∧ 0 ≤ mix ∧ mix < 2147483647
/-- all but what stands at t is as it was -/
def SameB (t : Addr) (H H' : Hp) : Prop := ∀ b o, b ≠ t → H b = some o → H' b = some o
theorem SameB.refl (t : Addr) (H : Hp) : SameB t H H := fun _ _ _ e => e
theorem SameB.trans {t : Addr} {H H1 H2 : Hp} (a : SameB t H H1) (b : SameB t H1 H2) : SameB t H H2 := fun c o n e => b c o n (a c o n e)
theorem Same.b {H H' : Hp} (t : Addr) (s : Same H H') : SameB t H H' := fun b o _ e => s b o e
theorem SameB.upd {t : Addr} {H : Hp} {o : HO} : SameB t H (upd H t o) := fun b u n e => by rw [upd_ne n]; exact e
theorem tape_ne {l t : Addr} {H : Hp} {ns : List Int} {vs : List V} (h1 : H t = some (.lst (.ref l :: vs))) (h2 : H l = some (.lst (ns.map V.int))) : l ≠ t := by
  refine ne_of h2 h1 fun z => ?_
  cases ns with
  | nil => injection z with z; cases z
  | cons n ns => injection z with z; injection z with z; cases z
theorem Tape.same {H H' : Hp} {t : Addr} (h : Tape H t) (s : Same H H') : Tape H' t := by
  obtain ⟨l, ns, pos, rest, mix, h1, h2, h3⟩ := h
  exact ⟨l, ns, pos, rest, mix, s _ _ h1, s _ _ h2, h3⟩
theorem cut_ints (ns : List Int) (lo hi : Option Int) : ∃ ms : List Int, cutV (ns.map V.int) lo hi = ms.map V.int := by
  unfold cutV
  rw [← List.map_drop, ← List.map_take]
  exact ⟨_, rfl⟩
def spTape (K : PySem.W.Frag) : Sp := fun vs H Q _ => ∃ (a : Addr) (ns : List Int), vs = [.ref a] ∧ SqL K H a (ns.map V.int) ∧ ∀ (t : Addr) (H' : Hp), Same H H' → H t = none → Tape H' t → Q (.ref t) H'
def spDraw : Sp := fun vs H Q _ => ∃ (t : Addr) (many : Int), vs = [.ref t, .int many] ∧ Tape H t ∧ 0 < many ∧ many.natAbs < 2 ^ 4000 ∧ ∀ (k : Int) (H' : Hp), 0 ≤ k → k < many → Tape H' t → SameB t H H' → Q (.int k) H'
def New2' (H : Hp) (Q : VK) (n d : Int) : Prop := ∀ p, H p = none → Q (.ref p) (upd H p (.tup [.int n, .int d]))
def spLowest : Sp := fun vs H Q _ => ∃ n d : Int, vs = [.int n, .int d] ∧ 0 < d ∧ d.natAbs < 2 ^ 4000 ∧ New2' H Q (lowN n d) (lowD n d)
def spRational : Sp := fun vs H Q _ => ∃ (t : Addr) (b : Bool), vs = [.ref t, .bl b] ∧ Tape H t ∧ ∀ (p : Addr) (n d : Int) (H' : Hp), Rt n d → n.natAbs < 2 ^ 140 → d.natAbs < 2 ^ 140 → H' p = some (.tup [.int n, .int d]) → H p = none → Tape H' t → SameB t H H' → Q (.ref p) H'
theorem log_lt' {n : Int} (h : n.natAbs < 2 ^ 4000) : n.natAbs.log2 < 9000 := by
  by_cases z : n.natAbs = 0
  · rw [z]
    decide
  · exact Nat.lt_of_lt_of_le ((Nat.log2_lt z).mpr h) (by decide)
end Lc
namespace Lc
open PySem PySem.Spec PyProof.Rows L2
theorem SameB.free {t p : Addr} {H H' : Hp} (s : SameB t H H') (h : Tape H' t) (e : H' p = none) : H p = none := by
  cases q : H p with
  | none => rfl
  | some o =>
    by_cases z : p = t
    · subst z
      obtain ⟨_, _, _, _, _, h1, _⟩ := h
      rw [h1] at e
      cases e
    · rw [s p o z q] at e
      cases e
theorem Tape.ne {t p : Addr} {H : Hp} (h : Tape H t) (e : H p = none) : p ≠ t := by
  intro z
  subst z
  obtain ⟨_, _, _, _, _, h1, _⟩ := h
  rw [h1] at e
  cases e
theorem Tape.neT {t p : Addr} {H : Hp} {xs : List V} (h : Tape H t) (e : H p = some (.tup xs)) : p ≠ t := by
  intro z
  subst z
  obtain ⟨_, _, _, _, _, h1, _⟩ := h
  rw [h1] at e
  cases e
theorem p18 : (10 : Int) ^ (18 : Int).toNat = 1000000000000000000 := by decide
theorem p40 : (10 : Int) ^ (40 : Int).toNat = 10000000000000000000000000000000000000000 := by decide
end Lc
namespace Lc
open PySem PySem.Spec PyProof.Rows L2
/-- the tape, its list at l -/
def TapeL (l : Addr) (H : Hp) (t : Addr) : Prop := ∃ (ns : List Int) (pos rest mix : Int), H t = some (.lst [.ref l, .int pos, .int rest, .int mix]) ∧ H l = some (.lst (ns.map V.int)) ∧ 0 ≤ pos ∧ 0 ≤ rest ∧ 0 ≤ mix ∧ mix < 2147483647
theorem TapeL.tape {l : Addr} {H : Hp} {t : Addr} (h : TapeL l H t) : Tape H t := ⟨l, h⟩
theorem TapeL.same {l : Addr} {H H' : Hp} {t : Addr} (h : TapeL l H t) (s : Same H H') : TapeL l H' t := by
  obtain ⟨ns, pos, rest, mix, h1, h2, h3⟩ := h
  exact ⟨ns, pos, rest, mix, s _ _ h1, s _ _ h2, h3⟩
theorem TapeL.list {l : Addr} {H : Hp} {t : Addr} (h : TapeL l H t) : ∃ xs, H l = some (.lst xs) := by
  obtain ⟨ns, pos, rest, mix, h1, h2, h3⟩ := h
  exact ⟨_, h2⟩
/-- another object is written -/
theorem TapeL.upd {l : Addr} {H : Hp} {t a : Addr} {o : HO} (h : TapeL l H t) (n1 : a ≠ t) (n2 : a ≠ l) : TapeL l (upd H a o) t := by
  obtain ⟨ns, pos, rest, mix, h1, h2, h3⟩ := h
  exact ⟨ns, pos, rest, mix, by rw [upd_ne (Ne.symm n1)]; exact h1, by rw [upd_ne (Ne.symm n2)]; exact h2, h3⟩
def spDrawL : Sp := fun vs H Q _ => ∃ (t l : Addr) (many : Int), vs = [.ref t, .int many] ∧ TapeL l H t ∧ 0 < many ∧ many.natAbs < 2 ^ 4000 ∧ ∀ (k : Int) (H' : Hp), 0 ≤ k → k < many → TapeL l H' t → SameB t H H' → Q (.int k) H'
theorem fn_weak {P : Program} {w : World} {K : PySem.W.Frag} {mg : Str → Option Value} {base : Heap} {CX : CXT} {k : Nat} {f : Addr} {fd : FuncData} {ps : List Str} {sp sp' : Sp} (h : ∀ vs H Q E, sp vs H Q E → sp' vs H Q E) (F : FnOk P w K mg base CX k f fd ps sp') : FnOk P w K mg base CX k f fd ps sp :=
  ⟨fun vs H Q E z => F.len vs H Q E (h vs H Q E z), fun A outer s H args us vs Q E a b c d z => F.run A outer s H args us vs Q E a b c d (h vs H Q E z)⟩
theorem draw_weak {vs : List V} {H : Hp} {Q : VK} {E : XK} (h : spDraw vs H Q E) : spDrawL vs H Q E := by
  obtain ⟨t, m, e, ⟨l, hT⟩, h1, h2, k⟩ := h
  exact ⟨t, l, m, e, hT, h1, h2, fun k1 H' a b c d => k k1 H' a b c.tape d⟩
end Lc
set_option Elab.async false
set_option linter.all false
set_option maxRecDepth 100000
set_option maxHeartbeats 4000000
namespace Lc
open PySem PySem.Spec PyProof.Rows L2
/-- names of built-ins that no text binds -/
structure Bt (mg : Str → Option Value) : Prop where
  isi : mg "isinstance" = none
  int : mg "int" = none
  bool : mg "bool" = none
  str : mg "str" = none
  tuple : mg "tuple" = none
  list : mg "list" = none
  dict : mg "dict" = none
  len : mg "len" = none
  abs : mg "abs" = none
  min : mg "min" = none
  all : mg "all" = none
  repr : mg "repr" = none
  range : mg "range" = none
  enum : mg "enumerate" = none
  ve : mg "ValueError" = none
  zd : mg "ZeroDivisionError" = none
  ie : mg "IndexError" = none
  oe : mg "OverflowError" = none
def btNames : List Str := ["isinstance", "int", "bool", "str", "tuple", "list", "dict", "len", "abs", "min", "all", "repr", "range", "enumerate", "ValueError", "ZeroDivisionError", "IndexError", "OverflowError"]
/-! ## x is True, x any value -/
def rIsBA : R2 := fun x y H Q => ∃ b : Bool, y = .bl b ∧ Q (.bl (decide (x = .bl b))) H
theorem op_isBA {X : Cx} : OpR X (compareOp .Is) rIsBA := by
  intro pins s σ H x y v u Q I rx ry h
  obtain ⟨b, rfl, q⟩ := h
  cases (show u = Value.bool b from ry)
  have key : plainIs v (.bool b) = true ∧ (v == Value.bool b) = decide (x = .bl b) := by
    cases x with
    | non => cases (show v = Value.none from rx); exact ⟨rfl, by cases b <;> rfl⟩
    | bl c => cases (show v = Value.bool c from rx); exact ⟨rfl, by cases b <;> cases c <;> rfl⟩
    | int i => obtain ⟨t, rfl⟩ := (show ∃ t, v = Value.int i t from rx); exact ⟨rfl, by cases b <;> rfl⟩
    | str i => obtain ⟨t, rfl⟩ := (show ∃ t, v = Value.str i t from rx); exact ⟨rfl, by cases b <;> rfl⟩
    | byt i => obtain ⟨t, rfl⟩ := (show ∃ t, v = Value.bytes i t from rx); exact ⟨rfl, by cases b <;> rfl⟩
    | flt i => obtain ⟨t, rfl⟩ := (show ∃ t, v = Value.float i t from rx); exact ⟨rfl, by cases b <;> rfl⟩
    | ref a => cases (show v = Value.ref a from rx); exact ⟨rfl, by cases b <;> rfl⟩
    | ty n => cases (show v = Value.type n from rx); exact ⟨rfl, by cases b <;> rfl⟩
  refine wpAny_is_plain key.1 ?_
  rw [key.2]
  exact ⟨.bl _, H, I, rfl, q⟩
/-! ## Texts of few signs -/
structure Sh (n : Nat) (x : Str) : Prop where
  len : x.cps.toList.length ≤ n
  ok : ∀ c ∈ x.cps.toList, c < 1114112
theorem Sh.mono {n m : Nat} {x : Str} (h : Sh n x) (l : n ≤ m) : Sh m x := ⟨Nat.le_trans h.len l, h.ok⟩
theorem Sh.line {n : Nat} {x : Str} (h : Sh n x) (l : n ≤ 1000) : x.length ≤ sizeLine := by
  have : x.length = x.cps.toList.length := by show x.cps.size = _; simp
  rw [this]
  exact Nat.le_trans h.len (Nat.le_trans l (by decide))
theorem sh_app {n m : Nat} {x y : Str} (h : Sh n x) (g : Sh m y) : Sh (n + m) (x ++ y) := by
  have e : (x ++ y).cps.toList = x.cps.toList ++ y.cps.toList := by
    show (x.cps ++ y.cps).toList = _
    simp
  refine ⟨?_, fun c hc => ?_⟩
  · rw [e, List.length_append]
    exact Nat.add_le_add h.len g.len
  · rw [e] at hc
    rcases List.mem_append.mp hc with hc | hc
    · exact h.ok c hc
    · exact g.ok c hc
theorem sh_one {c : Nat} (h : c < 1114112) : Sh 1 ⟨#[c]⟩ := ⟨Nat.le_refl _, fun d hd => by
  have : d = c := by simpa using hd
  rw [this]
  exact h⟩
theorem sh_sub {n : Nat} {x : Str} {l : List Nat} (h : Sh n x) (s : l.Sublist x.cps.toList) : Sh n ⟨l.toArray⟩ := by
  refine ⟨?_, fun c hc => ?_⟩
  · show l.toArray.toList.length ≤ n
    exact Nat.le_trans s.length_le h.len
  · exact h.ok c (s.subset (by simpa using hc))
theorem sh_cut {n : Nat} {x : Str} (lo hi : Option Int) (h : Sh n x) : Sh n (cutS x lo hi) := sh_sub h ((List.take_sublist _ _).trans (List.drop_sublist _ _))
theorem foldl_app : ∀ (l : List (Array Nat)) (a : Array Nat), (l.foldl (· ++ ·) a).toList = a.toList ++ (l.map Array.toList).flatten
  | [], a => by simp
  | b :: l, a => by
    show ((l.foldl (· ++ ·) (a ++ b))).toList = _
    rw [foldl_app l (a ++ b)]
    simp [List.append_assoc]
theorem sh_mul {x : Str} {n k : Nat} {i : Int} (h : Sh n x) (hi : i.toNat ≤ k) (hn : n ≤ 1) : Sh k (Txt.mul x i) := by
  unfold Txt.mul
  by_cases h1 : i < 1
  · rw [if_pos h1]
    exact ⟨Nat.zero_le _, fun c hc => by cases (by simpa [Str.empty] using hc : c ∈ ([] : List Nat))⟩
  · rw [if_neg h1]
    by_cases h2 : (i == 1 || x.length == 0) = true
    · rw [if_pos h2]
      exact h.mono (by omega)
    · rw [if_neg h2]
      have e : ((List.replicate i.toNat x.cps).foldl (· ++ ·) #[]).toList = (List.replicate i.toNat x.cps.toList).flatten := by
        rw [foldl_app]
        simp
      refine ⟨?_, fun c hc => ?_⟩
      · show ((List.replicate i.toNat x.cps).foldl (· ++ ·) #[]).toList.length ≤ k
        rw [e, List.length_flatten]
        have : ((List.replicate i.toNat x.cps.toList).map List.length).sum ≤ i.toNat * 1 := by
          have key : ∀ m : Nat, ((List.replicate m x.cps.toList).map List.length).sum ≤ m * 1 := by
            intro m
            induction m with
            | zero => simp
            | succ m ih =>
              rw [List.replicate_succ, List.map_cons, List.sum_cons]
              have := Nat.le_trans h.len hn
              omega
          exact key _
        omega
      · have hc : c ∈ ((List.replicate i.toNat x.cps).foldl (· ++ ·) #[]).toList := hc
        rw [e] at hc
        obtain ⟨l, hl, hcl⟩ := List.mem_flatten.mp hc
        rw [List.eq_of_mem_replicate hl] at hcl
        exact h.ok c hcl
theorem mul_ok {x : Str} {i : Int} (h : x.cps.size ≤ 1) (h2 : i < 1000) (h3 : -1000 < i) : MulOk x i := by
  have hx : x.length ≤ 1 := h
  refine ⟨by simp; omega, fun h1 _ => ?_, fun h1 _ => ?_⟩
  · have : (2 ^ 63 - 1 : Int) / i ≥ 1 := by
      have : (1 : Int) * i ≤ 2 ^ 63 - 1 := by omega
      exact (Int.le_ediv_iff_mul_le (by omega)).mpr this
    omega
  · unfold Builtin.Str.tooLong
    have : x.length * i.toNat ≤ 1000 := by
      have : x.length * i.toNat ≤ 1 * i.toNat := Nat.mul_le_mul_right _ hx
      omega
    have : ¬ (x.length * i.toNat > sizeLine) := by
      have : (1000 : Nat) ≤ sizeLine := by decide
      omega
    simpa using this
def rMulS : R2 := fun x y H Q => ∃ (z : Str) (i : Int), x = .str z ∧ y = .int i ∧ MulOk z i ∧ Q (.str (Txt.mul z i)) H
theorem op_mulS {X : Cx} : OpR X (binaryOp .Mult) rMulS := by
  intro pins s σ H x y v u Q I rx ry h
  obtain ⟨z, i, rfl, rfl, ok, q⟩ := h
  obtain ⟨t, rfl⟩ := (show ∃ t, v = Value.str z t from rx)
  obtain ⟨t2, rfl⟩ := (show ∃ t, u = Value.int i t from ry)
  exact SB.mul ok fun t' k => ⟨.str _, H, I.tok _, ⟨_, rfl⟩, q⟩
theorem glued_sh : ∀ (ys : List Str), (∀ y ∈ ys, Sh 1 y) → Sh ys.length (Str.join Str.empty ys)
  | [], _ => ⟨Nat.le_refl _, fun c hc => by cases (by simpa [Str.join, Str.empty] using hc : c ∈ ([] : List Nat))⟩
  | [x], h => h x List.mem_cons_self
  | x :: y :: r, h => by
    have ih := glued_sh (y :: r) fun z hz => h z (List.mem_cons_of_mem _ hz)
    have e : Str.join Str.empty (x :: y :: r) = x ++ Str.empty ++ Str.join Str.empty (y :: r) := rfl
    rw [e]
    have s0 : Sh 0 Str.empty := ⟨Nat.le_refl _, fun c hc => by cases (by simpa [Str.empty] using hc : c ∈ ([] : List Nat))⟩
    exact (sh_app (sh_app (h x List.mem_cons_self) s0) ih).mono (by simp; omega)
/-! ## repr of a short text, of a bounded number -/
theorem shw_text {K : PySem.W.Frag} {H : Hp} {n : Nat} {x : Str} (h : Sh n x) (l : n ≤ 1000) : Shw K H (.str x) (PyData.str x).shown := by
  refine .data (.str x) rfl rfl (by simp [PyData.depth]) ?_
  show (reprText x).length ≤ sizeLine
  have := StrLaws.reprText_len x (fun c hc => Nat.lt_trans (h.ok c hc) (by decide))
  have e : x.length = x.cps.toList.length := by show x.cps.size = _; simp
  have := h.len
  have : (10002 : Nat) ≤ sizeLine := by decide
  omega
theorem num_len {i : Int} (h : i.natAbs < 2 ^ 1000) : (PyData.int i).showable = true ∧ (PyData.int i).shown.length ≤ 1921 := by
  have l : i.natAbs.log2 < 1920 := by
    by_cases z : i.natAbs = 0
    · rw [z]
      decide
    · exact Nat.lt_of_lt_of_le ((Nat.log2_lt z).mpr h) (by decide)
  exact ⟨decide_eq_true l, int_text_len_1921 l⟩
end Lc
namespace Lc
open PySem PySem.Spec PyProof.Rows L2
/-! ## Names -/
def letters : Str := "abcdefghijklmnopqrstuvwxyz"
def signs : Str := "abcdefghijklmnopqrstuvwxyz0123456789"
def inS (c : Nat) : Bool := decide (c ∈ signs.cps.toList)
def inL (c : Nat) : Bool := decide (c ∈ letters.cps.toList)
def nameL : List Nat → Bool
  | [] => false
  | c :: r => decide ((c :: r).length ≤ 12) && (inL c && (c :: r).all inS)
def nameB : V → Bool
  | .str x => nameL x.cps.toList
  | _ => false
abbrev rInS : R2 := fun x y H Q => ∃ (c : Nat) (z : Str), x = .str ⟨#[c]⟩ ∧ y = .str z ∧ Q (.bl (decide (c ∈ z.cps.toList))) H
def spName : Sp := fun vs H Q _ => ∃ (v : V) (t : String), vs = [v] ∧ TyN H v t ∧ (∀ x, v = .str x → x.length ≤ sizeLine) ∧ ∀ H', Same H H' → Q (.bl (nameB v)) H'
def spLName : Sp := fun vs H Q _ => ∃ t : Addr, vs = [.ref t] ∧ Tape H t ∧ ∀ (x : Str) (H' : Hp), Sh 12 x → Tape H' t → SameB t H H' → Q (.str x) H'
theorem lenL (x : Str) : x.length = x.cps.toList.length := by show x.cps.size = _; simp
theorem nil_of {x : Str} (h : x.cps.toList = []) : x = ⟨#[]⟩ := by
  obtain ⟨⟨l⟩⟩ := x
  have : l = [] := h
  rw [this]
theorem dec_empty (x : Str) : decide (V.str x = V.str "") = decide (x.cps.toList = []) := by
  rw [Bool.eq_iff_iff, decide_eq_true_iff, decide_eq_true_iff]
  constructor
  · intro h
    injection h with h
    rw [h]
    rfl
  · intro h
    rw [nil_of h]
    rfl
theorem name_nil {x : Str} (h : x.cps.toList = []) : nameB (.str x) = false := by
  show nameL x.cps.toList = false
  rw [h]
  rfl
theorem name_long {x : Str} (h : ¬ x.cps.toList.length ≤ 12) : nameB (.str x) = false := by
  show nameL x.cps.toList = false
  cases e : x.cps.toList with
  | nil => rfl
  | cons c r =>
    rw [e] at h
    show (decide ((c :: r).length ≤ 12) && _) = false
    rw [decide_eq_false h]
    rfl
theorem name_is {x : Str} {c : Nat} {r : List Nat} (e : x.cps.toList = c :: r) (h : x.cps.toList.length ≤ 12) : nameB (.str x) = (inL c && (c :: r).all inS) := by
  show nameL x.cps.toList = _
  rw [e] at h ⊢
  show (decide ((c :: r).length ≤ 12) && _) = _
  rw [decide_eq_true h]
  rfl
/-- the list of a comprehension over a text's signs, as it grows -/
theorem grow {x : Str} {i : Nat} {c : Nat} (h : x.cps[i]? = some c) (p : Nat → Bool) : (x.cps.toList.take i).map (fun c => V.bl (p c)) ++ [V.bl (p c)] = (x.cps.toList.take (i + 1)).map fun c => V.bl (p c) := by
  have h2 : x.cps.toList[i]? = some c := by rw [Array.getElem?_toList]; exact h
  rw [List.take_succ, h2, List.map_append]
  rfl
end Lc
namespace Lc
open PySem PySem.Spec PyProof.Rows L2
theorem cut26 : cutS signs none (some 26) = letters := by decide +kernel
theorem signs_ok : ∀ c ∈ signs.cps.toList, c < 1114112 := by decide +kernel
theorem signs_len : signs.cps.toList.length = 36 := by decide +kernel
theorem at_text {l : List Nat} {i : Int} (h0 : 0 ≤ i) (h1 : i < (l.length : Int)) : ∃ c, atI l i = some c ∧ c ∈ l := by
  obtain ⟨n, rfl⟩ : ∃ n : Nat, i = (n : Int) := ⟨i.toNat, by omega⟩
  have h : n < l.length := by omega
  exact ⟨l[n], atI_nat (List.getElem?_eq_getElem h), List.getElem_mem h⟩
theorem big1000 {z : Int} (h1 : 0 ≤ z) (h2 : z ≤ 1000) : z.natAbs < 2 ^ 4000 := by
  have e : (2 : Nat) ^ 10 = 1024 := by decide
  exact Nat.lt_of_lt_of_le (show z.natAbs < 2 ^ 10 by omega) (Nat.pow_le_pow_right (by decide) (by decide))
theorem sh_a : Sh 1 (PySem.Str.ofString "a") := ⟨by decide +kernel, by decide +kernel⟩
theorem a_size : (PySem.Str.ofString "a").cps.size ≤ 1 := by decide +kernel
theorem sh_len {n : Nat} {x : Str} (h : Sh n x) : x.length ≤ n := by rw [lenL]; exact h.len
end Lc
namespace Lc
open PySem PySem.Spec PyProof.Rows L2
theorem join_sh (ys : List Str) (h : ∀ y ∈ ys, Sh 1 y) : Sh ys.length (Txt.join (PySem.Str.ofString "") ys) := by
  have e : Txt.join (PySem.Str.ofString "") ys = Str.join Str.empty ys := by
    exact (StrLaws.glued_eq_join (PySem.Str.ofString "") ys).trans rfl
  rw [e]
  exact glued_sh ys h
end Lc
set_option Elab.async false
set_option linter.all false
set_option maxRecDepth 100000
set_option maxHeartbeats 4000000
namespace Lc
open PySem PySem.Spec PyProof.Rows L2
/-! ## Flat values and what they are shown as -/
structure Fl (v : V) (d : PyData) (s : String) : Prop where
  dp : ∀ (K : PySem.W.Frag) (H : Hp), Dp K H v d
  ty : ∀ H : Hp, TyN H v s
  sh : d.showable = true
  nd : d.hasDict = false
  dz : d.depth = 0
  ln : d.shown.length ≤ 20000
theorem fl_non : Fl .non .none "NoneType" := ⟨fun _ _ => .non, fun _ => .non, rfl, rfl, rfl, by decide +kernel⟩
theorem fl_bl (b : Bool) : Fl (.bl b) (.bool b) "bool" := ⟨fun _ _ => .bl b, fun _ => .bl b, rfl, rfl, rfl, by cases b <;> decide +kernel⟩
theorem fl_int {i : Int} (h : i.natAbs < 2 ^ 1000) : Fl (.int i) (.int i) "int" := ⟨fun _ _ => .int i, fun _ => .int i, (num_len h).1, rfl, rfl, Nat.le_trans (num_len h).2 (by decide)⟩
theorem fl_str {x : Str} {n : Nat} (h : Sh n x) (l : n ≤ 1930) : Fl (.str x) (.str x) "str" := by
  refine ⟨fun _ _ => .str x, fun _ => .str x, rfl, rfl, rfl, ?_⟩
  show (reprText x).length ≤ 20000
  have := StrLaws.reprText_len x (fun c hc => Nat.lt_trans (h.ok c hc) (by decide))
  have e := lenL x
  have := h.len
  omega
theorem sh_string (s : String) : ∀ c ∈ (PySem.Str.ofString s).cps.toList, c < 1114112 := by
  intro c hc
  rw [Str.ofString_eq_toList] at hc
  have hc : c ∈ s.toList.map Char.toNat := by simpa using hc
  obtain ⟨ch, _, rfl⟩ := List.mem_map.mp hc
  have := ch.valid
  rcases this with h | ⟨_, h⟩
  · exact Nat.lt_trans h (by decide)
  · exact h
theorem sh_num {i : Int} (h : i.natAbs < 2 ^ 1000) : Sh 1921 (PySem.Str.ofString (toString i)) := ⟨by rw [← lenL]; exact (num_len h).2, sh_string _⟩
/-! ## Things: is it a number within the limit, how is it shown -/
def lim : Int := 10000000000000000000000000000000000000000
def limB : V → V → Bool
  | .int n, .int d => decide ((if n < 0 then -n else n) ≤ lim) && decide (d ≤ lim)
  | _, _ => false
def numB (x y : V) : Bool := ratB x y && limB x y
inductive Thing (H : Hp) : V → Bool → Prop
  | other {v : V} {t : String} (h : TyN H v t) (n : t ≠ "tuple") (l : ∀ x, v = .str x → x.length ≤ sizeLine) : Thing H v false
  | len {a : Addr} {xs : List V} (e : H a = some (.tup xs)) (n : xs.length ≠ 2) : Thing H (.ref a) false
  | pair {a : Addr} {x y : V} {tx ty : String} (e : H a = some (.tup [x, y])) (hx : TyN H x tx) (hy : TyN H y ty) : Thing H (.ref a) (numB x y)
theorem Thing.same {H H' : Hp} {v : V} {b : Bool} (h : Thing H v b) (s : Same H H') : Thing H' v b := by
  cases h with
  | other h n l => exact .other (h.same s) n l
  | len e n => exact .len (s _ _ e) n
  | pair e hx hy => exact .pair (s _ _ e) (hx.same s) (hy.same s)
theorem Thing.ty {H : Hp} {v : V} {b : Bool} (h : Thing H v b) : ∃ t, TyN H v t ∧ ∀ x, v = .str x → x.length ≤ sizeLine := by
  cases h with
  | other h n l => exact ⟨_, h, l⟩
  | len e n => exact ⟨_, .tup e, fun x z => nomatch z⟩
  | pair e hx hy => exact ⟨_, .tup e, fun x z => nomatch z⟩
/-- whatever is done to the tape at t -/
def Thg (K : PySem.W.Frag) (t : Addr) (H : Hp) (v : V) : Prop := ∃ (b : Bool) (z : Str), ∀ H', SameB t H H' → Thing H' v b ∧ Shw K H' v z
theorem thg_flat {K : PySem.W.Frag} {t : Addr} {H : Hp} {v : V} {d : PyData} {s : String} (h : Fl v d s) (n : s ≠ "tuple") (l : ∀ x, v = .str x → x.length ≤ sizeLine) : Thg K t H v :=
  ⟨false, d.shown, fun H' _ => ⟨.other (h.ty H') n l, .data (h.dp K H') h.sh h.nd (by rw [h.dz]; decide) (Nat.le_trans h.ln (by decide))⟩⟩
/-- the items of a display -/
inductive Fls : List V → List PyData → Prop
  | nil : Fls [] []
  | cons {v : V} {d : PyData} {s : String} {vs : List V} {ds : List PyData} (h : Fl v d s) (r : Fls vs ds) : Fls (v :: vs) (d :: ds)
theorem Fls.dps {K : PySem.W.Frag} {H : Hp} : ∀ {vs : List V} {ds : List PyData}, Fls vs ds → DpAll K H vs ds
  | _, _, .nil => .nil
  | _, _, .cons h r => .cons (h.dp K H) r.dps
theorem Fls.facts : ∀ {vs : List V} {ds : List PyData}, Fls vs ds → PyData.showableAll ds = true ∧ PyData.hasDictAll ds = false ∧ PyData.depthAll ds = 0 ∧ ((PyData.shownAll ds).map (·.length)).sum ≤ 20000 * ds.length ∧ (PyData.shownAll ds).length = ds.length ∧ ds.length = vs.length
  | _, _, .nil => ⟨rfl, rfl, rfl, by simp [PyData.shownAll], rfl, rfl⟩
  | _, _, .cons (d := d) (ds := ds) h r => by
    obtain ⟨h1, h2, h3, h4, h5, h6⟩ := r.facts
    refine ⟨?_, ?_, ?_, ?_, ?_, ?_⟩
    · simp [PyData.showableAll, h.sh, h1]
    · simp [PyData.hasDictAll, h.nd, h2]
    · simp [PyData.depthAll, h.dz, h3]
    · simp only [PyData.shownAll, List.map_cons, List.sum_cons, List.length_cons]
      have := h.ln
      omega
    · simp [PyData.shownAll, h5]
    · simp [h6]
theorem shw_tup {K : PySem.W.Frag} {H : Hp} {a : Addr} {vs : List V} {ds : List PyData} (e : H a = some (.tup vs)) (h : Fls vs ds) (l : vs.length ≤ 100) : Shw K H (.ref a) (PyData.tuple ds).shown := by
  obtain ⟨h1, h2, h3, h4, h5, h6⟩ := h.facts
  refine .data (.tup (SqT.of e) h.dps) (by simpa [PyData.showable] using h1) (by simpa [PyData.hasDict] using h2) (by simp [PyData.depth, h3]) ?_
  have := tupleText_len_le (PyData.shownAll ds)
  have s : (3000000 : Nat) ≤ sizeLine := by decide
  simp only [PyData.shown]
  omega
theorem shw_lst {K : PySem.W.Frag} {H : Hp} {a : Addr} {vs : List V} {ds : List PyData} (e : H a = some (.lst vs)) (h : Fls vs ds) (l : vs.length ≤ 100) : Shw K H (.ref a) (PyData.list ds).shown := by
  obtain ⟨h1, h2, h3, h4, h5, h6⟩ := h.facts
  refine .data (.lst (SqL.of e) h.dps) (by simpa [PyData.showable] using h1) (by simpa [PyData.hasDict] using h2) (by simp [PyData.depth, h3]) ?_
  have := listText_len_le (PyData.shownAll ds)
  have s : (3000000 : Nat) ≤ sizeLine := by decide
  simp only [PyData.shown]
  omega
theorem thg_tup {K : PySem.W.Frag} {t a : Addr} {H : Hp} {vs : List V} {ds : List PyData} (n : a ≠ t) (e : H a = some (.tup vs)) (h : Fls vs ds) (l : vs.length ≤ 100) : Thg K t H (.ref a) := by
  by_cases z : vs.length = 2
  · match vs, h, z with
    | [x, y], .cons h1 (.cons h2 .nil), _ => exact ⟨numB x y, _, fun H' s => ⟨.pair (s _ _ n e) (h1.ty H') (h2.ty H'), shw_tup (s _ _ n e) (.cons h1 (.cons h2 .nil)) (by show 2 ≤ 100; decide)⟩⟩
  · exact ⟨false, _, fun H' s => ⟨.len (s _ _ n e) z, shw_tup (s _ _ n e) h l⟩⟩
theorem thg_lst {K : PySem.W.Frag} {t a : Addr} {H : Hp} {vs : List V} {ds : List PyData} (n : a ≠ t) (e : H a = some (.lst vs)) (h : Fls vs ds) (l : vs.length ≤ 100) : Thg K t H (.ref a) :=
  ⟨false, _, fun H' s => ⟨.other (.lst (s _ _ n e)) (by decide) (fun x z => nomatch z), shw_lst (s _ _ n e) h l⟩⟩
theorem thg_dct {K : PySem.W.Frag} {t a : Addr} {H : Hp} (n : a ≠ t) (e : H a = some (.dK [])) : Thg K t H (.ref a) :=
  ⟨false, _, fun H' s => ⟨.other (.dct (s _ _ n e)) (by decide) (fun x z => nomatch z), .empty (s _ _ n e)⟩⟩
theorem Thg.sameB {K : PySem.W.Frag} {t : Addr} {H H' : Hp} {v : V} (h : Thg K t H v) (s : SameB t H H') : Thg K t H' v := by
  obtain ⟨b, z, k⟩ := h
  exact ⟨b, z, fun H2 s2 => k H2 (s.trans s2)⟩
theorem thg_str {K : PySem.W.Frag} {t : Addr} {H : Hp} {n : Nat} {x : Str} (h : Sh n x) (l : n ≤ 1930) : Thg K t H (.str x) :=
  thg_flat (fl_str h l) (by decide) fun y e => by
    injection e with e
    subst e
    rw [lenL]
    exact Nat.le_trans h.len (Nat.le_trans l (by decide))
end Lc
namespace Lc
open PySem PySem.Spec PyProof.Rows L2
theorem ratB_ints {x y : V} (h : ratB x y = true) : ∃ n d : Int, x = .int n ∧ y = .int d ∧ 0 < d ∧ gd n d = 1 := by
  cases x with
  | int n =>
    cases y with
    | int d =>
      have h' : (decide (0 < d) && decide (gd n d = 1)) = true := h
      obtain ⟨h1, h2⟩ := Bool.and_eq_true_iff.mp h'
      exact ⟨n, d, rfl, rfl, of_decide_eq_true h1, of_decide_eq_true h2⟩
    | _ => cases h
  | _ => cases y <;> cases h
end Lc
namespace Lc
open PySem PySem.Spec PyProof.Rows L2
/-! ## A word behind an expression: what follows is shown once -/
def tMid (te : TE) : TE := fun σ H Q => ∃ M : V → Hp → Prop, te σ H M ∧ ∀ v H', M v H' → Q v H'
theorem pe_mid {X : Cx} {e : Expr} {te : TE} (h : PE X e te) : PE X e (tMid te) := by
  refine ⟨fun pins s σ H Q I hq => ?_⟩
  obtain ⟨M, h1, h2⟩ := hq
  exact thn (h.run pins s σ H M I h1) fun u s1 ⟨v, H1, I1, r, q⟩ => ⟨v, H1, I1, r, h2 v H1 q⟩
end Lc
set_option Elab.async false
set_option linter.all false
set_option maxRecDepth 100000
set_option maxHeartbeats 4000000
namespace Lc
open PySem PySem.Spec PyProof.Rows L2
/-! ## enumerate(v), v whatever begins; for .., .. in enumerate(tuple) -/
def itB (h : Heap) (o : Obj) : Heap := (h.push o).push { cls := .type "enumerate", data := .fields #[.none, .bool false, .ref h.objs.size, rawInt 0, .none, .none] }
theorem meets_enum1 {v : Value} {o : Obj} {H : Heap → Prop} (B : Begins v o H) :
    Meets (Builtin.«enumerate.__new__» ⟨[.type "enumerate", v], []⟩) (fun _ R s => H s.heap ∧ R (.ok (.ret (.ref (s.heap.push o).objs.size))) { s with heap := itB s.heap o }) :=
  .of_wp fun prog w A R s h => by
    obtain ⟨hp, g, d, tk, os⟩ := s
    obtain ⟨h1, h⟩ := h
    have hsub := sub_enumerate
    have it1 : ∀ {A' : Around} {E : Value → Shared → Prop} {Q : Value → Shared → Prop}, Q (.ref hp.objs.size) ⟨hp.push o, g, d, tk, os⟩ → wpAny (model prog w) A' (pyIter v) Q E ⟨hp, g, d, tk, os⟩ := fun q => B.iter prog w _ _ ⟨hp, g, d, tk, os⟩ _ h1 q
    wp_walk using it1
    refine wpAny_stack_any fun st => wpAny_pure ?_
    split
    · rename_i c _ _ _ _ _
      cases (c == Value.type "enumerate") <;> (wp_walk using it1; exact ⟨_, rfl, h⟩)
    · wp_walk using it1
      exact ⟨_, rfl, h⟩
theorem call_enum1 {prog : Program} {w : World} {A : Around} {E : Value → Shared → Prop} {s : Shared} {v : Value} {o : Obj} {H : Heap → Prop} {Q : Value → Shared → Prop} (B : Begins v o H) (h1 : H s.heap)
    (h : IsEnum (itB s.heap o) (s.heap.objs.size + 1) s.heap.objs.size 0 .none → (itB s.heap o).get? s.heap.objs.size = some o → (∀ b u, s.heap.get? b = some u → (itB s.heap o).get? b = some u) → Q (.ref (s.heap.objs.size + 1)) { s with heap := itB s.heap o }) :
    wpAny (model prog w) A (call (.type "enumerate") [v]) Q E s := by
  have sz : (s.heap.push o).objs.size = s.heap.objs.size + 1 := Heap.size_push ..
  have en : IsEnum (itB s.heap o) (s.heap.objs.size + 1) s.heap.objs.size 0 .none := by
    have z := Heap.get?_push_size (s.heap.push o) (o := { cls := .type "enumerate", data := .fields #[.none, .bool false, .ref s.heap.objs.size, rawInt 0, .none, .none] }) rfl
    rw [sz] at z
    exact z
  refine callType_new F.called_enumerate (by decide) (F.typeCall_enumerate_1 _) (F.newCall_enumerate_1 _) (fun obj => F.args_object_init_2 obj _) F.entry_enumerate_new (meets_enum1 B) ⟨h1, ?_⟩
  show _ ∧ _
  rw [sz]
  exact ⟨⟨_, en, rfl⟩, h en (Heap.get?_push_of_some _ (Heap.get?_push_size _ B.free)) fun b u e => Heap.get?_push_of_some _ (Heap.get?_push_of_some _ e)⟩
/-- the tuple at a, each item in a new pair with its number -/
def IteT (K : PySem.W.Frag) (a : Addr) : It where
  go := fun i H => ∃ (xs : List V) (x : V), SqT K H a xs ∧ xs[i]? = some x
  yld := fun i H v H' => ∃ (q : Addr) (x : V), v = .ref q ∧ H q = none ∧ H' = upd H q (.tup [.int (i : Nat), x]) ∧ ∀ xs, SqT K H a xs → xs[i]? = some x
  stop := fun i H => ∃ xs : List V, SqT K H a xs ∧ xs.length = i
structure EnT (e it a : Addr) (i : Nat) (h : Heap) : Prop where
  en : ∃ old, IsEnum h e it ((i : Nat) : Int) old
  ti : h.IsTupleIter it a i
  n1 : e ≠ it
  n2 : a ≠ it
  n3 : a ≠ e
theorem turn_enT {P : Program} {w : World} {K : PySem.W.Frag} {elts : List Expr} {kk : Nat} {tpos : Pos} (a e it : Addr) : Turn P w K (.Tuple elts kk tpos) (IteT K a) [e, it] e (EnT e it a) where
  mem := List.mem_cons_self
  obj := fun i h st b hb => by
    rcases List.mem_cons.mp hb with rfl | hb
    · obtain ⟨old, he⟩ := st.en
      exact ⟨_, he, fun v q => nomatch q⟩
    · obtain rfl := List.mem_singleton.mp hb
      obtain ⟨o, ho, _, hd⟩ := st.ti
      exact ⟨o, ho, fun v q => by rw [hd] at q; cases q⟩
  keep := fun i h h' st k => by
    obtain ⟨old, he⟩ := st.en
    obtain ⟨o, ho, r⟩ := st.ti
    exact ⟨⟨old, k e List.mem_cons_self _ he⟩, ⟨o, k it (by simp) o ho, r⟩, st.n1, st.n2, st.n3⟩
  item := by
    intro X hP hw hK hc i pins s σ H E I hf st hg
    subst hP hw hK
    obtain ⟨xs, x, hq, hx⟩ := hg
    obtain ⟨its, rv, tp, _⟩ := I.tuple hq
    obtain ⟨u, hu, ru⟩ := rv.get hx
    obtain ⟨old, he⟩ := st.en
    have hu' : its.toArray[i]? = some u := by simpa using hu
    have li : i < its.toArray.size := (Array.getElem?_eq_some_iff.mp hu').1
    refine wpAny_pyNext_enum_itemD (Draws.tuple (A := X.A.in1) (I.ok.hd hc) it a st.n2 its.toArray) he ⟨st.ti, tp⟩ li st.n1 (by simp [st.n1, Ne.symm st.n3]) fun y h' tk hy ho hs hT hz hk => ?_
    obtain rfl : u = y := Option.some.inj (hu'.symm.trans hy)
    have le : e < s.heap.objs.size := Heap.lt_size he
    have lt : it < s.heap.objs.size := by obtain ⟨_, q, _⟩ := st.ti; exact Heap.lt_size q
    refine ⟨_, rfl, wpAny_letOwnedTupleGo_enum (s := { s with heap := h', toks := tk + 1 }) ho fun h2 he2 sb => ?_⟩
    have pair : h2.get? s.heap.objs.size = some { cls := .type "tuple", data := .seq #[.int i tk, u] } := (sb.2 _ (Nat.ne_of_gt le)).trans hT
    have I2 : Inv X pins σ (upd H s.heap.objs.size (.tup [.int (i : Nat), x])) { s with heap := h2, toks := tk + 1 } := by
      refine I.turnedNew (ch := [e, it]) (fun b ob hb q => ?_) hf (Nat.le_refl _) ⟨by show 2 ≤ sizeLine; decide, [.int i tk, u], .cons ⟨_, rfl⟩ (.cons ru .nil), ⟨_, pair, rfl, _, rfl⟩⟩
      have nb : b ≠ e ∧ b ≠ it := by simpa using hb
      exact (sb.2 b nb.1).trans (hk b ob nb.1 nb.2 q)
    refine ⟨.ref s.heap.objs.size, _, I2, rfl, ⟨_, x, rfl, I.hok.fresh (Nat.le_refl _), rfl, fun ys hy => by rw [I.tuple_inj hy hq]; exact hx⟩, ⟨⟨u, ?_⟩, ?_, st.n1, st.n2, st.n3⟩, fun b hb => ?_⟩
    · rw [show ((i + 1 : Nat) : Int) = (i : Int) + 1 by omega]
      exact he2
    · obtain ⟨o, q, r⟩ := hs.1
      exact ⟨o, (sb.2 it (Ne.symm st.n1)).trans q, r⟩
    · have lb : b < s.heap.objs.size := by
        rcases List.mem_cons.mp hb with rfl | hb
        · exact le
        · rw [List.mem_singleton.mp hb]; exact lt
      rw [upd_ne (Nat.ne_of_lt lb)]
      exact (hf b hb).1
  done := by
    intro X hP hw hK hc i pins s σ H E I hf st hg
    subst hP hw hK
    obtain ⟨xs, hq, hx⟩ := hg
    obtain ⟨its, rv, tp, _⟩ := I.tuple hq
    obtain ⟨old, he⟩ := st.en
    have hl : i = its.toArray.size := by rw [List.size_toArray, ← rv.length]; exact hx.symm
    obtain ⟨f0, f1, _, f3, f4, f5⟩ := hf it (by simp)
    subst hl
    exact wpAny_pyNext_enum_endD (Draws.tuple (A := X.A.in1) (I.ok.hd hc) it a st.n2 its.toArray) he ⟨st.ti, tp⟩ fun h' eb => ⟨rfl, I.turned (t' := s.toks) (fun b o hb q => eb b o hb q) f0 f1 f3 f4 f5⟩
  self := fun A i s Q E st h => by
    obtain ⟨old, he⟩ := st.en
    exact wpAny_pyIter_enum he h
def iEnT (K : PySem.W.Frag) (ta : TA) : TI := fun σ H R => ta σ H fun vs H1 => ∃ a xs, vs = [.ref a] ∧ SqT K H1 a xs ∧ R (IteT K a) H1
theorem pi_enT {X : Cx} {e : Expr} {ta : TA} {p pos tpos : Pos} {elts : List Expr} {kk : Nat} (hg : Gl X "enumerate") (hm : X.mg "enumerate" = none) (ha : PA X [e] ta) (hs : starEach [e] X.env = [(false, eval e X.env)] := by rfl) :
    PI X (.Tuple elts kk tpos) (.Call (.Name "enumerate" p) [e] [] pos) (iEnT X.K ta) := by
  refine ⟨fun pins s σ H R I h => Call_ (ld_blt I hg hm boot_enumerate (PyProof.Rows.callWith_type1 (thn (ha.run pos pins s σ H _ I h) fun us s1 ⟨vs, H1, I1, r1, q1⟩ => ?_) hs rfl))⟩
  obtain ⟨a, xs, rfl, hq, q⟩ := q1
  obtain ⟨u, rfl, ru⟩ := vals1 r1
  cases ru
  obtain ⟨its, rv, tp, _⟩ := I1.tuple hq
  have la : a < s1.heap.objs.size := by obtain ⟨_, z, _⟩ := tp; exact Heap.lt_size z
  refine call_enum1 (begins_tuple a its.toArray) tp fun en ito kp => wpAny_pyIter_enum en ?_
  refine ⟨_, [s1.heap.objs.size + 1, s1.heap.objs.size], _, _, H1, rfl, I1.kept (t' := s1.toks) kp, turn_enT a (s1.heap.objs.size + 1) s1.heap.objs.size, ⟨⟨.none, en⟩, ⟨_, ito, rfl, rfl⟩, Nat.succ_ne_self _, Nat.ne_of_lt la, Nat.ne_of_lt (Nat.lt_succ_of_lt la)⟩, fun b hb => ?_, q⟩
  have le : s1.heap.objs.size ≤ b := by
    rcases List.mem_cons.mp hb with rfl | hb
    · exact Nat.le_add_right _ _
    · rw [List.mem_singleton.mp hb]; exact Nat.le_refl _
  exact I1.fpOk le (I1.hok.fresh le)
theorem walk_enT {K : PySem.W.Frag} {a : Addr} {xs : List V} : Walk (IteT K a) xs.length (fun H => SqT K H a xs) (YPair (fun i => some (.int (i : Nat))) (fun i => xs[i]?)) := by
  refine ⟨fun i _ hi q => ⟨xs, xs[i], q, by simp [hi]⟩, fun _ q => ⟨xs, q, rfl⟩, fun i H v H' _ q y => ?_⟩
  obtain ⟨c, x, h1, h2, h3, h4⟩ := y
  exact ⟨c, .int (i : Nat), x, h1, h2, h3, rfl, h4 xs q⟩
end Lc
set_option Elab.async false
set_option linter.all false
set_option maxRecDepth 100000
set_option maxHeartbeats 4000000
namespace Lc
open PySem PySem.Spec PyProof.Rows L2
/-! ## Deep data that stands in the abstract heap -/
mutual
inductive Dh (H : Hp) : V → PyData → Prop
  | non : Dh H .non .none
  | bl (b : Bool) : Dh H (.bl b) (.bool b)
  | int (i : Int) : Dh H (.int i) (.int i)
  | str (x : Str) : Dh H (.str x) (.str x)
  | tup {a : Addr} {xs : List V} {ds : List PyData} (e : H a = some (.tup xs)) (h : DhAll H xs ds) : Dh H (.ref a) (.tuple ds)
  | lst {a : Addr} {xs : List V} {ds : List PyData} (e : H a = some (.lst xs)) (h : DhAll H xs ds) : Dh H (.ref a) (.list ds)
  | dct {a : Addr} (e : H a = some (.dK [])) : Dh H (.ref a) (.dict [])
inductive DhAll (H : Hp) : List V → List PyData → Prop
  | nil : DhAll H [] []
  | cons {v : V} {vs : List V} {d : PyData} {ds : List PyData} (h : Dh H v d) (r : DhAll H vs ds) : DhAll H (v :: vs) (d :: ds)
end
mutual
theorem Dh.same {H H' : Hp} (s : Same H H') : ∀ {v : V} {d : PyData}, Dh H v d → Dh H' v d
  | _, _, .non => .non
  | _, _, .bl b => .bl b
  | _, _, .int i => .int i
  | _, _, .str x => .str x
  | _, _, .tup e h => .tup (s _ _ e) (DhAll.same s h)
  | _, _, .lst e h => .lst (s _ _ e) (DhAll.same s h)
  | _, _, .dct e => .dct (s _ _ e)
theorem DhAll.same {H H' : Hp} (s : Same H H') : ∀ {vs : List V} {ds : List PyData}, DhAll H vs ds → DhAll H' vs ds
  | _, _, .nil => .nil
  | _, _, .cons h r => .cons (Dh.same s h) (DhAll.same s r)
end
def tyD : PyData → String
  | .none => "NoneType"
  | .bool _ => "bool"
  | .int _ => "int"
  | .str _ => "str"
  | .tuple _ => "tuple"
  | .list _ => "list"
  | .dict _ => "dict"
theorem Dh.ty {H : Hp} {v : V} {d : PyData} (h : Dh H v d) : TyN H v (tyD d) := by
  cases h with
  | non => exact .non
  | bl b => exact .bl b
  | int i => exact .int i
  | str x => exact .str x
  | tup e _ => exact .tup e
  | lst e _ => exact .lst e
  | dct e => exact .dct e
theorem DhAll.len {H : Hp} {vs : List V} {ds : List PyData} (h : DhAll H vs ds) : vs.length = ds.length := by
  match h with
  | .nil => rfl
  | .cons _ r => rw [List.length_cons, List.length_cons, DhAll.len r]
theorem DhAll.get {H : Hp} : ∀ {vs : List V} {ds : List PyData}, DhAll H vs ds → ∀ (i : Nat) (v : V), vs[i]? = some v → ∃ d, ds[i]? = some d ∧ Dh H v d
  | _, _, .nil, i, v, e => by simp at e
  | _, _, .cons h r, 0, v, e => by
    obtain rfl := Option.some.inj e
    exact ⟨_, rfl, h⟩
  | _, _, .cons h r, i + 1, v, e => by
    obtain ⟨d, e1, e2⟩ := DhAll.get r i v (by simpa using e)
    exact ⟨d, by simpa using e1, e2⟩
theorem DhAll.append {H : Hp} : ∀ {vs : List V} {ds : List PyData} {us : List V} {es : List PyData}, DhAll H vs ds → DhAll H us es → DhAll H (vs ++ us) (ds ++ es)
  | _, _, _, _, .nil, r => r
  | _, _, _, _, .cons h t, r => .cons h (DhAll.append t r)
mutual
theorem Dh.dp {K : PySem.W.Frag} {H : Hp} : ∀ {v : V} {d : PyData}, Dh H v d → d.hasDict = false → Dp K H v d
  | _, _, .non, _ => .non
  | _, _, .bl b, _ => .bl b
  | _, _, .int i, _ => .int i
  | _, _, .str x, _ => .str x
  | _, _, .tup e h, n => .tup (SqT.of e) (DhAll.dp h (by simpa [PyData.hasDict] using n))
  | _, _, .lst e h, n => .lst (SqL.of e) (DhAll.dp h (by simpa [PyData.hasDict] using n))
  | _, _, .dct e, n => by simp [PyData.hasDict] at n
theorem DhAll.dp {K : PySem.W.Frag} {H : Hp} : ∀ {vs : List V} {ds : List PyData}, DhAll H vs ds → PyData.hasDictAll ds = false → DpAll K H vs ds
  | _, _, .nil, _ => .nil
  | _, _, .cons h r, n => by
    rw [PyData.hasDictAll, Bool.or_eq_false_iff] at n
    exact .cons (Dh.dp h n.1) (DhAll.dp r n.2)
end
theorem Dh.shw {K : PySem.W.Frag} {H : Hp} {v : V} {d : PyData} (h : Dh H v d) (h1 : d.showable = true) (h2 : d.hasDict = false) (h3 : d.depth ≤ 60) (h4 : d.shown.length ≤ sizeLine) : Shw K H v d.shown := .data (h.dp h2) h1 h2 h3 h4
/-! ## How large it is when it is shown -/
structure Tm (k n : Nat) (d : PyData) : Prop where
  sh : d.showable = true
  nd : d.hasDict = false
  dz : d.depth ≤ k
  ln : d.shown.length ≤ n
theorem Tm.mono {k n k' n' : Nat} {d : PyData} (h : Tm k n d) (a : k ≤ k') (b : n ≤ n') : Tm k' n' d := ⟨h.sh, h.nd, Nat.le_trans h.dz a, Nat.le_trans h.ln b⟩
theorem tm_fl {v : V} {d : PyData} {s : String} (h : Fl v d s) : Tm 0 20000 d := ⟨h.sh, h.nd, Nat.le_of_eq h.dz, h.ln⟩
theorem tm_all {k n : Nat} : ∀ {ds : List PyData}, (∀ d ∈ ds, Tm k n d) → PyData.showableAll ds = true ∧ PyData.hasDictAll ds = false ∧ PyData.depthAll ds ≤ k ∧ ((PyData.shownAll ds).map (·.length)).sum ≤ n * ds.length ∧ (PyData.shownAll ds).length = ds.length
  | [], _ => ⟨rfl, rfl, Nat.zero_le _, by simp [PyData.shownAll], rfl⟩
  | d :: ds, h => by
    obtain ⟨h1, h2, h3, h4, h5⟩ := tm_all (ds := ds) fun x hx => h x (List.mem_cons_of_mem _ hx)
    have hd := h d List.mem_cons_self
    refine ⟨?_, ?_, ?_, ?_, ?_⟩
    · simp [PyData.showableAll, hd.sh, h1]
    · simp [PyData.hasDictAll, hd.nd, h2]
    · simp only [PyData.depthAll]
      have := hd.dz
      omega
    · simp only [PyData.shownAll, List.map_cons, List.sum_cons, List.length_cons]
      have := hd.ln
      rw [Nat.mul_succ]
      omega
    · simp [PyData.shownAll, h5]
theorem tm_tup {k n : Nat} {ds : List PyData} (h : ∀ d ∈ ds, Tm k n d) : Tm (k + 1) (n * ds.length + 2 * ds.length + 4) (.tuple ds) := by
  obtain ⟨h1, h2, h3, h4, h5⟩ := tm_all h
  refine ⟨by simpa [PyData.showable] using h1, by simpa [PyData.hasDict] using h2, ?_, ?_⟩
  · simp only [PyData.depth]
    omega
  · have := tupleText_len_le (PyData.shownAll ds)
    simp only [PyData.shown]
    omega
theorem tm_lst {k n : Nat} {ds : List PyData} (h : ∀ d ∈ ds, Tm k n d) : Tm (k + 1) (n * ds.length + 2 * ds.length + 4) (.list ds) := by
  obtain ⟨h1, h2, h3, h4, h5⟩ := tm_all h
  refine ⟨by simpa [PyData.showable] using h1, by simpa [PyData.hasDict] using h2, ?_, ?_⟩
  · simp only [PyData.depth]
    omega
  · have := listText_len_le (PyData.shownAll ds)
    simp only [PyData.shown]
    omega
theorem Dh.shwT {K : PySem.W.Frag} {H : Hp} {v : V} {d : PyData} {k n : Nat} (h : Dh H v d) (t : Tm k n d) (a : k ≤ 60) (b : n ≤ 3000000) : Shw K H v d.shown := h.shw t.sh t.nd (Nat.le_trans t.dz a) (Nat.le_trans t.ln (Nat.le_trans b (by decide)))
end Lc
set_option Elab.async false
set_option linter.all false
set_option maxRecDepth 100000
set_option maxHeartbeats 4000000
namespace Lc
open PySem PySem.Spec PyProof.Rows L2
/-! ## (x, y) * 0, (x, y) * 1 -/
theorem tuple_mul1 (l : Addr) (items : Array Value) (n : Nat) (dd : Option Addr) (sl : Array (Option Value)) (u : Tok) :
    Meets (Builtin.«tuple.__mul__» ⟨[.ref l, .int 1 u], []⟩) (fun _ R s => s.heap.get? l = some { cls := .type "tuple", dict := dd, data := .seq items n, slots := sl } ∧ R (.ok (.ret (Value.ref l))) s) :=
  .of_wp fun prog w A R s h => by
    obtain ⟨hp, g, d, tk, os⟩ := s
    obtain ⟨hl, h⟩ := h
    have f1 := AutoSeq1.idx_int
    have c0 : (decide ((1 : Int) < -(2 ^ 63)) || decide ((1 : Int) ≥ 2 ^ 63)) = false := by decide
    have c1 : (items.isEmpty || (1 : Int) == 1) = true := by simp
    wp_walk using wpAny_loadPart' hl
    repeat (first
      | (refine wpAny_ite_false (decide_eq_false (by rw [c0]; exact Bool.false_ne_true)) ?_; wp_walk using wpAny_loadPart' hl)
      | (refine wpAny_ite_true (decide_eq_true c1) ?_; wp_walk using wpAny_loadPart' hl))
    exact ⟨_, rfl, h⟩
theorem tuple_mul0 (l : Addr) (items : Array Value) (n : Nat) (dd : Option Addr) (sl : Array (Option Value)) (u : Tok) (hne : items.isEmpty = false) :
    Meets (Builtin.«tuple.__mul__» ⟨[.ref l, .int 0 u], []⟩) (fun _ R s => s.heap.get? l = some { cls := .type "tuple", dict := dd, data := .seq items n, slots := sl } ∧
      R (.ok (.ret (Value.ref s.heap.objs.size))) { s with heap := s.heap.push { cls := Value.type "tuple", data := Data.seq #[] } }) :=
  .of_wp fun prog w A R s h => by
    obtain ⟨hp, g, d, tk, os⟩ := s
    obtain ⟨hl, h⟩ := h
    have f1 := AutoSeq1.idx_int
    have c0 : (decide ((0 : Int) < -(2 ^ 63)) || decide ((0 : Int) ≥ 2 ^ 63)) = false := by decide
    have c1 : (items.isEmpty || (0 : Int) == 1) = false := by rw [hne]; rfl
    have c2 : (decide ((0 : Int) ≤ 0) || items.isEmpty) = true := by simp
    wp_walk using wpAny_loadPart' hl
    repeat (first
      | (refine wpAny_ite_false (decide_eq_false (by rw [c0]; exact Bool.false_ne_true)) ?_; wp_walk using wpAny_loadPart' hl)
      | (refine wpAny_ite_false (decide_eq_false (by rw [c1]; exact Bool.false_ne_true)) ?_; wp_walk using wpAny_loadPart' hl)
      | (refine wpAny_ite_true (decide_eq_true c2) ?_; wp_walk using wpAny_loadPart' hl))
    exact ⟨_, rfl, h⟩
def rRep01 (K : PySem.W.Frag) : R2 := fun x y H Q => ∃ l k xs, x = .ref l ∧ y = .int k ∧ SqT K H l xs ∧ xs ≠ [] ∧ ((k = 1 ∧ Q (.ref l) H) ∨ (k = 0 ∧ ∀ p, H p = none → Q (.ref p) (upd H p (.tup []))))
section
variable {X : Cx}
theorem op_rep01 : OpR X (binaryOp .Mult) (rRep01 X.K) := by
  intro pins s σ H x y v u Q I rx ry h
  obtain ⟨l, k, xs, rfl, rfl, hT, hne, h⟩ := h
  cases rx
  obtain ⟨t, rfl⟩ := ry
  obtain ⟨its, r, ⟨⟨cls, dd, data, sl⟩, ho, hc, n, hd⟩, hs⟩ := I.tuple hT
  simp only at hc hd
  subst hc hd
  have hle : its.length = xs.length := r.length.symm
  have hn : its ≠ [] := fun e => hne (by
    rw [e] at hle
    exact List.eq_nil_of_length_eq_zero hle.symm)
  have hi : its.toArray.isEmpty = false := by
    cases its with
    | nil => exact absurd rfl hn
    | cons a b => rfl
  rcases h with ⟨rfl, q⟩ | ⟨rfl, q⟩
  · exact wpAny_binaryOp_repeat_ref (T := "tuple") (U := "int") (by decide) ⟨_, ho, rfl⟩ (fun s' => typeIs_int s' 1 t) noFill_tuple_mul F.fills_int_mul F.slot_int_rmul repeat_tuple F.slot_int_index.lookup
      (call_meets F.slot_int_rmul (typeIs_int s 1 t) F.entry_int_rmul (F.args_int_rmul_2 _ _) (int_rmul_tuple 1 t l its.toArray n dd sl)
        ⟨ho, rfl, ⟨_, ho, rfl⟩, call_meets F.slot_tuple_mul ⟨_, ho, rfl⟩ F.entry_tuple_mul (F.args_tuple_mul_2 _ _) (tuple_mul1 l its.toArray n dd sl t) ⟨ho, .ref l, H, I, rfl, q⟩⟩)
  · refine wpAny_binaryOp_repeat_ref (T := "tuple") (U := "int") (by decide) ⟨_, ho, rfl⟩ (fun s' => typeIs_int s' 0 t) noFill_tuple_mul F.fills_int_mul F.slot_int_rmul repeat_tuple F.slot_int_index.lookup
      (call_meets F.slot_int_rmul (typeIs_int s 0 t) F.entry_int_rmul (F.args_int_rmul_2 _ _) (int_rmul_tuple 0 t l its.toArray n dd sl)
        ⟨ho, rfl, ⟨_, ho, rfl⟩, call_meets F.slot_tuple_mul ⟨_, ho, rfl⟩ F.entry_tuple_mul (F.args_tuple_mul_2 _ _) (tuple_mul0 l its.toArray n dd sl t hi) ⟨ho, ?_⟩⟩)
    refine ⟨.ref s.heap.objs.size, _, I.laid (t' := s.toks) (o := .tup []) (fun b ob q => Heap.get?_push_of_some _ q) (Nat.le_refl _) ?_, rfl, q _ (I.hok.fresh (Nat.le_refl _))⟩
    exact ⟨Nat.zero_le _, [], .nil, IsTup.new _ _⟩
/-! ## What is never reached -/
theorem pss_dead {b : List Stmt} : PSs X b (fun _ _ _ => False) := ⟨fun _ _ _ _ _ _ h => h.elim⟩
theorem pg_dead {e : Expr} : PG X e (fun _ _ _ _ => False) := ⟨fun _ _ _ _ _ _ _ _ _ h => h.elim⟩
/-! ## C(e, ..) in a try -/
def tMakeS (C : Addr) (sp : Sp) (E : L2.St → XK) (t : TA) : TE := fun σ H Q => t σ H fun vs H1 => ∀ x dx, H1 x = none → H1 dx = none → dx ≠ x →
  sp (.ref x :: vs) (upd (upd H1 dx (.own x)) x (.ins C dx [])) (fun v H2 => v = .non ∧ Q (.ref x) H2) (E σ)
theorem pe_makeS {CX : CXT} {k : Nat} {C f : Addr} {fd : FuncData} {ps : List Str} {sp : Sp} {E : L2.St → XK} {x : Str} {p pos : Pos} {e : Expr} {es : List Expr} {t : TA}
    (M : Mk X.K C f) (F : FnOk X.prog X.w X.K X.mg X.base CX k f fd ps sp) (hr : Room (k + 1) X.A) (hg : Gl X x) (hm : X.mg x = some (.ref C)) (hb : Binds X.K fd ps []) (hx : ∀ σ, PassesAt CX X σ (E σ))
    (ha : PA X (e :: es) t) (hdb : (x == ("__debug__" : Str)) = false := by decide) (he : starEach (e :: es) X.env = (false, eval e X.env) :: starEach es X.env := by rfl) (hpl : (backTo pos (starEach es X.env)).any (·.1) = false := by rfl) :
    PE X (.Call (.Name x p) (e :: es) [] pos) (tMakeS C sp E t) := by
  refine ⟨fun pins s0 σ H0 Q I0 h0 => ?_⟩
  refine wpAny_Call_Name_kw (ld_glob I0 hg hm ?_ hdb)
  refine PySem.W.callWith_K (h₀ := X.base) I0.ok.mod.kin M.kp (thn (ha.run pos pins s0 σ H0 _ I0 h0) fun us s ⟨vs, H, I, r, h⟩ => ⟨I.kIn, ?_⟩) he hpl
  have hq := h (s.heap.objs.size + 1) s.heap.objs.size (I.hok.fresh (Nat.le_succ _)) (I.hok.fresh (Nat.le_refl _)) (Nat.ne_of_lt (Nat.lt_succ_self _))
  have I2 := Inv.made (C := C) I
  have r2 : Vals (V.ref (s.heap.objs.size + 1) :: vs) (Value.ref (s.heap.objs.size + 1) :: us) := .cons rfl r
  have hl : (Value.ref (s.heap.objs.size + 1) :: us).length = ps.length := by
    have e := r2.length
    rw [F.len _ _ _ _ hq] at e
    exact e.symm
  refine wpAny_call (make_map (f := f) I.kIn M.makes M.init (beq_iff_eq.mp M.fn) (codeAny_mono (F.run _ X.stack _ _ ⟨Value.ref (s.heap.objs.size + 1) :: us, []⟩ (Value.ref (s.heap.objs.size + 1) :: us) _ _ (E σ) (hr.make C us [])
    (I2.env0.make C us []) (by
      have z := hb _ (Value.ref (s.heap.objs.size + 1) :: us) I2.kIn (by rw [List.append_nil]; exact hl)
      rw [List.append_nil] at z
      exact z) r2 hq) fun r s' hq' => ?_))
  cases r with
  | error e => exact hx σ pins _ _ e s' I2 hq'
  | ok fl =>
    cases fl with
    | ret u =>
      obtain ⟨v, H', I3, rv, ev, q3⟩ := I2.after hq'
      subst ev
      exact ⟨rv, ⟨V.ref (s.heap.objs.size + 1), H', I3, rfl, q3⟩⟩
    | next => exact False.elim hq'
    | brk => exact False.elim hq'
    | cont => exact False.elim hq'
/-! ## len(o), o of an own class -/
structure LenC (K : PySem.W.Frag) (C f : Addr) : Prop where
  at_ : PySem.W.findIn K (.ref C) "__len__" = some (some (.ref f))
  fn : PySem.W.isFn K (.ref f) = true
def rLenI (C : Addr) (sp : Sp) : List V → Hp → VK → Prop := fun xs H Q => ∃ a dx fs, xs = [.ref a] ∧ H a = some (.ins C dx fs) ∧ sp [.ref a] H (fun v H' => ∃ n : Int, v = .int n ∧ 0 ≤ n ∧ n < 2 ^ 63 ∧ Q (.int n) H') E0
theorem call_lenI {k : Nat} {C f : Addr} {fd : FuncData} {ps : List Str} {sp : Sp} (c : LenC X.K C f) (F : FnOk X.prog X.w X.K X.mg X.base CX0 k f fd ps sp) (hr : Room (k + 1) X.A) (hb : Binds X.K fd ps []) : CallR X (.builtin "len") (rLenI C sp) := by
  intro pins s σ H xs us Q I rv h
  obtain ⟨a, dx, fs, rfl, ha, hsp⟩ := h
  obtain ⟨u, rfl, ru⟩ := vals1 rv
  cases ru
  obtain ⟨mA, J, _⟩ := ins_get I.hok ha
  obtain ⟨od, J, _⟩ := J.look
  refine Calls.call_function_entry kind_len plain_len entry_len (args_len1 _) ?_
  unfold Builtin.«len»
  refine wpAny_bind (m := oneArg "len" _) (wpAny_pure ?_)
  refine wpAny_bind (m := callSpecial? (.ref a) (Str.ofString "__len__")) (PySem.W.special_fn I.kIn J c.at_ (beq_iff_eq.mp c.fn) ?_)
  have e0 : Env0 X.prog X.w X.K X.mg X.base X.A.in1 X.stack s H := by
    have e := I.env0
    exact ⟨e.frames, e.mod, e.bs, e.bsz, e.funs, e.frf, e.hok, e.bare⟩
  have hl := F.len _ _ _ _ hsp
  have r2 : Vals [V.ref a] [Value.ref a] := .cons rfl .nil
  refine wpAny_call (codeAny_mono (F.run X.A.in1 X.stack s H ⟨[.ref a], []⟩ [.ref a] [.ref a] _ _ hr.in1 e0 (by
    have := hb s [.ref a] I.kIn (by simpa using hl)
    simpa using this) r2 hsp) fun r s' hq => ?_)
  cases r with
  | error e => exact hq.elim
  | ok fl =>
    cases fl with
    | ret u =>
      obtain ⟨v, H', I3, rv, n, rfl, h0, h1, q3⟩ := I.after hq
      obtain ⟨t, rfl⟩ := rv
      refine wpAny_bind (wpAny_holding (wpAny_pure ?_))
      refine wpAny_bind (wpAny_letGo ?_)
      show wpAny _ _ (if n < 0 then _ else _) _ _ _
      rw [if_neg (by omega)]
      show wpAny _ _ (if n ≥ 2 ^ 63 then _ else _) _ _ _
      rw [if_neg (by omega)]
      exact wpAny_bind (wpAny_mkInt (wpAny_pure ⟨_, rfl, .int n, H', I3.tok _, ⟨_, rfl⟩, q3⟩))
    | next => exact False.elim hq
    | brk => exact False.elim hq
    | cont => exact False.elim hq
end
end Lc
set_option Elab.async false
set_option linter.all false
set_option maxRecDepth 100000
set_option maxHeartbeats 4000000
namespace Lc
open PySem PySem.Spec PyProof.Rows L2
/-! ## Names that are drawn are names -/
theorem name_of {l : List Nat} {x : Str} (e : x.cps.toList = l) (ne : l ≠ []) (ln : l.length ≤ 12) (h1 : ∀ c r, l = c :: r → inL c = true) (h2 : ∀ c ∈ l, inS c = true) : nameB (.str x) = true := by
  show nameL x.cps.toList = true
  rw [e]
  cases l with
  | nil => exact absurd rfl ne
  | cons c r =>
    show (decide ((c :: r).length ≤ 12) && (inL c && (c :: r).all inS)) = true
    rw [decide_eq_true ln, h1 c r rfl, List.all_eq_true.mpr h2]
    rfl
theorem name_has {x : Str} (h : nameB (.str x) = true) : x.cps.toList ≠ [] ∧ x.cps.toList.length ≤ 12 ∧ (∀ c r, x.cps.toList = c :: r → inL c = true) ∧ ∀ c ∈ x.cps.toList, inS c = true := by
  have h : nameL x.cps.toList = true := h
  generalize x.cps.toList = l at h
  cases l with
  | nil => cases h
  | cons c r =>
    have h : (decide ((c :: r).length ≤ 12) && (inL c && (c :: r).all inS)) = true := h
    obtain ⟨a, h⟩ := Bool.and_eq_true_iff.mp h
    obtain ⟨b, h⟩ := Bool.and_eq_true_iff.mp h
    exact ⟨List.cons_ne_nil _ _, of_decide_eq_true a, fun c' r' e => by cases e; exact b, List.all_eq_true.mp h⟩
theorem app_list (x y : Str) : (x ++ y).cps.toList = x.cps.toList ++ y.cps.toList := by
  show (x.cps ++ y.cps).toList = _
  simp
theorem mul_list (i : Int) : (Txt.mul (PySem.Str.ofString "a") i).cps.toList = List.replicate i.toNat 97 := by
  have ea : (PySem.Str.ofString "a").cps.toList = [97] := by decide +kernel
  have el : ((PySem.Str.ofString "a").length == 0) = false := by decide +kernel
  unfold Txt.mul
  by_cases h1 : i < 1
  · rw [if_pos h1, show i.toNat = 0 by omega]
    rfl
  · rw [if_neg h1, el, Bool.or_false]
    by_cases h2 : (i == 1) = true
    · rw [if_pos h2, ea, show i.toNat = 1 by have := beq_iff_eq.mp h2; omega]
      rfl
    · rw [if_neg h2]
      show ((List.replicate i.toNat (PySem.Str.ofString "a").cps).foldl (· ++ ·) #[]).toList = _
      rw [foldl_app]
      simp only [List.map_replicate, ea]
      generalize i.toNat = n
      induction n with
      | zero => rfl
      | succ n ih =>
        rw [List.replicate_succ, List.replicate_succ]
        simpa using ih
theorem sgn_at {i : Int} (h0 : 0 ≤ i) (h1 : i < 36) : ∃ c, atI signs.cps.toList i = some c ∧ c ∈ signs.cps.toList ∧ inS c = true ∧ (i < 26 → inL c = true) := by
  obtain ⟨n, rfl⟩ : ∃ n : Nat, i = (n : Int) := ⟨i.toNat, by omega⟩
  have h : n < signs.cps.toList.length := by rw [signs_len]; omega
  have m := List.getElem_mem h
  refine ⟨signs.cps.toList[n], atI_nat (List.getElem?_eq_getElem h), m, decide_eq_true m, fun l => ?_⟩
  have all : ∀ k : Fin 26, (signs.cps.toList[k.1]?).all inL = true := by decide +kernel
  have z := all ⟨n, by omega⟩
  rw [List.getElem?_eq_getElem h] at z
  exact z
theorem in97 : inL 97 = true ∧ inS 97 = true := by decide +kernel
theorem name_one {k m : Int} {c : Nat} (h0 : 0 ≤ k) (hm : 0 ≤ m) (l : k + m ≤ 11) (hs : inS c = true) (hl : k = 0 → inL c = true) : nameB (.str (Txt.mul (PySem.Str.ofString "a") k ++ ⟨#[c]⟩ ++ Txt.mul (PySem.Str.ofString "a") m)) = true := by
  have e : (Txt.mul (PySem.Str.ofString "a") k ++ (⟨#[c]⟩ : Str) ++ Txt.mul (PySem.Str.ofString "a") m).cps.toList = List.replicate k.toNat 97 ++ [c] ++ List.replicate m.toNat 97 := by
    rw [app_list, app_list, mul_list, mul_list]
  refine name_of e (by simp) (by simp; omega) (fun c' r' q => ?_) (fun c' q => ?_)
  · by_cases z : k = 0
    · subst z
      have q : c :: List.replicate m.toNat 97 = c' :: r' := q
      cases q
      exact hl rfl
    · obtain ⟨n, hn⟩ : ∃ n, k.toNat = n + 1 := ⟨k.toNat - 1, by omega⟩
      rw [hn, List.replicate_succ] at q
      cases q
      exact in97.1
  · rcases List.mem_append.mp q with q | q
    · rcases List.mem_append.mp q with q | q
      · rw [List.eq_of_mem_replicate q]; exact in97.2
      · rw [List.mem_singleton.mp q]; exact hs
    · rw [List.eq_of_mem_replicate q]; exact in97.2
theorem glued_list : ∀ (cs : List Nat), (Str.join Str.empty (cs.map fun c => (⟨#[c]⟩ : Str))).cps.toList = cs
  | [] => rfl
  | [c] => rfl
  | c :: d :: r => by
    have ih := glued_list (d :: r)
    have e : Str.join Str.empty ((c :: d :: r).map fun c => (⟨#[c]⟩ : Str)) = (⟨#[c]⟩ : Str) ++ Str.empty ++ Str.join Str.empty ((d :: r).map fun c => (⟨#[c]⟩ : Str)) := rfl
    rw [e, app_list, app_list, ih]
    rfl
theorem name_join {cs : List Nat} (ne : cs ≠ []) (ln : cs.length ≤ 12) (h1 : ∀ c r, cs = c :: r → inL c = true) (h2 : ∀ c ∈ cs, inS c = true) : nameB (.str (Txt.join (PySem.Str.ofString "") (cs.map fun c => (⟨#[c]⟩ : Str)))) = true := by
  have e : Txt.join (PySem.Str.ofString "") (cs.map fun c => (⟨#[c]⟩ : Str)) = Str.join Str.empty (cs.map fun c => (⟨#[c]⟩ : Str)) := (StrLaws.glued_eq_join (PySem.Str.ofString "") _).trans rfl
  rw [e]
  exact name_of (glued_list cs) ne ln h1 h2
theorem cut_list (x : Str) : (cutS x none (some 11)).cps.toList = x.cps.toList.take 11 := by
  unfold cutS
  rw [lenL]
  simp [HT.sIx]
theorem name_cut {x : Str} {c : Nat} (h : nameB (.str x) = true) (hc : inS c = true) : nameB (.str (cutS x none (some 11) ++ ⟨#[c]⟩)) = true := by
  obtain ⟨a1, a2, a3, a4⟩ := name_has h
  have e : (cutS x none (some 11) ++ (⟨#[c]⟩ : Str)).cps.toList = x.cps.toList.take 11 ++ [c] := by rw [app_list, cut_list]
  refine name_of e (by simp) (by simp; omega) (fun c' r' q => ?_) (fun c' q => ?_)
  · cases z : x.cps.toList with
    | nil => exact absurd z a1
    | cons d r =>
      rw [z] at q
      have q : d :: (r.take 10 ++ [c]) = c' :: r' := q
      injection q with q1 _
      rw [← q1]
      exact a3 d r z
  · rcases List.mem_append.mp q with q | q
    · exact a4 c' (List.mem_of_mem_take q)
    · rw [List.mem_singleton.mp q]; exact hc
/-! ## Some letter is free -/
theorem pigeon {α : Type} [DecidableEq α] : ∀ {l m : List α}, l.Nodup → (∀ x ∈ l, x ∈ m) → l.length ≤ m.length
  | [], _, _, _ => Nat.zero_le _
  | x :: l, m, n, h => by
    obtain ⟨n1, n2⟩ := List.nodup_cons.mp n
    have hx := h x List.mem_cons_self
    have := pigeon (l := l) (m := m.erase x) n2 fun y hy => (List.mem_erase_of_ne (fun e => n1 (by rw [← e]; exact hy))).mpr (h y (List.mem_cons_of_mem _ hy))
    rw [List.length_erase_of_mem hx] at this
    have := List.length_pos_of_mem hx
    rw [List.length_cons]
    omega
theorem in_strs {z : Str} {ss : List Str} : inV (.str z) (ss.map V.str) = decide (z ∈ ss) := by
  rw [Bool.eq_iff_iff, decide_eq_true_iff]
  unfold inV
  rw [List.any_eq_true]
  constructor
  · rintro ⟨y, hy, e⟩
    obtain ⟨s, hs, rfl⟩ := List.mem_map.mp hy
    have : s = z := by simpa [eqV] using e
    rw [← this]; exact hs
  · intro h
    exact ⟨.str z, List.mem_map.mpr ⟨z, h, rfl⟩, by simp [eqV]⟩
theorem free_letter {x : Str} {ss : List Str} (l : ss.length < 36) (h : ∀ c ∈ signs.cps.toList, cutS x none (some 11) ++ (⟨#[c]⟩ : Str) ∈ ss) : False := by
  have inj : ∀ c d : Nat, cutS x none (some 11) ++ (⟨#[c]⟩ : Str) = cutS x none (some 11) ++ (⟨#[d]⟩ : Str) → c = d := fun c d e => by
    have e := congrArg (fun s : Str => s.cps.toList) e
    simp only [app_list] at e
    have := List.append_cancel_left e
    simpa using this
  have nd : signs.cps.toList.Nodup := by decide +kernel
  have := pigeon (l := signs.cps.toList.map fun c => cutS x none (some 11) ++ (⟨#[c]⟩ : Str)) (m := ss) (List.Pairwise.map _ (fun a b n e => n (inj a b e)) nd) fun y hy => by
    obtain ⟨c, hc, rfl⟩ := List.mem_map.mp hy
    exact h c hc
  rw [List.length_map, signs_len] at this
  omega
end Lc
set_option Elab.async false
set_option linter.all false
set_option maxRecDepth 100000
set_option maxHeartbeats 4000000
namespace Lc
open PySem PySem.Spec PyProof.Rows L2
/-! ## o.m(e, .., k = v, ..) -/
def tMethK (C : Addr) (m : Str) (n l : Nat) (sp : Sp) (gV : List V → List V → List V) (E : XK) (ta : TE) (t tk : TA) : TE := fun σ H Q => ta σ H fun x H1 => ∃ a dx fs, x = .ref a ∧ H1 a = some (.ins C dx fs) ∧ fs.lookup m = none ∧
  t σ H1 fun vs H2 => tk σ H2 fun zs H3 => vs.length = n ∧ zs.length = l ∧ sp (gV (x :: vs) zs) H3 Q E
section
variable {X : Cx} {CX : CXT} {k n : Nat} {f C : Addr} {fd : FuncData} {ps ks : List Str} {sp : Sp} {E : XK} {m : Str} {pos apos : Pos} {e o : Expr} {es : List Expr} {kws : List Keyword} {ta : TE} {t tk : TA} {g : List Value → List Value → List Value} {gV : List V → List V → List V}
theorem pe_methK {pl : Sem Bool} (he : PE X o ta) (c : Cls X.K C) (hm : Meth X.K C m f) (F : FnOk X.prog X.w X.K X.mg X.base CX k f fd ps sp) (hr : Room k X.A) (hb : KBn X.K fd ps (n + 1) ks g gV) (hx : Passes CX X E) (ha : PA X (e :: es) t) (hkw : PK X kws tk)
    (hall : (backToKw pos (keywordEach kws X.env)).all (·.1.isSome) = true := by rfl) (hks : (backToKw pos (keywordEach kws X.env)).filterMap (·.1) = ks := by rfl) (hst : starEach (e :: es) X.env = (false, eval e X.env) :: starEach es X.env := by rfl)
    (hpl : ((backTo pos (starEach (e :: es) X.env)).any (·.1) || (backToKw pos (keywordEach kws X.env)).any (·.1.isNone)) = false := by rfl)
    (ht : eval (.Call (.Attribute o m apos) (e :: es) kws pos) X.env = (do
      let ov ← eval o X.env
      standAt apos.atName
      let (f, first) ← holding [ov] (getMethod ov m pl)
      callWith pos f first (backTo pos (starEach (e :: es) X.env)) (backToKw pos (keywordEach kws X.env))) := by rfl) :
    PE X (.Call (.Attribute o m apos) (e :: es) kws pos) (tMethK C m n ks.length sp gV E ta t tk) := by
  refine ⟨fun pins s σ H Q I h => ?_⟩
  refine PySem.W.methodCall_KW (pl := pl) (thn (he.run pins s σ H _ I h) fun u s1 ⟨x, H1, I1, rx, a, dx, fs, ex, ea, l, q⟩ => ?_) ht
  subst ex
  obtain rfl : u = Value.ref a := rx
  refine getmeth_ok I1 ea c hm l ?_
  refine PySem.W.callWith_KW (first := [.ref a]) (h₀ := X.base) I.ok.mod.kin hm.kp hall (thn (ha.run pos pins s1 σ H1 _ I1 q) fun us s2 ⟨vs, H2, I2, r, q2⟩ => ?_) hpl hst
  refine thn (hkw.run pos pins s2 σ H2 _ I2 q2) fun ws s3 ⟨zs, H3, I3, rz, l1, l2, q3⟩ => ⟨I3.kIn, ?_⟩
  rw [hks]
  exact run_fnN (us := .ref a :: us) (vs := .ref a :: vs) F hr hb hx I3 (.cons rfl r) rz (by rw [List.length_cons, l1]) l2 q3
end
theorem kbN {K : PySem.W.Frag} {x qual : Str} {params : Arguments} {body : List Stmt} {scope : Scope} {kws : List (Str × V)} {f : Addr} {fd : FuncData} {ps ks : List Str} {n : Nat} (F : FunD K x qual params body scope [] kws f fd)
    (h : ∀ (kV doc pm : Value) (an : Option Addr) (cdv ct : Value) (us ws : List Value), us.length = n → ws.length = ks.length → bindArgs (PySem.W.fnOf x qual params body scope .none kV doc pm an cdv ct) ⟨us, ks.zip ws⟩ = pure (ps.zip (us ++ ws))) : KBn K fd ps n ks (fun us ws => us ++ ws) (fun vs zs => vs ++ zs) := by
  obtain ⟨oc, od, dV, kV, doc, pm, an, cdv, ct, osl, rfl, lk, hcd, hD, hK⟩ := F.ex
  rcases hD with ⟨_, rfl⟩ | ⟨e, _⟩
  · exact ⟨fun s us ws X l1 l2 => .of_eq (h kV doc pm an cdv ct us ws l1 l2), fun r1 r2 => r1.append r2⟩
  · exact absurd rfl e
/-! ## Data without lists: it stands as long as the tuples stand -/
def SameT (H H' : Hp) : Prop := ∀ b xs, H b = some (.tup xs) → H' b = some (.tup xs)
theorem SameT.refl (H : Hp) : SameT H H := fun _ _ e => e
theorem SameT.trans {H H1 H2 : Hp} (a : SameT H H1) (b : SameT H1 H2) : SameT H H2 := fun c xs e => b c xs (a c xs e)
theorem SameT.of {H H' : Hp} (s : Same H H') : SameT H H' := fun b xs e => s _ _ e
theorem SameT.b {t : Addr} {H H' : Hp} (T : Tape H t) (s : SameB t H H') : SameT H H' := fun b xs e => s _ _ (T.neT e) e
theorem SameT.at {a : Addr} {H H' : Hp} {o : HO} (h : H a = some o) (n : ∀ xs, o ≠ .tup xs) (s : SameB a H H') : SameT H H' := fun b xs e => s _ _ (fun z => by rw [z, h] at e; exact n xs (Option.some.inj e)) e
theorem SameT.lst {H : Hp} {a : Addr} {ys : List V} {o : HO} (h : H a = some (.lst ys)) : SameT H (upd H a o) := fun b xs e => by rw [upd_ne (ne_of e h nofun)]; exact e
mutual
def noL : PyData → Bool
  | .list _ => false
  | .dict _ => false
  | .tuple ds => noLs ds
  | _ => true
def noLs : List PyData → Bool
  | [] => true
  | d :: ds => noL d && noLs ds
end
mutual
theorem Dh.t {H H' : Hp} (s : SameT H H') : ∀ {v : V} {d : PyData}, Dh H v d → noL d = true → Dh H' v d
  | _, _, .non, _ => .non
  | _, _, .bl b, _ => .bl b
  | _, _, .int i, _ => .int i
  | _, _, .str x, _ => .str x
  | _, _, .tup e h, n => .tup (s _ _ e) (DhAll.t s h (by simpa [noL] using n))
  | _, _, .lst e h, n => by simp [noL] at n
  | _, _, .dct e, n => by simp [noL] at n
theorem DhAll.t {H H' : Hp} (s : SameT H H') : ∀ {vs : List V} {ds : List PyData}, DhAll H vs ds → noLs ds = true → DhAll H' vs ds
  | _, _, .nil, _ => .nil
  | _, _, .cons h r, n => by
    rw [noLs, Bool.and_eq_true_iff] at n
    exact .cons (Dh.t s h n.1) (DhAll.t s r n.2)
end
theorem noLs_app {a b : List PyData} : noLs (a ++ b) = (noLs a && noLs b) := by
  induction a with
  | nil => rfl
  | cons x a ih => rw [List.cons_append, noLs, noLs, ih, Bool.and_assoc]
theorem noLs_all {a : List PyData} : noLs a = true ↔ ∀ d ∈ a, noL d = true := by
  induction a with
  | nil => exact ⟨fun _ => nofun, fun _ => rfl⟩
  | cons x a ih =>
    rw [noLs, Bool.and_eq_true_iff, ih]
    constructor
    · rintro ⟨h1, h2⟩ d hd
      rcases List.mem_cons.mp hd with rfl | hd
      · exact h1
      · exact h2 d hd
    · exact fun h => ⟨h x List.mem_cons_self, fun d hd => h d (List.mem_cons_of_mem _ hd)⟩
end Lc
set_option Elab.async false
set_option linter.all false
set_option maxRecDepth 100000
set_option maxHeartbeats 4000000
namespace Lc
open PySem PySem.Spec PyProof.Rows L2
/-! ## a dict comprehension that is stored in a local name -/
section
variable {X : Cx}
theorem sw_dict {e1 e2 : Expr} {cs : List Comprehension} {sc : Scope} {p1 p2 : Pos} {nm : Str} {ln : Nat} {en : Env} (h1 : en.scope.kind = .function) (h2 : en.scope.names.lookup nm = some .local) (h3 : (p2.line == p1.line) = true)
    (h4 : (sc.names.any fun (a, b) => a == nm && (b == .local || b == .cell)) = false) : swapsWith (.DictComp e1 e2 cs sc p1) (some (.Name nm p2)) ln en = pure true := by
  have k1 : en.kindOf nm = some .local := h2
  have k2 : en.blockKind = .function := by
    unfold Env.blockKind
    rw [h1]
    rfl
  unfold swapsWith
  simp only [k2, k1, h4, Expr.pos, h3]
  rfl
theorem ps_setDc {i : Nat} {nm : Str} {p2 p1 p3 : Pos} {kx vx tg it : Expr} {ifs : List Expr} {sc : Scope} {own : List (Str × Nat)} {wi : TI} {g : TG} {tt : TT} {tk tv : TE} (calm : X.calm = true) (nd : X.N.Nodup) (at_ : X.N[i]? = some nm) (loc : X.env.scope.names.lookup nm = some .local)
    (sw : swapsWith (.DictComp kx vx [⟨tg, it, ifs, 0⟩] sc p1) (some (.Name nm p2)) p3.line X.env = pure true) (hi : PI X tg it wi) (ok : BlkOk X.N X.env.scope sc own)
    (hg : ∀ (s : Shared) (H : Hp) (C : Addr) (cl : List (Str × Addr)) (fp : List Addr), PG (X.blk s H sc (compEnvC sc cl C X.env) fp) tg g) (ht : ∀ (s : Shared) (H : Hp) (C : Addr) (cl : List (Str × Addr)) (fp : List Addr), PTs (X.blk s H sc (compEnvC sc cl C X.env) fp) ifs tt)
    (hk : ∀ (s : Shared) (H : Hp) (C : Addr) (cl : List (Str × Addr)) (fp : List Addr), PE (X.blk s H sc (compEnvC sc cl C X.env) fp) kx tk) (hv : ∀ (s : Shared) (H : Hp) (C : Addr) (cl : List (Str × Addr)) (fp : List Addr), PE (X.blk s H sc (compEnvC sc cl C X.env) fp) vx tv) (hs : ∀ x, foldedSetIterable it X.env x = pure x := by intro _; rfl) :
    PS X (.Assign [.Name nm p2] (.DictComp kx vx [⟨tg, it, ifs, 0⟩] sc p1) p3) (tAsg (tDc wi g tt tk tv (own.map (·.2))) (gName i)) := by
  refine ⟨fun pins st σ H D I q0 => ?_⟩
  rw [exec_Assign_Name_used _ _ _ _ sw]
  refine wpAny_bind (wpAny_standAt (wpAny_bind ?_))
  show wpAny _ X.A (do let _ ← comprehension (.DictComp kx vx [⟨tg, it, ifs, 0⟩] sc p1) sc X.env (firstIterPos [⟨tg, it, ifs, 0⟩] p1) newDict false (eval it X.env) (some (assign (.Name nm p2) X.env))) _ _ st
  have q1 : tDc wi g tt tk tv (own.map (·.2)) σ H (fun x H1 => gName i x σ H1 D.nx) := q0
  refine wpAny_bind (thn (dc_core (Qf := fun _ s' => SP X pins D .next s') calm nd I hi ok hg ht hk hv hs q1 fun L C s' mm H' I' qq hn fr => ?_) fun _ s' z => wpAny_pure (wpAny_pure z))
  show wpAny _ _ (assign (.Name nm p2) X.env (.ref L)) _ _ _
  refine wpAny_assign_Name (store_ok2 (v := V.ref L) I' nd at_ (.inl loc) rfl (fun s2 I2 ⟨a, sb, ha⟩ => ?_) (.inr loc))
  obtain ⟨g0, g1, _, g3, g4, g5⟩ := fr
  have ne : C ≠ a := by
    rcases ha with z | z
    · exact z ▸ g1
    · exact fun e => g4 nm a z e.symm
  refine ⟨mm, hn.sameBut sb ne, fun h3 sb3 => ?_⟩
  refine ⟨_, H', I2.turned (t' := s2.toks) (fun b o hb e => ?_) g0 g1 g3 g4 g5, qq⟩
  exact (sb3.2 b hb).trans e
end
/-- a dict comprehension over zip of two tuples of one length -/
theorem dc_zip {K : PySem.W.Frag} {a b : Addr} {xs ys : List V} {g : TG} {tt : TT} {tk tv : TE} {vs : List Nat} {σ : L2.St} {H1 : Hp} {D : Addr} {Qd : Hp → Prop} (hl : xs.length = ys.length) (Pv : Nat → Hp → Prop) (h0 : Pv 0 (upd H1 D (.dK []))) (hq : ∀ i H, Pv i H → SqT K H a xs ∧ SqT K H b ys)
    (hs : ∀ (i : Nat) (x y : V) (T : Addr) (H : Hp), xs[i]? = some x → ys[i]? = some y → Pv i H → H T = none → g (.ref T) (wipe σ vs) (upd H T (.tup [x, y])) fun σ2 H2 => wipe σ2 vs = wipe σ vs ∧ tt σ2 H2 fun c H3 =>
      if c = true then tk σ2 H3 fun k H4 => tv σ2 H4 fun z H5 => ∃ kvs kk, k = kV kk ∧ H5 D = some (.dK kvs) ∧ kvs.length < sizeLine ∧ Pv (i + 1) (upd H5 D (.dK (putK kvs kk z))) else Pv (i + 1) H3) (hd : ∀ H, Pv xs.length H → Qd H) :
    ∃ W : Nat → Nat → Hp → Prop, (∃ m, W 0 m (upd H1 D (.dK []))) ∧ ∀ i m H, W i m H →
      ((RZ.ItzT K a b).stop i H ∧ Qd H) ∨ ((RZ.ItzT K a b).go i H ∧ ∃ N : Hp → Prop, (∀ H', N H' → ∃ m', m' < m ∧ W (i + 1) m' H') ∧ ∀ v H', (RZ.ItzT K a b).yld i H v H' → g v (wipe σ vs) H' fun σ2 H2 => wipe σ2 vs = wipe σ vs ∧ tt σ2 H2 fun c H3 =>
        if c = true then tk σ2 H3 fun k H4 => tv σ2 H4 fun z H5 => ∃ kvs kk, k = kV kk ∧ H5 D = some (.dK kvs) ∧ kvs.length < sizeLine ∧ N (upd H5 D (.dK (putK kvs kk z))) else N H3) := by
  refine ⟨fun i m H => i + m = xs.length ∧ Pv i H, ⟨xs.length, Nat.zero_add _, h0⟩, ?_⟩
  rintro i m H ⟨em, pv⟩
  obtain ⟨q1, q2⟩ := hq i H pv
  cases m with
  | zero =>
    obtain rfl : i = xs.length := by omega
    exact .inl ⟨⟨xs, ys, q1, q2, .inl (Nat.le_refl _)⟩, hd H pv⟩
  | succ m =>
    have l1 : i < xs.length := by omega
    have l2 : i < ys.length := by omega
    refine .inr ⟨⟨xs, ys, _, _, q1, q2, List.getElem?_eq_getElem l1, List.getElem?_eq_getElem l2⟩, Pv (i + 1), fun H' p' => ⟨m, by omega, by omega, p'⟩, fun v H' yl => ?_⟩
    obtain ⟨T, x', y', rfl, hT, rfl, f1, f2⟩ := yl
    exact hs i x' y' T H (f1 xs q1) (f2 ys q2) pv hT
section
variable {X : Cx} {k : Nat} {f : Addr} {fd : FuncData} {ps : List Str} {sp : Sp} {x : Str} {p pos : Pos}
/-- f(), f kept under FnG -/
theorem pe_callG0 (F : FnG X.prog X.w X.K X.mg X.base k f fd ps sp) (gg : X.A.guards = some []) (hr : Room k X.A) (hg : Gl X x) (hm : X.mg x = some (.ref f)) (hk : PySem.W.keepIn X.K (.ref f) = true) (hb : Binds X.K fd ps []) (hdb : (x == ("__debug__" : Str)) = false := by decide) :
    PE X (.Call (.Name x p) [] [] pos) (tCall sp [] E0 tNil) := by
  refine ⟨fun pins s σ H Q I h => wpAny_Call_Name_kw (ld_glob I hg hm ?_ hdb)⟩
  refine PySem.W.callWith_K0 I.kIn hk ?_
  have q : sp [] H Q E0 := h
  have hl : ([] : List V).length = ps.length := F.len _ _ _ _ q
  have b := hb s [] I.kIn hl
  refine wpAny_call (codeAny_mono (F.run X.A X.stack s H ⟨[], []⟩ [] [] Q E0 gg hr I.env0 b .nil q) fun rr s' hq => ?_)
  cases rr with
  | error er => exact hq.elim
  | ok fl =>
    cases fl with
    | ret u => exact I.after hq
    | next => exact hq.elim
    | brk => exact hq.elim
    | cont => exact hq.elim
end
/-- a list comprehension over zip of two tuples of one length -/
theorem lc_zip {K : PySem.W.Frag} {a b : Addr} {xs ys : List V} {g : TG} {tt : TT} {te : TE} {vs : List Nat} {σ : L2.St} {H1 : Hp} {D : Addr} {Qd : Hp → Prop} (hl : xs.length = ys.length) (Pv : Nat → Hp → Prop) (h0 : Pv 0 (upd H1 D (.lst []))) (hq : ∀ i H, Pv i H → SqT K H a xs ∧ SqT K H b ys)
    (hs : ∀ (i : Nat) (x y : V) (T : Addr) (H : Hp), xs[i]? = some x → ys[i]? = some y → Pv i H → H T = none → g (.ref T) (wipe σ vs) (upd H T (.tup [x, y])) fun σ2 H2 => wipe σ2 vs = wipe σ vs ∧ tt σ2 H2 fun c H3 =>
      if c = true then te σ2 H3 fun z H4 => ∃ acc, H4 D = some (.lst acc) ∧ acc.length < sizeLine ∧ Pv (i + 1) (upd H4 D (.lst (acc ++ [z]))) else Pv (i + 1) H3) (hd : ∀ H, Pv xs.length H → Qd H) :
    ∃ W : Nat → Nat → Hp → Prop, (∃ m, W 0 m (upd H1 D (.lst []))) ∧ ∀ i m H, W i m H →
      ((RZ.ItzT K a b).stop i H ∧ Qd H) ∨ ((RZ.ItzT K a b).go i H ∧ ∃ N : Hp → Prop, (∀ H', N H' → ∃ m', m' < m ∧ W (i + 1) m' H') ∧ ∀ v H', (RZ.ItzT K a b).yld i H v H' → g v (wipe σ vs) H' fun σ2 H2 => wipe σ2 vs = wipe σ vs ∧ tt σ2 H2 fun c H3 =>
        if c = true then te σ2 H3 fun z H4 => ∃ acc, H4 D = some (.lst acc) ∧ acc.length < sizeLine ∧ N (upd H4 D (.lst (acc ++ [z]))) else N H3) := by
  refine ⟨fun i m H => i + m = xs.length ∧ Pv i H, ⟨xs.length, Nat.zero_add _, h0⟩, ?_⟩
  rintro i m H ⟨em, pv⟩
  obtain ⟨q1, q2⟩ := hq i H pv
  cases m with
  | zero =>
    obtain rfl : i = xs.length := by omega
    exact .inl ⟨⟨xs, ys, q1, q2, .inl (Nat.le_refl _)⟩, hd H pv⟩
  | succ m =>
    have l1 : i < xs.length := by omega
    have l2 : i < ys.length := by omega
    refine .inr ⟨⟨xs, ys, _, _, q1, q2, List.getElem?_eq_getElem l1, List.getElem?_eq_getElem l2⟩, Pv (i + 1), fun H' p' => ⟨m, by omega, by omega, p'⟩, fun v H' yl => ?_⟩
    obtain ⟨T, x', y', rfl, hT, rfl, f1, f2⟩ := yl
    exact hs i x' y' T H (f1 xs q1) (f2 ys q2) pv hT
theorem paired_snoc {α β : Type} {R : α → β → Prop} {a : α} {b : β} (h : R a b) : ∀ {l : List α} {m : List β}, Paired R l m → Paired R (l ++ [a]) (m ++ [b])
  | _, _, .nil => .cons h .nil
  | _, _, .cons g r => .cons g (paired_snoc h r)
theorem paired_imp {α β : Type} {R S : α → β → Prop} (h : ∀ a b, R a b → S a b) : ∀ {l : List α} {m : List β}, Paired R l m → Paired S l m
  | _, _, .nil => .nil
  | _, _, .cons g r => .cons (h _ _ g) (paired_imp h r)
end Lc
set_option Elab.async false
set_option linter.all false
set_option maxRecDepth 100000
set_option maxHeartbeats 4000000
namespace K10
open PySem PySem.Spec PyProof.Rows L2 Lc
def top (i : Nat) : Stmt := PySem.Challenge.pw_liveclaims_k10_values_of_expressions.main.body.getD i (.Pass ⟨0, 0, 0, 0⟩)
/-! ## is_whole, common_divisor, is_rational -/
abbrev sWhole : Stmt := top 4
abbrev sCd : Stmt := top 5
abbrev sIsR : Stmt := top 6
def spWhole : Sp := fun vs H Q _ => ∃ (v : V) (t : String), vs = [v] ∧ TyN H v t ∧ Q (.bl (t == "int")) H
def spCd : Sp := fun vs H Q _ => ∃ a b : Int, vs = [.int a, .int b] ∧ 0 ≤ a ∧ 0 ≤ b ∧ Q (.int (gd a b)) H
def spIsR : Sp := fun vs H Q _ => ∃ (v : V) (b : Bool), vs = [v] ∧ Rk H v b ∧ Q (.bl b) H
section
variable {P : Program} {w : World} {K : PySem.W.Frag} {mg : Str → Option Value} {base : Heap} {f C : Addr} {fd : FuncData}
theorem scWhole : FnScope ["value"] ["value"] (defScope sWhole) := ⟨rfl, rfl, rfl, by decide +kernel, rfl, by decide +kernel, by decide +kernel⟩
theorem ok_whole (F : Fun K "is_whole" "is_whole" sWhole f fd) (T : Bt mg) : FnOk P w K mg base CX0 1 f fd ["value"] spWhole := by
  refine F.ok scWhole (fun vs H Q E h => ?_) (fun cdv A outer s H vs Q E hr h => ?_)
  · obtain ⟨v, t, rfl, _⟩ := h
    rfl
  · obtain ⟨v, t, rfl, ty, k⟩ := h
    refine ⟨_, pss_one (ps_ret (pe_and (pe_callB call_isi (by rfl) T.isi boot_isinstance (pa_cons (pv 0) (pa_cons (pe_bltn (v := .ty "int") (by rfl) T.int boot_int rfl) pa_nil)))
      (pe_one (pe_not (pe_callB call_isi (by rfl) T.isi boot_isinstance (pa_cons (pv 0) (pa_cons (pe_bltn (v := .ty "bool") (by rfl) T.bool boot_bool rfl) pa_nil))))))), ?_⟩
    refine ⟨_, rfl, v, .ty "int", _, _, _, rfl, .ty "int", ty.x, kit_int ty.mem, _, rfl, ?_⟩
    refine ite2 (fun hi => ?_) (fun hi => ?_)
    · refine ⟨_, rfl, v, .ty "bool", _, _, _, rfl, .ty "bool", ty.x, kit_bool ty.mem, _, rfl, ?_⟩
      have e : (!(t == "bool")) = (t == "int") := by cases ty <;> first | rfl | exact absurd hi (by decide)
      show Q (.bl (!(t == "bool"))) H
      rw [e]
      exact k
    · have e : false = (t == "int") := by cases ty <;> first | rfl | exact absurd rfl hi
      show Q (.bl false) H
      rw [e]
      exact k
theorem scCd : FnScope ["a", "b"] ["a", "b"] (defScope sCd) := ⟨rfl, rfl, rfl, by decide +kernel, rfl, by decide +kernel, by decide +kernel⟩
theorem ok_cd (F : Fun K "common_divisor" "common_divisor" sCd f fd) : FnOk P w K mg base CX0 1 f fd ["a", "b"] spCd := by
  refine F.ok scCd (fun vs H Q E h => ?_) (fun cdv A outer s H vs Q E hr h => ?_)
  · obtain ⟨a, b, rfl, _⟩ := h
    rfl
  · obtain ⟨a, b, rfl, ha, hb, k⟩ := h
    refine ⟨_, pss_cons (ps_while PassesOwn.never (pt_cmpR op_ne (pv 1) pe_int (nomark _)) (pss_one (ps_par (i := 0) (j := 1) (by rfl) scCd.nd rfl rfl (by decide) rfl rfl (pa_cons (pv 1) (pa_cons (pe_op op_mod (pv 0) (pv 1)) pa_nil)) (by rfl))))
      (pss_one (ps_ret (pv 0))), ?_⟩
    refine ⟨fun m σ H' => ∃ a' b' : Int, σ = [some (.int a'), some (.int b')] ∧ 0 ≤ a' ∧ 0 ≤ b' ∧ b'.toNat = m ∧ gd a' b' = gd a b ∧ H' = H, ⟨_, a, b, rfl, ha, hb, rfl, rfl, rfl⟩, ?_⟩
    rintro m σ H' ⟨a', b', rfl, ha', hb', rfl, e, rfl⟩
    refine ⟨_, rfl, rfl, _, rfl, ?_⟩
    rw [show (decide (V.int b' = V.int 0)) = decide (b' = 0) from dec_int.trans (by rw [Bool.eq_iff_iff]; simp)]
    by_cases z : b' = 0
    · rw [decide_eq_true z]
      refine iteF ⟨_, rfl, ?_⟩
      rw [← e, z, gd_zero ha'] at k
      exact k
    · rw [decide_eq_false z]
      have pb : 0 < b' := by omega
      refine iteT ⟨fun σ' H'' => ∃ a2 b2 : Int, σ' = [some (.int a2), some (.int b2)] ∧ 0 ≤ a2 ∧ 0 ≤ b2 ∧ b2.toNat < b'.toNat ∧ gd a2 b2 = gd a b ∧ H'' = H', ?_, ?_⟩
      · rintro σ' H'' ⟨a2, b2, h1, h2, h3, h4, h5, h6⟩
        exact ⟨_, h4, a2, b2, h1, h2, h3, rfl, h5, h6⟩
      · refine ⟨_, rfl, _, rfl, _, rfl, _, _, rfl, rfl, pb, _, _, rfl, b', a' % b', rfl, hb', Int.emod_nonneg _ (by omega), ?_, ?_, rfl⟩
        · have := Int.emod_lt_of_pos a' pb
          have := Int.emod_nonneg a' (by omega : b' ≠ 0)
          omega
        · rw [gd_step ha' pb]
          exact e
theorem scIsR : FnScope ["value", "n", "d"] ["value"] (defScope sIsR) := ⟨rfl, rfl, rfl, by decide +kernel, rfl, by decide +kernel, by decide +kernel⟩
theorem ok_isr {fW fC : Addr} {fdW fdC : FuncData} (F : Fun K "is_rational" "is_rational" sIsR f fd) (T : Bt mg) (GW : FnOk P w K mg base CX0 1 fW fdW ["value"] spWhole) (mW : mg "is_whole" = some (.ref fW)) (kW : PySem.W.keepIn K (.ref fW) = true) (bW : Binds K fdW ["value"] [])
    (GC : FnOk P w K mg base CX0 1 fC fdC ["a", "b"] spCd) (mC : mg "common_divisor" = some (.ref fC)) (kC : PySem.W.keepIn K (.ref fC) = true) (bC : Binds K fdC ["a", "b"] []) : FnOk P w K mg base CX0 2 f fd ["value"] spIsR := by
  refine F.ok scIsR (fun vs H Q E h => ?_) (fun cdv A outer s H vs Q E hr h => ?_)
  · obtain ⟨v, b, rfl, _⟩ := h
    rfl
  · obtain ⟨v, b, rfl, hk, k⟩ := h
    refine ⟨_, pss_cons (ps_if (PW.pt (pw_or (pt_not (pt_val (pe_callB call_isi (by rfl) T.isi boot_isinstance (pa_cons (pv 0) (pa_cons (pe_bltn (v := .ty "tuple") (by rfl) T.tuple boot_tuple rfl) pa_nil)))))
        (pw_or1 (pt_cmpR op_ne (pe_callB call_len_seq (by rfl) T.len PySem.boot_len (pa_cons (pv 0) pa_nil)) pe_int (nomark _))))) (pss_one (ps_ret pe_bl)) pss_nil)
      (pss_cons (ps_asg (pv 0) (pg_tup rfl (pgs_cons (pg_name (i := 1) scIsR.nd rfl (.inl rfl)) (pgs_cons (pg_name (i := 2) scIsR.nd rfl (.inl rfl)) pgs_nil))))
      (pss_cons (ps_if (PW.pt (pw_or (pt_not (pt_val (pe_call GW hr (by rfl) mW kW bW .nil pass0 (pa_cons (pv 1) pa_nil)))) (pw_or (pt_not (pt_val (pe_call GW hr (by rfl) mW kW bW .nil pass0 (pa_cons (pv 2) pa_nil))))
        (pw_or1 (pt_cmpR op_lt (pv 2) pe_int (nomark _)))))) (pss_one (ps_ret pe_bl)) pss_nil)
      (pss_one (ps_ret (pe_cmpR op_eq (pe_call GC hr (by rfl) mC kC bC .nil pass0 (pa_cons (pe_callB call_abs (by rfl) T.abs boot_abs (pa_cons (pv 1) pa_nil)) (pa_cons (pv 2) pa_nil))) pe_int (nomark _)))))), ?_⟩
    cases hk with
    | @other _ t ty n =>
      refine ⟨_, rfl, v, .ty "tuple", _, _, _, rfl, .ty "tuple", ty.x, kit_tuple ty.mem, _, rfl, ?_⟩
      have e : (t == "tuple") = false := by simpa using n
      rw [e]
      exact iteT (iteT k)
    | @len a xs e n =>
      refine ⟨_, rfl, .ref a, .ty "tuple", _, _, _, rfl, .ty "tuple", (TyN.tup e).x, kit_tuple (by decide), _, rfl, ?_⟩
      refine iteF ⟨_, rfl, a, xs, rfl, .inr (SqT.of e), rfl, _, rfl, ?_⟩
      have z : decide (V.int (xs.length : Int) = V.int 2) = false := decide_eq_false (fun q => n (by injection q with q; omega))
      rw [z]
      exact iteT k
    | @pair a x y tx ty e hx hy =>
      refine ⟨_, rfl, .ref a, .ty "tuple", _, _, _, rfl, .ty "tuple", (TyN.tup e).x, kit_tuple (by decide), _, rfl, ?_⟩
      refine iteF ⟨_, rfl, a, _, rfl, .inr (SqT.of e), rfl, _, rfl, ?_⟩
      refine iteF ?_
      refine ⟨_, rfl, a, _, rfl, SqT.of e, rfl, _, _, rfl, _, _, rfl, rfl, ?_⟩
      refine ⟨_, rfl, x, tx, rfl, hx, _, rfl, ?_⟩
      by_cases ix : tx = "int"
      · obtain ⟨n, rfl⟩ := hx.isInt ix
        subst ix
        · refine iteF ⟨_, rfl, y, ty, rfl, hy, _, rfl, ?_⟩
          by_cases iy : ty = "int"
          · obtain ⟨d, rfl⟩ := hy.isInt iy
            subst iy
            · refine iteF ⟨_, rfl, _, _, rfl, rfl, _, rfl, ?_⟩
              by_cases hd : d < 1
              · rw [decide_eq_true hd]
                have z : ratB (.int n) (.int d) = false := by
                  show (decide (0 < d) && _) = false
                  rw [decide_eq_false (by omega : ¬ 0 < d)]
                  rfl
                rw [z] at k
                exact iteT k
              · rw [decide_eq_false hd]
                refine iteF ?_
                refine ⟨_, rfl, n, rfl, _, rfl, _, d, rfl, by split <;> omega, by omega, rfl, ?_⟩
                have z : ratB (.int n) (.int d) = decide (V.int (gd (if n < 0 then -n else n) d) = V.int 1) := by
                  show (decide (0 < d) && decide (gd n d = 1)) = _
                  rw [decide_eq_true (by omega : 0 < d), gd_abs]
                  rw [Bool.eq_iff_iff]
                  simp
                rw [z] at k
                exact k
          · have z : (ty == "int") = false := by simpa using iy
            have z2 : ratB (.int n) y = false := by
              cases hy <;> first | rfl | exact absurd rfl iy
            rw [z2] at k
            rw [z]
            exact iteT (iteT k)
      · have z : (tx == "int") = false := by simpa using ix
        have z2 : ratB x y = false := by
          cases hx <;> first | rfl | exact absurd rfl ix
        rw [z2] at k
        rw [z]
        exact iteT (iteT k)
end
abbrev sTape : Stmt := top 33
section
variable {P : Program} {w : World} {K : PySem.W.Frag} {mg : Str → Option Value} {base : Heap} {f : Addr} {fd : FuncData}
theorem scTape : FnScope ["_law_script"] ["_law_script"] (defScope sTape) := ⟨rfl, rfl, rfl, by decide +kernel, rfl, by decide +kernel, by decide +kernel⟩
theorem ok_tape (F : Fun K "_law_tape" "_law_tape" sTape f fd) (T : Bt mg) : FnOk P w K mg base CX0 1 f fd ["_law_script"] (spTape K) := by
  refine F.ok scTape (fun vs H Q E h => ?_) (fun cdv A outer s H vs Q E hr h => ?_)
  · obtain ⟨a, ns, rfl, _⟩ := h
    rfl
  · obtain ⟨a, ns, rfl, hS, k⟩ := h
    refine ⟨_, pss_one (ps_ret (pe_lst (pa_cons (pe_callTy call_list_of (by rfl) T.list boot_list (pa_cons (pe_slice sl_list (pv 0) po_none (po_some pe_int)) pa_nil)) (pa_cons pe_int (pa_cons pe_int (pa_cons pe_int pa_nil)))))), ?_⟩
    obtain ⟨ms, e⟩ := cut_ints ns none (some 63)
    refine ⟨_, rfl, _, rfl, a, _, rfl, hS, fun p hp => ⟨p, _, rfl, .inl (SqL.of upd_same), fun l hl => ⟨by show 4 ≤ sizeLine; decide, fun t ht => ?_⟩⟩⟩
    have s1 : Same H (upd H p (.lst (cutV (ns.map V.int) none (some 63)))) := Same.upd hp
    have s2 := Same.upd (o := .lst (cutV (ns.map V.int) none (some 63))) hl
    have s3 := Same.upd (o := .lst [.ref l, .int 0, .int 0, .int 17]) ht
    refine k t _ ((s1.trans s2).trans s3) ((s1.trans s2).free ht) ⟨l, ms, 0, 0, 17, upd_same, ?_, by decide, by decide, by decide, by decide⟩
    rw [← e]
    exact s3 _ _ upd_same
end
abbrev sDraw : Stmt := top 34
section
variable {P : Program} {w : World} {K : PySem.W.Frag} {mg : Str → Option Value} {base : Heap} {f : Addr} {fd : FuncData}
theorem scDraw : FnScope ["_law_tape_here", "_law_many", "_law_digit", "_law_cell", "_law_mixed"] ["_law_tape_here", "_law_many"] (defScope sDraw) := ⟨rfl, rfl, rfl, by decide +kernel, rfl, by decide +kernel, by decide +kernel⟩
theorem ok_draw (F : Fun K "_law_draw" "_law_draw" sDraw f fd) (T : Bt mg) : FnOk P w K mg base CX0 1 f fd ["_law_tape_here", "_law_many"] spDrawL := by
  refine F.ok scDraw (fun vs H Q E h => ?_) (fun cdv A outer s H vs Q E hr h => ?_)
  · obtain ⟨t, l, m, rfl, _⟩ := h
    rfl
  · obtain ⟨t, l, m, rfl, ⟨ns, pos, rest, mix, ht, hl, p0, r0, m0, m1⟩, hm, hm2, k⟩ := h
    refine ⟨_, pss_cons (ps_if (pt_cmpR op_gt (pe_ix ix_list (pv 0) pe_int (fun _ _ => rfl)) pe_int (nomark _))
        (pss_cons (ps_set (i := 2) scDraw.nd rfl (Or.inl rfl) (pe_op op_mod (pe_ix ix_list (pv 0) pe_int (fun _ _ => rfl)) (pv 1)))
        (pss_cons (ps_asg (pe_op op_fdivW (pe_ix ix_list (pv 0) pe_int (fun _ _ => rfl)) (pv 1)) (pg_sub (pv 0) pe_int set_list)) (pss_one (ps_ret (pv 2))))) pss_nil)
      (pss_cons (ps_set (i := 3) scDraw.nd rfl (Or.inl rfl) pe_int)
      (Evl.pss_cut (ps_if (pt_cmpR op_lt (pe_ix ix_list (pv 0) pe_int (fun _ _ => rfl)) (pe_callB call_len_seq (by rfl) T.len PySem.boot_len (pa_cons (pe_ix ix_list (pv 0) pe_int (fun _ _ => rfl)) pa_nil)) (nomark _))
        (pss_one (ps_set (i := 3) scDraw.nd rfl (Or.inl rfl) (pe_ix ix_list (pe_ix ix_list (pv 0) pe_int (fun _ _ => rfl)) (pe_ix ix_list (pv 0) pe_int (fun _ _ => rfl)) (fun _ _ => rfl)))) pss_nil)
      (pss_cons (ps_asg (pe_op op_add (pe_ix ix_list (pv 0) pe_int (fun _ _ => rfl)) pe_int) (pg_sub (pv 0) pe_int set_list))
      (pss_cons (ps_if (pt_cmpR op_ge (pv 3) (pe_op op_pow pe_int pe_int) (nomark _))
        (pss_cons (ps_asg (pe_op op_fdivW (pv 3) (pv 1)) (pg_sub (pv 0) pe_int set_list)) (pss_one (ps_ret (pe_op op_mod (pv 3) (pv 1))))) pss_nil)
      (pss_cons (ps_set (i := 4) scDraw.nd rfl (Or.inl rfl) (pe_op op_add (pe_op op_add (pe_op op_add (pe_op op_mul (pe_ix ix_list (pv 0) pe_int (fun _ _ => rfl)) pe_int) (pe_op op_mod (pv 3) pe_int)) (pe_op op_mul pe_int (pe_ix ix_list (pv 0) pe_int (fun _ _ => rfl)))) pe_int))
      (pss_cons (ps_asg (pe_op op_mod (pv 4) pe_int) (pg_sub (pv 0) pe_int set_list))
      (pss_one (ps_ret (pe_op op_mod (pe_op op_mod (pe_op op_pow (pe_ix ix_list (pv 0) pe_int (fun _ _ => rfl)) pe_int) pe_int) (pv 1)))))))))), ?_⟩
    have nl := tape_ne ht hl
    have dv : ∀ c : Int, CDivW c m := fun c => ⟨hm, log_lt' hm2⟩
    have M0 : (0 : Int) < 2147483647 := by decide
    refine ⟨_, rfl, t, _, _, _, rfl, rfl, SqL.of ht, rfl, _, _, rfl, rfl, _, rfl, ?_⟩
    refine ite2 (fun z => ?_) (fun z => ?_)
    · have z' : 0 < rest := of_decide_eq_true z
      refine ⟨_, rfl, t, _, _, _, rfl, rfl, SqL.of ht, rfl, _, rfl, _, _, rfl, rfl, hm, ?_⟩
      refine ⟨_, rfl, t, _, _, _, rfl, rfl, SqL.of ht, rfl, _, rfl, _, _, rfl, rfl, dv _, _, rfl, t, _, _, 2, rfl, rfl, ht, rfl, ?_⟩
      refine ⟨_, rfl, ?_⟩
      refine k _ _ (Int.emod_nonneg _ (by omega)) (Int.emod_lt_of_pos _ hm) ⟨ns, pos, rest / m, mix, upd_same, by rw [upd_ne nl]; exact hl, p0, Int.ediv_nonneg r0 (by omega), m0, m1⟩ SameB.upd
    · refine ⟨fun σ' H' => ∃ c : Int, σ' = [some (.ref t), some (.int m), none, some (.int c), none] ∧ H' = H, ?_, ?_⟩
      · refine ⟨_, rfl, t, _, _, _, rfl, rfl, SqL.of ht, rfl, _, rfl, t, _, _, _, rfl, rfl, SqL.of ht, rfl, l, _, rfl, .inl (SqL.of hl), _, _, rfl, rfl, _, rfl, ?_⟩
        refine ite2 (fun y => ?_) (fun y => ?_)
        · have y' : pos < ((ns.map V.int).length : Int) := of_decide_eq_true y
          rw [List.length_map] at y'
          have g : (ns.map V.int)[pos.toNat]? = some (.int (ns[pos.toNat]'(by omega))) := by
            rw [List.getElem?_map, List.getElem?_eq_getElem (by omega : pos.toNat < ns.length)]
            rfl
          exact ⟨_, rfl, t, _, _, _, rfl, rfl, SqL.of ht, rfl, _, rfl, t, _, _, _, rfl, rfl, SqL.of ht, rfl, l, _, _, _, rfl, rfl, SqL.of hl, at_of (by omega) g, _, rfl, rfl⟩
        · exact ⟨0, rfl, rfl⟩
      · rintro σ' H' ⟨c, rfl, rfl⟩
        refine ⟨_, rfl, t, _, _, _, rfl, rfl, SqL.of ht, rfl, _, _, rfl, rfl, _, rfl, t, _, _, 1, rfl, rfl, ht, rfl, ?_⟩
        refine ⟨_, rfl, _, _, rfl, rfl, ⟨by decide, by decide, by decide⟩, _, _, rfl, rfl, _, rfl, ?_⟩
        refine ite2 (fun y => ?_) (fun y => ?_)
        · have y' : (10 : Int) ^ (18 : Int).toNat ≤ c := of_decide_eq_true y
          have c0 : 0 ≤ c := Int.le_trans (by decide) y'
          refine ⟨_, rfl, _, rfl, _, _, rfl, rfl, dv _, _, rfl, t, _, _, 2, rfl, rfl, upd_same, rfl, ?_⟩
          refine ⟨_, rfl, _, rfl, _, _, rfl, rfl, hm, ?_⟩
          exact k _ _ (Int.emod_nonneg _ (by omega)) (Int.emod_lt_of_pos _ hm) ⟨ns, pos + 1, c / m, mix, upd_same, by rw [upd_ne nl, upd_ne nl]; exact hl, by omega, Int.ediv_nonneg c0 (by omega), m0, m1⟩ (SameB.upd.trans SameB.upd)
        · refine ⟨_, rfl, t, _, _, _, rfl, rfl, SqL.of upd_same, rfl, _, _, rfl, rfl, .inl ⟨by omega, by omega⟩, _, rfl, _, _, rfl, rfl, M0, _, _, rfl, rfl, _, rfl, t, _, _, _, rfl, rfl, SqL.of upd_same, rfl, _, _, rfl, rfl, .inl ⟨by decide, by decide⟩, _, _, rfl, rfl, _, _, rfl, rfl, ?_⟩
          refine ⟨_, rfl, _, _, rfl, rfl, M0, _, rfl, t, _, _, 3, rfl, rfl, upd_same, rfl, ?_⟩
          have q0 := Int.emod_nonneg (mix * 48271 + c % 2147483647 + 7919 * (pos + 1) + 11) (by decide : (2147483647 : Int) ≠ 0)
          have q1 := Int.emod_lt_of_pos (mix * 48271 + c % 2147483647 + 7919 * (pos + 1) + 11) M0
          refine ⟨_, rfl, t, _, _, _, rfl, rfl, SqL.of upd_same, rfl, _, _, rfl, rfl, ⟨by decide, by decide, ?_⟩, _, _, rfl, rfl, M0, _, rfl, _, _, rfl, rfl, hm, ?_⟩
          · omega
          · exact k _ _ (Int.emod_nonneg _ (by omega)) (Int.emod_lt_of_pos _ hm) ⟨ns, pos + 1, rest, _, upd_same, by rw [upd_ne nl, upd_ne nl]; exact hl, by omega, r0, q0, q1⟩ (SameB.upd.trans SameB.upd)
end
abbrev sLst : Stmt := top 35
section
variable {P : Program} {w : World} {K : PySem.W.Frag} {mg : Str → Option Value} {base : Heap} {f : Addr} {fd : FuncData}
theorem scLst : FnScope ["_law_n", "_law_d", "_law_a", "_law_b", "_law_rest"] ["_law_n", "_law_d"] (defScope sLst) := ⟨rfl, rfl, rfl, by decide +kernel, rfl, by decide +kernel, by decide +kernel⟩
theorem ok_lst (F : Fun K "_law_lowest" "_law_lowest" sLst f fd) (T : Bt mg) : FnOk P w K mg base CX0 1 f fd ["_law_n", "_law_d"] spLowest := by
  refine F.ok scLst (fun vs H Q E h => ?_) (fun cdv A outer s H vs Q E hr h => ?_)
  · obtain ⟨n, d, rfl, _⟩ := h
    rfl
  · obtain ⟨n, d, rfl, hd, hd2, k⟩ := h
    refine ⟨_, pss_cons (ps_set (i := 2) scLst.nd rfl (Or.inl rfl) (pe_callB call_abs (by rfl) T.abs boot_abs (pa_cons (pv 0) pa_nil)))
      (pss_cons (ps_set (i := 3) scLst.nd rfl (Or.inl rfl) (pv 1))
      (pss_cons (ps_while PassesOwn.never (pt_cmpR op_gt (pv 3) pe_int (nomark _))
        (pss_cons (ps_set (i := 4) scLst.nd rfl (Or.inl rfl) (pe_op op_mod (pv 2) (pv 3))) (pss_cons (ps_set (i := 2) scLst.nd rfl (Or.inl rfl) (pv 3)) (pss_one (ps_set (i := 3) scLst.nd rfl (Or.inl rfl) (pv 4))))))
      (pss_one (ps_ret (pe_tup (pa_cons (pe_op op_fdivW (pv 0) (pv 2)) (pa_cons (pe_op op_fdivW (pv 1) (pv 2)) pa_nil))))))), ?_⟩
    refine ⟨_, rfl, n, rfl, _, rfl, ?_⟩
    refine ⟨fun m σ H' => ∃ (a' b' : Int) (r : Option V), σ = [some (.int n), some (.int d), some (.int a'), some (.int b'), r] ∧ 0 ≤ a' ∧ 0 ≤ b' ∧ b'.toNat = m ∧ gd a' b' = gd n d ∧ H' = H, ⟨_, _, d, none, rfl, by split <;> omega, by omega, rfl, gd_abs n d, rfl⟩, ?_⟩
    rintro m σ H' ⟨a', b', r, rfl, ha', hb', rfl, e, rfl⟩
    refine ⟨_, rfl, _, _, rfl, rfl, _, rfl, ?_⟩
    refine ite2 (fun z => ?_) (fun z => ?_)
    · have pb : 0 < b' := of_decide_eq_true z
      refine ⟨fun σ' H'' => ∃ (a2 b2 : Int) (r : Option V), σ' = [some (.int n), some (.int d), some (.int a2), some (.int b2), r] ∧ 0 ≤ a2 ∧ 0 ≤ b2 ∧ b2.toNat < b'.toNat ∧ gd a2 b2 = gd n d ∧ H'' = H', ?_, ?_⟩
      · rintro σ' H'' ⟨a2, b2, r2, h1, h2, h3, h4, h5, h6⟩
        exact ⟨_, h4, a2, b2, r2, h1, h2, h3, rfl, h5, h6⟩
      · refine ⟨_, rfl, _, rfl, _, _, rfl, rfl, pb, _, rfl, _, rfl, b', a' % b', _, rfl, hb', Int.emod_nonneg _ (by omega), ?_, ?_, rfl⟩
        · have := Int.emod_lt_of_pos a' pb
          have := Int.emod_nonneg a' (by omega : b' ≠ 0)
          omega
        · rw [gd_step ha' pb]
          exact e
    · have zb : ¬ 0 < b' := fun q => z (decide_eq_true q)
      have z0 : b' = 0 := by omega
      rw [z0, gd_zero ha'] at e
      subst e
      have g0 : 0 < gd n d := gd_pos (by omega)
      have gl : (gd n d).natAbs < 2 ^ 4000 := Nat.lt_of_le_of_lt (gd_natAbs_le (by omega)) hd2
      exact ⟨_, rfl, _, rfl, _, _, rfl, rfl, ⟨g0, log_lt' gl⟩, _, rfl, _, rfl, _, _, rfl, rfl, ⟨g0, log_lt' gl⟩, by show 2 ≤ sizeLine; decide, k⟩
end
end K10
set_option Elab.async false
set_option linter.all false
set_option maxRecDepth 100000
set_option maxHeartbeats 4000000
namespace K10
open PySem PySem.Spec PyProof.Rows L2 Lc
def spLNm : Sp := fun vs H Q _ => ∃ (t l : Addr), vs = [.ref t] ∧ TapeL l H t ∧ ∀ (x : Str) (H' : Hp), Sh 12 x → nameB (.str x) = true → TapeL l H' t → SameB t H H' → Q (.str x) H'
abbrev sLnm : Stmt := top 37
section
variable {P : Program} {w : World} {K : PySem.W.Frag} {mg : Str → Option Value} {base : Heap} {f fD : Addr} {fd fdD : FuncData}
theorem scLnm : FnScope ["_law_tape_here", "_law_letters", "_law_size", "_law_place", "_law_sign", "_law_k"] ["_law_tape_here"] (defScope sLnm) := ⟨rfl, rfl, rfl, by decide +kernel, rfl, by decide +kernel, by decide +kernel⟩
theorem ok_lnm (F : Fun K "_law_name" "_law_name" sLnm f fd) (T : Bt mg) (GD : FnOk P w K mg base CX0 1 fD fdD ["_law_tape_here", "_law_many"] spDrawL) (mD : mg "_law_draw" = some (.ref fD)) (kD : PySem.W.keepIn K (.ref fD) = true) (bD : Binds K fdD ["_law_tape_here", "_law_many"] []) :
    FnOk P w K mg base CX0 2 f fd ["_law_tape_here"] spLNm := by
  refine F.ok scLnm (fun vs H Q E h => ?_) (fun cdv A outer s H vs Q E hr h => ?_)
  · obtain ⟨t, l, rfl, _⟩ := h
    rfl
  · obtain ⟨t, l, rfl, hT, k⟩ := h
    replace hT : TapeL l H t := hT
    refine ⟨_, pss_cons (ps_set (i := 1) scLnm.nd rfl (Or.inr rfl) pe_str)
      (pss_cons (ps_set (i := 2) scLnm.nd rfl (Or.inl rfl) (pe_op op_add pe_int (pe_call GD hr (by rfl) mD kD bD .nil pass0 (pa_cons (pv 0) (pa_cons pe_int pa_nil)))))
      (pss_cons (ps_if (pt_cmpR op_eq (pe_call GD hr (by rfl) mD kD bD .nil pass0 (pa_cons (pv 0) (pa_cons pe_int pa_nil))) pe_int (nomark _))
        (pss_cons (ps_set (i := 3) scLnm.nd rfl (Or.inl rfl) (pe_call GD hr (by rfl) mD kD bD .nil pass0 (pa_cons (pv 0) (pa_cons (pv 2) pa_nil))))
        (pss_cons (ps_set (i := 4) scLnm.nd rfl (Or.inl rfl) (pe_ix ix_str (pv 1) (pe_call GD hr (by rfl) mD kD bD .nil pass0 (pa_cons (pv 0) (pa_cons (pe_op op_add pe_int (pe_op op_mul pe_int (pe_callTy call_int1 (by rfl) T.int boot_int (pa_cons (pe_cmpR op_gt (pv 3) pe_int (nomark _)) pa_nil)))) pa_nil))) (fun _ _ => rfl)))
        (pss_one (ps_ret (pe_op op_add_str (pe_op op_add_str (pe_op op_mulS pe_str (pv 3)) (pv 4)) (pe_op op_mulS pe_str (pe_op op_sub (pe_op op_sub (pv 2) pe_int) (pv 3)))))))) pss_nil)
      (pss_one (ps_ret (pe_join pe_str (pe_lc (own := [("_law_k", 5)]) (g := gName 5) (tt := tYes) (te := tOp rIxS (tVar 1) (tCall spDrawL [] E0 (tCons (tVar 0) (tCons (tOp (rI0 fun i j => .int (i + j)) (tC (.int 26)) (tOp (rI CMul fun i j => .int (i * j)) (tC (.int 10)) (tCB (fun xs H Q => (∃ i, xs = [.int i] ∧ Q (.int i) H) ∨ ∃ k, xs = [.bl k] ∧ Q (.int (if k then 1 else 0)) H) (tCons (tOp (rI0 fun i j => .bl (decide (j < i))) (tVar 5) (tC (.int 0))) tNil)))) tNil)))) (by rfl) scLnm.nd (pi_range1 (by rfl) T.range (pa_cons (pv 2) pa_nil))
        (blkOk_by (own := [("_law_k", 5)]) (N := ["_law_tape_here", "_law_letters", "_law_size", "_law_place", "_law_sign", "_law_k"]) (sc := defScope sLnm) (by decide +kernel)) (fun _ _ _ _ _ => pg_name (i := 5) scLnm.nd rfl (Or.inl rfl)) (fun _ _ _ _ _ => pts_nil)
        (fun _ _ _ _ _ => pe_ix ix_str (pv 1) (pe_call GD hr (by rfl) mD kD bD .nil pass0 (pa_cons (pv 0) (pa_cons (pe_op op_add pe_int (pe_op op_mul pe_int (pe_callTy call_int1 (by rfl) T.int boot_int (pa_cons (pe_cmpR op_gt (pv 5) pe_int (nomark _)) pa_nil)))) pa_nil))) (fun _ _ => rfl)))))))), ?_⟩
    have big : ∀ z : Int, 0 ≤ z → z ≤ 1000 → z.natAbs < 2 ^ 4000 := fun z h1 h2 => big1000 h1 h2
    have sl : (signs.cps.toList.length : Int) = 36 := by rw [signs_len]; rfl
    have sz : signs.length ≤ sizeLine := by rw [lenL, signs_len]; decide
    refine ⟨_, rfl, t, l, _, rfl, hT, by decide, big _ (by decide) (by decide), fun k1 H1 u1 v1 T1 S1 => ⟨_, _, rfl, rfl, ?_⟩⟩
    refine ⟨_, rfl, t, l, _, rfl, T1, by decide, big _ (by decide) (by decide), fun k2 H2 u2 v2 T2 S2 => ⟨rfl, _, rfl, ?_⟩⟩
    refine ite2 (fun _ => ?_) (fun _ => ?_)
    · refine ⟨_, rfl, _, rfl, t, l, _, rfl, T2, by omega, big _ (by omega) (by omega), fun k3 H3 u3 v3 T3 S3 => ?_⟩
      refine ⟨_, rfl, _, rfl, _, rfl, _, _, rfl, rfl, .inr ⟨_, rfl, _, _, rfl, rfl, .inl ⟨by decide, by decide⟩, _, _, rfl, rfl, t, l, _, rfl, T3, by split <;> decide, big _ (by split <;> decide) (by split <;> decide), fun k4 H4 u4 v4 T4 S4 => ?_⟩⟩
      obtain ⟨c, hc, mc, isc, ilc⟩ := sgn_at (i := k4) u4 (by split at v4 <;> omega)
      refine ⟨signs, k4, c, rfl, rfl, sz, hc, ?_⟩
      have m1 : Sh k3.toNat (Txt.mul (PySem.Str.ofString "a") k3) := sh_mul sh_a (Nat.le_refl _) (Nat.le_refl _)
      have m2 : Sh 1 (⟨#[c]⟩ : Str) := sh_one (signs_ok c mc)
      have m3 : Sh (1 + k1 - 1 - k3).toNat (Txt.mul (PySem.Str.ofString "a") (1 + k1 - 1 - k3)) := sh_mul sh_a (Nat.le_refl _) (Nat.le_refl _)
      have ss : (100 : Nat) ≤ sizeLine := by decide
      refine ⟨_, rfl, _, _, rfl, rfl, mul_ok a_size (by omega) (by omega), _, rfl, _, _, rfl, rfl, ?_, _, rfl, _, _, rfl, rfl, _, rfl, _, _, rfl, rfl, _, _, rfl, rfl, mul_ok a_size (by omega) (by omega), _, _, rfl, rfl, ?_, ?_⟩
      · have := sh_len m1
        have := sh_len m2
        omega
      · have := sh_len (sh_app m1 m2)
        have := sh_len m3
        omega
      · exact k _ _ ((sh_app (sh_app m1 m2) m3).mono (by omega)) (name_one u3 (by omega) (by omega) isc (fun z => ilc (by rw [z] at v4; simpa using v4))) T4 (((S1.trans S2).trans S3).trans S4)
    · refine ⟨⟨_, rfl⟩, _, rfl, _, rfl, by omega, by omega, fun D hD => ?_⟩
      have nD : D ≠ t := T2.tape.ne hD
      have nL : D ≠ l := by
        obtain ⟨xs, z⟩ := T2.list
        exact Ne.symm (ne_of_none z hD)
      let one : Nat → Str := fun c => ⟨#[c]⟩
      refine lc_it walk_range (fun i H' => ∃ cs : List Nat, H' D = some (.lst ((cs.map one).map V.str)) ∧ cs.length = i ∧ (∀ c ∈ cs, c ∈ signs.cps.toList ∧ inS c = true) ∧ (∀ c r, cs = c :: r → inL c = true) ∧ TapeL l H' t ∧ SameB t H2 H') ⟨[], upd_same, rfl, by simp, nofun, T2.same (Same.upd hD), Same.b t (Same.upd hD)⟩ (fun _ _ _ _ => True.intro) ?_ ?_
      · rintro i y H' H'' hi ⟨cs, h1, h2, h3, h3b, h4, h5⟩ ⟨rfl, rfl⟩
        refine ⟨rfl, ?_⟩
        change tOp rIxS (tVar 1) _ _ _ _
        refine ⟨_, rfl, _, rfl, _, rfl, _, _, rfl, rfl, .inr ⟨_, rfl, _, _, rfl, rfl, .inl ⟨by decide, by decide⟩, _, _, rfl, rfl, t, l, _, rfl, h4, by split <;> decide, big _ (by split <;> decide) (by split <;> decide), fun k4 H4 u4 v4 T4 S4 => ?_⟩⟩
        obtain ⟨c, hc, mc, isc, ilc⟩ := sgn_at (i := k4) u4 (by split at v4 <;> omega)
        refine ⟨signs, k4, c, rfl, rfl, sz, hc, _, S4 _ _ nD h1, by rw [List.length_map, List.length_map, h2]; exact Nat.lt_trans hi (Nat.lt_of_le_of_lt (show (1 + k1).toNat ≤ 12 by omega) (by decide)), ?_⟩
        refine ⟨cs ++ [c], by rw [upd_same, List.map_append, List.map_append]; rfl, by rw [List.length_append, h2]; rfl, fun y hy => ?_, fun c' r' e => ?_, T4.upd nD nL, fun b o n e => ?_⟩
        · rcases List.mem_append.mp hy with hy | hy
          · exact h3 y hy
          · rw [List.mem_singleton.mp hy]
            exact ⟨mc, isc⟩
        · cases cs with
          | nil =>
            have e : c = c' := by injection e
            rw [← e]
            have i0 : i = 0 := by rw [← h2]; rfl
            subst i0
            exact ilc (by simpa using v4)
          | cons d r =>
            injection e with e _
            rw [← e]
            exact h3b d r rfl
        · rw [upd_ne (ne_of_none e hD)]
          exact (h5.trans S4) b o n e
      · rintro H' ⟨cs, h1, h2, h3, h3b, h4, h5⟩
        have e12 : cs.length ≤ 12 := by omega
        have s1 : ∀ y ∈ cs.map one, Sh 1 y := fun y hy => by
          obtain ⟨c, hc, rfl⟩ := List.mem_map.mp hy
          exact sh_one (signs_ok c (h3 c hc).1)
        have sum : ∀ l : List Str, (∀ y ∈ l, Sh 1 y) → (l.map (·.length)).sum ≤ l.length := by
          intro l
          induction l with
          | nil => intro _; simp
          | cons y l ih =>
            intro h
            have := ih fun z hz => h z (List.mem_cons_of_mem _ hz)
            have := sh_len (h y List.mem_cons_self)
            simp only [List.map_cons, List.sum_cons, List.length_cons]
            omega
        have lm : (cs.map one).length = cs.length := List.length_map ..
        refine ⟨_, D, cs.map one, rfl, rfl, .inl (SqL.of h1), by have := sum _ s1; show _ + (cs.map one).length * 0 ≤ _; omega, ?_⟩
        exact k _ _ ((join_sh _ s1).mono (by omega)) (name_join (fun z => by rw [z] at h2; have : (0 : Nat) = (1 + k1).toNat := h2; omega) e12 h3b (fun c hc => (h3 c hc).2)) h4 ((S1.trans S2).trans h5)
end
end K10
set_option Elab.async false
set_option linter.all false
set_option maxRecDepth 100000
set_option maxHeartbeats 4000000
namespace K10
open PySem PySem.Spec PyProof.Rows L2 Lc
abbrev sFr : Stmt := top 38
def spFr : Sp := fun vs H Q _ => ∃ (t c l : Addr) (ss : List Str), vs = [.ref t, .ref l] ∧ TapeL c H t ∧ H l = some (.lst (ss.map V.str)) ∧ ss.length < 36 ∧ ∀ (x : Str) (H' : Hp), Sh 12 x → nameB (.str x) = true → x ∉ ss → TapeL c H' t → SameB t H H' → Q (.str x) H'
theorem ne_tape {H : Hp} {t l : Addr} {ss : List Str} (T : Tape H t) (h : H l = some (.lst (ss.map V.str))) : l ≠ t := fun z => by
  obtain ⟨a, _, _, _, _, ht, _⟩ := T
  rw [z, ht] at h
  cases ss with
  | nil => cases h
  | cons x r =>
    injection h with h
    injection h with h
    injection h with h1 _
    cases h1
section
variable {P : Program} {w : World} {K : PySem.W.Frag} {mg : Str → Option Value} {base : Heap} {f fN : Addr} {fd fdN : FuncData}
theorem scFr : FnScope ["_law_tape_here", "_law_taken", "_law_name_here", "_law_letter"] ["_law_tape_here", "_law_taken"] (defScope sFr) := ⟨rfl, rfl, rfl, by decide +kernel, rfl, by decide +kernel, by decide +kernel⟩
theorem ok_fr (F : Fun K "_law_fresh" "_law_fresh" sFr f fd) (GN : FnOk P w K mg base CX0 2 fN fdN ["_law_tape_here"] spLNm) (mN : mg "_law_name" = some (.ref fN)) (kN : PySem.W.keepIn K (.ref fN) = true) (bN : Binds K fdN ["_law_tape_here"] []) :
    FnOk P w K mg base CX0 3 f fd ["_law_tape_here", "_law_taken"] spFr := by
  refine F.ok scFr (fun vs H Q E h => ?_) (fun cdv A outer s H vs Q E hr h => ?_)
  · obtain ⟨t, c, l, ss, rfl, _⟩ := h
    rfl
  · obtain ⟨t, tl, l, ss, rfl, hT, hl, l36, k⟩ := h
    refine ⟨_, pss_cons (ps_set (i := 2) scFr.nd rfl (Or.inl rfl) (pe_call GN hr (by rfl) mN kN bN .nil pass0 (pa_cons (pv 0) pa_nil)))
      (pss_cons (ps_if (pt_cmpR op_notIn_seq (pv 2) (pv 1) (by rfl)) (pss_one (ps_ret (pv 2))) pss_nil)
      (pss_cons (ps_for PassesOwn.never rfl (pi_str pe_str) (pg_name (i := 3) scFr.nd rfl (Or.inl rfl))
        (pss_one (ps_if (pt_cmpR op_notIn_seq (pe_op op_add_str (pe_slice sl_str (pv 2) po_none (po_some pe_int)) (pv 3)) (pv 1) (by rfl)) (pss_one (ps_ret (pe_op op_add_str (pe_slice sl_str (pv 2) po_none (po_some pe_int)) (pv 3)))) pss_nil)))
      (pss_one (ps_ret (pv 2))))), ?_⟩
    refine ⟨_, rfl, t, tl, rfl, hT, fun x H1 hx nx T1 S1 => ?_⟩
    have hl1 := S1 _ _ (ne_tape hT.tape hl) hl
    have fl : (ss.map V.str).all flatV = true := by simp [flatV]
    have ln := hx.line (by decide)
    refine ⟨_, rfl, _, rfl, l, _, rfl, .inl (SqL.of hl1), rfl, fl, _, rfl, ite2 (fun y => ?_) (fun y => ?_)⟩
    · refine ⟨_, rfl, k x H1 hx nx (fun m => ?_) T1 S1⟩
      rw [if_pos rfl, in_strs, decide_eq_true m] at y
      cases y
    · refine ⟨_, rfl, for_it walk_str (fun i σ H' => (∃ x3 : Option V, σ = [some (.ref t), some (.ref l), some (.str x), x3]) ∧ H' = H1 ∧ ∀ (j : Nat) (c : Nat), j < i → signs.cps[j]? = some c → cutS x none (some 11) ++ (⟨#[c]⟩ : Str) ∈ ss) ⟨⟨_, rfl⟩, rfl, fun j c h => absurd h (Nat.not_lt_zero _)⟩ (fun _ _ _ _ _ => trivial) ?_ ?_⟩
      · rintro i v σ Ha Hb hi ⟨⟨x3, rfl⟩, rfl, all⟩ ⟨rfl, c, hc, rfl⟩
        have hc : signs.cps[i]? = some c := hc
        have mc : c ∈ signs.cps.toList := Array.mem_toList_iff.mpr (Array.mem_of_getElem? hc)
        have isc : inS c = true := decide_eq_true mc
        have cs : c < 1114112 := signs_ok c mc
        have sc : Sh 11 (cutS x none (some 11)) := ⟨by rw [cut_list, List.length_take]; omega, (sh_cut none (some 11) hx).ok⟩
        have so : Sh 1 (⟨#[c]⟩ : Str) := sh_one cs
        have lt : (cutS x none (some 11)).length + (⟨#[c]⟩ : Str).length ≤ sizeLine := Nat.le_trans (Nat.add_le_add (sh_len sc) (sh_len so)) (by decide)
        refine ⟨_, rfl, 11, rfl, x, rfl, ln, _, rfl, _, _, rfl, rfl, lt, _, rfl, l, _, rfl, .inl (SqL.of hl1), rfl, fl, _, rfl, ite2 (fun y => ?_) (fun y => ?_)⟩
        · refine ⟨_, rfl, 11, rfl, x, rfl, ln, _, rfl, _, _, rfl, rfl, lt, k _ _ (sh_app sc so) (name_cut nx isc) (fun m => ?_) T1 S1⟩
          rw [if_pos rfl, in_strs, decide_eq_true m] at y
          cases y
        · refine ⟨⟨_, rfl⟩, rfl, fun j c' hj hc' => ?_⟩
          by_cases e : j = i
          · subst e
            rw [hc] at hc'
            cases hc'
            rw [if_pos rfl, in_strs] at y
            exact of_decide_eq_true (by simpa using y)
          · exact all j c' (by omega) hc'
      · rintro σ H' ⟨⟨x3, rfl⟩, rfl, all⟩
        refine (free_letter (x := x) l36 fun c mc => ?_).elim
        obtain ⟨j, hj⟩ := List.mem_iff_getElem?.mp mc
        rw [Array.getElem?_toList] at hj
        exact all j c (Array.getElem?_eq_some_iff.mp hj).1 hj
end
theorem Same.gone {H H' : Hp} {p : Addr} (s : Same H H') (e : H' p = none) : H p = none := by
  cases q : H p with
  | none => rfl
  | some o => rw [s p o q] at e; cases e
abbrev sCls : Stmt := top 39
/-! ## columns: pairs of texts -/
inductive Cols (H : Hp) : List V → List (Str × Str) → Prop
  | nil : Cols H [] []
  | cons {a : Addr} {z k : Str} {xs : List V} {ps : List (Str × Str)} (e : H a = some (.tup [.str z, .str k])) (r : Cols H xs ps) : Cols H (.ref a :: xs) ((z, k) :: ps)
theorem Cols.t {H H' : Hp} (s : SameT H H') : ∀ {xs : List V} {ps : List (Str × Str)}, Cols H xs ps → Cols H' xs ps
  | _, _, .nil => .nil
  | _, _, .cons e r => .cons (s _ _ e) (Cols.t s r)
theorem Cols.app {H : Hp} : ∀ {xs ys : List V} {ps qs : List (Str × Str)}, Cols H xs ps → Cols H ys qs → Cols H (xs ++ ys) (ps ++ qs)
  | _, _, _, _, .nil, r => r
  | _, _, _, _, .cons e h, r => .cons e (Cols.app h r)
theorem Cols.len {H : Hp} : ∀ {xs : List V} {ps : List (Str × Str)}, Cols H xs ps → xs.length = ps.length
  | _, _, .nil => rfl
  | _, _, .cons _ r => by rw [List.length_cons, List.length_cons, Cols.len r]
def colP (p : Str × Str) : PyData := .tuple [.str p.1, .str p.2]
theorem Cols.dh {H : Hp} : ∀ {xs : List V} {ps : List (Str × Str)}, Cols H xs ps → DhAll H xs (ps.map colP)
  | _, _, .nil => .nil
  | _, _, .cons e r => .cons (.tup e (.cons (.str _) (.cons (.str _) .nil))) (Cols.dh r)
def KindS (k : Str) : Prop := k = "number" ∨ k = "word" ∨ k = "flag"
theorem KindS.sh {k : Str} (h : KindS k) : Sh 100 k := by
  rcases h with rfl | rfl | rfl <;> exact ⟨by decide +kernel, by decide +kernel⟩
def spCls : Sp := fun vs H Q _ => ∃ (t c l n : Addr) (m : Int) (lead : List Str), vs = [.ref t, .ref l, .int m, .ref n] ∧ TapeL c H t ∧ H l = some (.tup (lead.map V.str)) ∧ H n = some (.tup []) ∧ 0 ≤ m ∧ m ≤ 7 ∧ 1 ≤ lead.length ∧ lead.length + m.toNat ≤ 8 ∧ (∀ k ∈ lead, KindS k) ∧
  ∀ (r : Addr) (xs : List V) (ps : List (Str × Str)) (H' : Hp), H' r = some (.tup xs) → Cols H' xs ps → (∀ p ∈ ps, Sh 12 p.1 ∧ nameB (.str p.1) = true ∧ KindS p.2) → (ps.map (·.1)).Nodup → lead.length ≤ ps.length → ps.length ≤ lead.length + m.toNat → TapeL c H' t → SameB t H H' → Q (.ref r) H'
section
variable {P : Program} {w : World} {K : PySem.W.Frag} {mg : Str → Option Value} {base : Heap} {f fD fF : Addr} {fd fdD fdF : FuncData}
theorem scCls : FnScope ["_law_tape_here", "_law_lead", "_law_many", "_law_taken", "_law_names", "_law_columns_here", "_law_kinds", "_law_k", "_law_kind"] ["_law_tape_here", "_law_lead", "_law_many", "_law_taken"] (defScope sCls) := ⟨rfl, rfl, rfl, by decide +kernel, rfl, by decide +kernel, by decide +kernel⟩
theorem ok_cls (F : Fun K "_law_columns" "_law_columns" sCls f fd) (T : Bt mg) (GD : FnOk P w K mg base CX0 1 fD fdD ["_law_tape_here", "_law_many"] spDrawL) (mD : mg "_law_draw" = some (.ref fD)) (kD : PySem.W.keepIn K (.ref fD) = true) (bD : Binds K fdD ["_law_tape_here", "_law_many"] [])
    (GF : FnOk P w K mg base CX0 3 fF fdF ["_law_tape_here", "_law_taken"] spFr) (mF : mg "_law_fresh" = some (.ref fF)) (kF : PySem.W.keepIn K (.ref fF) = true) (bF : Binds K fdF ["_law_tape_here", "_law_taken"] []) :
    FnOk P w K mg base CX0 4 f fd ["_law_tape_here", "_law_lead", "_law_many", "_law_taken"] spCls := by
  refine F.ok scCls (fun vs H Q E h => ?_) (fun cdv A outer s H vs Q E hr h => ?_)
  · obtain ⟨t, c, l, n, m, lead, rfl, _⟩ := h
    rfl
  · obtain ⟨t, c, l, n, m, lead, rfl, hT, hl, hn, m0, m7, ld1, ld8, hkl, k⟩ := h
    have hr1 : Room 1 _ := hr.mono (by decide)
    refine ⟨_, pss_cons (ps_set (i := 4) scCls.nd rfl (Or.inl rfl) (pe_callTy call_list_of (by rfl) T.list boot_list (pa_cons (pv 3) pa_nil)))
      (pss_cons (ps_set (i := 5) scCls.nd rfl (Or.inl rfl) (pe_lst pa_nil))
      (pss_cons (ps_set (i := 6) scCls.nd rfl (Or.inl rfl) (pe_callTy call_list_of (by rfl) T.list boot_list (pa_cons (pv 1) pa_nil)))
      (Evl.pss_cut (ps_for PassesOwn.never rfl (pi_range1 (by rfl) T.range (pa_cons (pe_call GD hr1 (by rfl) mD kD bD .nil pass0 (pa_cons (pv 0) (pa_cons (pe_op op_add (pv 2) pe_int) pa_nil))) pa_nil)) (pg_name (i := 7) scCls.nd rfl (Or.inl rfl))
        (pss_one (ps_expr (pe_bm PySem.F.plainAttrs_list PySem.F.slot_list_append PySem.F.type_list_append mt_append (pv 6) (pa_cons (pe_ix ix_list (pe_lst (pa_cons pe_str (pa_cons pe_str (pa_cons pe_str pa_nil)))) (pe_call GD hr1 (by rfl) mD kD bD .nil pass0 (pa_cons (pv 0) (pa_cons pe_int pa_nil))) (fun _ _ => rfl)) pa_nil)))))
      (pss_cons (ps_for PassesOwn.never rfl (pi_list (pv 6)) (pg_name (i := 8) scCls.nd rfl (Or.inl rfl))
        (pss_cons (ps_expr (pe_bm PySem.F.plainAttrs_list PySem.F.slot_list_append PySem.F.type_list_append mt_append (pv 4) (pa_cons (pe_call GF hr (by rfl) mF kF bF .nil pass0 (pa_cons (pv 0) (pa_cons (pv 4) pa_nil))) pa_nil)))
        (pss_one (ps_expr (pe_bm PySem.F.plainAttrs_list PySem.F.slot_list_append PySem.F.type_list_append mt_append (pv 5) (pa_cons (pe_tup (pa_cons (pe_ix ix_list (pv 4) (pe_un un_neg pe_int) (fun _ _ => rfl)) (pa_cons (pv 8) pa_nil))) pa_nil))))))
      (pss_one (ps_ret (pe_callTy call_tuple_of (by rfl) T.tuple boot_tuple (pa_cons (pv 5) pa_nil)))))))), ?_⟩
    refine ⟨_, rfl, n, _, rfl, .inr (SqT.of hn), fun L hL => ⟨by show 0 ≤ sizeLine; decide, fun M hM => ?_⟩⟩
    have yL := Same.upd (o := .lst []) hL
    have yM := Same.upd (o := .lst []) hM
    refine ⟨_, rfl, l, _, rfl, .inr (SqT.of ((yL.trans yM) _ _ hl)), fun N hN => ?_⟩
    have yN := Same.upd (o := .lst (lead.map V.str)) hN
    have nLt := hT.tape.ne hL
    have nMt := (hT.same yL).tape.ne hM
    have nNt := (hT.same (yL.trans yM)).tape.ne hN
    obtain ⟨ys, hc⟩ := hT.list
    have nLc : L ≠ c := Ne.symm (ne_of_none hc hL)
    have nMc : M ≠ c := Ne.symm (ne_of_none (yL _ _ hc) hM)
    have nNc : N ≠ c := Ne.symm (ne_of_none ((yL.trans yM) _ _ hc) hN)
    have eL : upd H L (.lst []) L = some (.lst []) := upd_same
    have nML : L ≠ M := ne_of_none eL hM
    have nNL : L ≠ N := ne_of_none (yM _ _ eL) hN
    have nNM : M ≠ N := ne_of_none (show upd (upd H L (.lst [])) M (.lst []) M = some (.lst []) from upd_same) hN
    have hL3 := (yM.trans yN) _ _ eL
    have hM3 := yN _ _ (show upd (upd H L (.lst [])) M (.lst []) M = some (.lst []) from upd_same)
    have hN3 : upd (upd (upd H L (.lst [])) M (.lst [])) N (.lst (lead.map V.str)) N = some (.lst (lead.map V.str)) := upd_same
    have s3 := yL.trans (yM.trans yN)
    have gM := Same.gone yL hM
    have gN := Same.gone (yL.trans yM) hN
    have hT3 := hT.same s3
    generalize upd (upd (upd H L (.lst [])) M (.lst [])) N (.lst (lead.map V.str)) = H3 at hL3 hM3 hN3 s3 hT3 yN ⊢
    clear yN yM yL eL
    have o3 : 3 ≤ sizeLine := by decide
    let Md : Option V → Option V → List Str → L2.St → Hp → Prop := fun x7 x8 ks σ H' => σ = [some (.ref t), some (.ref l), some (.int m), some (.ref n), some (.ref L), some (.ref M), some (.ref N), x7, x8] ∧ H' N = some (.lst (ks.map V.str)) ∧ (∀ k ∈ ks, KindS k) ∧ TapeL c H' t ∧ SameB t H H'
    refine ⟨fun σ H' => ∃ x7 ks, Md x7 none ks σ H' ∧ H' L = some (.lst []) ∧ H' M = some (.lst []) ∧ lead.length ≤ ks.length ∧ ks.length ≤ lead.length + m.toNat, ?_, ?_⟩
    · refine ⟨_, rfl, _, rfl, _, _, rfl, rfl, t, c, _, rfl, hT3, by omega, big1000 (by omega) (by omega), fun k2 H4 u2 w2 T4 S4 => ⟨k2, rfl, by omega, by omega, for_range (n := k2.toNat) (fun i σ H' => ∃ x7 ks, Md x7 none ks σ H' ∧ H' L = some (.lst []) ∧ H' M = some (.lst []) ∧ ks.length = i + lead.length)
        ⟨_, lead, ⟨rfl, S4 _ _ nNt hN3, hkl, T4, (Same.b t s3).trans S4⟩, S4 _ _ nLt hL3, S4 _ _ nMt hM3, (Nat.zero_add _).symm⟩ ?_ ?_⟩⟩
      · rintro i σ H5 hi ⟨x7, ks, ⟨rfl, hN5, hk5, T5, S5⟩, hL5, hM5, e5⟩
        refine ⟨_, rfl, .inl ⟨rfl, _, SqL.of hN5⟩, o3, fun q hq => ?_⟩
        have zq := Same.upd (o := .lst [.str "number", .str "word", .str "flag"]) hq
        have nq := T5.tape.ne hq
        refine ⟨_, rfl, t, c, _, rfl, T5.same zq, by decide, big1000 (by decide) (by decide), fun k3 H6 u3 w3 T6 S6 => ?_⟩
        obtain ⟨kk, hkk, skk⟩ : ∃ kk : Str, ([.str "number", .str "word", .str "flag"] : List V)[k3.toNat]? = some (.str kk) ∧ KindS kk := by
          have : k3.toNat = 0 ∨ k3.toNat = 1 ∨ k3.toNat = 2 := by omega
          rcases this with e | e | e <;> rw [e]
          · exact ⟨_, rfl, .inl rfl⟩
          · exact ⟨_, rfl, .inr (.inl rfl)⟩
          · exact ⟨_, rfl, .inr (.inr rfl)⟩
        have S7 : SameB t H5 H6 := (Same.b t zq).trans S6
        have hN6 := S7 _ _ nNt hN5
        refine ⟨q, _, _, _, rfl, rfl, SqL.of (S6 _ _ nq upd_same), at_of (j := k3.toNat) (by omega) hkk, N, _, _, rfl, rfl, hN6, ?_, ?_⟩
        · rw [List.length_map, e5]
          exact Nat.lt_of_le_of_lt (show i + lead.length ≤ 8 by omega) (by decide)
        · refine ⟨_, ks ++ [kk], ⟨rfl, by rw [upd_same, List.map_append]; rfl, fun k hk => ?_, T6.upd nNt nNc, fun b o n e => ?_⟩, by rw [upd_ne nNL]; exact S7 _ _ nLt hL5, by rw [upd_ne nNM]; exact S7 _ _ nMt hM5, by rw [List.length_append, e5, List.length_singleton]; omega⟩
          · rcases List.mem_append.mp hk with hk | hk
            · exact hk5 k hk
            · rw [List.mem_singleton.mp hk]; exact skk
          · rw [upd_ne (fun z => by rw [z, gN] at e; cases e)]
            exact (S5.trans S7) b o n e
      · rintro σ H5 ⟨x7, ks, h5, hL5, hM5, e5⟩
        exact ⟨x7, ks, h5, hL5, hM5, by omega, by omega⟩
    · rintro σ H5 ⟨x7, ks, ⟨rfl, hN5, hk5, T5, S5⟩, hL5, hM5, e5, e6⟩
      refine ⟨_, rfl, N, rfl, ⟨_, SqL.of hN5⟩, for_list (K := K) (a := N) (xs := ks.map V.str) (fun i σ H' => ∃ (x8 : Option V) (ns : List Str) (xs : List V) (ps : List (Str × Str)), Md x7 x8 ks σ H' ∧ H' L = some (.lst (ns.map V.str)) ∧ H' M = some (.lst xs) ∧ Cols H' xs ps ∧ (∀ p ∈ ps, Sh 12 p.1 ∧ nameB (.str p.1) = true ∧ KindS p.2) ∧ ns.length = i ∧ ps.length = i ∧ ps.map (·.1) = ns ∧ ns.Nodup)
        ⟨_, [], [], [], ⟨rfl, hN5, hk5, T5, S5⟩, hL5, hM5, .nil, nofun, rfl, rfl, rfl, List.nodup_nil⟩ (fun i σ H' _ p => by obtain ⟨_, _, _, _, ⟨_, z, _⟩, _⟩ := p; exact SqL.of z) ?_ ?_⟩
      · rintro i x σ H6 hx ⟨x8, ns, xs, ps, ⟨rfl, hN6, _, T6, S6⟩, hL6, hM6, hc6, hp6, e7, e8, en, nd⟩
        obtain ⟨kk, hkk, rfl⟩ : ∃ kk, ks[i]? = some kk ∧ V.str kk = x := by
          rw [List.getElem?_map] at hx
          cases q : ks[i]? with
          | none => rw [q] at hx; cases hx
          | some kk => rw [q] at hx; exact ⟨kk, rfl, Option.some.inj hx⟩
        have hi8 : i < 8 := Nat.lt_of_lt_of_le (List.getElem?_eq_some_iff.mp hkk).1 (show ks.length ≤ 8 by omega)
        have skk := hk5 kk (List.mem_of_getElem? hkk)
        have lim : ∀ {m : Nat}, m ≤ 8 → m < sizeLine := fun h => Nat.lt_of_le_of_lt h (by decide)
        refine ⟨_, rfl, .inl ⟨rfl, _, SqL.of hL6⟩, _, rfl, _, rfl, t, c, L, ns, rfl, T6, hL6, by omega, fun z H7 hz nz fz T7 S7 => ?_⟩
        have hL7 := S7 _ _ nLt hL6
        have hM7 := S7 _ _ nMt hM6
        have hN7 := S7 _ _ nNt hN6
        have hc7 := hc6.t (SameT.b T6.tape S7)
        refine ⟨L, _, _, rfl, rfl, hL7, by rw [List.length_map, e7]; exact lim (by omega), ?_⟩
        have hc8 := hc7.t (SameT.lst (o := .lst (ns.map V.str ++ [.str z])) hL7)
        have T8 := T7.upd (o := .lst (ns.map V.str ++ [.str z])) nLt nLc
        have hL8 : upd H7 L (.lst (ns.map V.str ++ [.str z])) L = some (.lst (ns.map V.str ++ [.str z])) := upd_same
        have hM8 : upd H7 L (.lst (ns.map V.str ++ [.str z])) M = some (.lst xs) := by rw [upd_ne (Ne.symm nML)]; exact hM7
        have hN8 : upd H7 L (.lst (ns.map V.str ++ [.str z])) N = some (.lst (ks.map V.str)) := by rw [upd_ne (Ne.symm nNL)]; exact hN7
        have S8 : SameB t H (upd H7 L (.lst (ns.map V.str ++ [.str z]))) := fun b o n e => by
          rw [upd_ne (fun z => by rw [z, hL] at e; cases e)]
          exact (S6.trans S7) b o n e
        generalize upd H7 L (.lst (ns.map V.str ++ [.str z])) = H8 at hc8 T8 hL8 hM8 hN8 S8 ⊢
        refine ⟨_, rfl, .inl ⟨rfl, _, SqL.of hM8⟩, _, rfl, _, rfl, L, _, _, _, rfl, rfl, SqL.of hL8, (show atI (ns.map V.str ++ [.str z]) (-1) = some (.str z) from ?_), _, rfl, by show 2 ≤ sizeLine; decide, fun q hq => ?_⟩
        · unfold atI
          rw [show ixN (ns.map V.str ++ [V.str z]).length (-1) = some ns.length from ?_]
          · simp
          · have hl : (ns.map V.str ++ [V.str z]).length = ns.length + 1 := by rw [List.length_append, List.length_map]; rfl
            unfold ixN
            rw [hl, if_neg (by decide), if_pos (by omega)]
            exact congrArg some (by omega)
        have zq := Same.upd (o := .tup [.str z, .str kk]) hq
        have hM9 := zq _ _ hM8
        have lx := hc6.len
        refine ⟨M, _, _, rfl, rfl, hM9, lim (by omega), ?_⟩
        refine ⟨_, ns ++ [z], xs ++ [.ref q], ps ++ [(z, kk)], ⟨rfl, by rw [upd_ne (Ne.symm nNM)]; exact zq _ _ hN8, hk5, (T8.same zq).upd nMt nMc, fun b o n e => ?_⟩, by rw [upd_ne nML, zq _ _ hL8, List.map_append]; rfl, upd_same, ?_, ?_, by rw [List.length_append, e7]; rfl, by rw [List.length_append, e8]; rfl, by rw [List.map_append, en]; rfl, List.nodup_append.mpr ⟨nd, List.nodup_cons.mpr ⟨nofun, List.nodup_nil⟩, fun a ha b hb => by rw [List.mem_singleton.mp hb]; exact fun e => fz (by rw [← e]; exact ha)⟩⟩
        · rw [upd_ne (fun z => by rw [z, gM] at e; cases e)]
          exact (S8.trans (Same.b t zq)) b o n e
        · have eq : upd H8 q (.tup [.str z, .str kk]) q = some (.tup [.str z, .str kk]) := upd_same
          have hc9 := (hc8.t (SameT.of zq)).app (.cons eq .nil)
          exact hc9.t (SameT.lst hM9)
        · intro p hp
          rcases List.mem_append.mp hp with hp | hp
          · exact hp6 p hp
          · rw [List.mem_singleton.mp hp]; exact ⟨hz, nz, skk⟩
      · rintro σ H6 ⟨x8, ns, xs, ps, ⟨rfl, hN6, _, T6, S6⟩, hL6, hM6, hc6, hp6, e7, e8, en, nd⟩
        rw [List.length_map] at e8
        refine ⟨_, rfl, M, xs, rfl, .inl ⟨SqL.of hM6, fun r hr => ?_⟩⟩
        have zr := Same.upd (o := .tup xs) hr
        exact k r xs ps _ upd_same (hc6.t (SameT.of zr)) hp6 (by rw [en]; exact nd) (by omega) (by omega) (T6.same zr) (S6.trans (Same.b t zr))
end
end K10
set_option Elab.async false
set_option linter.all false
set_option maxRecDepth 100000
set_option maxHeartbeats 4000000
namespace K10
open PySem PySem.Spec PyProof.Rows L2 Lc
def spRatL : Sp := fun vs H Q _ => ∃ (t c : Addr) (b : Bool), vs = [.ref t, .bl b] ∧ TapeL c H t ∧ ∀ (p : Addr) (n d : Int) (H' : Hp), Rt n d → n.natAbs ≤ 10000000000000000000000000000000000000000 → d.natAbs ≤ 10000000000000000000000000000000000000000 → H' p = some (.tup [.int n, .int d]) → H p = none → TapeL c H' t → SameB t H H' → Q (.ref p) H'
abbrev sRat : Stmt := top 36
section
variable {P : Program} {w : World} {K : PySem.W.Frag} {mg : Str → Option Value} {base : Heap} {f : Addr} {fd : FuncData}
theorem scRat : FnScope ["_law_tape_here", "_law_wide", "_law_size", "_law_edge"] ["_law_tape_here", "_law_wide"] (defScope sRat) := ⟨rfl, rfl, rfl, by decide +kernel, rfl, by decide +kernel, by decide +kernel⟩
theorem ok_rat {fD fL : Addr} {fdD fdL : FuncData} (F : Fun K "_law_rational" "_law_rational" sRat f fd) (T : Bt mg) (GD : FnOk P w K mg base CX0 1 fD fdD ["_law_tape_here", "_law_many"] spDrawL) (mD : mg "_law_draw" = some (.ref fD)) (kD : PySem.W.keepIn K (.ref fD) = true) (bD : Binds K fdD ["_law_tape_here", "_law_many"] [])
    (GL : FnOk P w K mg base CX0 1 fL fdL ["_law_n", "_law_d"] spLowest) (mL : mg "_law_lowest" = some (.ref fL)) (kL : PySem.W.keepIn K (.ref fL) = true) (bL : Binds K fdL ["_law_n", "_law_d"] []) : FnOk P w K mg base CX0 2 f fd ["_law_tape_here", "_law_wide"] spRatL := by
  refine F.ok scRat (fun vs H Q E h => ?_) (fun cdv A outer s H vs Q E hr h => ?_)
  · obtain ⟨t, c, b, rfl, _⟩ := h
    rfl
  · obtain ⟨t, c, b, rfl, hT, k⟩ := h
    refine ⟨_, pss_cons (ps_set (i := 2) scRat.nd rfl (Or.inl rfl) (pe_call GD hr (by rfl) mD kD bD .nil pass0 (pa_cons (pv 0) (pa_cons (pe_op op_add pe_int (pe_op op_mul pe_int (pe_callTy call_int1 (by rfl) T.int boot_int (pa_cons (pv 1) pa_nil)))) pa_nil))))
      (pss_cons (ps_if (pt_cmpR op_lt (pv 2) pe_int (nomark _)) (pss_one (ps_ret (pe_tup (pa_cons (pe_op op_sub (pe_call GD hr (by rfl) mD kD bD .nil pass0 (pa_cons (pv 0) (pa_cons pe_int pa_nil))) pe_int) (pa_cons pe_int pa_nil))))) pss_nil)
      (pss_cons (ps_if (pt_cmpR op_lt (pv 2) pe_int (nomark _)) (pss_one (ps_ret (pe_call GL hr (by rfl) mL kL bL .nil pass0 (pa_cons (pe_op op_sub (pe_call GD hr (by rfl) mD kD bD .nil pass0 (pa_cons (pv 0) (pa_cons pe_int pa_nil))) pe_int) (pa_cons (pe_op op_add pe_int (pe_call GD hr (by rfl) mD kD bD .nil pass0 (pa_cons (pv 0) (pa_cons pe_int pa_nil)))) pa_nil))))) pss_nil)
      (pss_cons (ps_if (pt_cmpR op_eq (pv 2) pe_int (nomark _)) (pss_one (ps_ret (pe_call GL hr (by rfl) mL kL bL .nil pass0 (pa_cons (pe_op op_sub (pe_call GD hr (by rfl) mD kD bD .nil pass0 (pa_cons (pv 0) (pa_cons (pe_op op_add (pe_op op_mul pe_int (pe_op op_pow pe_int pe_int)) pe_int) pa_nil))) (pe_op op_pow pe_int pe_int)) (pa_cons (pe_op op_add pe_int (pe_call GD hr (by rfl) mD kD bD .nil pass0 (pa_cons (pv 0) (pa_cons (pe_op op_pow pe_int pe_int) pa_nil)))) pa_nil))))) pss_nil)
      (pss_cons (ps_set (i := 3) scRat.nd rfl (Or.inl rfl) (pe_op op_sub (pe_op op_pow pe_int pe_int) (pe_call GD hr (by rfl) mD kD bD .nil pass0 (pa_cons (pv 0) (pa_cons pe_int pa_nil)))))
      (pss_one (ps_ret (pe_ix ix_list (pe_lst (pa_cons (pe_tup (pa_cons (pv 3) (pa_cons pe_int pa_nil))) (pa_cons (pe_tup (pa_cons (pe_op op_sub pe_int (pv 3)) (pa_cons pe_int pa_nil))) (pa_cons (pe_tup (pa_cons pe_int (pa_cons (pv 3) pa_nil))) (pa_cons (pe_tup (pa_cons (pe_un un_neg pe_int) (pa_cons (pv 3) pa_nil))) pa_nil)))))
        (pe_call GD hr (by rfl) mD kD bD .nil pass0 (pa_cons (pv 0) (pa_cons pe_int pa_nil))) (fun _ _ => rfl)))))))), ?_⟩
    have two : 2 ≤ sizeLine := by decide
    have pw18 : CPow 10 18 := ⟨by decide, by decide, by decide⟩
    have pw40 : CPow 10 40 := ⟨by decide, by decide, by decide⟩
    have b140 : ∀ z : Int, -100000000000000000000000000000000000000000 ≤ z → z ≤ 100000000000000000000000000000000000000000 → z.natAbs < 2 ^ 140 := by
      intro z h1 h2
      have : (2 : Nat) ^ 140 = 1393796574908163946345982392040522594123776 := by decide
      omega
    have big : ∀ z : Int, -100000000000000000000000000000000000000000 ≤ z → z ≤ 100000000000000000000000000000000000000000 → z.natAbs < 2 ^ 4000 := fun z h1 h2 => Nat.lt_of_lt_of_le (b140 z h1 h2) (Nat.pow_le_pow_right (by decide) (by decide))
    have b40 : ∀ z : Int, -10000000000000000000000000000000000000000 ≤ z → z ≤ 10000000000000000000000000000000000000000 → z.natAbs ≤ 10000000000000000000000000000000000000000 := by
      intro z h1 h2
      omega
    refine ⟨_, rfl, _, rfl, .inr ⟨b, rfl, _, _, rfl, rfl, .inl ⟨by decide, by decide⟩, _, _, rfl, rfl, t, c, _, rfl, hT, by cases b <;> decide, by cases b <;> exact big _ (by decide) (by decide), fun k1 H1 u1 v1 T1 S1 => ?_⟩⟩
    refine ⟨_, rfl, _, _, rfl, rfl, _, rfl, ?_⟩
    refine ite2 (fun _ => ?_) (fun _ => ?_)
    · refine ⟨_, rfl, t, c, _, rfl, T1, by decide, big _ (by decide) (by decide), fun k2 H2 u2 v2 T2 S2 => ?_⟩
      refine ⟨_, _, rfl, rfl, two, fun p hp => ?_⟩
      exact k p (k2 - 7) 1 _ (rt_one _) (b40 _ (by omega) (by omega)) (b40 _ (by decide) (by decide)) upd_same ((S1.trans S2).free T2.tape hp) (T2.same (Same.upd hp)) ((S1.trans S2).trans (Same.b t (Same.upd hp)))
    · refine ⟨_, rfl, _, _, rfl, rfl, _, rfl, ?_⟩
      refine ite2 (fun _ => ?_) (fun _ => ?_)
      · refine ⟨_, rfl, t, c, _, rfl, T1, by decide, big _ (by decide) (by decide), fun k2 H2 u2 v2 T2 S2 => ?_⟩
        refine ⟨_, _, rfl, rfl, _, rfl, t, c, _, rfl, T2, by decide, big _ (by decide) (by decide), fun k3 H3 u3 v3 T3 S3 => ?_⟩
        refine ⟨_, _, rfl, rfl, _, _, rfl, by omega, big _ (by omega) (by omega), fun p hp => ?_⟩
        have le := low_le (n := k2 - 200) (d := 1 + k3) (by omega)
        exact k p _ _ _ (low_rt (by omega)) (Nat.le_trans le.1 (b40 _ (by omega) (by omega))) (Nat.le_trans le.2 (b40 _ (by omega) (by omega))) upd_same (((S1.trans S2).trans S3).free T3.tape hp) (T3.same (Same.upd hp)) (((S1.trans S2).trans S3).trans (Same.b t (Same.upd hp)))
      · refine ⟨_, rfl, rfl, _, rfl, ?_⟩
        refine ite2 (fun _ => ?_) (fun _ => ?_)
        · refine ⟨_, rfl, _, _, rfl, rfl, pw18, _, _, rfl, rfl, .inl ⟨by decide, by decide⟩, _, _, rfl, rfl, t, c, _, rfl, T1, ?_, ?_, fun k2 H2 u2 v2 T2 S2 => ?_⟩
          · rw [p18]
            decide
          · rw [p18]
            exact big _ (by decide) (by decide)
          rw [p18] at v2
          refine ⟨_, _, rfl, rfl, pw18, _, _, rfl, rfl, _, rfl, _, _, rfl, rfl, pw18, t, c, _, rfl, T2, ?_, ?_, fun k3 H3 u3 v3 T3 S3 => ?_⟩
          · rw [p18]
            decide
          · rw [p18]
            exact big _ (by decide) (by decide)
          rw [p18] at v3
          refine ⟨_, _, rfl, rfl, _, _, rfl, by omega, big _ (by omega) (by omega), fun p hp => ?_⟩
          have le := low_le (n := k2 - 10 ^ (18 : Int).toNat) (d := 1 + k3) (by omega)
          rw [p18] at le
          refine k p _ _ _ (low_rt (by omega)) ?_ (Nat.le_trans le.2 (b40 _ (by omega) (by omega))) upd_same (((S1.trans S2).trans S3).free T3.tape hp) (T3.same (Same.upd hp)) (((S1.trans S2).trans S3).trans (Same.b t (Same.upd hp)))
          exact Nat.le_trans le.1 (b40 _ (by omega) (by omega))
        · refine ⟨_, _, rfl, rfl, pw40, _, rfl, t, c, _, rfl, T1, by decide, big _ (by decide) (by decide), fun k2 H2 u2 v2 T2 S2 => ?_⟩
          refine ⟨_, _, rfl, rfl, ?_⟩
          rw [p40]
          obtain ⟨ed, he⟩ : ∃ ed : Int, ed = 10000000000000000000000000000000000000000 - k2 := ⟨_, rfl⟩
          rw [show (fun i j : Int => V.int (i - j)) 10000000000000000000000000000000000000000 k2 = V.int ed by rw [he]]
          refine ⟨_, rfl, two, fun a1 ha1 => ⟨_, rfl, _, _, rfl, rfl, two, fun a2 ha2 => ⟨_, rfl, two, fun a3 ha3 => ⟨_, rfl, _, rfl, two, fun a4 ha4 => ⟨by show 4 ≤ sizeLine; decide, fun a5 ha5 => ?_⟩⟩⟩⟩⟩
          have z1 := Same.upd (o := .tup [.int ed, .int 1]) ha1
          have z2 := Same.upd (o := .tup [.int (0 - ed), .int 1]) ha2
          have z3 := Same.upd (o := .tup [.int 1, .int ed]) ha3
          have z4 := Same.upd (o := .tup [.int (-1), .int ed]) ha4
          have z5 := Same.upd (o := .lst [.ref a1, .ref a2, .ref a3, .ref a4]) ha5
          have zz := z1.trans (z2.trans (z3.trans (z4.trans z5)))
          have T5 := T2.same zz
          refine ⟨_, rfl, t, c, _, rfl, T5, by decide, big _ (by decide) (by decide), fun k3 H3 u3 v3 T3 S3 => ?_⟩
          have n5 : a5 ≠ t := (T2.same (z1.trans (z2.trans (z3.trans z4)))).tape.ne ha5
          have n1 : a1 ≠ t := T2.tape.ne ha1
          have n2 : a2 ≠ t := (T2.same z1).tape.ne ha2
          have n3 : a3 ≠ t := (T2.same (z1.trans z2)).tape.ne ha3
          have n4 : a4 ≠ t := (T2.same (z1.trans (z2.trans z3))).tape.ne ha4
          have f0 := S1.trans S2
          have g1 : H a1 = none := f0.free T2.tape ha1
          have g2 : H a2 = none := f0.free T2.tape (z1.free ha2)
          have g3 : H a3 = none := f0.free T2.tape ((z1.trans z2).free ha3)
          have g4 : H a4 = none := f0.free T2.tape ((z1.trans (z2.trans z3)).free ha4)
          have sb := (f0.trans (Same.b t zz)).trans S3
          have e1 := S3 _ _ n1 ((z2.trans (z3.trans (z4.trans z5))) _ _ upd_same)
          have e2 := S3 _ _ n2 ((z3.trans (z4.trans z5)) _ _ upd_same)
          have e3 := S3 _ _ n3 ((z4.trans z5) _ _ upd_same)
          have e4 := S3 _ _ n4 (z5 _ _ upd_same)
          have hL := S3 _ _ n5 (upd_same)
          rcases (by omega : k3 = 0 ∨ k3 = 1 ∨ k3 = 2 ∨ k3 = 3) with rfl | rfl | rfl | rfl
          · exact ⟨a5, _, _, _, rfl, rfl, SqL.of hL, rfl, k a1 _ _ _ (rt_one _) (b40 _ (by omega) (by omega)) (b40 _ (by omega) (by omega)) e1 g1 T3 sb⟩
          · exact ⟨a5, _, _, _, rfl, rfl, SqL.of hL, rfl, k a2 _ _ _ (rt_one _) (b40 _ (by omega) (by omega)) (b40 _ (by omega) (by omega)) e2 g2 T3 sb⟩
          · exact ⟨a5, _, _, _, rfl, rfl, SqL.of hL, rfl, k a3 _ _ _ (rt_inv (by omega)) (b40 _ (by omega) (by omega)) (b40 _ (by omega) (by omega)) e3 g3 T3 sb⟩
          · exact ⟨a5, _, _, _, rfl, rfl, SqL.of hL, rfl, k a4 _ _ _ (rt_ninv (by omega)) (b40 _ (by omega) (by omega)) (b40 _ (by omega) (by omega)) e4 g4 T3 sb⟩
end
end K10
set_option Elab.async false
set_option linter.all false
set_option maxRecDepth 100000
set_option maxHeartbeats 4000000
namespace K10
open PySem PySem.Spec PyProof.Rows L2 Lc
abbrev sLv : Stmt := top 40
abbrev sLvs : Stmt := top 41
/-! ## values -/
inductive Vk : Str → PyData → Prop
  | non (k : Str) : Vk k .none
  | num {n d : Int} (h : Rt n d) (h1 : n.natAbs ≤ 10000000000000000000000000000000000000000) (h2 : d.natAbs ≤ 10000000000000000000000000000000000000000) : Vk "number" (.tuple [.int n, .int d])
  | flag (b : Bool) : Vk "flag" (.bool b)
  | word {x : Str} (h : Sh 12 x) (hn : nameB (.str x) = true) : Vk "word" (.str x)
inductive Vks : List Str → List PyData → Prop
  | nil : Vks [] []
  | cons {k : Str} {d : PyData} {ks : List Str} {ds : List PyData} (h : Vk k d) (r : Vks ks ds) : Vks (k :: ks) (d :: ds)
theorem Vks.app {k : Str} {d : PyData} (h : Vk k d) : ∀ {ks : List Str} {ds : List PyData}, Vks ks ds → Vks (ks ++ [k]) (ds ++ [d])
  | _, _, .nil => .cons h .nil
  | _, _, .cons a r => .cons a (Vks.app h r)
theorem Vks.len : ∀ {ks : List Str} {ds : List PyData}, Vks ks ds → ks.length = ds.length
  | _, _, .nil => rfl
  | _, _, .cons _ r => by rw [List.length_cons, List.length_cons, Vks.len r]
/-- v is d, all its parts are new since H -/
def DhF (H H' : Hp) (v : V) (d : PyData) : Prop := ∀ H2 : Hp, (∀ b o, H b = none → H' b = some o → H2 b = some o) → Dh H2 v d
theorem DhF.now {H H' : Hp} {v : V} {d : PyData} (h : DhF H H' v d) : Dh H' v d := h H' fun _ _ _ e => e
def spVal : Sp := fun vs H Q _ => ∃ (t c : Addr) (kind : Str) (b : Bool), vs = [.ref t, .str kind, .bl b] ∧ TapeL c H t ∧ KindS kind ∧ ∀ (v : V) (d : PyData) (H' : Hp), DhF H H' v d → Vk kind d → TapeL c H' t → SameB t H H' → Q v H'
def spVals : Sp := fun vs H Q _ => ∃ (t c L : Addr) (b : Bool) (xs : List V) (ps : List (Str × Str)), vs = [.ref t, .ref L, .bl b] ∧ TapeL c H t ∧ H L = some (.tup xs) ∧ Cols H xs ps ∧ (∀ p ∈ ps, KindS p.2) ∧ ps.length ≤ 8 ∧
  ∀ (r : Addr) (ds : List PyData) (H' : Hp), DhF H H' (.ref r) (.tuple ds) → Vks (ps.map (·.2)) ds → TapeL c H' t → SameB t H H' → Q (.ref r) H'
abbrev teVs : TE := tCall spVal [] E0 (tCons (tVar 0) (tCons (tVar 4) (tCons (tVar 2) tNil)))
theorem Cols.get {H : Hp} : ∀ {xs : List V} {ps : List (Str × Str)}, Cols H xs ps → ∀ (i : Nat) (x : V), xs[i]? = some x → ∃ a z kk, x = .ref a ∧ H a = some (.tup [.str z, .str kk]) ∧ ps[i]? = some (z, kk)
  | _, _, .nil, i, x, e => by simp at e
  | _, _, .cons h r, 0, x, e => by
    obtain rfl := Option.some.inj e
    exact ⟨_, _, _, rfl, h, rfl⟩
  | _, _, .cons h r, i + 1, x, e => by
    obtain ⟨a, z, kk, h1, h2, h3⟩ := Cols.get r i x (by simpa using e)
    exact ⟨a, z, kk, h1, h2, by simpa using h3⟩
section
variable {P : Program} {w : World} {K : PySem.W.Frag} {mg : Str → Option Value} {base : Heap} {f fD fR fN fV : Addr} {fd fdD fdR fdN fdV : FuncData}
theorem scLv : FnScope ["_law_tape_here", "_law_kind", "_law_wide"] ["_law_tape_here", "_law_kind", "_law_wide"] (defScope sLv) := ⟨rfl, rfl, rfl, by decide +kernel, rfl, by decide +kernel, by decide +kernel⟩
theorem ok_lv (F : Fun K "_law_value" "_law_value" sLv f fd) (GD : FnOk P w K mg base CX0 1 fD fdD ["_law_tape_here", "_law_many"] spDrawL) (mD : mg "_law_draw" = some (.ref fD)) (kD : PySem.W.keepIn K (.ref fD) = true) (bD : Binds K fdD ["_law_tape_here", "_law_many"] [])
    (GR : FnOk P w K mg base CX0 2 fR fdR ["_law_tape_here", "_law_wide"] spRatL) (mR : mg "_law_rational" = some (.ref fR)) (kR : PySem.W.keepIn K (.ref fR) = true) (bR : Binds K fdR ["_law_tape_here", "_law_wide"] [])
    (GN : FnOk P w K mg base CX0 2 fN fdN ["_law_tape_here"] spLNm) (mN : mg "_law_name" = some (.ref fN)) (kN : PySem.W.keepIn K (.ref fN) = true) (bN : Binds K fdN ["_law_tape_here"] []) : FnOk P w K mg base CX0 3 f fd ["_law_tape_here", "_law_kind", "_law_wide"] spVal := by
  refine F.ok scLv (fun vs H Q E h => ?_) (fun cdv A outer s H vs Q E hr h => ?_)
  · obtain ⟨t, c, kind, b, rfl, _⟩ := h
    rfl
  · obtain ⟨t, c, kind, b, rfl, hT, hk, k⟩ := h
    have hr1 : Room 1 _ := hr.mono (by decide)
    refine ⟨_, pss_cons (ps_if (pt_cmpR op_eq (pe_call GD hr1 (by rfl) mD kD bD .nil pass0 (pa_cons (pv 0) (pa_cons pe_int pa_nil))) pe_int (nomark _)) (pss_one (ps_ret pe_non)) pss_nil)
      (pss_cons (ps_if (pt_cmpR op_eq (pv 1) pe_str (nomark _)) (pss_one (ps_ret (pe_call GR hr (by rfl) mR kR bR .nil pass0 (pa_cons (pv 0) (pa_cons (pv 2) pa_nil))))) pss_nil)
      (pss_cons (ps_if (pt_cmpR op_eq (pv 1) pe_str (nomark _)) (pss_one (ps_ret (pe_cmpR op_eq (pe_call GD hr1 (by rfl) mD kD bD .nil pass0 (pa_cons (pv 0) (pa_cons pe_int pa_nil))) pe_int (nomark _)))) pss_nil)
      (pss_cons (ps_if (pt_cmpR op_gt (pe_call GD hr1 (by rfl) mD kD bD .nil pass0 (pa_cons (pv 0) (pa_cons pe_int pa_nil))) pe_int (nomark _)) (pss_one (ps_ret (pe_ix ix_list (pe_lst (pa_cons pe_str (pa_cons pe_str (pa_cons pe_str (pa_cons pe_str pa_nil))))) (pe_call GD hr1 (by rfl) mD kD bD .nil pass0 (pa_cons (pv 0) (pa_cons pe_int pa_nil))) (fun _ _ => rfl)))) pss_nil)
      (pss_one (ps_ret (pe_call GN hr (by rfl) mN kN bN .nil pass0 (pa_cons (pv 0) pa_nil))))))), ?_⟩
    have sh : ∀ {x : Str}, kind ≠ "number" → kind ≠ "flag" → Sh 12 x → nameB (.str x) = true → Vk kind (.str x) := fun n1 n2 h1 h2 => by
      rcases hk with rfl | rfl | rfl
      · exact absurd rfl n1
      · exact .word h1 h2
      · exact absurd rfl n2
    refine ⟨_, rfl, t, c, _, rfl, hT, by decide, big1000 (by decide) (by decide), fun k1 H1 u1 w1 T1 S1 => ⟨rfl, _, rfl, ite2 (fun _ => ?_) (fun _ => ?_)⟩⟩
    · exact k .non .none H1 (fun _ _ => .non) (.non _) T1 S1
    refine ⟨_, rfl, rfl, _, rfl, ite2 (fun y => ?_) (fun y => ?_)⟩
    · have ek : kind = "number" := by have := of_decide_eq_true y; injection this
      refine ⟨_, rfl, _, rfl, t, c, b, rfl, T1, fun p n d H2 rt h1 h2 hp gp T2 S2 => k (.ref p) _ H2 (fun H3 s3 => ?_) (by rw [ek]; exact .num rt h1 h2) T2 (S1.trans S2)⟩
      have gH : H p = none := by
        cases q : H p with
        | none => rfl
        | some o =>
          by_cases z : p = t
          · obtain ⟨_, _, _, _, ht, _⟩ := T1
            rw [z, ht] at gp
            cases gp
          · rw [S1 p o z q] at gp
            cases gp
      exact .tup (s3 _ _ gH hp) (.cons (.int n) (.cons (.int d) .nil))
    have n1 : kind ≠ "number" := fun e => y (decide_eq_true (by rw [e]))
    refine ⟨_, rfl, rfl, _, rfl, ite2 (fun y => ?_) (fun y => ?_)⟩
    · have ek : kind = "flag" := by have := of_decide_eq_true y; injection this
      exact ⟨_, rfl, t, c, _, rfl, T1, by decide, big1000 (by decide) (by decide), fun k2 H2 u2 w2 T2 S2 => ⟨rfl, k _ (.bool _) H2 (fun _ _ => .bl _) (by rw [ek]; exact .flag _) T2 (S1.trans S2)⟩⟩
    have n2 : kind ≠ "flag" := fun e => y (decide_eq_true (by rw [e]))
    refine ⟨_, rfl, t, c, _, rfl, T1, by decide, big1000 (by decide) (by decide), fun k2 H2 u2 w2 T2 S2 => ⟨_, _, rfl, rfl, _, rfl, ite2 (fun _ => ?_) (fun _ => ?_)⟩⟩
    · refine ⟨by show 4 ≤ sizeLine; decide, fun q hq => ?_⟩
      have zq := Same.upd (o := .lst [.str "a", .str "b", .str "ab", .str "b0"]) hq
      have nq := T2.tape.ne hq
      refine ⟨_, rfl, t, c, _, rfl, T2.same zq, by decide, big1000 (by decide) (by decide), fun k3 H3 u3 w3 T3 S3 => ?_⟩
      obtain ⟨x, hx, sx, nx⟩ : ∃ x : Str, ([.str "a", .str "b", .str "ab", .str "b0"] : List V)[k3.toNat]? = some (.str x) ∧ Sh 12 x ∧ nameB (.str x) = true := by
        have : k3.toNat = 0 ∨ k3.toNat = 1 ∨ k3.toNat = 2 ∨ k3.toNat = 3 := by omega
        rcases this with e | e | e | e <;> rw [e]
        · exact ⟨_, rfl, ⟨by decide +kernel, by decide +kernel⟩, by decide +kernel⟩
        · exact ⟨_, rfl, ⟨by decide +kernel, by decide +kernel⟩, by decide +kernel⟩
        · exact ⟨_, rfl, ⟨by decide +kernel, by decide +kernel⟩, by decide +kernel⟩
        · exact ⟨_, rfl, ⟨by decide +kernel, by decide +kernel⟩, by decide +kernel⟩
      exact ⟨q, _, _, _, rfl, rfl, SqL.of (S3 _ _ nq upd_same), at_of (j := k3.toNat) (by omega) hx, k _ (.str x) H3 (fun _ _ => .str x) (sh n1 n2 sx nx) T3 (((S1.trans S2).trans (Same.b t zq)).trans S3)⟩
    · exact ⟨_, rfl, t, c, rfl, T2, fun x H3 hx nx T3 S3 => k _ (.str x) H3 (fun _ _ => .str x) (sh n1 n2 hx nx) T3 ((S1.trans S2).trans S3)⟩
theorem scLvs : FnScope ["_law_tape_here", "_law_columns_here", "_law_wide", "_law_name_here", "_law_kind"] ["_law_tape_here", "_law_columns_here", "_law_wide"] (defScope sLvs) := ⟨rfl, rfl, rfl, by decide +kernel, rfl, by decide +kernel, by decide +kernel⟩
theorem ok_lvs (F : Fun K "_law_values" "_law_values" sLvs f fd) (T : Bt mg) (GV : FnOk P w K mg base CX0 3 fV fdV ["_law_tape_here", "_law_kind", "_law_wide"] spVal) (mV : mg "_law_value" = some (.ref fV)) (kV : PySem.W.keepIn K (.ref fV) = true) (bV : Binds K fdV ["_law_tape_here", "_law_kind", "_law_wide"] []) : FnOk P w K mg base CX0 4 f fd ["_law_tape_here", "_law_columns_here", "_law_wide"] spVals := by
  refine F.ok scLvs (fun vs H Q E h => ?_) (fun cdv A outer s H vs Q E hr h => ?_)
  · obtain ⟨t, c, L, b, xs, ps, rfl, _⟩ := h
    rfl
  · obtain ⟨t, c, L, b, xs, ps, rfl, hT, hL, hc, hk, l8, k⟩ := h
    refine ⟨_, pss_one (ps_ret (pe_callTy call_tuple_of (by rfl) T.tuple boot_tuple (pa_cons (pe_lc (own := [("_law_name_here", 3), ("_law_kind", 4)]) (g := gTup K 2 (gCons (gName 3) (gCons (gName 4) gNil))) (tt := tYes) (te := teVs) (by rfl) scLvs.nd (pi_tup (pv 1)) (blkOk_by (own := [("_law_name_here", 3), ("_law_kind", 4)]) (N := ["_law_tape_here", "_law_columns_here", "_law_wide", "_law_name_here", "_law_kind"]) (sc := defScope sLvs) (by decide +kernel))
      (fun _ _ _ _ _ => pg_tup rfl (pgs_cons (pg_name (i := 3) scLvs.nd rfl (.inl rfl)) (pgs_cons (pg_name (i := 4) scLvs.nd rfl (.inl rfl)) pgs_nil))) (fun _ _ _ _ _ => pts_nil) (fun _ _ _ _ _ => pe_call GV hr (by rfl) mV kV bV .nil pass0 (pa_cons (pv 0) (pa_cons (pv 4) (pa_cons (pv 2) pa_nil))))) pa_nil))), ?_⟩
    refine ⟨_, rfl, L, rfl, ⟨_, SqT.of hL⟩, fun D hD => lc_tup (K := K) (a := L) (xs := xs) (fun i H' => ∃ (ys : List V) (ds : List PyData), H' D = some (.lst ys) ∧ ys.length = i ∧ (∀ H2 : Hp, (∀ b o, b ≠ D → H b = none → H' b = some o → H2 b = some o) → DhAll H2 ys ds) ∧ Vks ((ps.take i).map (·.2)) ds ∧ TapeL c H' t ∧ SameB t H H')
      ⟨[], [], upd_same, rfl, fun _ _ => .nil, .nil, hT.same (Same.upd hD), Same.b t (Same.upd hD)⟩ (fun i H' _ p => by obtain ⟨_, _, _, _, _, _, _, s'⟩ := p; exact SqT.of (s' _ _ (hT.tape.neT hL) hL)) ?_ ?_⟩
    · rintro i x H1 hx ⟨ys, ds, hD1, rfl, hds, hv, T1, S1⟩
      obtain ⟨a, z, kk, rfl, ea, ep⟩ := hc.get _ _ hx
      have ea1 := S1 _ _ (hT.tape.neT ea) ea
      have lx := hc.len
      have hi : ys.length < xs.length := (List.getElem?_eq_some_iff.mp hx).1
      have nD := hT.tape.ne hD
      refine ⟨a, _, rfl, SqT.of ea1, rfl, _, _, rfl, _, _, rfl, rfl, rfl, ?_⟩
      change teVs _ _ _
      refine ⟨_, rfl, _, rfl, _, rfl, t, c, kk, b, rfl, T1, hk _ (List.mem_of_getElem? ep), fun v d H2 hv2 vk T2 S2 => ?_⟩
      refine ⟨ys, S2 _ _ nD hD1, Nat.lt_of_lt_of_le hi (Nat.le_trans (show xs.length ≤ 8 by omega) (by decide)), ys ++ [v], ds ++ [d], upd_same, by rw [List.length_append]; rfl, fun H3 h3 => ?_, ?_, ?_, fun b' o n e => ?_⟩
      · refine DhAll.append (hds H3 fun b' o n1 n2 e => h3 b' o n1 n2 ?_) (.cons (hv2 H3 fun b' o n2 e => ?_) .nil)
        · rw [upd_ne n1]
          exact S2 b' o (hT.tape.ne n2) e
        · have nb : b' ≠ D := fun z => by rw [z, hD1] at n2; cases n2
          have nh : H b' = none := by
            cases q : H b' with
            | none => rfl
            | some o' =>
              by_cases z : b' = t
              · obtain ⟨_, _, _, _, ht, _⟩ := T1
                rw [z, ht] at n2
                cases n2
              · rw [S1 b' o' z q] at n2
                cases n2
          exact h3 b' o nb nh (by rw [upd_ne nb]; exact e)
      · rw [List.take_add_one, ep, List.map_append]
        exact Vks.app vk hv
      · have nc : D ≠ c := by
          obtain ⟨zs, hz⟩ := hT.list
          exact Ne.symm (ne_of_none hz hD)
        exact T2.upd nD nc
      · rw [upd_ne (ne_of_none e hD)]
        exact (S1.trans S2) b' o n e
    · rintro H1 ⟨ys, ds, hD1, _, hds, hv, T1, S1⟩
      refine ⟨D, ys, rfl, .inl ⟨SqL.of hD1, fun r hr => ?_⟩⟩
      have zr := Same.upd (o := .tup ys) hr
      have lx := hc.len
      rw [lx, List.take_length] at hv
      have nt := T1.tape.ne hr
      have gr : H r = none := S1.free T1.tape hr
      refine k r ds _ (fun H2 h2 => .tup (h2 _ _ gr upd_same) (hds H2 fun b' o n1 n2 e => h2 b' o n2 (zr _ _ e))) hv (T1.same zr) (S1.trans (Same.b t zr))
end
end K10
set_option Elab.async false
set_option linter.all false
set_option maxRecDepth 100000
set_option maxHeartbeats 4000000
namespace K10
open PySem PySem.Spec PyProof.Rows L2 Lc
abbrev sLf : Stmt := top 42
abbrev sXp : Stmt := top 43
/-- words over one and over two operands: the operands' kind, the result's -/
def OneW (w k r : Str) : Prop := (w = "not" ∧ k = "flag" ∧ r = "flag") ∨ (w = "missing" ∧ KindS k ∧ r = "flag")
def TwoW (w k r : Str) : Prop := ((w = "plus" ∨ w = "minus" ∨ w = "times" ∨ w = "over") ∧ k = "number" ∧ r = "number") ∨ (w = "less" ∧ k = "number" ∧ r = "flag") ∨ (w = "same" ∧ KindS k ∧ r = "flag") ∨ ((w = "both" ∨ w = "either") ∧ k = "flag" ∧ r = "flag")
/-- valid expressions of a kind over the columns ps, at most n deep -/
inductive Xp (ps : List (Str × Str)) : Nat → Str → PyData → Prop
  | col {n : Nat} {z k : Str} (h : (z, k) ∈ ps) : Xp ps (n + 1) k (.tuple [.str "column", .str z])
  | val {n : Nat} {k : Str} {d : PyData} (h : Vk k d) (nn : d ≠ .none) : Xp ps (n + 1) k (.tuple [.str "value", d])
  | one {n : Nat} {w k r : Str} {a : PyData} (hw : OneW w k r) (ha : Xp ps n k a) : Xp ps (n + 1) r (.tuple [.str w, a])
  | two {n : Nat} {w k r : Str} {a b : PyData} (hw : TwoW w k r) (ha : Xp ps n k a) (hb : Xp ps n k b) : Xp ps (n + 1) r (.tuple [.str w, a, b])
  | iff {n : Nat} {k : Str} {a b c : PyData} (ha : Xp ps n "flag" a) (hb : Xp ps n k b) (hc : Xp ps n k c) : Xp ps (n + 1) k (.tuple [.str "if", a, b, c])
theorem Xp.mono {ps : List (Str × Str)} {n : Nat} {k : Str} {d : PyData} (h : Xp ps n k d) : ∀ {m : Nat}, n ≤ m → Xp ps m k d := by
  induction h with
  | col h => intro m l; obtain ⟨j, rfl⟩ : ∃ j, m = j + 1 := ⟨m - 1, by omega⟩; exact .col h
  | val h nn => intro m l; obtain ⟨j, rfl⟩ : ∃ j, m = j + 1 := ⟨m - 1, by omega⟩; exact .val h nn
  | one hw _ ia => intro m l; obtain ⟨j, rfl⟩ : ∃ j, m = j + 1 := ⟨m - 1, by omega⟩; exact .one hw (ia (by omega))
  | two hw _ _ ia ib => intro m l; obtain ⟨j, rfl⟩ : ∃ j, m = j + 1 := ⟨m - 1, by omega⟩; exact .two hw (ia (by omega)) (ib (by omega))
  | iff _ _ _ ia ib ic => intro m l; obtain ⟨j, rfl⟩ : ∃ j, m = j + 1 := ⟨m - 1, by omega⟩; exact .iff (ia (by omega)) (ib (by omega)) (ic (by omega))
theorem DhF.wide {t : Addr} {H Ha Hb : Hp} {v : V} {d : PyData} (h : DhF Ha Hb v d) (s : SameB t H Ha) (T : Tape Ha t) : DhF H Hb v d := fun H2 h2 => h H2 fun b o n e => h2 b o (s.free T n) e
theorem DhF.later {t : Addr} {H Hb Hc : Hp} {v : V} {d : PyData} (h : DhF H Hb v d) (T : Tape H t) (s : SameB t Hb Hc) : DhF H Hc v d := fun H2 h2 => h H2 fun b o e e' => h2 b o e (s b o (T.ne e) e')
theorem Cols.b {t : Addr} {H H' : Hp} {xs : List V} {ps : List (Str × Str)} (h : Cols H xs ps) (T : Tape H t) (s : SameB t H H') : Cols H' xs ps := h.t (SameT.b T s)
/-- what a drawn expression is -/
def NewX (H : Hp) (t c : Addr) (ps : List (Str × Str)) (n : Nat) (k : Str) (Q : VK) : Prop := ∀ (v : V) (d : PyData) (H' : Hp), DhF H H' v d → Xp ps n k d → TapeL c H' t → SameB t H H' → Q v H'
def spLf : Sp := fun vs H Q _ => ∃ (t c L : Addr) (kind : Str) (xs : List V) (ps : List (Str × Str)), vs = [.ref t, .ref L, .str kind] ∧ KindS kind ∧ TapeL c H t ∧ H L = some (.tup xs) ∧ Cols H xs ps ∧ ps.length ≤ 8 ∧ NewX H t c ps 1 kind Q
def spXp : Nat → Sp
  | 0 => fun _ _ _ _ => False
  | n + 1 => fun vs H Q _ => ∃ (t c L : Addr) (kind : Str) (xs : List V) (ps : List (Str × Str)), vs = [.ref t, .ref L, .str kind, .int ((n : Int) + 1)] ∧ KindS kind ∧ TapeL c H t ∧ H L = some (.tup xs) ∧ Cols H xs ps ∧ ps.length ≤ 8 ∧ NewX H t c ps (n + 1) kind Q
abbrev ttLf : TT := tTest (tOp rEq (tVar 5) (tVar 2))
section
variable {P : Program} {w : World} {K : PySem.W.Frag} {mg : Str → Option Value} {base : Heap} {f fD fR fL : Addr} {fd fdD fdR fdL : FuncData}
abbrev nLf : List Str := ["_law_tape_here", "_law_columns_here", "_law_kind", "_law_same", "_law_name_here", "_law_other"]
theorem scLf : FnScope nLf ["_law_tape_here", "_law_columns_here", "_law_kind"] (defScope sLf) := ⟨rfl, rfl, rfl, by decide +kernel, rfl, by decide +kernel, by decide +kernel⟩
theorem ok_lf (F : Fun K "_law_leaf" "_law_leaf" sLf f fd) (T : Bt mg) (GD : FnOk P w K mg base CX0 1 fD fdD ["_law_tape_here", "_law_many"] spDrawL) (mD : mg "_law_draw" = some (.ref fD)) (kD : PySem.W.keepIn K (.ref fD) = true) (bD : Binds K fdD ["_law_tape_here", "_law_many"] [])
    (GR : FnOk P w K mg base CX0 2 fR fdR ["_law_tape_here", "_law_wide"] spRatL) (mR : mg "_law_rational" = some (.ref fR)) (kR : PySem.W.keepIn K (.ref fR) = true) (bR : Binds K fdR ["_law_tape_here", "_law_wide"] []) : FnOk P w K mg base CX0 3 f fd ["_law_tape_here", "_law_columns_here", "_law_kind"] spLf := by
  refine F.ok scLf (fun vs H Q E h => ?_) (fun cdv A outer s H vs Q E hr h => ?_)
  · obtain ⟨t, c, L, kind, xs, ps, rfl, _⟩ := h
    rfl
  · obtain ⟨t, c, L, kind, xs, ps, rfl, hk, hT, hL, hc, l8, k⟩ := h
    have hr1 : Room 1 _ := hr.mono (by decide)
    refine ⟨_, Evl.pss_cut (ps_setLc (i := 3) (own := [("_law_name_here", 4), ("_law_other", 5)]) (g := gTup K 2 (gCons (gName 4) (gCons (gName 5) gNil))) (tt := ttLf) (te := tVar 4) (by rfl) scLf.nd rfl rfl (sw_true rfl rfl rfl (by decide +kernel)) (pi_tup (pv 1)) (blkOk_by (own := [("_law_name_here", 4), ("_law_other", 5)]) (N := nLf) (sc := defScope sLf) (by decide +kernel))
          (fun _ _ _ _ _ => pg_tup rfl (pgs_cons (pg_name (i := 4) scLf.nd rfl (.inl rfl)) (pgs_cons (pg_name (i := 5) scLf.nd rfl (.inl rfl)) pgs_nil))) (fun _ _ _ _ _ => pts_one (pt_cmpR op_eq (pv 5) (pv 2) (nomark _))) (fun _ _ _ _ _ => pv 4))
      (Evl.pss_cut (ps_if (PW.pt (pw_and (pt_truth (pv 3) (fun _ => rfl)) (pw_and1 (pt_cmpR op_gt (pe_call GD hr1 (by rfl) mD kD bD .nil pass0 (pa_cons (pv 0) (pa_cons pe_int pa_nil))) pe_int (nomark _)))))
        (pss_one (ps_ret (pe_tup (pa_cons pe_str (pa_cons (pe_ix ix_list (pv 3) (pe_call GD hr1 (by rfl) mD kD bD .nil pass0 (pa_cons (pv 0) (pa_cons (pe_callB call_len_seq (by rfl) T.len PySem.boot_len (pa_cons (pv 3) pa_nil)) pa_nil))) (fun _ _ => rfl)) pa_nil))))) pss_nil)
      (pss_cons (ps_if (pt_cmpR op_eq (pv 2) pe_str (nomark _)) (pss_one (ps_ret (pe_tup (pa_cons pe_str (pa_cons (pe_call GR hr (by rfl) mR kR bR .nil pass0 (pa_cons (pv 0) (pa_cons pe_bl pa_nil))) pa_nil))))) pss_nil)
      (pss_cons (ps_if (pt_cmpR op_eq (pv 2) pe_str (nomark _)) (pss_one (ps_ret (pe_tup (pa_cons pe_str (pa_cons (pe_cmpR op_eq (pe_call GD hr1 (by rfl) mD kD bD .nil pass0 (pa_cons (pv 0) (pa_cons pe_int pa_nil))) pe_int (nomark _)) pa_nil))))) pss_nil)
      (pss_one (ps_ret (pe_tup (pa_cons pe_str (pa_cons (pe_ix ix_list (pe_lst (pa_cons pe_str (pa_cons pe_str (pa_cons pe_str (pa_cons pe_str pa_nil))))) (pe_call GD hr1 (by rfl) mD kD bD .nil pass0 (pa_cons (pv 0) (pa_cons pe_int pa_nil))) (fun _ _ => rfl)) pa_nil)))))))), ?_⟩
    have two : 2 ≤ sizeLine := by decide
    have four : 4 ≤ sizeLine := by decide
    have lx := hc.len
    -- the columns of the kind
    refine ⟨fun σ H' => ∃ (W : Addr) (ns : List Str) (x4 x5 : Option V), σ = [some (.ref t), some (.ref L), some (.str kind), some (.ref W), x4, x5] ∧ H' W = some (.lst (ns.map V.str)) ∧ H W = none ∧ ns.length ≤ 8 ∧ (∀ z ∈ ns, (z, kind) ∈ ps) ∧ Same H H', ?_, ?_⟩
    · refine ⟨_, rfl, L, rfl, ⟨_, SqT.of hL⟩, fun D hD => lc_tup (K := K) (a := L) (xs := xs) (fun i H' => ∃ ns : List Str, H' D = some (.lst (ns.map V.str)) ∧ ns.length ≤ i ∧ (∀ z ∈ ns, (z, kind) ∈ ps) ∧ Same H H') ⟨[], upd_same, Nat.le_refl _, nofun, Same.upd hD⟩ (fun i H' _ p => by obtain ⟨_, _, _, _, s'⟩ := p; exact SqT.of (s' _ _ hL)) ?_ ?_⟩
      · rintro i x H1 hx ⟨ns, hD1, ln, hn, s1⟩
        obtain ⟨a, z, kk, rfl, ea, ep⟩ := hc.get _ _ hx
        have hi : i < xs.length := (List.getElem?_eq_some_iff.mp hx).1
        refine ⟨a, _, rfl, SqT.of (s1 _ _ ea), rfl, _, _, rfl, _, _, rfl, rfl, rfl, ?_⟩
        change ttLf _ _ _
        refine ⟨_, rfl, _, rfl, rfl, _, rfl, ite2 (fun q => ?_) (fun q => ?_)⟩
        · have ek : kk = kind := by have := of_decide_eq_true q; injection this
          subst ek
          refine ⟨_, rfl, _, hD1, ?_, ns ++ [z], by rw [upd_same, List.map_append]; rfl, by rw [List.length_append]; show ns.length + 1 ≤ _; omega, fun y hy => ?_, fun b o e => by rw [upd_ne (ne_of_none e hD)]; exact s1 b o e⟩
          · rw [List.length_map]
            exact Nat.lt_of_le_of_lt (show _ ≤ 8 by omega) (by decide)
          · rcases List.mem_append.mp hy with hy | hy
            · exact hn y hy
            · rw [List.mem_singleton.mp hy]
              exact List.mem_of_getElem? ep
        · exact ⟨ns, hD1, by omega, hn, s1⟩
      · rintro H1 ⟨ns, hD1, ln, hn, s1⟩
        exact ⟨D, ns, _, _, rfl, hD1, hD, by omega, hn, s1⟩
    rintro σ H1 ⟨W, ns, x4, x5, rfl, hW, gW, ln, hn, s1⟩
    have T1 := hT.same s1
    have nW := hT.tape.ne gW
    have S1 := Same.b t s1
    -- a column
    refine ⟨fun σ H' => σ = [some (.ref t), some (.ref L), some (.str kind), some (.ref W), x4, x5] ∧ TapeL c H' t ∧ SameB t H H', ?_, ?_⟩
    · refine ⟨_, rfl, _, .inl ⟨_, SqL.of hW, rfl⟩, ite2 (fun ne => ?_) (fun _ => iteF ⟨rfl, T1, S1⟩)⟩
      have pos : 0 < ns.length := by
        cases ns with
        | nil => simp at ne
        | cons a r => exact Nat.succ_pos _
      refine ⟨_, rfl, t, c, _, rfl, T1, by decide, big1000 (by decide) (by decide), fun j H2 _ _ T2 S2 => ⟨_, _, rfl, rfl, _, rfl, ite2 (fun _ => ?_) (fun _ => ⟨rfl, T2, S1.trans S2⟩)⟩⟩
      have hW2 := S2 _ _ nW hW
      refine ⟨_, rfl, _, rfl, _, rfl, W, _, rfl, .inl (SqL.of hW2), t, c, _, rfl, T2, by rw [List.length_map]; omega, big1000 (by omega) (by rw [List.length_map]; omega), fun j H3 j0 j1 T3 S3 => ?_⟩
      rw [List.length_map] at j1
      have hj : j.toNat < ns.length := by omega
      have hm : (ns.map V.str)[j.toNat]? = some (.str ns[j.toNat]) := by rw [List.getElem?_map, List.getElem?_eq_getElem hj]; rfl
      refine ⟨W, _, _, _, rfl, rfl, SqL.of (S3 _ _ nW hW2), at_of (j := j.toNat) (by omega) hm, two, fun r hr' => ?_⟩
      have S13 := (S1.trans S2).trans S3
      have zr := Same.upd (o := .tup [.str "column", .str ns[j.toNat]]) hr'
      exact k _ _ _ (fun H5 h5 => .tup (h5 _ _ (S13.free T3.tape hr') upd_same) (.cons (.str _) (.cons (.str _) .nil))) (.col (n := 0) (hn _ (List.getElem_mem hj))) (T3.same zr) (S13.trans (Same.b t zr))
    clear hW gW hn s1 T1 nW S1
    rintro σ H1 ⟨rfl, T1, S1⟩
    have fin : ∀ {H3 : Hp} {v : V} {d : PyData}, DhF H H3 v d → Vk kind d → d ≠ .none → TapeL c H3 t → SameB t H H3 → ∀ r, H3 r = none → Q (.ref r) (upd H3 r (.tup [.str "value", v])) := fun {H3 v d} df vk nn T3 S3 r hr' => by
      have zr := Same.upd (o := .tup [.str "value", v]) hr'
      exact k _ _ _ (fun H5 h5 => .tup (h5 _ _ (S3.free T3.tape hr') upd_same) (.cons (.str _) (.cons ((df.later hT.tape (Same.b t zr)) H5 h5) .nil))) (.val (n := 0) vk nn) (T3.same zr) (S3.trans (Same.b t zr))
    refine ⟨_, rfl, rfl, _, rfl, ?_⟩
    rw [decide_eq_decide.mpr (show V.str kind = V.str "number" ↔ kind = "number" from ⟨fun e => by injection e, fun e => by rw [e]⟩)]
    by_cases k1 : kind = "number"
    · rw [decide_eq_true k1]
      subst k1
      refine iteT ⟨_, rfl, t, c, false, rfl, T1, fun p n d H2 rt h1 h2 e g T2 S2 => ⟨two, ?_⟩⟩
      have g0 := S1.free T1.tape g
      exact fin (fun H5 h5 => .tup (h5 _ _ g0 e) (.cons (.int n) (.cons (.int d) .nil))) (.num rt h1 h2) nofun T2 (S1.trans S2)
    rw [decide_eq_false k1]
    refine iteF ⟨_, rfl, rfl, _, rfl, ?_⟩
    rw [decide_eq_decide.mpr (show V.str kind = V.str "flag" ↔ kind = "flag" from ⟨fun e => by injection e, fun e => by rw [e]⟩)]
    by_cases k2 : kind = "flag"
    · rw [decide_eq_true k2]
      subst k2
      exact iteT ⟨_, rfl, t, c, _, rfl, T1, by decide, big1000 (by decide) (by decide), fun j H2 _ _ T2 S2 => ⟨rfl, two, fin (fun _ _ => .bl _) (.flag _) nofun T2 (S1.trans S2)⟩⟩
    rw [decide_eq_false k2]
    have k3 : kind = "word" := by rcases hk with z | z | z; exact absurd z k1; exact z; exact absurd z k2
    subst k3
    refine iteF ⟨four, fun Y hY => ?_⟩
    have zY := Same.upd (o := .lst [.str "a", .str "b", .str "ab", .str "b0"]) hY
    have nY := T1.tape.ne hY
    refine ⟨_, rfl, t, c, _, rfl, T1.same zY, by decide, big1000 (by decide) (by decide), fun j H2 j0 j4 T2 S2 => ?_⟩
    have S12 := S1.trans ((Same.b t zY).trans S2)
    have all : ∀ v ∈ ([.str "a", .str "b", .str "ab", .str "b0"] : List V), ∃ z : Str, v = .str z ∧ Sh 12 z ∧ nameB (.str z) = true := by
      intro v hv
      simp only [List.mem_cons, List.not_mem_nil, or_false] at hv
      rcases hv with rfl | rfl | rfl | rfl <;> exact ⟨_, rfl, ⟨by decide +kernel, by decide +kernel⟩, by decide +kernel⟩
    have hj : j.toNat < ([.str "a", .str "b", .str "ab", .str "b0"] : List V).length := by show j.toNat < 4; omega
    obtain ⟨z, ez, sz, nz⟩ := all _ (List.getElem_mem hj)
    refine ⟨Y, _, _, _, rfl, rfl, SqL.of (S2 _ _ nY upd_same), at_of (j := j.toNat) (by omega) ((List.getElem?_eq_getElem hj).trans (congrArg some ez)), two, ?_⟩
    exact fin (fun _ _ => .str z) (.word sz nz) nofun T2 S12
end
end K10
set_option Elab.async false
set_option linter.all false
set_option maxRecDepth 100000
set_option maxHeartbeats 4000000
namespace K10
open PySem PySem.Spec PyProof.Rows L2 Lc
section
variable {P : Program} {w : World} {K : PySem.W.Frag} {mg : Str → Option Value} {base : Heap} {f fD fL : Addr} {fd fdD fdL : FuncData}
abbrev nXp : List Str := ["_law_tape_here", "_law_columns_here", "_law_kind", "_law_depth", "_law_turn", "_law_low", "_law_test", "_law_left", "_law_word", "_law_some"]
abbrev pXp : List Str := ["_law_tape_here", "_law_columns_here", "_law_kind", "_law_depth"]
theorem scXp : FnScope nXp pXp (defScope sXp) := ⟨rfl, rfl, rfl, by decide +kernel, rfl, by decide +kernel, by decide +kernel⟩
theorem fn_none {f : Addr} {fd : FuncData} {ps : List Str} {k : Nat} : FnOk P w K mg base CX0 k f fd ps (fun _ _ _ _ => False) := ⟨fun _ _ _ _ h => h.elim, fun _ _ _ _ _ _ _ _ _ _ _ _ _ h => h.elim⟩
theorem ok_xp1 (n : Nat) (F : Fun K "_law_expression" "_law_expression" sXp f fd) (GD : FnOk P w K mg base CX0 1 fD fdD ["_law_tape_here", "_law_many"] spDrawL) (mD : mg "_law_draw" = some (.ref fD)) (kD : PySem.W.keepIn K (.ref fD) = true) (bD : Binds K fdD ["_law_tape_here", "_law_many"] [])
    (GL : FnOk P w K mg base CX0 3 fL fdL ["_law_tape_here", "_law_columns_here", "_law_kind"] spLf) (mL : mg "_law_leaf" = some (.ref fL)) (kL : PySem.W.keepIn K (.ref fL) = true) (bL : Binds K fdL ["_law_tape_here", "_law_columns_here", "_law_kind"] [])
    (GX : FnOk P w K mg base CX0 (3 + n) f fd pXp (spXp n)) (mX : mg "_law_expression" = some (.ref f)) (kX : PySem.W.keepIn K (.ref f) = true) (bX : Binds K fd pXp []) : FnOk P w K mg base CX0 (3 + n + 1) f fd pXp (spXp (n + 1)) := by
  refine F.ok scXp (fun vs H Q E h => ?_) (fun cdv A outer s H vs Q E hr h => ?_)
  · obtain ⟨t, c, L, kind, xs, ps, rfl, _⟩ := h
    rfl
  · obtain ⟨t, c, L, kind, xs, ps, rfl, hk, hT, hL, hc, l8, k⟩ := h
    have hr1 : Room 1 _ := hr.mono (by omega)
    have hr3 : Room 3 _ := hr.mono (by omega)
    refine ⟨_, pss_cons (ps_set (i := 4) scXp.nd rfl (Or.inl rfl) (pe_call GD hr1 (by rfl) mD kD bD .nil pass0 (pa_cons (pv 0) (pa_cons pe_int pa_nil))))
      (pss_cons (ps_set (i := 5) scXp.nd rfl (Or.inl rfl) (pe_op op_sub (pv 3) pe_int))
      (pss_cons (ps_if (PW.pt (pw_or (pt_cmpR op_le (pv 3) pe_int (nomark _)) (pw_or1 (pt_cmpR op_lt (pv 4) pe_int (nomark _))))) (pss_one (ps_ret (pe_call GL hr3 (by rfl) mL kL bL .nil pass0 (pa_cons (pv 0) (pa_cons (pv 1) (pa_cons (pv 2) pa_nil)))))) pss_nil)
      (pss_cons (ps_if (pt_cmpR op_eq (pv 4) pe_int (nomark _)) (pss_cons (ps_set (i := 6) scXp.nd rfl (Or.inl rfl) (pe_call GX hr (by rfl) mX kX bX .nil pass0 (pa_cons (pv 0) (pa_cons (pv 1) (pa_cons pe_str (pa_cons (pv 5) pa_nil))))))
          (pss_cons (ps_set (i := 7) scXp.nd rfl (Or.inl rfl) (pe_call GX hr (by rfl) mX kX bX .nil pass0 (pa_cons (pv 0) (pa_cons (pv 1) (pa_cons (pv 2) (pa_cons (pv 5) pa_nil))))))
          (pss_one (ps_ret (pe_tup (pa_cons pe_str (pa_cons (pv 6) (pa_cons (pv 7) (pa_cons (pe_call GX hr (by rfl) mX kX bX .nil pass0 (pa_cons (pv 0) (pa_cons (pv 1) (pa_cons (pv 2) (pa_cons (pv 5) pa_nil))))) pa_nil))))))))) pss_nil)
      (pss_cons (ps_if (pt_cmpR op_eq (pv 2) pe_str (nomark _)) (pss_one (ps_ret (pe_call GL hr3 (by rfl) mL kL bL .nil pass0 (pa_cons (pv 0) (pa_cons (pv 1) (pa_cons (pv 2) pa_nil)))))) pss_nil)
      (pss_cons (ps_if (pt_cmpR op_eq (pv 2) pe_str (nomark _)) (pss_cons (ps_set (i := 8) scXp.nd rfl (Or.inl rfl) (pe_ix ix_list (pe_lst (pa_cons pe_str (pa_cons pe_str (pa_cons pe_str (pa_cons pe_str pa_nil))))) (pe_call GD hr1 (by rfl) mD kD bD .nil pass0 (pa_cons (pv 0) (pa_cons pe_int pa_nil))) (fun _ _ => rfl)))
          (pss_cons (ps_set (i := 7) scXp.nd rfl (Or.inl rfl) (pe_call GX hr (by rfl) mX kX bX .nil pass0 (pa_cons (pv 0) (pa_cons (pv 1) (pa_cons pe_str (pa_cons (pv 5) pa_nil))))))
          (pss_one (ps_ret (pe_tup (pa_cons (pv 8) (pa_cons (pv 7) (pa_cons (pe_call GX hr (by rfl) mX kX bX .nil pass0 (pa_cons (pv 0) (pa_cons (pv 1) (pa_cons pe_str (pa_cons (pv 5) pa_nil))))) pa_nil)))))))) pss_nil)
      (pss_cons (ps_if (pt_cmpR op_eq (pv 4) pe_int (nomark _)) (pss_one (ps_ret (pe_tup (pa_cons pe_str (pa_cons (pe_call GX hr (by rfl) mX kX bX .nil pass0 (pa_cons (pv 0) (pa_cons (pv 1) (pa_cons pe_str (pa_cons (pv 5) pa_nil))))) pa_nil))))) pss_nil)
      (Evl.pss_cut (ps_set (i := 9) scXp.nd rfl (Or.inl rfl) (pe_ix ix_list (pe_lst (pa_cons pe_str (pa_cons pe_str (pa_cons pe_str pa_nil)))) (pe_call GD hr1 (by rfl) mD kD bD .nil pass0 (pa_cons (pv 0) (pa_cons pe_int pa_nil))) (fun _ _ => rfl)))
      (pss_cons (ps_if (pt_cmpR op_eq (pv 4) pe_int (nomark _)) (pss_one (ps_ret (pe_tup (pa_cons pe_str (pa_cons (pe_call GX hr (by rfl) mX kX bX .nil pass0 (pa_cons (pv 0) (pa_cons (pv 1) (pa_cons (pv 9) (pa_cons (pv 5) pa_nil))))) pa_nil))))) pss_nil)
      (pss_cons (ps_if (pt_cmpR op_eq (pv 4) pe_int (nomark _)) (pss_cons (ps_set (i := 7) scXp.nd rfl (Or.inl rfl) (pe_call GX hr (by rfl) mX kX bX .nil pass0 (pa_cons (pv 0) (pa_cons (pv 1) (pa_cons (pv 9) (pa_cons (pv 5) pa_nil))))))
          (pss_one (ps_ret (pe_tup (pa_cons pe_str (pa_cons (pv 7) (pa_cons (pe_call GX hr (by rfl) mX kX bX .nil pass0 (pa_cons (pv 0) (pa_cons (pv 1) (pa_cons (pv 9) (pa_cons (pv 5) pa_nil))))) pa_nil))))))) pss_nil)
      (pss_cons (ps_if (pt_cmpR op_lt (pv 4) pe_int (nomark _)) (pss_cons (ps_set (i := 7) scXp.nd rfl (Or.inl rfl) (pe_call GX hr (by rfl) mX kX bX .nil pass0 (pa_cons (pv 0) (pa_cons (pv 1) (pa_cons pe_str (pa_cons (pv 5) pa_nil))))))
          (pss_one (ps_ret (pe_tup (pa_cons pe_str (pa_cons (pv 7) (pa_cons (pe_call GX hr (by rfl) mX kX bX .nil pass0 (pa_cons (pv 0) (pa_cons (pv 1) (pa_cons pe_str (pa_cons (pv 5) pa_nil))))) pa_nil))))))) pss_nil)
      (pss_cons (ps_set (i := 8) scXp.nd rfl (Or.inl rfl) (pe_ix ix_list (pe_lst (pa_cons pe_str (pa_cons pe_str pa_nil))) (pe_call GD hr1 (by rfl) mD kD bD .nil pass0 (pa_cons (pv 0) (pa_cons pe_int pa_nil))) (fun _ _ => rfl)))
      (pss_cons (ps_set (i := 7) scXp.nd rfl (Or.inl rfl) (pe_call GX hr (by rfl) mX kX bX .nil pass0 (pa_cons (pv 0) (pa_cons (pv 1) (pa_cons pe_str (pa_cons (pv 5) pa_nil))))))
      (pss_one (ps_ret (pe_tup (pa_cons (pv 8) (pa_cons (pv 7) (pa_cons (pe_call GX hr (by rfl) mX kX bX .nil pass0 (pa_cons (pv 0) (pa_cons (pv 1) (pa_cons pe_str (pa_cons (pv 5) pa_nil))))) pa_nil)))))))))))))))))), ?_⟩
    have two : 2 ≤ sizeLine := by decide
    have three : 3 ≤ sizeLine := by decide
    have four : 4 ≤ sizeLine := by decide
    have kF : KindS "flag" := .inr (.inr rfl)
    have kN : KindS "number" := .inl rfl
    refine ⟨_, rfl, t, c, _, rfl, hT, by decide, big1000 (by decide) (by decide), fun u H1 u0 u9 T1 S1 => ⟨_, rfl, _, _, rfl, rfl, ?_⟩⟩
    show gName 5 (.int ((n : Int) + 1 - 1)) _ _ _
    rw [show (n : Int) + 1 - 1 = n by omega]
    have leaf : spLf [.ref t, .ref L, .str kind] H1 Q E0 := ⟨t, c, L, kind, xs, ps, rfl, hk, T1, S1 _ _ (hT.tape.neT hL) hL, hc.b hT.tape S1, l8, fun v d H2 df xp T2 S2 => k v d H2 (df.wide S1 T1.tape) (xp.mono (by omega)) T2 (S1.trans S2)⟩
    refine ⟨_, rfl, _, _, rfl, rfl, _, rfl, ite2 (fun _ => iteT ⟨_, rfl, _, rfl, _, rfl, leaf⟩) (fun nd => ⟨_, rfl, _, _, rfl, rfl, _, rfl, ite2 (fun _ => ⟨_, rfl, _, rfl, _, rfl, leaf⟩) (fun _ => ?_)⟩)⟩
    obtain ⟨m, rfl⟩ : ∃ m, n = m + 1 := by
      have : ¬ ((n : Int) + 1 ≤ 1) := fun z => nd (decide_eq_true z)
      exact ⟨n - 1, by omega⟩
    rw [show ((m + 1 : Nat) : Int) = (m : Int) + 1 by omega]
    have again : ∀ {H1 : Hp} {kd : Str} {Q' : VK}, KindS kd → TapeL c H1 t → SameB t H H1 → (∀ v d H2, DhF H H2 v d → Xp ps (m + 1) kd d → TapeL c H2 t → SameB t H1 H2 → SameB t H H2 → Q' v H2) → spXp (m + 1) [.ref t, .ref L, .str kd, .int ((m : Int) + 1)] H1 Q' E0 :=
      fun {H1 kd Q'} hk T1 S1 kq => ⟨t, c, L, kd, xs, ps, rfl, hk, T1, S1 _ _ (hT.tape.neT hL) hL, hc.b hT.tape S1, l8, fun v d H2 df xp T2 S2 => kq v d H2 (df.wide S1 T1.tape) xp T2 S2 (S1.trans S2)⟩
    have fin1 : ∀ {H3 : Hp} {wd kd kr : Str} {va : V} {da : PyData}, kr = kind → OneW wd kd kr → DhF H H3 va da → Xp ps (m + 1) kd da → TapeL c H3 t → SameB t H H3 → ∀ r, H3 r = none → Q (.ref r) (upd H3 r (.tup [.str wd, va])) := fun {H3 wd kd kr va da} ek hw dva xa T3 S3 r hr' => by
      subst ek
      have zr := Same.upd (o := .tup [.str wd, va]) hr'
      exact k _ _ _ (fun H5 h5 => .tup (h5 _ _ (S3.free T3.tape hr') upd_same) (.cons (.str _) (.cons (dva.later hT.tape (Same.b t zr) H5 h5) .nil))) (.one hw xa) (T3.same zr) (S3.trans (Same.b t zr))
    have fin2 : ∀ {H3 : Hp} {wd kd kr : Str} {va vb : V} {da db : PyData}, kr = kind → TwoW wd kd kr → DhF H H3 va da → DhF H H3 vb db → Xp ps (m + 1) kd da → Xp ps (m + 1) kd db → TapeL c H3 t → SameB t H H3 → ∀ r, H3 r = none → Q (.ref r) (upd H3 r (.tup [.str wd, va, vb])) := fun {H3 wd kd kr va vb da db} ek hw dva dvb xa xb T3 S3 r hr' => by
      subst ek
      have zr := Same.upd (o := .tup [.str wd, va, vb]) hr'
      exact k _ _ _ (fun H5 h5 => .tup (h5 _ _ (S3.free T3.tape hr') upd_same) (.cons (.str _) (.cons (dva.later hT.tape (Same.b t zr) H5 h5) (.cons (dvb.later hT.tape (Same.b t zr) H5 h5) .nil)))) (.two hw xa xb) (T3.same zr) (S3.trans (Same.b t zr))
    have sE : ∀ (a b : Str), decide (V.str a = V.str b) = decide (a = b) := fun a b => decide_eq_decide.mpr ⟨fun e => by injection e, fun e => by rw [e]⟩
    -- if
    refine ⟨_, rfl, rfl, _, rfl, ite2 (fun _ => ?_) (fun _ => ?_)⟩
    · refine ⟨_, rfl, _, rfl, _, rfl, again kF T1 S1 (fun va da H2 dva xa T2 _ S2 => ?_)⟩
      refine ⟨_, rfl, _, rfl, _, rfl, _, rfl, again hk T2 S2 (fun vb db H3 dvb xb T3 s23 S3 => ?_)⟩
      refine ⟨_, rfl, _, rfl, _, rfl, _, rfl, _, rfl, _, rfl, again hk T3 S3 (fun vc dc H4 dvc xc T4 s34 S4 => ⟨four, fun r hr' => ?_⟩)⟩
      have zr := Same.upd (o := .tup [.str "if", va, vb, vc]) hr'
      have z4 := s34.trans (Same.b t zr)
      exact k _ _ _ (fun H5 h5 => .tup (h5 _ _ (S4.free T4.tape hr') upd_same) (.cons (.str _) (.cons (dva.later hT.tape (s23.trans z4) H5 h5) (.cons (dvb.later hT.tape z4 H5 h5) (.cons (dvc.later hT.tape (Same.b t zr) H5 h5) .nil))))) (.iff xa xb xc) (T4.same zr) (S4.trans (Same.b t zr))
    -- a word
    refine ⟨_, rfl, rfl, _, rfl, ?_⟩
    rw [sE]
    by_cases k1 : kind = "word"
    · rw [decide_eq_true k1]
      exact iteT ⟨_, rfl, _, rfl, _, rfl, leaf⟩
    rw [decide_eq_false k1]
    refine iteF ⟨_, rfl, rfl, _, rfl, ?_⟩
    rw [sE]
    by_cases k2 : kind = "number"
    · rw [decide_eq_true k2]
      refine iteT ⟨four, fun Y hY => ?_⟩
      have zY := Same.upd (o := .lst [.str "plus", .str "minus", .str "times", .str "over"]) hY
      have nY := T1.tape.ne hY
      refine ⟨_, rfl, t, c, _, rfl, T1.same zY, by decide, big1000 (by decide) (by decide), fun j H2 j0 j4 T2 S2 => ?_⟩
      have S12 := S1.trans ((Same.b t zY).trans S2)
      have all : ∀ v ∈ ([.str "plus", .str "minus", .str "times", .str "over"] : List V), ∃ z : Str, v = .str z ∧ (z = "plus" ∨ z = "minus" ∨ z = "times" ∨ z = "over") := by
        intro v hv
        simp only [List.mem_cons, List.not_mem_nil, or_false] at hv
        rcases hv with rfl | rfl | rfl | rfl
        · exact ⟨_, rfl, .inl rfl⟩
        · exact ⟨_, rfl, .inr (.inl rfl)⟩
        · exact ⟨_, rfl, .inr (.inr (.inl rfl))⟩
        · exact ⟨_, rfl, .inr (.inr (.inr rfl))⟩
      have hj : j.toNat < ([.str "plus", .str "minus", .str "times", .str "over"] : List V).length := by show j.toNat < 4; omega
      obtain ⟨z, ez, hz⟩ := all _ (List.getElem_mem hj)
      refine ⟨Y, _, _, _, rfl, rfl, SqL.of (S2 _ _ nY upd_same), at_of (j := j.toNat) (by omega) ((List.getElem?_eq_getElem hj).trans (congrArg some ez)), ?_⟩
      refine ⟨_, rfl, _, rfl, _, rfl, again kN T2 S12 (fun va da H3 dva xa T3 _ S3 => ?_)⟩
      refine ⟨_, rfl, _, rfl, _, rfl, _, rfl, _, rfl, again kN T3 S3 (fun vb db H4 dvb xb T4 s34 S4 => ⟨three, ?_⟩)⟩
      exact fin2 k2.symm (.inl ⟨hz, rfl, rfl⟩) (dva.later hT.tape s34) dvb xa xb T4 S4
    rw [decide_eq_false k2]
    have k3 : "flag" = kind := by rcases hk with z | z | z; exact absurd z k2; exact absurd z k1; exact z.symm
    -- not
    refine iteF ⟨_, rfl, rfl, _, rfl, ite2 (fun _ => ?_) (fun _ => ?_)⟩
    · exact ⟨_, rfl, _, rfl, _, rfl, again kF T1 S1 (fun va da H2 dva xa T2 _ S2 => ⟨two, fin1 k3 (.inl ⟨rfl, rfl, rfl⟩) dva xa T2 S2⟩)⟩
    -- some kind
    refine ⟨fun σ H' => ∃ kd : Str, KindS kd ∧ σ = [some (.ref t), some (.ref L), some (.str kind), some (.int ((m : Int) + 1 + 1)), some (.int u), some (.int ((m : Int) + 1)), none, none, none, some (.str kd)] ∧ TapeL c H' t ∧ SameB t H H', ?_, ?_⟩
    · refine ⟨three, fun Y hY => ?_⟩
      have zY := Same.upd (o := .lst [.str "number", .str "word", .str "flag"]) hY
      have nY := T1.tape.ne hY
      refine ⟨_, rfl, t, c, _, rfl, T1.same zY, by decide, big1000 (by decide) (by decide), fun j H2 j0 j4 T2 S2 => ?_⟩
      have S12 := S1.trans ((Same.b t zY).trans S2)
      have all : ∀ v ∈ ([.str "number", .str "word", .str "flag"] : List V), ∃ z : Str, v = .str z ∧ KindS z := by
        intro v hv
        simp only [List.mem_cons, List.not_mem_nil, or_false] at hv
        rcases hv with rfl | rfl | rfl
        · exact ⟨_, rfl, .inl rfl⟩
        · exact ⟨_, rfl, .inr (.inl rfl)⟩
        · exact ⟨_, rfl, .inr (.inr rfl)⟩
      have hj : j.toNat < ([.str "number", .str "word", .str "flag"] : List V).length := by show j.toNat < 3; omega
      obtain ⟨z, ez, hz⟩ := all _ (List.getElem_mem hj)
      exact ⟨Y, _, _, _, rfl, rfl, SqL.of (S2 _ _ nY upd_same), at_of (j := j.toNat) (by omega) ((List.getElem?_eq_getElem hj).trans (congrArg some ez)), z, hz, rfl, T2, S12⟩
    clear T1 S1 leaf
    rintro σ H1 ⟨kd, hkd, rfl, T1, S1⟩
    refine ⟨_, rfl, rfl, _, rfl, ite2 (fun _ => ?_) (fun _ => ?_)⟩
    · exact ⟨_, rfl, _, rfl, _, rfl, _, rfl, again hkd T1 S1 (fun va da H2 dva xa T2 _ S2 => ⟨two, fin1 k3 (.inr ⟨rfl, hkd, rfl⟩) dva xa T2 S2⟩)⟩
    refine ⟨_, rfl, rfl, _, rfl, ite2 (fun _ => ?_) (fun _ => ?_)⟩
    · refine ⟨_, rfl, _, rfl, _, rfl, _, rfl, again hkd T1 S1 (fun va da H2 dva xa T2 _ S2 => ?_)⟩
      refine ⟨_, rfl, _, rfl, _, rfl, _, rfl, _, rfl, again hkd T2 S2 (fun vb db H3 dvb xb T3 s23 S3 => ⟨three, ?_⟩)⟩
      exact fin2 k3 (.inr (.inr (.inl ⟨rfl, hkd, rfl⟩))) (dva.later hT.tape s23) dvb xa xb T3 S3
    refine ⟨_, rfl, _, _, rfl, rfl, _, rfl, ite2 (fun _ => ?_) (fun _ => ?_)⟩
    · refine ⟨_, rfl, _, rfl, _, rfl, again kN T1 S1 (fun va da H2 dva xa T2 _ S2 => ?_)⟩
      refine ⟨_, rfl, _, rfl, _, rfl, _, rfl, again kN T2 S2 (fun vb db H3 dvb xb T3 s23 S3 => ⟨three, ?_⟩)⟩
      exact fin2 k3 (.inr (.inl ⟨rfl, rfl, rfl⟩)) (dva.later hT.tape s23) dvb xa xb T3 S3
    refine ⟨two, fun Y hY => ?_⟩
    have zY := Same.upd (o := .lst [.str "both", .str "either"]) hY
    have nY := T1.tape.ne hY
    refine ⟨_, rfl, t, c, _, rfl, T1.same zY, by decide, big1000 (by decide) (by decide), fun j H2 j0 j4 T2 S2 => ?_⟩
    have S12 := S1.trans ((Same.b t zY).trans S2)
    have all : ∀ v ∈ ([.str "both", .str "either"] : List V), ∃ z : Str, v = .str z ∧ (z = "both" ∨ z = "either") := by
      intro v hv
      simp only [List.mem_cons, List.not_mem_nil, or_false] at hv
      rcases hv with rfl | rfl
      · exact ⟨_, rfl, .inl rfl⟩
      · exact ⟨_, rfl, .inr rfl⟩
    have hj : j.toNat < ([.str "both", .str "either"] : List V).length := by show j.toNat < 2; omega
    obtain ⟨z, ez, hz⟩ := all _ (List.getElem_mem hj)
    refine ⟨Y, _, _, _, rfl, rfl, SqL.of (S2 _ _ nY upd_same), at_of (j := j.toNat) (by omega) ((List.getElem?_eq_getElem hj).trans (congrArg some ez)), ?_⟩
    refine ⟨_, rfl, _, rfl, _, rfl, again kF T2 S12 (fun va da H3 dva xa T3 _ S3 => ?_)⟩
    refine ⟨_, rfl, _, rfl, _, rfl, _, rfl, _, rfl, again kF T3 S3 (fun vb db H4 dvb xb T4 s34 S4 => ⟨three, ?_⟩)⟩
    exact fin2 k3 (.inr (.inr (.inr ⟨hz, rfl, rfl⟩))) (dva.later hT.tape s34) dvb xa xb T4 S4
theorem ok_xp (F : Fun K "_law_expression" "_law_expression" sXp f fd) (GD : FnOk P w K mg base CX0 1 fD fdD ["_law_tape_here", "_law_many"] spDrawL) (mD : mg "_law_draw" = some (.ref fD)) (kD : PySem.W.keepIn K (.ref fD) = true) (bD : Binds K fdD ["_law_tape_here", "_law_many"] [])
    (GL : FnOk P w K mg base CX0 3 fL fdL ["_law_tape_here", "_law_columns_here", "_law_kind"] spLf) (mL : mg "_law_leaf" = some (.ref fL)) (kL : PySem.W.keepIn K (.ref fL) = true) (bL : Binds K fdL ["_law_tape_here", "_law_columns_here", "_law_kind"] [])
    (mX : mg "_law_expression" = some (.ref f)) (kX : PySem.W.keepIn K (.ref f) = true) (bX : Binds K fd pXp []) : ∀ n : Nat, FnOk P w K mg base CX0 (3 + n) f fd pXp (spXp n)
  | 0 => fn_none
  | n + 1 => ok_xp1 n F GD mD kD bD GL mL kL bL (ok_xp F GD mD kD bD GL mL kL bL mX kX bX n) mX kX bX
end
end K10
set_option Elab.async false
set_option linter.all false
set_option maxRecDepth 100000
set_option maxHeartbeats 4000000
namespace K10
open PySem PySem.Spec PyProof.Rows L2 Lc
mutual
def dpt : PyData → Nat
  | .tuple ds => dpw ds
  | _ => 0
def dpw : List PyData → Nat
  | .str w :: r => if w = ("column" : Str) ∨ w = ("value" : Str) then 1 else 1 + dpts r
  | _ => 0
def dpts : List PyData → Nat
  | [] => 0
  | d :: r => max (dpt d) (dpts r)
end
theorem dpt_leaf {w : Str} {r : List PyData} (h : w = "column" ∨ w = "value") : dpt (.tuple (.str w :: r)) = 1 := by rw [dpt, dpw, if_pos h]
theorem dpt_op {w : Str} {r : List PyData} (h : ¬ (w = "column" ∨ w = "value")) : dpt (.tuple (.str w :: r)) = 1 + dpts r := by rw [dpt, dpw, if_neg h]
theorem dpts_max : ∀ {ds : List PyData} {m : Nat}, 0 < ds.length → (∃ d ∈ ds, dpt d = m) → (∀ d ∈ ds, dpt d ≤ m) → dpts ds = m
  | [], _, h, _, _ => absurd h (by decide)
  | [d], m, _, ⟨x, hx, e⟩, _ => by
    rw [List.mem_singleton.mp hx] at e
    rw [dpts, dpts, e]
    omega
  | d :: a :: r, m, _, ⟨x, hx, e⟩, hm => by
    have up : dpts (a :: r) ≤ m := by
      have key : ∀ l : List PyData, (∀ d ∈ l, dpt d ≤ m) → dpts l ≤ m := fun l => by
        induction l with
        | nil => intro _; rw [dpts]; omega
        | cons y l ih => intro h; rw [dpts]; have := h y List.mem_cons_self; have := ih (fun d hd => h d (List.mem_cons_of_mem _ hd)); omega
      exact key _ fun d hd => hm d (List.mem_cons_of_mem _ hd)
    have d0 := hm d List.mem_cons_self
    rw [dpts]
    rcases List.mem_cons.mp hx with rfl | hx
    · omega
    · have low : ∀ l : List PyData, x ∈ l → dpt x ≤ dpts l := fun l => by
        induction l with
        | nil => intro h; cases h
        | cons y l ih =>
          intro h
          rw [dpts]
          rcases List.mem_cons.mp h with rfl | h
          · omega
          · have := ih h; omega
      have := low _ hx
      omega
theorem w_leaf {w : Str} (h : w = "not" ∨ w = "missing" ∨ w = "plus" ∨ w = "minus" ∨ w = "times" ∨ w = "over" ∨ w = "less" ∨ w = "same" ∨ w = "both" ∨ w = "either" ∨ w = "if") : ¬ (w = "column" ∨ w = "value") := by
  rcases h with rfl | rfl | rfl | rfl | rfl | rfl | rfl | rfl | rfl | rfl | rfl <;> decide +kernel
theorem OneW.no {w k r : Str} (h : OneW w k r) : ¬ (w = "column" ∨ w = "value") := by
  rcases h with ⟨rfl, _⟩ | ⟨rfl, _⟩ <;> decide +kernel
theorem TwoW.no {w k r : Str} (h : TwoW w k r) : ¬ (w = "column" ∨ w = "value") := by
  rcases h with ⟨rfl | rfl | rfl | rfl, _⟩ | ⟨rfl, _⟩ | ⟨rfl, _⟩ | ⟨rfl | rfl, _⟩ <;> decide +kernel
/-- an expression: a leaf, or a word and its operands -/
theorem Xp.ops {ps : List (Str × Str)} {n : Nat} {k : Str} {d : PyData} (h : Xp ps (n + 1) k d) : (∃ (w : Str) (x : PyData), (w = "column" ∨ w = "value") ∧ d = .tuple [.str w, x]) ∨ ∃ (w : Str) (os : List PyData), ¬ (w = ("column" : Str) ∨ w = ("value" : Str)) ∧ d = .tuple (.str w :: os) ∧ 0 < os.length ∧ os.length ≤ 3 ∧ ∀ o ∈ os, ∃ k', Xp ps n k' o := by
  cases h with
  | col h => exact .inl ⟨_, _, .inl rfl, rfl⟩
  | val h _ => exact .inl ⟨_, _, .inr rfl, rfl⟩
  | one hw ha => exact .inr ⟨_, _, hw.no, rfl, by simp, by simp, fun o ho => by rw [List.mem_singleton.mp ho]; exact ⟨_, ha⟩⟩
  | two hw ha hb => exact .inr ⟨_, _, hw.no, rfl, by simp, by simp, fun o ho => by simp only [List.mem_cons, List.not_mem_nil, or_false] at ho; rcases ho with rfl | rfl; exact ⟨_, ha⟩; exact ⟨_, hb⟩⟩
  | iff ha hb hc => exact .inr ⟨_, _, by decide +kernel, rfl, by simp, by simp, fun o ho => by simp only [List.mem_cons, List.not_mem_nil, or_false] at ho; rcases ho with rfl | rfl | rfl; exact ⟨_, ha⟩; exact ⟨_, hb⟩; exact ⟨_, hc⟩⟩
theorem Xp.zero {ps : List (Str × Str)} {k : Str} {d : PyData} (h : Xp ps 0 k d) : False := nomatch h
theorem cut_tail {x : V} {ys : List V} : cutV (x :: ys) (some 1) none = ys := by
  unfold cutV
  simp [HT.sIx]
theorem tail_not {x : V} {ys : List V} : ¬ (HT.sIx (x :: ys).length 0 (some 1) = 0 ∧ HT.sIx (x :: ys).length (x :: ys).length none = (x :: ys).length) := by
  rintro ⟨z, _⟩
  have : HT.sIx (x :: ys).length 0 (some ((1 : Nat) : Int)) = min 1 (x :: ys).length := HT.sIx_nat _ _ _
  have z' : HT.sIx (x :: ys).length 0 (some ((1 : Nat) : Int)) = 0 := z
  rw [List.length_cons] at *
  omega
theorem at_zero {x : V} {ys : List V} : atI (x :: ys) (0 : Int) = some x := (show atI (x :: ys) ((0 : Nat) : Int) = some x from atI_nat rfl)
def KdP (kvs : List (Key × V)) (ps : List (Str × Str)) : Prop := ∀ z k, (z, k) ∈ ps → valV kvs (Sum.inr z : Key) = some (.str k)
def LeafD (ps : List (Str × Str)) (w : Str) (dx : PyData) (k : Str) : Prop := (w = "column" ∧ ∃ z, dx = .str z ∧ (z, k) ∈ ps) ∨ (w = "value" ∧ Vk k dx ∧ dx ≠ .none ∧ KindS k)
/-- the operands' kinds that a word wants -/
def opsV (w : Str) : Option (List V) :=
  if w = "plus" ∨ w = "minus" ∨ w = "times" ∨ w = "over" ∨ w = "less" then some [.str "number", .str "number"] else if w = "same" then some [.non, .non] else if w = "both" ∨ w = "either" then some [.str "flag", .str "flag"] else if w = "not" then some [.str "flag"] else if w = "missing" then some [.non] else if w = "if" then some [.str "flag", .non, .non] else none
/-- a word, its operands' kinds, the kind of the whole -/
inductive OpK : Str → List Str → Str → Prop
  | one {w k r : Str} (h : OneW w k r) : OpK w [k] r
  | two {w k r : Str} (h : TwoW w k r) : OpK w [k, k] r
  | iff (k : Str) : OpK "if" ["flag", k, k] k
theorem OpK.ops {w r : Str} {ks : List Str} (h : OpK w ks r) : ∃ os, opsV w = some os ∧ os.length = ks.length ∧ ∀ (i : Nat) (o : V), os[i]? = some o → o = .non ∨ ∃ k, ks[i]? = some k ∧ o = .str k := by
  have fin1 : ∀ {o : V} {k : Str}, (o = .non ∨ o = .str k) → ∀ (i : Nat) (x : V), [o][i]? = some x → x = .non ∨ ∃ k', [k][i]? = some k' ∧ x = .str k' := fun {o k} h i x e => by
    match i, e with
    | 0, e => injection e with e; subst e; rcases h with rfl | rfl; exact .inl rfl; exact .inr ⟨_, rfl, rfl⟩
    | i + 1, e => simp at e
  have fin2 : ∀ {o p : V} {k l : Str}, (o = .non ∨ o = .str k) → (p = .non ∨ p = .str l) → ∀ (i : Nat) (x : V), [o, p][i]? = some x → x = .non ∨ ∃ k', [k, l][i]? = some k' ∧ x = .str k' := fun {o p k l} h g i x e => by
    match i, e with
    | 0, e => injection e with e; subst e; rcases h with rfl | rfl; exact .inl rfl; exact .inr ⟨_, rfl, rfl⟩
    | 1, e => injection e with e; subst e; rcases g with rfl | rfl; exact .inl rfl; exact .inr ⟨_, rfl, rfl⟩
    | i + 2, e => simp at e
  cases h with
  | one h =>
    rcases h with ⟨rfl, rfl, _⟩ | ⟨rfl, _, _⟩
    · exact ⟨[.str "flag"], by decide +kernel, rfl, fin1 (.inr rfl)⟩
    · exact ⟨[.non], by decide +kernel, rfl, fin1 (.inl rfl)⟩
  | two h =>
    rcases h with ⟨rfl | rfl | rfl | rfl, rfl, _⟩ | ⟨rfl, rfl, _⟩ | ⟨rfl, _, _⟩ | ⟨rfl | rfl, rfl, _⟩
    · exact ⟨[.str "number", .str "number"], by decide +kernel, rfl, fin2 (.inr rfl) (.inr rfl)⟩
    · exact ⟨[.str "number", .str "number"], by decide +kernel, rfl, fin2 (.inr rfl) (.inr rfl)⟩
    · exact ⟨[.str "number", .str "number"], by decide +kernel, rfl, fin2 (.inr rfl) (.inr rfl)⟩
    · exact ⟨[.str "number", .str "number"], by decide +kernel, rfl, fin2 (.inr rfl) (.inr rfl)⟩
    · exact ⟨[.str "number", .str "number"], by decide +kernel, rfl, fin2 (.inr rfl) (.inr rfl)⟩
    · exact ⟨[.non, .non], by decide +kernel, rfl, fin2 (.inl rfl) (.inl rfl)⟩
    · exact ⟨[.str "flag", .str "flag"], by decide +kernel, rfl, fin2 (.inr rfl) (.inr rfl)⟩
    · exact ⟨[.str "flag", .str "flag"], by decide +kernel, rfl, fin2 (.inr rfl) (.inr rfl)⟩
  | iff k =>
    refine ⟨[.str "flag", .non, .non], by decide +kernel, rfl, fun i x e => ?_⟩
    match i, e with
    | 0, e => injection e with e; subst e; exact .inr ⟨_, rfl, rfl⟩
    | 1, e => injection e with e; exact .inl e.symm
    | 2, e => injection e with e; exact .inl e.symm
    | i + 3, e => simp at e
inductive Xps (ps : List (Str × Str)) (n : Nat) : List Str → List PyData → Prop
  | nil : Xps ps n [] []
  | cons {k : Str} {ks : List Str} {o : PyData} {os : List PyData} (h : Xp ps n k o) (r : Xps ps n ks os) : Xps ps n (k :: ks) (o :: os)
theorem Xps.len {ps : List (Str × Str)} {n : Nat} : ∀ {ks : List Str} {os : List PyData}, Xps ps n ks os → ks.length = os.length
  | _, _, .nil => rfl
  | _, _, .cons _ r => by rw [List.length_cons, List.length_cons, r.len]
theorem Xps.get {ps : List (Str × Str)} {n : Nat} : ∀ {ks : List Str} {os : List PyData}, Xps ps n ks os → ∀ (i : Nat) (o : PyData), os[i]? = some o → ∃ k, ks[i]? = some k ∧ Xp ps n k o
  | _, _, .nil, i, o, e => by simp at e
  | _, _, .cons h r, 0, o, e => by injection e with e; subst e; exact ⟨_, rfl, h⟩
  | _, _, .cons h r, i + 1, o, e => r.get i o (by simpa using e)
theorem Vk.kind {k : Str} {d : PyData} (h : Vk k d) (nn : d ≠ .none) : KindS k := by
  cases h with
  | non => exact absurd rfl nn
  | num => exact .inl rfl
  | flag => exact .inr (.inr rfl)
  | word => exact .inr (.inl rfl)
theorem Xp.ops2 {ps : List (Str × Str)} {n : Nat} {k : Str} {d : PyData} (h : Xp ps (n + 1) k d) : (∃ (w : Str) (x : PyData), (w = "column" ∨ w = "value") ∧ d = .tuple [.str w, x] ∧ LeafD ps w x k) ∨ ∃ (w : Str) (os : List PyData) (ks : List Str), ¬ (w = "column" ∨ w = "value") ∧ d = .tuple (.str w :: os) ∧ OpK w ks k ∧ Xps ps n ks os := by
  cases h with
  | col h => exact .inl ⟨_, _, .inl rfl, rfl, .inl ⟨rfl, _, rfl, h⟩⟩
  | val h nn => exact .inl ⟨_, _, .inr rfl, rfl, .inr ⟨rfl, h, nn, h.kind nn⟩⟩
  | one hw ha => exact .inr ⟨_, _, _, hw.no, rfl, .one hw, .cons ha .nil⟩
  | two hw ha hb => exact .inr ⟨_, _, _, hw.no, rfl, .two hw, .cons ha (.cons hb .nil)⟩
  | iff ha hb hc => exact .inr ⟨_, _, _, by decide +kernel, rfl, .iff _, .cons ha (.cons hb (.cons hc .nil))⟩
theorem OpK.ne {w r : Str} {ks : List Str} (h : OpK w ks r) : ∃ l k0, ks = l ++ [k0] ∧ ks.length ≤ 3 := by
  cases h with
  | one _ => exact ⟨[], _, rfl, by simp⟩
  | two _ => exact ⟨[_], _, rfl, by simp⟩
  | iff => exact ⟨[_, _], _, rfl, by simp⟩
abbrev sWithin : Stmt := top 16
def spWithin : Sp := fun vs H Q _ => ∃ (a : Addr) (n d : Int), vs = [.ref a] ∧ H a = some (.tup [.int n, .int d]) ∧ Q (.bl (limB (.int n) (.int d))) H
section
variable {P : Program} {w : World} {K : PySem.W.Frag} {mg : Str → Option Value} {base : Heap} {f : Addr} {fd : FuncData} {u1 : Tok} {fR fW fN fD fL fA fQ fX fY : Addr} {fdR fdW fdN fdD fdL fdA fdQ fdX fdY : FuncData}
theorem scWithin : FnScope ["number"] ["number"] (defScope sWithin) := ⟨rfl, rfl, rfl, by decide +kernel, rfl, by decide +kernel, by decide +kernel⟩
theorem ok_within (F : Fun K "within_limit" "within_limit" sWithin f fd) (T : Bt mg) (m1 : mg "LIMIT" = some (.int lim u1)) : FnOk P w K mg base CX0 1 f fd ["number"] spWithin := by
  refine F.ok scWithin (fun vs H Q E h => ?_) (fun cdv A outer s H vs Q E hr h => ?_)
  · obtain ⟨a, n, d, rfl, _⟩ := h
    rfl
  · obtain ⟨a, n, d, rfl, ha, k⟩ := h
    refine ⟨_, pss_one (ps_ret (pe_and (pe_cmpR op_le (pe_callB call_abs (by rfl) T.abs boot_abs (pa_cons (pe_ix ix_tup (pv 0) pe_int (fun _ _ => rfl)) pa_nil)) (pe_glob (v := .int lim) (by rfl) m1 ⟨_, rfl⟩) (nomark _))
      (pe_one (pe_cmpR op_le (pe_ix ix_tup (pv 0) pe_int (fun _ _ => rfl)) (pe_glob (v := .int lim) (by rfl) m1 ⟨_, rfl⟩) (nomark _))))), ?_⟩
    refine ⟨_, rfl, a, _, _, _, rfl, rfl, SqT.of ha, rfl, n, rfl, _, _, rfl, rfl, _, rfl, ?_⟩
    have e : limB (.int n) (.int d) = (decide ((if n < 0 then -n else n) ≤ lim) && decide (d ≤ lim)) := rfl
    rw [e] at k
    by_cases z : (if n < 0 then -n else n) ≤ lim
    · rw [decide_eq_true z] at k ⊢
      exact iteT ⟨_, rfl, a, _, _, _, rfl, rfl, SqT.of ha, rfl, _, _, rfl, rfl, k⟩
    · rw [decide_eq_false z] at k ⊢
      exact iteF k
end
end K10
set_option Elab.async false
set_option linter.all false
set_option maxRecDepth 100000
set_option maxHeartbeats 4000000
namespace K10
open PySem PySem.Spec PyProof.Rows L2 Lc
abbrev sChk : Stmt := top 7
abbrev sLow : Stmt := top 8
abbrev sAddR : Stmt := top 9
abbrev sSubR : Stmt := top 10
abbrev sMulR : Stmt := top 11
abbrev sDivR : Stmt := top 12
abbrev sCmpR : Stmt := top 13
def Small (n : Int) : Prop := n.natAbs < 2 ^ 4000
def New2 (H : Hp) (Q : VK) (n d : Int) : Prop := ∀ p, H p = none → Q (.ref p) (upd H p (.tup [.int n, .int d]))
def spLow : Sp := fun vs H Q _ => ∃ n d : Int, vs = [.int n, .int d] ∧ d ≠ 0 ∧ Small d ∧ New2 H Q (lowN (if d < 0 then -n else n) (if d < 0 then -d else d)) (lowD (if d < 0 then -n else n) (if d < 0 then -d else d))
def spChkQ : Sp := fun vs H Q _ => ∃ (v : V), vs = [v] ∧ Rk H v true ∧ Q .non H
def Sm (n : Int) : Prop := n.natAbs < 2 ^ 1000
theorem sm_mul {a b : Int} (ha : Sm a) (hb : Sm b) : (a * b).natAbs < 2 ^ 2000 := by
  unfold Sm at ha hb
  rw [Int.natAbs_mul]
  have e : (2 : Nat) ^ 2000 = 2 ^ 1000 * 2 ^ 1000 := by rw [← Nat.pow_add]
  rw [e]
  exact Nat.mul_lt_mul'' ha hb
theorem mw {a b : Int} (ha : Sm a) (hb : Sm b) : CMulW a b := wide_mul ha hb (by decide) (by decide) (by decide)
theorem small_of {a : Int} (h : a.natAbs < 2 ^ 2000) : Small a := Nat.lt_of_lt_of_le h (Nat.pow_le_pow_right (by decide) (by decide))
abbrev OkQ := Int → Int → Int → Int → Hp → VK → Prop
def spBQ (ok : OkQ) : Sp := fun vs H Q _ => ∃ (p q : Addr) (an ad bn bd : Int), vs = [.ref p, .ref q] ∧ H p = some (.tup [.int an, .int ad]) ∧ H q = some (.tup [.int bn, .int bd]) ∧ Rt an ad ∧ Rt bn bd ∧ Sm an ∧ Sm ad ∧ Sm bn ∧ Sm bd ∧ ok an ad bn bd H Q
def okAdd : OkQ := fun an ad bn bd H Q => New2 H Q (lowN (an * bd + bn * ad) (ad * bd)) (lowD (an * bd + bn * ad) (ad * bd))
def okSub : OkQ := fun an ad bn bd H Q => New2 H Q (lowN (an * bd - bn * ad) (ad * bd)) (lowD (an * bd - bn * ad) (ad * bd))
def okMul : OkQ := fun an ad bn bd H Q => New2 H Q (lowN (an * bn) (ad * bd)) (lowD (an * bn) (ad * bd))
def divN (an ad bn bd : Int) : Int := lowN (if bn < 0 then -(an * bd) else an * bd) (if bn < 0 then -(ad * bn) else ad * bn)
def divD (an ad bn bd : Int) : Int := lowD (if bn < 0 then -(an * bd) else an * bd) (if bn < 0 then -(ad * bn) else ad * bn)
def okDiv : OkQ := fun an ad bn bd H Q => bn ≠ 0 ∧ New2 H Q (divN an ad bn bd) (divD an ad bn bd)
def okCmp : OkQ := fun an ad bn bd H Q => Q (.int (if an * bd < bn * ad then -1 else if bn * ad < an * bd then 1 else 0)) H
section
variable {P : Program} {w : World} {K : PySem.W.Frag} {mg : Str → Option Value} {base : Heap} {f fK fL : Addr} {fd fdK fdL : FuncData}
theorem low_pos {n d : Int} {H : Hp} {Q : VK} (h : 0 < d) (k : New2 H Q (lowN n d) (lowD n d)) : New2 H Q (lowN (if d < 0 then -n else n) (if d < 0 then -d else d)) (lowD (if d < 0 then -n else n) (if d < 0 then -d else d)) := by
  rw [if_neg (by omega : ¬ d < 0), if_neg (by omega : ¬ d < 0)]
  exact k
/-! ## lowest terms -/
theorem log_lt {n : Int} (h : n.natAbs < 2 ^ 4000) : n.natAbs.log2 < 9000 := by
  by_cases z : n.natAbs = 0
  · rw [z]
    decide
  · exact Nat.lt_of_lt_of_le ((Nat.log2_lt z).mpr h) (by decide)
theorem scLow : FnScope ["n", "d", "shared"] ["n", "d"] (defScope sLow) := ⟨rfl, rfl, rfl, by decide +kernel, rfl, by decide +kernel, by decide +kernel⟩
theorem gd_neg2 (a b : Int) : gd (-a) (-b) = gd a b := by unfold gd; rw [Int.neg_gcd, Int.gcd_neg]
theorem ok_low {fC : Addr} {fdC : FuncData} (F : Fun K "lowest_terms" "lowest_terms" sLow f fd) (T : Bt mg) (GC : FnOk P w K mg base CX0 1 fC fdC ["a", "b"] spCd) (mC : mg "common_divisor" = some (.ref fC)) (kC : PySem.W.keepIn K (.ref fC) = true) (bC : Binds K fdC ["a", "b"] []) :
    FnOk P w K mg base CX0 2 f fd ["n", "d"] spLow := by
  refine F.ok scLow (fun vs H Q E h => ?_) (fun cdv A outer s H vs Q E hr h => ?_)
  · obtain ⟨n, d, rfl, _⟩ := h
    rfl
  · obtain ⟨n, d, rfl, hd, hs, k⟩ := h
    refine ⟨_, pss_cons (ps_set (i := 2) scLow.nd rfl (Or.inl rfl) (pe_call GC hr (by rfl) mC kC bC .nil pass0 (pa_cons (pe_callB call_abs (by rfl) T.abs boot_abs (pa_cons (pv 0) pa_nil)) (pa_cons (pe_callB call_abs (by rfl) T.abs boot_abs (pa_cons (pv 1) pa_nil)) pa_nil))))
      (pss_cons (ps_if (pt_cmpR op_lt (pv 1) pe_int (nomark _)) (pss_one (ps_set (i := 2) scLow.nd rfl (Or.inl rfl) (pe_un un_neg (pv 2)))) pss_nil)
      (pss_one (ps_ret (pe_tup (pa_cons (pe_op op_fdivZ (pv 0) (pv 2)) (pa_cons (pe_op op_fdivZ (pv 1) (pv 2)) pa_nil)))))), ?_⟩
    refine ⟨_, rfl, n, rfl, _, rfl, d, rfl, _, _, rfl, by split <;> omega, by split <;> omega, ?_⟩
    rw [gd_abs, gd_abs2]
    have g0 : 0 < gd n d := gd_pos hd
    have gl : (gd n d).natAbs < 2 ^ 4000 := Nat.lt_of_le_of_lt (gd_natAbs_le hd) hs
    refine ⟨_, rfl, _, _, rfl, rfl, _, rfl, ?_⟩
    by_cases z : d < 0
    · rw [decide_eq_true z]
      rw [if_pos z, if_pos z] at k
      refine iteT ⟨_, rfl, _, rfl, ?_⟩
      have l : (-(gd n d)).natAbs.log2 < 9000 := by rw [Int.natAbs_neg]; exact log_lt gl
      refine ⟨_, rfl, _, rfl, _, _, rfl, rfl, ⟨by omega, l⟩, _, rfl, _, rfl, _, _, rfl, rfl, ⟨by omega, l⟩, by show 2 ≤ sizeLine; decide, ?_⟩
      show New2 H Q (n.fdiv (-(gd n d))) (d.fdiv (-(gd n d)))
      rw [fdiv_neg_dvd g0 (gd_dvd1 n d), fdiv_neg_dvd g0 (gd_dvd2 n d)]
      unfold lowN lowD at k
      rw [gd_neg2] at k
      exact k
    · rw [decide_eq_false z]
      rw [if_neg z, if_neg z] at k
      refine iteF ?_
      refine ⟨_, rfl, _, rfl, _, _, rfl, rfl, ⟨by omega, log_lt gl⟩, _, rfl, _, rfl, _, _, rfl, rfl, ⟨by omega, log_lt gl⟩, by show 2 ≤ sizeLine; decide, ?_⟩
      show New2 H Q (n.fdiv (gd n d)) (d.fdiv (gd n d))
      rw [Int.fdiv_eq_ediv_of_nonneg n (gd_nonneg n d), Int.fdiv_eq_ediv_of_nonneg d (gd_nonneg n d)]
      exact k
theorem scChk : FnScope ["value"] ["value"] (defScope sChk) := ⟨rfl, rfl, rfl, by decide +kernel, rfl, by decide +kernel, by decide +kernel⟩
theorem ok_chkQ {fR : Addr} {fdR : FuncData} (F : Fun K "check_rational" "check_rational" sChk f fd) (GR : FnOk P w K mg base CX0 2 fR fdR ["value"] spIsR) (mR : mg "is_rational" = some (.ref fR)) (kR : PySem.W.keepIn K (.ref fR) = true) (bR : Binds K fdR ["value"] []) : FnOk P w K mg base CX0 3 f fd ["value"] spChkQ := by
  refine F.ok scChk (fun vs H Q E h => ?_) (fun cdv A outer s H vs Q E hr h => ?_)
  · obtain ⟨v, rfl, _⟩ := h
    rfl
  · obtain ⟨v, rfl, hk, k⟩ := h
    refine ⟨_, pss_one (ps_if (pt_not (pt_val (pe_call GR hr (by rfl) mR kR bR .nil pass0 (pa_cons (pv 0) pa_nil)))) pss_dead pss_nil), ?_⟩
    exact ⟨_, rfl, v, true, rfl, hk, _, rfl, iteF k⟩
/-- the promises of what they call -/
structure Ar (P : Program) (w : World) (K : PySem.W.Frag) (mg : Str → Option Value) (base : Heap) (fK fL : Addr) (fdK fdL : FuncData) : Prop where
  GK : FnOk P w K mg base CX0 3 fK fdK ["value"] spChkQ
  mK : mg "check_rational" = some (.ref fK)
  kK : PySem.W.keepIn K (.ref fK) = true
  bK : Binds K fdK ["value"] []
  GL : FnOk P w K mg base CX0 2 fL fdL ["n", "d"] spLow
  mL : mg "lowest_terms" = some (.ref fL)
  kL : PySem.W.keepIn K (.ref fL) = true
  bL : Binds K fdL ["n", "d"] []
theorem scAddR : FnScope ["a", "b"] ["a", "b"] (defScope sAddR) := ⟨rfl, rfl, rfl, by decide +kernel, rfl, by decide +kernel, by decide +kernel⟩
theorem ok_add (F : Fun K "add" "add" sAddR f fd) (R : Ar P w K mg base fK fL fdK fdL) : FnOk P w K mg base CX0 4 f fd ["a", "b"] (spBQ okAdd) := by
  refine F.ok scAddR (fun vs H Q E h => ?_) (fun cdv A outer s H vs Q E hr h => ?_)
  · obtain ⟨p, q, an, ad, bn, bd, rfl, _⟩ := h
    rfl
  · obtain ⟨p, q, an, ad, bn, bd, rfl, hp, hq, ra, rb, s1, s2, s3, s4, k⟩ := h
    refine ⟨_, pss_cons (ps_expr (pe_call R.GK hr (by rfl) R.mK R.kK R.bK .nil pass0 (pa_cons (pv 0) pa_nil)))
      (pss_cons (ps_expr (pe_call R.GK hr (by rfl) R.mK R.kK R.bK .nil pass0 (pa_cons (pv 1) pa_nil)))
      (pss_one (ps_ret (pe_call R.GL (hr.mono (by decide)) (by rfl) R.mL R.kL R.bL .nil pass0 (pa_cons (pe_op op_add (pe_op op_mulW (pe_ix ix_tup (pv 0) pe_int (fun _ _ => rfl)) (pe_ix ix_tup (pv 1) pe_int (fun _ _ => rfl))) (pe_op op_mulW (pe_ix ix_tup (pv 1) pe_int (fun _ _ => rfl)) (pe_ix ix_tup (pv 0) pe_int (fun _ _ => rfl))))
        (pa_cons (pe_op op_mulW (pe_ix ix_tup (pv 0) pe_int (fun _ _ => rfl)) (pe_ix ix_tup (pv 1) pe_int (fun _ _ => rfl))) pa_nil)))))), ?_⟩
    · refine ⟨_, rfl, _, rfl, .of hp ra, _, rfl, _, rfl, .of hq rb, ?_⟩
      have dp : 0 < ad * bd := Int.mul_pos ra.pos rb.pos
      refine ⟨_, rfl, p, _, _, _, rfl, rfl, SqT.of hp, rfl, _, rfl, q, _, _, _, rfl, rfl, SqT.of hq, rfl, _, _, rfl, rfl, mw s1 s4, _, rfl, q, _, _, _, rfl, rfl, SqT.of hq, rfl, _, rfl, p, _, _, _, rfl, rfl, SqT.of hp, rfl, _, _, rfl, rfl, mw s3 s2, _, _, rfl, rfl,
        _, rfl, p, _, _, _, rfl, rfl, SqT.of hp, rfl, _, rfl, q, _, _, _, rfl, rfl, SqT.of hq, rfl, _, _, rfl, rfl, mw s2 s4, _, _, rfl, by omega, small_of (sm_mul s2 s4), low_pos dp k⟩
theorem scSubR : FnScope ["a", "b"] ["a", "b"] (defScope sSubR) := ⟨rfl, rfl, rfl, by decide +kernel, rfl, by decide +kernel, by decide +kernel⟩
theorem ok_sub (F : Fun K "subtract" "subtract" sSubR f fd) (R : Ar P w K mg base fK fL fdK fdL) : FnOk P w K mg base CX0 4 f fd ["a", "b"] (spBQ okSub) := by
  refine F.ok scSubR (fun vs H Q E h => ?_) (fun cdv A outer s H vs Q E hr h => ?_)
  · obtain ⟨p, q, an, ad, bn, bd, rfl, _⟩ := h
    rfl
  · obtain ⟨p, q, an, ad, bn, bd, rfl, hp, hq, ra, rb, s1, s2, s3, s4, k⟩ := h
    refine ⟨_, pss_cons (ps_expr (pe_call R.GK hr (by rfl) R.mK R.kK R.bK .nil pass0 (pa_cons (pv 0) pa_nil)))
      (pss_cons (ps_expr (pe_call R.GK hr (by rfl) R.mK R.kK R.bK .nil pass0 (pa_cons (pv 1) pa_nil)))
      (pss_one (ps_ret (pe_call R.GL (hr.mono (by decide)) (by rfl) R.mL R.kL R.bL .nil pass0 (pa_cons (pe_op op_sub (pe_op op_mulW (pe_ix ix_tup (pv 0) pe_int (fun _ _ => rfl)) (pe_ix ix_tup (pv 1) pe_int (fun _ _ => rfl))) (pe_op op_mulW (pe_ix ix_tup (pv 1) pe_int (fun _ _ => rfl)) (pe_ix ix_tup (pv 0) pe_int (fun _ _ => rfl))))
        (pa_cons (pe_op op_mulW (pe_ix ix_tup (pv 0) pe_int (fun _ _ => rfl)) (pe_ix ix_tup (pv 1) pe_int (fun _ _ => rfl))) pa_nil)))))), ?_⟩
    · refine ⟨_, rfl, _, rfl, .of hp ra, _, rfl, _, rfl, .of hq rb, ?_⟩
      have dp : 0 < ad * bd := Int.mul_pos ra.pos rb.pos
      refine ⟨_, rfl, p, _, _, _, rfl, rfl, SqT.of hp, rfl, _, rfl, q, _, _, _, rfl, rfl, SqT.of hq, rfl, _, _, rfl, rfl, mw s1 s4, _, rfl, q, _, _, _, rfl, rfl, SqT.of hq, rfl, _, rfl, p, _, _, _, rfl, rfl, SqT.of hp, rfl, _, _, rfl, rfl, mw s3 s2, _, _, rfl, rfl,
        _, rfl, p, _, _, _, rfl, rfl, SqT.of hp, rfl, _, rfl, q, _, _, _, rfl, rfl, SqT.of hq, rfl, _, _, rfl, rfl, mw s2 s4, _, _, rfl, by omega, small_of (sm_mul s2 s4), low_pos dp k⟩
theorem scMulR : FnScope ["a", "b"] ["a", "b"] (defScope sMulR) := ⟨rfl, rfl, rfl, by decide +kernel, rfl, by decide +kernel, by decide +kernel⟩
theorem ok_mul (F : Fun K "multiply" "multiply" sMulR f fd) (R : Ar P w K mg base fK fL fdK fdL) : FnOk P w K mg base CX0 4 f fd ["a", "b"] (spBQ okMul) := by
  refine F.ok scMulR (fun vs H Q E h => ?_) (fun cdv A outer s H vs Q E hr h => ?_)
  · obtain ⟨p, q, an, ad, bn, bd, rfl, _⟩ := h
    rfl
  · obtain ⟨p, q, an, ad, bn, bd, rfl, hp, hq, ra, rb, s1, s2, s3, s4, k⟩ := h
    refine ⟨_, pss_cons (ps_expr (pe_call R.GK hr (by rfl) R.mK R.kK R.bK .nil pass0 (pa_cons (pv 0) pa_nil)))
      (pss_cons (ps_expr (pe_call R.GK hr (by rfl) R.mK R.kK R.bK .nil pass0 (pa_cons (pv 1) pa_nil)))
      (pss_one (ps_ret (pe_call R.GL (hr.mono (by decide)) (by rfl) R.mL R.kL R.bL .nil pass0 (pa_cons (pe_op op_mulW (pe_ix ix_tup (pv 0) pe_int (fun _ _ => rfl)) (pe_ix ix_tup (pv 1) pe_int (fun _ _ => rfl)))
        (pa_cons (pe_op op_mulW (pe_ix ix_tup (pv 0) pe_int (fun _ _ => rfl)) (pe_ix ix_tup (pv 1) pe_int (fun _ _ => rfl))) pa_nil)))))), ?_⟩
    · refine ⟨_, rfl, _, rfl, .of hp ra, _, rfl, _, rfl, .of hq rb, ?_⟩
      have dp : 0 < ad * bd := Int.mul_pos ra.pos rb.pos
      refine ⟨_, rfl, p, _, _, _, rfl, rfl, SqT.of hp, rfl, _, rfl, q, _, _, _, rfl, rfl, SqT.of hq, rfl, _, _, rfl, rfl, mw s1 s3,
        _, rfl, p, _, _, _, rfl, rfl, SqT.of hp, rfl, _, rfl, q, _, _, _, rfl, rfl, SqT.of hq, rfl, _, _, rfl, rfl, mw s2 s4, _, _, rfl, by omega, small_of (sm_mul s2 s4), low_pos dp k⟩
theorem scDivR : FnScope ["a", "b"] ["a", "b"] (defScope sDivR) := ⟨rfl, rfl, rfl, by decide +kernel, rfl, by decide +kernel, by decide +kernel⟩
theorem ok_div (F : Fun K "divide" "divide" sDivR f fd) (R : Ar P w K mg base fK fL fdK fdL) : FnOk P w K mg base CX0 4 f fd ["a", "b"] (spBQ okDiv) := by
  refine F.ok scDivR (fun vs H Q E h => ?_) (fun cdv A outer s H vs Q E hr h => ?_)
  · obtain ⟨p, q, an, ad, bn, bd, rfl, _⟩ := h
    rfl
  · obtain ⟨p, q, an, ad, bn, bd, rfl, hp, hq, ra, rb, s1, s2, s3, s4, k⟩ := h
    refine ⟨_, pss_cons (ps_expr (pe_call R.GK hr (by rfl) R.mK R.kK R.bK .nil pass0 (pa_cons (pv 0) pa_nil)))
      (pss_cons (ps_expr (pe_call R.GK hr (by rfl) R.mK R.kK R.bK .nil pass0 (pa_cons (pv 1) pa_nil)))
      (pss_cons (ps_if (pt_cmpR op_eq (pe_ix ix_tup (pv 1) pe_int (fun _ _ => rfl)) pe_int (nomark _)) pss_dead pss_nil)
      (pss_one (ps_ret (pe_call R.GL (hr.mono (by decide)) (by rfl) R.mL R.kL R.bL .nil pass0 (pa_cons (pe_op op_mulW (pe_ix ix_tup (pv 0) pe_int (fun _ _ => rfl)) (pe_ix ix_tup (pv 1) pe_int (fun _ _ => rfl)))
        (pa_cons (pe_op op_mulW (pe_ix ix_tup (pv 0) pe_int (fun _ _ => rfl)) (pe_ix ix_tup (pv 1) pe_int (fun _ _ => rfl))) pa_nil))))))), ?_⟩
    · refine ⟨_, rfl, _, rfl, .of hp ra, _, rfl, _, rfl, .of hq rb, ?_⟩
      refine ⟨_, rfl, q, _, _, _, rfl, rfl, SqT.of hq, rfl, rfl, _, rfl, ?_⟩
      obtain ⟨z, k⟩ := k
      · rw [decide_eq_false (show ¬ V.int bn = V.int 0 from fun e => z (by injection e))]
        refine iteF ?_
        unfold divN divD at k
        have az := ra.pos
        have nz : ad * bn ≠ 0 := Int.mul_ne_zero (by omega) z
        have sg : (ad * bn < 0) ↔ (bn < 0) := by
          constructor
          · intro h
            rcases Int.lt_trichotomy bn 0 with g | g | g
            · exact g
            · exact absurd g z
            · have := Int.mul_pos az g
              omega
          · intro h
            exact Int.mul_neg_of_pos_of_neg az h
        refine ⟨_, rfl, p, _, _, _, rfl, rfl, SqT.of hp, rfl, _, rfl, q, _, _, _, rfl, rfl, SqT.of hq, rfl, _, _, rfl, rfl, mw s1 s4,
          _, rfl, p, _, _, _, rfl, rfl, SqT.of hp, rfl, _, rfl, q, _, _, _, rfl, rfl, SqT.of hq, rfl, _, _, rfl, rfl, mw s2 s3, _, _, rfl, nz, small_of (sm_mul s2 s3), ?_⟩
        by_cases ng : bn < 0
        · have ng2 := sg.mpr ng
          rw [if_pos ng, if_pos ng] at k
          rw [if_pos ng2, if_pos ng2]
          exact k
        · have ng2 : ¬ ad * bn < 0 := fun h => ng (sg.mp h)
          rw [if_neg ng, if_neg ng] at k
          rw [if_neg ng2, if_neg ng2]
          exact k
theorem scCmpR : FnScope ["a", "b", "left", "right"] ["a", "b"] (defScope sCmpR) := ⟨rfl, rfl, rfl, by decide +kernel, rfl, by decide +kernel, by decide +kernel⟩
theorem ok_cmp (F : Fun K "compare" "compare" sCmpR f fd) (R : Ar P w K mg base fK fL fdK fdL) : FnOk P w K mg base CX0 4 f fd ["a", "b"] (spBQ okCmp) := by
  refine F.ok scCmpR (fun vs H Q E h => ?_) (fun cdv A outer s H vs Q E hr h => ?_)
  · obtain ⟨p, q, an, ad, bn, bd, rfl, _⟩ := h
    rfl
  · obtain ⟨p, q, an, ad, bn, bd, rfl, hp, hq, ra, rb, s1, s2, s3, s4, k⟩ := h
    refine ⟨_, pss_cons (ps_expr (pe_call R.GK hr (by rfl) R.mK R.kK R.bK .nil pass0 (pa_cons (pv 0) pa_nil)))
      (pss_cons (ps_expr (pe_call R.GK hr (by rfl) R.mK R.kK R.bK .nil pass0 (pa_cons (pv 1) pa_nil)))
      (pss_cons (ps_set (i := 2) scCmpR.nd rfl (Or.inl rfl) (pe_op op_mulW (pe_ix ix_tup (pv 0) pe_int (fun _ _ => rfl)) (pe_ix ix_tup (pv 1) pe_int (fun _ _ => rfl))))
      (pss_cons (ps_set (i := 3) scCmpR.nd rfl (Or.inl rfl) (pe_op op_mulW (pe_ix ix_tup (pv 1) pe_int (fun _ _ => rfl)) (pe_ix ix_tup (pv 0) pe_int (fun _ _ => rfl))))
      (pss_cons (ps_if (pt_cmpR op_lt (pv 2) (pv 3) (nomark _)) (pss_one (ps_ret (pe_un un_neg pe_int))) pss_nil)
      (pss_cons (ps_if (pt_cmpR op_gt (pv 2) (pv 3) (nomark _)) (pss_one (ps_ret pe_int)) pss_nil) (pss_one (ps_ret pe_int))))))), ?_⟩
    · refine ⟨_, rfl, _, rfl, .of hp ra, _, rfl, _, rfl, .of hq rb, ?_⟩
      refine ⟨_, rfl, p, _, _, _, rfl, rfl, SqT.of hp, rfl, _, rfl, q, _, _, _, rfl, rfl, SqT.of hq, rfl, _, _, rfl, rfl, mw s1 s4,
        _, rfl, q, _, _, _, rfl, rfl, SqT.of hq, rfl, _, rfl, p, _, _, _, rfl, rfl, SqT.of hp, rfl, _, _, rfl, rfl, mw s3 s2, _, rfl, _, rfl, _, _, rfl, rfl, _, rfl, ?_⟩
      unfold okCmp at k
      by_cases z : an * bd < bn * ad
      · rw [decide_eq_true z]
        rw [if_pos z] at k
        exact iteT ⟨_, rfl, k⟩
      · rw [decide_eq_false z]
        rw [if_neg z] at k
        refine iteF ⟨_, rfl, _, rfl, _, _, rfl, rfl, _, rfl, ?_⟩
        by_cases z2 : bn * ad < an * bd
        · rw [decide_eq_true z2]
          rw [if_pos z2] at k
          exact iteT k
        · rw [decide_eq_false z2]
          rw [if_neg z2] at k
          exact iteF k
end
end K10
set_option Elab.async false
set_option linter.all false
set_option maxRecDepth 100000
set_option maxHeartbeats 4000000
namespace K10
open PySem PySem.Spec PyProof.Rows L2 Lc
/-! ## what expressions are worth -/
def limD (n d : Int) : PyData := if limB (.int n) (.int d) = true then .tuple [.int n, .int d] else .none
def arD (w : Str) (an ad bn bd : Int) : PyData :=
  if w = "plus" then limD (lowN (an * bd + bn * ad) (ad * bd)) (lowD (an * bd + bn * ad) (ad * bd))
  else if w = "minus" then limD (lowN (an * bd - bn * ad) (ad * bd)) (lowD (an * bd - bn * ad) (ad * bd))
  else if w = "times" then limD (lowN (an * bn) (ad * bd)) (lowD (an * bn) (ad * bd))
  else if w = "over" then (if bn = 0 then .none else limD (divN an ad bn bd) (divD an ad bn bd))
  else .bool (decide (an * bd < bn * ad))
def isN : PyData → Bool
  | .none => true
  | _ => false
def isT : PyData → Bool
  | .bool true => true
  | _ => false
def isF : PyData → Bool
  | .bool false => true
  | _ => false
def bothD (a b : PyData) : PyData := if isF a || isF b then .bool false else if isN a || isN b then .none else .bool true
def eithD (a b : PyData) : PyData := if isT a || isT b then .bool true else if isN a || isN b then .none else .bool false
def numD (w : Str) : PyData → PyData → PyData
  | .tuple [.int an, .int ad], .tuple [.int bn, .int bd] => arD w an ad bn bd
  | _, _ => .none
def twoD (w : Str) (a b : PyData) : PyData :=
  if w = "both" then bothD a b else if w = "either" then eithD a b else if isN a || isN b then .none else if w = "same" then .bool (PyData.eqv a b) else numD w a b
def ifD (a : PyData) : List PyData → PyData
  | [b, c] => if isT a = true then b else c
  | _ => .none
def oneD (w : Str) (a : PyData) (r : List PyData) : PyData := if w = "missing" then .bool (isN a) else if isN a = true then .none else if w = "not" then .bool (isF a) else ifD a r
def opD (w : Str) : List PyData → PyData
  | [a, b] => twoD w a b
  | a :: r => oneD w a r
  | [] => .none
def colOf (row : List (Str × PyData)) : List PyData → PyData
  | [.str z] => (row.lookup z).getD .none
  | _ => .none
def valOf : List PyData → PyData
  | [d] => d
  | _ => .none
mutual
def evD (row : List (Str × PyData)) : PyData → PyData
  | .tuple ds => evW row ds
  | _ => .none
def evW (row : List (Str × PyData)) : List PyData → PyData
  | .str w :: r => if w = ("column" : Str) then colOf row r else if w = ("value" : Str) then valOf r else opD w (evs row r)
  | _ => .none
def evs (row : List (Str × PyData)) : List PyData → List PyData
  | [] => []
  | d :: r => evD row d :: evs row r
end
theorem isN_iff {d : PyData} : isN d = true ↔ d = .none := by cases d <;> simp [isN]
theorem isT_iff {d : PyData} : isT d = true ↔ d = .bool true := by
  cases d with
  | bool b => cases b <;> simp [isT]
  | _ => simp [isT]
theorem isF_iff {d : PyData} : isF d = true ↔ d = .bool false := by
  cases d with
  | bool b => cases b <;> simp [isF]
  | _ => simp [isF]
/-! what a value of a kind is -/
theorem Vk.isnum {k : Str} {d : PyData} (h : Vk k d) (e : k = "number") (nn : d ≠ .none) : ∃ n m : Int, d = .tuple [.int n, .int m] ∧ Rt n m ∧ n.natAbs ≤ 10000000000000000000000000000000000000000 ∧ m.natAbs ≤ 10000000000000000000000000000000000000000 := by
  cases h with
  | non => exact absurd rfl nn
  | num h h1 h2 => exact ⟨_, _, rfl, h, h1, h2⟩
  | flag b => exact absurd e (by decide +kernel)
  | word _ _ => exact absurd e (by decide +kernel)
theorem Vk.isflag {k : Str} {d : PyData} (h : Vk k d) (e : k = "flag") : d = .none ∨ ∃ b, d = .bool b := by
  cases h with
  | non => exact .inl rfl
  | num => exact absurd e (by decide +kernel)
  | flag b => exact .inr ⟨b, rfl⟩
  | word _ _ => exact absurd e (by decide +kernel)
theorem lim_vk {n d : Int} (h : Rt n d) : Vk "number" (limD n d) := by
  unfold limD
  split
  · rename_i z
    have z : (decide ((if n < 0 then -n else n) ≤ lim) && decide (d ≤ lim)) = true := z
    obtain ⟨z1, z2⟩ := Bool.and_eq_true_iff.mp z
    have z1 := of_decide_eq_true z1
    have z2 := of_decide_eq_true z2
    have := h.pos
    unfold lim at z1 z2
    refine .num h ?_ ?_
    · split at z1 <;> omega
    · omega
  · exact .non _
theorem div_rt {an ad bn bd : Int} (ha : Rt an ad) (z : bn ≠ 0) : Rt (divN an ad bn bd) (divD an ad bn bd) := by
  have p := ha.pos
  unfold divN divD
  by_cases g : bn < 0
  · rw [if_pos g, if_pos g]
    have : ad * bn < 0 := Int.mul_neg_of_pos_of_neg p g
    exact low_rt (by omega)
  · rw [if_neg g, if_neg g]
    exact low_rt (Int.mul_pos p (by omega))
theorem ar_vk {w : Str} {an ad bn bd : Int} (ha : Rt an ad) (hb : Rt bn bd) (h : w = "plus" ∨ w = "minus" ∨ w = "times" ∨ w = "over") : Vk "number" (arD w an ad bn bd) := by
  have p : 0 < ad * bd := Int.mul_pos ha.pos hb.pos
  unfold arD
  split
  · exact lim_vk (low_rt p)
  · split
    · exact lim_vk (low_rt p)
    · split
      · exact lim_vk (low_rt p)
      · split
        · split
          · exact .non _
          · rename_i z
            exact lim_vk (div_rt ha z)
        · rename_i n1 n2 n3 n4
          rcases h with h | h | h | h
          · exact absurd h n1
          · exact absurd h n2
          · exact absurd h n3
          · exact absurd h n4
theorem both_vk {a b : PyData} : Vk "flag" (bothD a b) := by
  unfold bothD
  split
  · exact .flag _
  · split
    · exact .non _
    · exact .flag _
theorem eith_vk {a b : PyData} : Vk "flag" (eithD a b) := by
  unfold eithD
  split
  · exact .flag _
  · split
    · exact .non _
    · exact .flag _
theorem two_vk {w k r : Str} {a b : PyData} (h : TwoW w k r) (ha : Vk k a) (hb : Vk k b) : Vk r (twoD w a b) := by
  unfold twoD
  rcases h with ⟨hw, hk, rfl⟩ | ⟨rfl, hk, rfl⟩ | ⟨rfl, hk, rfl⟩ | ⟨hw, hk, rfl⟩
  · have n1 : w ≠ "both" := by rcases hw with rfl | rfl | rfl | rfl <;> decide +kernel
    have n2 : w ≠ "either" := by rcases hw with rfl | rfl | rfl | rfl <;> decide +kernel
    have n3 : w ≠ "same" := by rcases hw with rfl | rfl | rfl | rfl <;> decide +kernel
    rw [if_neg n1, if_neg n2]
    by_cases z : (isN a || isN b) = true
    · rw [if_pos z]
      exact .non _
    · rw [if_neg z, if_neg n3]
      rw [Bool.or_eq_true, isN_iff, isN_iff] at z
      obtain ⟨an, ad, rfl, ra, _⟩ := ha.isnum hk fun e => z (.inl e)
      obtain ⟨bn, bd, rfl, rb, _⟩ := hb.isnum hk fun e => z (.inr e)
      exact ar_vk ra rb hw
  · rw [if_neg (by decide +kernel), if_neg (by decide +kernel)]
    by_cases z : (isN a || isN b) = true
    · rw [if_pos z]
      exact .non _
    · rw [if_neg z, if_neg (by decide +kernel)]
      rw [Bool.or_eq_true, isN_iff, isN_iff] at z
      obtain ⟨an, ad, rfl, ra, _⟩ := ha.isnum hk fun e => z (.inl e)
      obtain ⟨bn, bd, rfl, rb, _⟩ := hb.isnum hk fun e => z (.inr e)
      show Vk "flag" (arD "less" an ad bn bd)
      unfold arD
      rw [if_neg (by decide +kernel), if_neg (by decide +kernel), if_neg (by decide +kernel), if_neg (by decide +kernel)]
      exact .flag _
  · rw [if_neg (by decide +kernel), if_neg (by decide +kernel)]
    by_cases z : (isN a || isN b) = true
    · rw [if_pos z]
      exact .non _
    · rw [if_neg z, if_pos rfl]
      exact .flag _
  · rcases hw with rfl | rfl
    · rw [if_pos rfl]
      exact both_vk
    · rw [if_neg (by decide +kernel), if_pos rfl]
      exact eith_vk
/-- a row's values, by the columns' kinds -/
def RowT (ps : List (Str × Str)) (row : List (Str × PyData)) : Prop := ∀ z k, (z, k) ∈ ps → ∃ d, row.lookup z = some d ∧ Vk k d
theorem ev_col {row : List (Str × PyData)} {z : Str} : evD row (.tuple [.str "column", .str z]) = (row.lookup z).getD .none := by rw [evD, evW, if_pos rfl, colOf]
theorem ev_val {row : List (Str × PyData)} {d : PyData} : evD row (.tuple [.str "value", d]) = d := by rw [evD, evW, if_neg (by decide +kernel), if_pos rfl, valOf]
theorem ev_op {row : List (Str × PyData)} {w : Str} {os : List PyData} (h : ¬ (w = "column" ∨ w = "value")) : evD row (.tuple (.str w :: os)) = opD w (evs row os) := by
  rw [evD, evW, if_neg (fun e => h (.inl e)), if_neg (fun e => h (.inr e))]
theorem evs_get {row : List (Str × PyData)} : ∀ {ds : List PyData} {i : Nat} {d : PyData}, ds[i]? = some d → (evs row ds)[i]? = some (evD row d)
  | [], i, d, e => by simp at e
  | x :: r, 0, d, e => by injection e with e; subst e; rw [evs]; rfl
  | x :: r, i + 1, d, e => by rw [evs]; exact evs_get (ds := r) (i := i) (by simpa using e)
theorem evs_len {row : List (Str × PyData)} : ∀ {ds : List PyData}, (evs row ds).length = ds.length
  | [] => by rw [evs]
  | x :: r => by rw [evs, List.length_cons, List.length_cons, evs_len]
theorem not_two {w k r : Str} (h : OneW w k r) : w = "missing" ∨ w = "not" := by
  rcases h with ⟨h, _⟩ | ⟨h, _⟩
  · exact .inr h
  · exact .inl h
theorem ev_vk {ps : List (Str × Str)} {row : List (Str × PyData)} (R : RowT ps row) {n : Nat} {k : Str} {d : PyData} (h : Xp ps n k d) : Vk k (evD row d) := by
  induction h with
  | col h =>
    obtain ⟨d, e, v⟩ := R _ _ h
    rw [ev_col, e]
    exact v
  | val h _ => rw [ev_val]; exact h
  | @one n w k r a hw ha ia =>
    rw [ev_op hw.no, evs, evs]
    rcases hw with ⟨rfl, rfl, rfl⟩ | ⟨rfl, _, rfl⟩
    · show Vk "flag" (oneD "not" (evD row a) [])
      unfold oneD
      rw [if_neg (by decide +kernel)]
      by_cases z : isN (evD row a) = true
      · rw [if_pos z]; exact .non _
      · rw [if_neg z, if_pos rfl]; exact .flag _
    · show Vk "flag" (oneD "missing" (evD row a) [])
      unfold oneD
      rw [if_pos rfl]
      exact .flag _
  | @two n w k r a b hw ha hb ia ib =>
    rw [ev_op hw.no, evs, evs, evs]
    exact two_vk hw ia ib
  | @iff n k a b c ha hb hc ia ib ic =>
    rw [ev_op (by decide +kernel), evs, evs, evs, evs]
    show Vk k (oneD "if" (evD row a) [evD row b, evD row c])
    unfold oneD
    rw [if_neg (by decide +kernel)]
    by_cases z : isN (evD row a) = true
    · rw [if_pos z]; exact .non _
    · rw [if_neg z, if_neg (by decide +kernel)]
      show Vk k (if isT (evD row a) = true then evD row b else evD row c)
      by_cases y : isT (evD row a) = true
      · rw [if_pos y]; exact ib
      · rw [if_neg y]; exact ic
end K10
set_option Elab.async false
set_option linter.all false
set_option maxRecDepth 100000
set_option maxHeartbeats 4000000
namespace K10
open PySem PySem.Spec PyProof.Rows L2 Lc
abbrev sLim : Stmt := top 18
abbrev sPlus : Stmt := top 19
abbrev sMinus : Stmt := top 20
abbrev sTimes : Stmt := top 21
abbrev sOver : Stmt := top 22
abbrev sLess : Stmt := top 23
abbrev sSame : Stmt := top 24
abbrev sBoth : Stmt := top 25
abbrev sEither : Stmt := top 26
def spLim : Sp := fun vs H Q _ => ∃ (p : Addr) (n d : Int), vs = [.ref p] ∧ H p = some (.tup [.int n, .int d]) ∧ ∀ v H', Same H H' → Dh H' v (limD n d) → Q v H'
def spTwo (w : Str) : Sp := fun vs H Q _ => ∃ (x y : V) (a b : PyData) (k r : Str), vs = [x, y] ∧ Dh H x a ∧ Dh H y b ∧ Vk k a ∧ Vk k b ∧ TwoW w k r ∧ ((w = "both" ∨ w = "either") ∨ (a ≠ .none ∧ b ≠ .none)) ∧ ∀ v H', Same H H' → Dh H' v (twoD w a b) → Q v H'
theorem sm_lim {n : Int} (h : n.natAbs ≤ 10000000000000000000000000000000000000000) : Sm n := Nat.lt_of_le_of_lt h (Nat.lt_of_lt_of_le (show 10000000000000000000000000000000000000000 < 2 ^ 140 by decide) (Nat.pow_le_pow_right (by decide) (by decide)))
theorem dh_pair {H : Hp} {x : V} {n d : Int} (h : Dh H x (.tuple [.int n, .int d])) : ∃ p, x = .ref p ∧ H p = some (.tup [.int n, .int d]) := by
  cases h with
  | tup e hs =>
    cases hs with
    | cons a r =>
      cases r with
      | cons b r =>
        cases r
        cases a
        cases b
        exact ⟨_, rfl, e⟩
theorem twoW_num {w k r : Str} (h : TwoW w k r) (e : w = "plus" ∨ w = "minus" ∨ w = "times" ∨ w = "over" ∨ w = "less") : k = "number" := by
  rcases h with ⟨_, hk, _⟩ | ⟨_, hk, _⟩ | ⟨rfl, _⟩ | ⟨rfl | rfl, _⟩
  · exact hk
  · exact hk
  all_goals exact absurd e (by decide +kernel)
theorem two_num {w : Str} {an ad bn bd : Int} (e : w = "plus" ∨ w = "minus" ∨ w = "times" ∨ w = "over" ∨ w = "less") : twoD w (.tuple [.int an, .int ad]) (.tuple [.int bn, .int bd]) = arD w an ad bn bd := by
  unfold twoD
  have n1 : w ≠ "both" := by rcases e with rfl | rfl | rfl | rfl | rfl <;> decide +kernel
  have n2 : w ≠ "either" := by rcases e with rfl | rfl | rfl | rfl | rfl <;> decide +kernel
  have n3 : w ≠ "same" := by rcases e with rfl | rfl | rfl | rfl | rfl <;> decide +kernel
  rw [if_neg n1, if_neg n2, if_neg (by simp [isN]), if_neg n3]
  rfl
theorem can_str {n : Nat} {x : Str} (h : Sh n x) : (PyData.str x).canLay0 = true := by
  show x.cps.all (· < 0x110000) = true
  rw [Array.all_eq_true]
  intro i hi
  have := h.ok x.cps[i] (by simp)
  simpa using this
theorem Vk.can {k : Str} {d : PyData} (h : Vk k d) : d.canLay0 = true := by
  cases h with
  | non => rfl
  | num => rfl
  | flag => rfl
  | word h _ => exact can_str h
theorem Vk.depth {k : Str} {d : PyData} (h : Vk k d) : d.depth ≤ 1 := by cases h <;> simp [PyData.depth, PyData.depthAll]
theorem Vk.shp {k : Str} {d : PyData} (h : Vk k d) : SeqAt.shaped d = true := Bool.and_eq_true_iff.mpr ⟨h.can, decide_eq_true (Nat.le_trans h.depth (by decide))⟩
theorem Vk.nd {k : Str} {d : PyData} (h : Vk k d) : d.hasDict = false := PyData.hasDict_of_canLay _ (SeqAt.canLay_of_shaped h.shp)
section
variable {P : Program} {w : World} {K : PySem.W.Frag} {mg : Str → Option Value} {base : Heap} {f fW fL fA : Addr} {fd fdW fdL fdA : FuncData}
theorem scLim : FnScope ["number"] ["number"] (defScope sLim) := ⟨rfl, rfl, rfl, by decide +kernel, rfl, by decide +kernel, by decide +kernel⟩
theorem ok_lim (F : Fun K "limited" "limited" sLim f fd) (GW : FnOk P w K mg base CX0 1 fW fdW ["number"] spWithin) (mW : mg "within_limit" = some (.ref fW)) (kW : PySem.W.keepIn K (.ref fW) = true) (bW : Binds K fdW ["number"] []) : FnOk P w K mg base CX0 2 f fd ["number"] spLim := by
  refine F.ok scLim (fun vs H Q E h => ?_) (fun cdv A outer s H vs Q E hr h => ?_)
  · obtain ⟨p, n, d, rfl, _⟩ := h
    rfl
  · obtain ⟨p, n, d, rfl, hp, k⟩ := h
    refine ⟨_, pss_one (ps_ret (pe_ifExp (pt_val (pe_call GW hr (by rfl) mW kW bW .nil pass0 (pa_cons (pv 0) pa_nil))) (pv 0) pe_non)), ?_⟩
    refine ⟨_, rfl, p, n, d, rfl, hp, _, rfl, ?_⟩
    unfold limD at k
    refine ite2 (fun z => ?_) (fun z => ?_)
    · rw [if_pos z] at k
      exact ⟨_, rfl, k _ H (Same.refl H) (.tup hp (.cons (.int n) (.cons (.int d) .nil)))⟩
    · rw [if_neg z] at k
      exact k _ H (Same.refl H) .non
theorem scPlus : FnScope ["a", "b"] ["a", "b"] (defScope sPlus) := ⟨rfl, rfl, rfl, by decide +kernel, rfl, by decide +kernel, by decide +kernel⟩
theorem ok_plus (F : Fun K "plus" "plus" sPlus f fd) (GL : FnOk P w K mg base CX0 2 fL fdL ["number"] spLim) (mL : mg "limited" = some (.ref fL)) (kL : PySem.W.keepIn K (.ref fL) = true) (bL : Binds K fdL ["number"] [])
    (GA : FnOk P w K mg base CX0 4 fA fdA ["a", "b"] (spBQ okAdd)) (mA : mg "add" = some (.ref fA)) (kA : PySem.W.keepIn K (.ref fA) = true) (bA : Binds K fdA ["a", "b"] []) : FnOk P w K mg base CX0 5 f fd ["a", "b"] (spTwo "plus") := by
  refine F.ok scPlus (fun vs H Q E h => ?_) (fun cdv A outer s H vs Q E hr h => ?_)
  · obtain ⟨x, y, a, b, kd, r, rfl, _⟩ := h
    rfl
  · obtain ⟨x, y, a, b, kd, r, rfl, hx, hy, va, vb, tw, nn, k⟩ := h
    refine ⟨_, pss_one (ps_ret (pe_call GL (hr.mono (by decide)) (by rfl) mL kL bL .nil pass0 (pa_cons (pe_call GA hr (by rfl) mA kA bA .nil pass0 (pa_cons (pv 0) (pa_cons (pv 1) pa_nil))) pa_nil))), ?_⟩
    have ek := twoW_num tw (by decide +kernel)
    have nn := nn.resolve_left (by decide +kernel)
    obtain ⟨an, ad, rfl, ra, l1, l2⟩ := va.isnum ek nn.1
    obtain ⟨bn, bd, rfl, rb, l3, l4⟩ := vb.isnum ek nn.2
    obtain ⟨p, rfl, hp⟩ := dh_pair hx
    obtain ⟨q, rfl, hq⟩ := dh_pair hy
    rw [two_num (by decide +kernel)] at k
    refine ⟨_, rfl, _, rfl, p, q, an, ad, bn, bd, rfl, hp, hq, ra, rb, sm_lim l1, sm_lim l2, sm_lim l3, sm_lim l4, fun c hc => ?_⟩
    refine ⟨c, _, _, rfl, upd_same, fun v H' s' hv => k v H' ((Same.upd hc).trans s') ?_⟩
    unfold arD
    rw [if_pos rfl]
    exact hv
theorem scMinus : FnScope ["a", "b"] ["a", "b"] (defScope sMinus) := ⟨rfl, rfl, rfl, by decide +kernel, rfl, by decide +kernel, by decide +kernel⟩
theorem ok_minus (F : Fun K "minus" "minus" sMinus f fd) (GL : FnOk P w K mg base CX0 2 fL fdL ["number"] spLim) (mL : mg "limited" = some (.ref fL)) (kL : PySem.W.keepIn K (.ref fL) = true) (bL : Binds K fdL ["number"] [])
    (GA : FnOk P w K mg base CX0 4 fA fdA ["a", "b"] (spBQ okSub)) (mA : mg "subtract" = some (.ref fA)) (kA : PySem.W.keepIn K (.ref fA) = true) (bA : Binds K fdA ["a", "b"] []) : FnOk P w K mg base CX0 5 f fd ["a", "b"] (spTwo "minus") := by
  refine F.ok scMinus (fun vs H Q E h => ?_) (fun cdv A outer s H vs Q E hr h => ?_)
  · obtain ⟨x, y, a, b, kd, r, rfl, _⟩ := h
    rfl
  · obtain ⟨x, y, a, b, kd, r, rfl, hx, hy, va, vb, tw, nn, k⟩ := h
    refine ⟨_, pss_one (ps_ret (pe_call GL (hr.mono (by decide)) (by rfl) mL kL bL .nil pass0 (pa_cons (pe_call GA hr (by rfl) mA kA bA .nil pass0 (pa_cons (pv 0) (pa_cons (pv 1) pa_nil))) pa_nil))), ?_⟩
    have ek := twoW_num tw (by decide +kernel)
    have nn := nn.resolve_left (by decide +kernel)
    obtain ⟨an, ad, rfl, ra, l1, l2⟩ := va.isnum ek nn.1
    obtain ⟨bn, bd, rfl, rb, l3, l4⟩ := vb.isnum ek nn.2
    obtain ⟨p, rfl, hp⟩ := dh_pair hx
    obtain ⟨q, rfl, hq⟩ := dh_pair hy
    rw [two_num (by decide +kernel)] at k
    refine ⟨_, rfl, _, rfl, p, q, an, ad, bn, bd, rfl, hp, hq, ra, rb, sm_lim l1, sm_lim l2, sm_lim l3, sm_lim l4, fun c hc => ?_⟩
    refine ⟨c, _, _, rfl, upd_same, fun v H' s' hv => k v H' ((Same.upd hc).trans s') ?_⟩
    unfold arD
    rw [if_neg (by decide +kernel), if_pos rfl]
    exact hv
theorem scTimes : FnScope ["a", "b"] ["a", "b"] (defScope sTimes) := ⟨rfl, rfl, rfl, by decide +kernel, rfl, by decide +kernel, by decide +kernel⟩
theorem ok_times (F : Fun K "times" "times" sTimes f fd) (GL : FnOk P w K mg base CX0 2 fL fdL ["number"] spLim) (mL : mg "limited" = some (.ref fL)) (kL : PySem.W.keepIn K (.ref fL) = true) (bL : Binds K fdL ["number"] [])
    (GA : FnOk P w K mg base CX0 4 fA fdA ["a", "b"] (spBQ okMul)) (mA : mg "multiply" = some (.ref fA)) (kA : PySem.W.keepIn K (.ref fA) = true) (bA : Binds K fdA ["a", "b"] []) : FnOk P w K mg base CX0 5 f fd ["a", "b"] (spTwo "times") := by
  refine F.ok scTimes (fun vs H Q E h => ?_) (fun cdv A outer s H vs Q E hr h => ?_)
  · obtain ⟨x, y, a, b, kd, r, rfl, _⟩ := h
    rfl
  · obtain ⟨x, y, a, b, kd, r, rfl, hx, hy, va, vb, tw, nn, k⟩ := h
    refine ⟨_, pss_one (ps_ret (pe_call GL (hr.mono (by decide)) (by rfl) mL kL bL .nil pass0 (pa_cons (pe_call GA hr (by rfl) mA kA bA .nil pass0 (pa_cons (pv 0) (pa_cons (pv 1) pa_nil))) pa_nil))), ?_⟩
    have ek := twoW_num tw (by decide +kernel)
    have nn := nn.resolve_left (by decide +kernel)
    obtain ⟨an, ad, rfl, ra, l1, l2⟩ := va.isnum ek nn.1
    obtain ⟨bn, bd, rfl, rb, l3, l4⟩ := vb.isnum ek nn.2
    obtain ⟨p, rfl, hp⟩ := dh_pair hx
    obtain ⟨q, rfl, hq⟩ := dh_pair hy
    rw [two_num (by decide +kernel)] at k
    refine ⟨_, rfl, _, rfl, p, q, an, ad, bn, bd, rfl, hp, hq, ra, rb, sm_lim l1, sm_lim l2, sm_lim l3, sm_lim l4, fun c hc => ?_⟩
    refine ⟨c, _, _, rfl, upd_same, fun v H' s' hv => k v H' ((Same.upd hc).trans s') ?_⟩
    unfold arD
    rw [if_neg (by decide +kernel), if_neg (by decide +kernel), if_pos rfl]
    exact hv
theorem scOver : FnScope ["a", "b"] ["a", "b"] (defScope sOver) := ⟨rfl, rfl, rfl, by decide +kernel, rfl, by decide +kernel, by decide +kernel⟩
theorem ok_over (F : Fun K "over" "over" sOver f fd) (GL : FnOk P w K mg base CX0 2 fL fdL ["number"] spLim) (mL : mg "limited" = some (.ref fL)) (kL : PySem.W.keepIn K (.ref fL) = true) (bL : Binds K fdL ["number"] [])
    (GA : FnOk P w K mg base CX0 4 fA fdA ["a", "b"] (spBQ okDiv)) (mA : mg "divide" = some (.ref fA)) (kA : PySem.W.keepIn K (.ref fA) = true) (bA : Binds K fdA ["a", "b"] []) : FnOk P w K mg base CX0 5 f fd ["a", "b"] (spTwo "over") := by
  refine F.ok scOver (fun vs H Q E h => ?_) (fun cdv A outer s H vs Q E hr h => ?_)
  · obtain ⟨x, y, a, b, kd, r, rfl, _⟩ := h
    rfl
  · obtain ⟨x, y, a, b, kd, r, rfl, hx, hy, va, vb, tw, nn, k⟩ := h
    refine ⟨_, pss_cons (ps_if (pt_cmpR op_eq (pe_ix ix_tup (pv 1) pe_int (fun _ _ => rfl)) pe_int (nomark _)) (pss_one (ps_ret pe_non)) pss_nil)
      (pss_one (ps_ret (pe_call GL (hr.mono (by decide)) (by rfl) mL kL bL .nil pass0 (pa_cons (pe_call GA hr (by rfl) mA kA bA .nil pass0 (pa_cons (pv 0) (pa_cons (pv 1) pa_nil))) pa_nil)))), ?_⟩
    have ek := twoW_num tw (by decide +kernel)
    have nn := nn.resolve_left (by decide +kernel)
    obtain ⟨an, ad, rfl, ra, l1, l2⟩ := va.isnum ek nn.1
    obtain ⟨bn, bd, rfl, rb, l3, l4⟩ := vb.isnum ek nn.2
    obtain ⟨p, rfl, hp⟩ := dh_pair hx
    obtain ⟨q, rfl, hq⟩ := dh_pair hy
    rw [two_num (by decide +kernel)] at k
    unfold arD at k
    rw [if_neg (by decide +kernel), if_neg (by decide +kernel), if_neg (by decide +kernel), if_pos rfl] at k
    refine ⟨_, rfl, q, _, _, _, rfl, rfl, SqT.of hq, rfl, rfl, _, rfl, ?_⟩
    by_cases z : bn = 0
    · rw [decide_eq_true (show V.int bn = V.int 0 by rw [z])]
      rw [if_pos z] at k
      exact iteT (k _ H (Same.refl H) .non)
    · rw [decide_eq_false (show ¬ V.int bn = V.int 0 from fun e => z (by injection e))]
      rw [if_neg z] at k
      refine iteF ⟨_, rfl, _, rfl, p, q, an, ad, bn, bd, rfl, hp, hq, ra, rb, sm_lim l1, sm_lim l2, sm_lim l3, sm_lim l4, z, fun c hc => ?_⟩
      exact ⟨c, _, _, rfl, upd_same, fun v H' s' hv => k v H' ((Same.upd hc).trans s') hv⟩
theorem scLess : FnScope ["a", "b"] ["a", "b"] (defScope sLess) := ⟨rfl, rfl, rfl, by decide +kernel, rfl, by decide +kernel, by decide +kernel⟩
theorem ok_less (F : Fun K "less" "less" sLess f fd)
    (GA : FnOk P w K mg base CX0 4 fA fdA ["a", "b"] (spBQ okCmp)) (mA : mg "compare" = some (.ref fA)) (kA : PySem.W.keepIn K (.ref fA) = true) (bA : Binds K fdA ["a", "b"] []) : FnOk P w K mg base CX0 5 f fd ["a", "b"] (spTwo "less") := by
  refine F.ok scLess (fun vs H Q E h => ?_) (fun cdv A outer s H vs Q E hr h => ?_)
  · obtain ⟨x, y, a, b, kd, r, rfl, _⟩ := h
    rfl
  · obtain ⟨x, y, a, b, kd, r, rfl, hx, hy, va, vb, tw, nn, k⟩ := h
    refine ⟨_, pss_one (ps_ret (pe_cmpR op_lt (pe_call GA hr (by rfl) mA kA bA .nil pass0 (pa_cons (pv 0) (pa_cons (pv 1) pa_nil))) pe_int (nomark _))), ?_⟩
    have ek := twoW_num tw (by decide +kernel)
    have nn := nn.resolve_left (by decide +kernel)
    obtain ⟨an, ad, rfl, ra, l1, l2⟩ := va.isnum ek nn.1
    obtain ⟨bn, bd, rfl, rb, l3, l4⟩ := vb.isnum ek nn.2
    obtain ⟨p, rfl, hp⟩ := dh_pair hx
    obtain ⟨q, rfl, hq⟩ := dh_pair hy
    rw [two_num (by decide +kernel)] at k
    unfold arD at k
    rw [if_neg (by decide +kernel), if_neg (by decide +kernel), if_neg (by decide +kernel), if_neg (by decide +kernel)] at k
    refine ⟨_, rfl, _, rfl, p, q, an, ad, bn, bd, rfl, hp, hq, ra, rb, sm_lim l1, sm_lim l2, sm_lim l3, sm_lim l4, _, _, rfl, rfl, ?_⟩
    have e : decide ((if an * bd < bn * ad then (-1 : Int) else if bn * ad < an * bd then 1 else 0) < 0) = decide (an * bd < bn * ad) := by
      by_cases z : an * bd < bn * ad
      · rw [if_pos z, decide_eq_true z]; rfl
      · rw [if_neg z, decide_eq_false z]
        split <;> rfl
    show Q (.bl (decide ((if an * bd < bn * ad then (-1 : Int) else if bn * ad < an * bd then 1 else 0) < 0))) H
    rw [e]
    exact k _ H (Same.refl H) (.bl _)
theorem scSame : FnScope ["a", "b"] ["a", "b"] (defScope sSame) := ⟨rfl, rfl, rfl, by decide +kernel, rfl, by decide +kernel, by decide +kernel⟩
theorem ok_same (F : Fun K "same" "same" sSame f fd) : FnOk P w K mg base CX0 5 f fd ["a", "b"] (spTwo "same") := by
  refine F.ok scSame (fun vs H Q E h => ?_) (fun cdv A outer s H vs Q E hr h => ?_)
  · obtain ⟨x, y, a, b, kd, r, rfl, _⟩ := h
    rfl
  · obtain ⟨x, y, a, b, kd, r, rfl, hx, hy, va, vb, tw, nn, k⟩ := h
    refine ⟨_, pss_one (ps_ret (pe_cmpR (op_eqD hr.units) (pv 0) (pv 1) (nomark _))), ?_⟩
    have nn := nn.resolve_left (by decide +kernel)
    have e : twoD "same" a b = .bool (PyData.eqv a b) := by
      unfold twoD
      rw [if_neg (by decide +kernel), if_neg (by decide +kernel), if_neg, if_pos rfl]
      rw [Bool.or_eq_true, isN_iff, isN_iff]
      exact fun z => z.elim nn.1 nn.2
    rw [e] at k
    exact ⟨_, rfl, _, rfl, a, b, hx.dp va.nd, hy.dp vb.nd, va.shp, vb.shp, k _ H (Same.refl H) (.bl _)⟩
theorem dh_isN {H : Hp} {x : V} {a : PyData} (h : Dh H x a) : decide (x = V.non) = isN a := by
  cases h <;> first | rfl | exact decide_eq_false nofun
theorem dh_isB {H : Hp} {x : V} {a : PyData} (h : Dh H x a) : decide (x = V.bl true) = isT a ∧ decide (x = V.bl false) = isF a := by
  cases h with
  | bl b => cases b <;> exact ⟨by decide +kernel, by decide +kernel⟩
  | _ => exact ⟨decide_eq_false nofun, decide_eq_false nofun⟩
theorem scBoth : FnScope ["a", "b"] ["a", "b"] (defScope sBoth) := ⟨rfl, rfl, rfl, by decide +kernel, rfl, by decide +kernel, by decide +kernel⟩
theorem ok_both (F : Fun K "both" "both" sBoth f fd) : FnOk P w K mg base CX0 5 f fd ["a", "b"] (spTwo "both") := by
  refine F.ok scBoth (fun vs H Q E h => ?_) (fun cdv A outer s H vs Q E hr h => ?_)
  · obtain ⟨x, y, a, b, kd, r, rfl, _⟩ := h
    rfl
  · obtain ⟨x, y, a, b, kd, r, rfl, hx, hy, va, vb, tw, nn, k⟩ := h
    refine ⟨_, pss_cons (ps_if (PW.pt (pw_or (pt_cmpR op_isBA (pv 0) pe_bl (nomark _)) (pw_or1 (pt_cmpR op_isBA (pv 1) pe_bl (nomark _))))) (pss_one (ps_ret pe_bl)) pss_nil)
      (pss_one (ps_ret (pe_ifExp (PW.pt (pw_or (pt_cmpR op_isN (pv 0) pe_non (nomark _)) (pw_or1 (pt_cmpR op_isN (pv 1) pe_non (nomark _))))) pe_non pe_bl))), ?_⟩
    have e : twoD "both" a b = bothD a b := by
      unfold twoD
      rw [if_pos rfl]
    rw [e] at k
    unfold bothD at k
    have go : ∀ v H', Same H H' → Dh H' v (if (isF a || isF b) = true then .bool false else if (isN a || isN b) = true then .none else .bool true) → Q v H' := k
    have last : (isF a || isF b) = false → (if (isN a || isN b) = true then Q .non H else Q (.bl true) H) := fun z => by
      rw [z, if_neg (by decide)] at go
      split
      · rename_i y
        rw [if_pos y] at go
        exact go _ H (Same.refl H) .non
      · rename_i y
        rw [if_neg y] at go
        exact go _ H (Same.refl H) (.bl _)
    have fst : (isF a || isF b) = true → Q (.bl false) H := fun z => by
      rw [if_pos z] at go
      exact go _ H (Same.refl H) (.bl _)
    refine ⟨_, rfl, false, rfl, _, rfl, ?_⟩
    rw [(dh_isB hx).2]
    cases q1 : isF a with
    | true => exact iteT (iteT (fst (by rw [q1]; rfl)))
    | false =>
      refine iteF ⟨_, rfl, false, rfl, _, rfl, ?_⟩
      rw [(dh_isB hy).2]
      cases q2 : isF b with
      | true => exact iteT (fst (by rw [q1, q2]; rfl))
      | false =>
        have l := last (by rw [q1, q2]; rfl)
        refine iteF ⟨_, rfl, rfl, _, rfl, ?_⟩
        rw [dh_isN hx]
        cases r1 : isN a with
        | true =>
          rw [r1, Bool.true_or, if_pos rfl] at l
          exact iteT (iteT l)
        | false =>
          refine iteF ⟨_, rfl, rfl, _, rfl, ?_⟩
          rw [dh_isN hy]
          rw [r1, Bool.false_or] at l
          cases r2 : isN b with
          | true =>
            rw [r2, if_pos rfl] at l
            exact iteT l
          | false =>
            rw [r2, if_neg (by decide)] at l
            exact iteF l
theorem scEither : FnScope ["a", "b"] ["a", "b"] (defScope sEither) := ⟨rfl, rfl, rfl, by decide +kernel, rfl, by decide +kernel, by decide +kernel⟩
theorem ok_either (F : Fun K "either" "either" sEither f fd) : FnOk P w K mg base CX0 5 f fd ["a", "b"] (spTwo "either") := by
  refine F.ok scEither (fun vs H Q E h => ?_) (fun cdv A outer s H vs Q E hr h => ?_)
  · obtain ⟨x, y, a, b, kd, r, rfl, _⟩ := h
    rfl
  · obtain ⟨x, y, a, b, kd, r, rfl, hx, hy, va, vb, tw, nn, k⟩ := h
    refine ⟨_, pss_cons (ps_if (PW.pt (pw_or (pt_cmpR op_isBA (pv 0) pe_bl (nomark _)) (pw_or1 (pt_cmpR op_isBA (pv 1) pe_bl (nomark _))))) (pss_one (ps_ret pe_bl)) pss_nil)
      (pss_one (ps_ret (pe_ifExp (PW.pt (pw_or (pt_cmpR op_isN (pv 0) pe_non (nomark _)) (pw_or1 (pt_cmpR op_isN (pv 1) pe_non (nomark _))))) pe_non pe_bl))), ?_⟩
    have e : twoD "either" a b = eithD a b := by
      unfold twoD
      rw [if_neg (by decide +kernel), if_pos rfl]
    rw [e] at k
    unfold eithD at k
    have go : ∀ v H', Same H H' → Dh H' v (if (isT a || isT b) = true then .bool true else if (isN a || isN b) = true then .none else .bool false) → Q v H' := k
    have last : (isT a || isT b) = false → (if (isN a || isN b) = true then Q .non H else Q (.bl false) H) := fun z => by
      rw [z, if_neg (by decide)] at go
      split
      · rename_i y
        rw [if_pos y] at go
        exact go _ H (Same.refl H) .non
      · rename_i y
        rw [if_neg y] at go
        exact go _ H (Same.refl H) (.bl _)
    have fst : (isT a || isT b) = true → Q (.bl true) H := fun z => by
      rw [if_pos z] at go
      exact go _ H (Same.refl H) (.bl _)
    refine ⟨_, rfl, true, rfl, _, rfl, ?_⟩
    rw [(dh_isB hx).1]
    cases q1 : isT a with
    | true => exact iteT (iteT (fst (by rw [q1]; rfl)))
    | false =>
      refine iteF ⟨_, rfl, true, rfl, _, rfl, ?_⟩
      rw [(dh_isB hy).1]
      cases q2 : isT b with
      | true => exact iteT (fst (by rw [q1, q2]; rfl))
      | false =>
        have l := last (by rw [q1, q2]; rfl)
        refine iteF ⟨_, rfl, rfl, _, rfl, ?_⟩
        rw [dh_isN hx]
        cases r1 : isN a with
        | true =>
          rw [r1, Bool.true_or, if_pos rfl] at l
          exact iteT (iteT l)
        | false =>
          refine iteF ⟨_, rfl, rfl, _, rfl, ?_⟩
          rw [dh_isN hy]
          rw [r1, Bool.false_or] at l
          cases r2 : isN b with
          | true =>
            rw [r2, if_pos rfl] at l
            exact iteT l
          | false =>
            rw [r2, if_neg (by decide)] at l
            exact iteF l
end
end K10
set_option Elab.async false
set_option linter.all false
set_option maxRecDepth 100000
set_option maxHeartbeats 4000000
namespace K10
open PySem PySem.Spec PyProof.Rows L2 Lc
abbrev sWt : Stmt := top 31
abbrev sWo : Stmt := top 30
def StrictW (x : Str) : Prop := x = "plus" ∨ x = "minus" ∨ x = "times" ∨ x = "over" ∨ x = "less" ∨ x = "same"
def LenW (x : Str) : Prop := x = "both" ∨ x = "either"
structure TwoA (P : Program) (w : World) (K : PySem.W.Frag) (mg : Str → Option Value) (base : Heap) (sA lA : Addr) : Prop where
  gs : mg "STRICT" = some (.ref sA)
  gl : mg "LENIENT" = some (.ref lA)
  dl : ∃ es n, KDict K w lA es n
  st : ∀ x, StrictW x → PySem.W.nsIn K lA x = some none ∧ ∃ g, KDct K w sA x (.ref g) ∧ Held P w K mg base 5 g (spTwo x)
  le : ∀ x, LenW x → ∃ g, KDct K w lA x (.ref g) ∧ PySem.W.nsIn K lA x = some (some (.ref g)) ∧ Held P w K mg base 5 g (spTwo x)
theorem twoW_or {w k r : Str} (h : TwoW w k r) : LenW w ∨ (StrictW w ∧ ¬ LenW w) := by
  unfold LenW StrictW
  rcases h with ⟨rfl | rfl | rfl | rfl, _⟩ | ⟨rfl, _⟩ | ⟨rfl, _⟩ | ⟨rfl | rfl, _⟩ <;> decide +kernel
def spWt : Sp := fun vs H Q _ => ∃ (wd : Str) (x y : V) (a b : PyData) (k r : Str), vs = [.str wd, x, y] ∧ Dh H x a ∧ Dh H y b ∧ Vk k a ∧ Vk k b ∧ TwoW wd k r ∧ ∀ v H', Same H H' → Dh H' v (twoD wd a b) → Q v H'
section
variable {P : Program} {w : World} {K : PySem.W.Frag} {mg : Str → Option Value} {base : Heap} {f sA lA : Addr} {fd : FuncData}
theorem scWt : FnScope ["word", "a", "b", "weigh", "work"] ["word", "a", "b"] (defScope sWt) := ⟨rfl, rfl, rfl, by decide +kernel, rfl, by decide +kernel, by decide +kernel⟩
theorem ok_wt (F : Fun K "worth_of_two" "worth_of_two" sWt f fd) (A2 : TwoA P w K mg base sA lA) : FnOk P w K mg base CX0 6 f fd ["word", "a", "b"] spWt := by
  refine F.ok scWt (fun vs H Q E h => ?_) (fun cdv A outer s H vs Q E hr h => ?_)
  · obtain ⟨wd, x, y, a, b, kd, r, rfl, _⟩ := h
    rfl
  · obtain ⟨wd, x, y, a, b, kd, r, rfl, hx, hy, va, vb, tw, k⟩ := h
    obtain ⟨es, n, KD⟩ := A2.dl
    obtain ⟨g, hg⟩ : ∃ g, Held P w K mg base 5 g (spTwo wd) ∧ ((LenW wd ∧ KDct K w lA wd (.ref g) ∧ PySem.W.nsIn K lA wd = some (some (.ref g))) ∨ (StrictW wd ∧ ¬ LenW wd ∧ PySem.W.nsIn K lA wd = some none ∧ KDct K w sA wd (.ref g))) := by
      rcases twoW_or tw with l | ⟨l, n⟩
      · obtain ⟨g, h1, h2, h3⟩ := A2.le wd l
        exact ⟨g, h3, .inl ⟨l, h1, h2⟩⟩
      · obtain ⟨h0, g, h1, h3⟩ := A2.st wd l
        exact ⟨g, h3, .inr ⟨l, n, h0, h1⟩⟩
    obtain ⟨hH, hg⟩ := hg
    have AS : ∀ f sp, (fun q => if q = g then some (spTwo wd) else none : Addr → Option Sp) f = some sp → Held P w K mg base 5 f sp := fun f sp e => by
      dsimp only at e
      by_cases z : f = g
      · subst z
        rw [if_pos rfl] at e
        obtain rfl := Option.some.inj e
        exact hH
      · rw [if_neg z] at e
        cases e
    refine ⟨_, pss_cons (ps_if (pt_cmpR (op_in_kd KD) (pv 0) (pe_glob (v := .ref lA) (by rfl) A2.gl rfl) (by rfl)) (pss_cons (ps_set (i := 3) scWt.nd rfl (Or.inl rfl) (pe_ix ix_kdict (pe_glob (v := .ref lA) (by rfl) A2.gl rfl) (pv 0) (fun _ _ => rfl)))
          (pss_one (ps_ret (pe_callA (i := 3) AS hr rfl (Or.inl rfl) (pa_cons (pv 1) (pa_cons (pv 2) pa_nil)))))) pss_nil)
      (pss_cons (ps_if (PW.pt (pw_or (pt_cmpR op_isN (pv 1) pe_non (nomark _)) (pw_or1 (pt_cmpR op_isN (pv 2) pe_non (nomark _))))) (pss_one (ps_ret pe_non)) pss_nil)
      (pss_cons (ps_set (i := 4) scWt.nd rfl (Or.inl rfl) (pe_ix ix_kdict (pe_glob (v := .ref sA) (by rfl) A2.gs rfl) (pv 0) (fun _ _ => rfl)))
      (pss_one (ps_ret (pe_callA (i := 4) AS hr rfl (Or.inl rfl) (pa_cons (pv 1) (pa_cons (pv 2) pa_nil))))))), ?_⟩
    rcases hg with ⟨l, h1, h2⟩ | ⟨l, nl, h2, h1⟩
    · refine ⟨_, rfl, wd, _, rfl, rfl, h2, _, rfl, iteT ⟨_, rfl, lA, wd, _, rfl, rfl, h1, ?_⟩⟩
      exact ⟨g, spTwo wd, rfl, if_pos rfl, _, rfl, _, rfl, x, y, a, b, kd, r, rfl, hx, hy, va, vb, tw, .inl l, k⟩
    · refine ⟨_, rfl, wd, _, rfl, rfl, h2, _, rfl, iteF ?_⟩
      have e : (isN a || isN b) = true → twoD wd a b = .none := fun z => by
        unfold twoD
        rw [if_neg (fun q => nl (.inl q)), if_neg (fun q => nl (.inr q)), if_pos z]
      refine ⟨_, rfl, rfl, _, rfl, ?_⟩
      rw [dh_isN hx]
      cases r1 : isN a with
      | true =>
        rw [e (by rw [r1]; rfl)] at k
        exact iteT (iteT (k _ H (Same.refl H) .non))
      | false =>
        refine iteF ⟨_, rfl, rfl, _, rfl, ?_⟩
        rw [dh_isN hy]
        cases r2 : isN b with
        | true =>
          rw [e (by rw [r1, r2]; rfl)] at k
          exact iteT (k _ H (Same.refl H) .non)
        | false =>
          have n1 : a ≠ .none := fun z => by rw [z] at r1; cases r1
          have n2 : b ≠ .none := fun z => by rw [z] at r2; cases r2
          refine iteF ⟨_, rfl, sA, wd, _, rfl, rfl, h1, ?_⟩
          exact ⟨g, spTwo wd, rfl, if_pos rfl, _, rfl, _, rfl, x, y, a, b, kd, r, rfl, hx, hy, va, vb, tw, .inr ⟨n1, n2⟩, k⟩
end
theorem Vk.noL {k : Str} {d : PyData} (h : Vk k d) : noL d = true := by cases h <;> rfl
/-- the dict of a row -/
def RowH (H : Hp) (kvs : List (Key × V)) (row : List (Str × PyData)) : Prop := ∀ z d, row.lookup z = some d → ∃ v, valV kvs (Sum.inr z : Key) = some v ∧ Dh H v d
theorem RowH.same {H H' : Hp} {kvs : List (Key × V)} {row : List (Str × PyData)} (h : RowH H kvs row) (s : Same H H') : RowH H' kvs row := fun z d e => by
  obtain ⟨v, h1, h2⟩ := h z d e
  exact ⟨v, h1, h2.same s⟩
def spWo (n : Nat) : Sp := fun vs H Q _ => ∃ (g : Addr) (x : V) (kvs : List (Key × V)) (row : List (Str × PyData)) (ps : List (Str × Str)) (d : PyData) (k : Str), vs = [.ref g, x] ∧ H g = some (.dK kvs) ∧ RowH H kvs row ∧ RowT ps row ∧ Dh H x d ∧ Xp ps n k d ∧ ∀ v H', Same H H' → Dh H' v (evD row d) → Q v H'
theorem opk_evs {ps : List (Str × Str)} {row : List (Str × PyData)} (R : RowT ps row) {n : Nat} {ks : List Str} {os : List PyData} (h : Xps ps n ks os) : ∀ (i : Nat) (k : Str), ks[i]? = some k → ∃ d, (evs row os)[i]? = some d ∧ Vk k d := by
  induction h with
  | nil => intro i k e; simp at e
  | cons h r ih =>
    intro i k e
    rw [evs]
    match i, e with
    | 0, e => injection e with e; subst e; exact ⟨_, rfl, ev_vk R h⟩
    | i + 1, e => exact ih i k (by simpa using e)
section
variable {P : Program} {w : World} {K : PySem.W.Frag} {mg : Str → Option Value} {base : Heap} {f fT : Addr} {fd fdT : FuncData}
abbrev nWo : List Str := ["row", "part", "word", "operands", "operand"]
theorem scWo : FnScope nWo ["row", "part"] (defScope sWo) := ⟨rfl, rfl, rfl, by decide +kernel, rfl, by decide +kernel, by decide +kernel⟩
abbrev teWo (n : Nat) : TE := tCall (spWo n) [] E0 (tCons (tVar 0) (tCons (tVar 4) tNil))
theorem ok_wo1 (n : Nat) (F : Fun K "worth" "worth" sWo f fd) (T : Bt mg)
    (GT : FnOk P w K mg base CX0 6 fT fdT ["word", "a", "b"] spWt) (mT : mg "worth_of_two" = some (.ref fT)) (kT : PySem.W.keepIn K (.ref fT) = true) (bT : Binds K fdT ["word", "a", "b"] [])
    (GX : FnOk P w K mg base CX0 (6 + n) f fd ["row", "part"] (spWo n)) (mX : mg "worth" = some (.ref f)) (kX : PySem.W.keepIn K (.ref f) = true) (bX : Binds K fd ["row", "part"] []) : FnOk P w K mg base CX0 (6 + n + 1) f fd ["row", "part"] (spWo (n + 1)) := by
  refine F.ok scWo (fun vs H Q E h => ?_) (fun cdv A outer s H vs Q E hr h => ?_)
  · obtain ⟨g, x, kvs, row, ps, d, k, rfl, _⟩ := h
    rfl
  · obtain ⟨g, x, kvs, row, ps, d, kd, rfl, hg, rh, rt, hd, xp, k⟩ := h
    have hr6 : Room 6 _ := hr.mono (by omega)
    refine ⟨_, pss_cons (ps_set (i := 2) scWo.nd rfl (Or.inl rfl) (pe_ix ix_tup (pv 1) pe_int (fun _ _ => rfl)))
      (pss_cons (ps_if (pt_cmpR op_eq (pv 2) pe_str (nomark _)) (pss_one (ps_ret (pe_dget (hu_of hr) (pv 0) (pe_ix ix_tup (pv 1) pe_int (fun _ _ => rfl)) (fun _ _ => rfl)))) pss_nil)
      (pss_cons (ps_if (pt_cmpR op_eq (pv 2) pe_str (nomark _)) (pss_one (ps_ret (pe_ix ix_tup (pv 1) pe_int (fun _ _ => rfl)))) pss_nil)
      (pss_cons (ps_setLc (i := 3) (own := [("operand", 4)]) (g := gName 4) (tt := tYes) (te := teWo n) (by rfl) scWo.nd rfl rfl (sw_true rfl rfl rfl (by decide +kernel)) (pi_tup (pe_slice sl_tup (pv 1) (po_some pe_int) po_none)) (blkOk_by (own := [("operand", 4)]) (N := nWo) (sc := defScope sWo) (by decide +kernel))
          (fun _ _ _ _ _ => pg_name (i := 4) scWo.nd rfl (.inl rfl)) (fun _ _ _ _ _ => pts_nil) (fun _ _ _ _ _ => pe_call GX hr (by rfl) mX kX bX .nil pass0 (pa_cons (pv 0) (pa_cons (pv 4) pa_nil))))
      (pss_cons (ps_if (pt_cmpR op_eq (pe_callB call_len_seq (by rfl) T.len PySem.boot_len (pa_cons (pv 3) pa_nil)) pe_int (nomark _)) (pss_one (ps_ret (pe_call GT hr6 (by rfl) mT kT bT .nil pass0 (pa_cons (pv 2) (pa_cons (pe_ix ix_list (pv 3) pe_int (fun _ _ => rfl)) (pa_cons (pe_ix ix_list (pv 3) pe_int (fun _ _ => rfl)) pa_nil)))))) pss_nil)
      (pss_cons (ps_if (pt_cmpR op_eq (pv 2) pe_str (nomark _)) (pss_one (ps_ret (pe_cmpR op_isN (pe_ix ix_list (pv 3) pe_int (fun _ _ => rfl)) pe_non (nomark _)))) pss_nil)
      (pss_cons (ps_if (pt_cmpR op_isN (pe_ix ix_list (pv 3) pe_int (fun _ _ => rfl)) pe_non (nomark _)) (pss_one (ps_ret pe_non)) pss_nil)
      (pss_cons (ps_if (pt_cmpR op_eq (pv 2) pe_str (nomark _)) (pss_one (ps_ret (pe_cmpR op_isBA (pe_ix ix_list (pv 3) pe_int (fun _ _ => rfl)) pe_bl (nomark _)))) pss_nil)
      (pss_one (ps_ret (pe_ifExp (pt_cmpR op_isBA (pe_ix ix_list (pv 3) pe_int (fun _ _ => rfl)) pe_bl (nomark _)) (pe_ix ix_list (pv 3) pe_int (fun _ _ => rfl)) (pe_ix ix_list (pv 3) pe_int (fun _ _ => rfl)))))))))))), ?_⟩
    have sE : ∀ (a b : Str), decide (V.str a = V.str b) = decide (a = b) := fun a b => decide_eq_decide.mpr ⟨fun e => by injection e, fun e => by rw [e]⟩
    obtain ⟨ds0, rfl⟩ : ∃ ds0, d = .tuple ds0 := by rcases xp.ops2 with ⟨_, _, _, e, _⟩ | ⟨_, _, _, _, e, _⟩ <;> exact ⟨_, e⟩
    cases hd with
    | @tup a ys0 _ ea hs0 =>
    rcases xp.ops2 with ⟨wd, x, hw, ed, lf⟩ | ⟨wd, os, ks, hw, ed, ok, xs⟩
    · injection ed with ed
      subst ed
      cases hs0 with
      | cons h1 r1 =>
      cases h1
      cases r1 with
      | @cons v2 _ _ _ h2 r2 =>
      cases r2
      refine ⟨_, rfl, a, _, _, .str wd, rfl, rfl, SqT.of ea, at_zero, ?_⟩
      refine ⟨_, rfl, rfl, _, rfl, ?_⟩
      rw [sE]
      rcases lf with ⟨rfl, z, rfl, hz⟩ | ⟨rfl, _, _, _⟩
      · rw [decide_eq_true rfl]
        cases h2
        obtain ⟨dv, e1, _⟩ := rt z kd hz
        obtain ⟨vv, e2, e3⟩ := rh z dv e1
        refine iteT ⟨_, rfl, _, rfl, a, _, _, .str z, rfl, rfl, SqT.of ea, rfl, g, vv, rfl, ?_, ?_⟩
        · have q := DGet.k (k := (Sum.inr z : Key)) hg
          rw [e2] at q
          exact q
        · rw [ev_col, e1] at k
          exact k vv H (Same.refl H) e3
      · rw [decide_eq_false (show ("value" : Str) ≠ "column" by decide +kernel)]
        refine iteF ⟨_, rfl, rfl, _, rfl, ?_⟩
        rw [decide_eq_true rfl]
        rw [ev_val] at k
        exact iteT ⟨_, rfl, a, _, _, v2, rfl, rfl, SqT.of ea, rfl, k v2 H (Same.refl H) h2⟩
    · injection ed with ed
      subst ed
      cases hs0 with
      | @cons _ ys _ _ h1 r1 =>
      cases h1
      have ly := r1.len
      have lk := xs.len
      rw [ev_op hw] at k
      refine ⟨_, rfl, a, _, _, .str wd, rfl, rfl, SqT.of ea, at_zero, ?_⟩
      refine ⟨_, rfl, rfl, _, rfl, ?_⟩
      rw [sE, decide_eq_false (fun z => hw (.inl z))]
      refine iteF ⟨_, rfl, rfl, _, rfl, ?_⟩
      rw [sE, decide_eq_false (fun z => hw (.inr z))]
      refine iteF ⟨_, rfl, 1, rfl, a, _, rfl, SqT.of ea, tail_not, fun p hp => ?_⟩
      rw [cut_tail]
      have zp := Same.upd (o := .tup ys) hp
      have hp2 : upd H p (.tup ys) p = some (.tup ys) := upd_same
      generalize upd H p (.tup ys) = H2 at zp hp2 ⊢
      have l3 : os.length ≤ 3 := by obtain ⟨_, _, _, l3⟩ := ok.ne; omega
      refine ⟨p, rfl, ⟨_, SqT.of hp2⟩, fun D hD => lc_tup (K := K) (a := p) (xs := ys) (fun i H' => ∃ us : List V, H' D = some (.lst us) ∧ DhAll H' us ((evs row os).take i) ∧ Same H2 H') ⟨[], upd_same, by rw [List.take_zero]; exact .nil, Same.upd hD⟩ (fun i H' _ pr => by obtain ⟨_, _, _, s⟩ := pr; exact SqT.of (s _ _ hp2)) ?_ ?_⟩
      · rintro i x H3 hx ⟨us, hD3, hu3, s3⟩
        obtain ⟨o, eo, dh⟩ := r1.get _ _ hx
        obtain ⟨kk, ekk, xo⟩ := xs.get i o eo
        have s03 := zp.trans s3
        refine ⟨rfl, ?_⟩
        change teWo n _ _ _
        refine ⟨_, rfl, _, rfl, g, x, kvs, row, ps, o, kk, rfl, s03 _ _ hg, rh.same s03, rt, dh.same s03, xo, fun v H4 s4 hv => ⟨us, s4 _ _ hD3, ?_, us ++ [v], upd_same, ?_, fun b o' eb => by rw [upd_ne (ne_of_none eb hD)]; exact s4 b o' (s3 b o' eb)⟩⟩
        · have := hu3.len
          rw [List.length_take] at this
          exact Nat.lt_of_le_of_lt (show _ ≤ 3 by rw [this, evs_len]; omega) (by decide)
        · have nl : ∀ {H5 : Hp} {v : V} {d : PyData} {kq : Str}, Dh H5 v d → Vk kq d → ∀ {o : HO}, H5 D = some (.lst us) → Dh (upd H5 D o) v d := fun {H5 v d kq} h5 vk {o} e5 => h5.t (SameT.lst e5) vk.noL
          have hu4 := DhAll.same s4 hu3
          have ee := evs_get (row := row) eo
          rw [List.take_add_one, ee]
          refine DhAll.append ?_ (.cons (nl hv (ev_vk rt xo) (s4 _ _ hD3)) .nil)
          refine DhAll.t (SameT.lst (s4 _ _ hD3)) hu4 (noLs_all.mpr fun d hd => ?_)
          obtain ⟨j, hj⟩ := List.mem_iff_getElem?.mp (List.mem_of_mem_take hd)
          have hlt : j < os.length := by
            have := (List.getElem?_eq_some_iff.mp hj).1
            rwa [evs_len] at this
          obtain ⟨kj, ej, xj⟩ := xs.get j _ (List.getElem?_eq_getElem hlt)
          have e2 := evs_get (row := row) (List.getElem?_eq_getElem hlt)
          rw [hj] at e2
          rw [Option.some.inj e2]
          exact (ev_vk rt xj).noL
      · rintro H3 ⟨us, hD3, hu3, s3⟩
        rw [ly, ← evs_len (row := row) (ds := os), List.take_length] at hu3
        have s03 := zp.trans s3
        have vks := opk_evs rt xs
        cases ok with
        | @two wd' kq rq hw2 =>
          cases xs with
          | @cons _ _ o1 _ _ xr =>
          cases xr with
          | @cons _ _ o2 _ _ xr =>
          cases xr
          rw [evs, evs, evs] at hu3 vks k
          cases hu3 with
          | @cons u1 _ _ _ g1 q1 =>
          cases q1 with
          | @cons u2 _ _ _ g2 q2 =>
          cases q2
          obtain ⟨d1, e1, w1⟩ := vks 0 _ rfl
          obtain ⟨d2, e2, w2⟩ := vks 1 _ rfl
          obtain rfl := Option.some.inj e1
          obtain rfl := Option.some.inj e2
          refine ⟨_, rfl, D, _, rfl, .inl (SqL.of hD3), rfl, _, rfl, iteT ?_⟩
          exact ⟨_, rfl, _, rfl, D, _, _, u1, rfl, rfl, SqL.of hD3, rfl, _, rfl, D, _, _, u2, rfl, rfl, SqL.of hD3, rfl, wd, u1, u2, _, _, _, _, rfl, g1, g2, w1, w2, hw2, fun v H4 s4 hv => k v H4 (s03.trans s4) hv⟩
        | @one wd' kq rq hw1 =>
          cases xs with
          | @cons _ _ o1 _ _ xr =>
          cases xr
          rw [evs, evs] at hu3 vks k
          cases hu3 with
          | @cons u1 _ _ _ g1 q1 =>
          cases q1
          have kk : ∀ v H', Same H H' → Dh H' v (if wd = "missing" then .bool (isN (evD row o1)) else if isN (evD row o1) = true then .none else if wd = "not" then .bool (isF (evD row o1)) else .none) → Q v H' := k
          refine ⟨_, rfl, D, _, rfl, .inl (SqL.of hD3), rfl, _, rfl, iteF ?_⟩
          refine ⟨_, rfl, rfl, _, rfl, ?_⟩
          rw [sE]
          by_cases m : wd = "missing"
          · rw [decide_eq_true m]
            rw [if_pos m] at kk
            refine iteT ⟨_, rfl, D, _, _, u1, rfl, rfl, SqL.of hD3, rfl, rfl, ?_⟩
            rw [dh_isN g1]
            exact kk _ H3 s03 (.bl _)
          · rw [decide_eq_false m]
            rw [if_neg m] at kk
            have nt : wd = "not" := (not_two hw1).resolve_left m
            rw [if_pos nt] at kk
            refine iteF ⟨_, rfl, D, _, _, u1, rfl, rfl, SqL.of hD3, rfl, rfl, _, rfl, ?_⟩
            rw [dh_isN g1]
            refine ite2 (fun z => ?_) (fun z => ?_)
            · rw [if_pos z] at kk
              exact kk _ H3 s03 .non
            · rw [if_neg z] at kk
              refine ⟨_, rfl, rfl, _, rfl, ?_⟩
              rw [sE, decide_eq_true nt]
              refine iteT ⟨_, rfl, D, _, _, u1, rfl, rfl, SqL.of hD3, rfl, false, rfl, ?_⟩
              rw [(dh_isB g1).2]
              exact kk _ H3 s03 (.bl _)
        | iff =>
          cases xs with
          | @cons _ _ o1 _ _ xr =>
          cases xr with
          | @cons _ _ o2 _ _ xr =>
          cases xr with
          | @cons _ _ o3 _ _ xr =>
          cases xr
          rw [evs, evs, evs, evs] at hu3 vks k
          cases hu3 with
          | @cons u1 _ _ _ g1 q1 =>
          cases q1 with
          | @cons u2 _ _ _ g2 q2 =>
          cases q2 with
          | @cons u3 _ _ _ g3 q3 =>
          cases q3
          have kk : ∀ v H', Same H H' → Dh H' v (if ("if" : Str) = "missing" then .bool (isN (evD row o1)) else if isN (evD row o1) = true then .none else if ("if" : Str) = "not" then .bool (isF (evD row o1)) else if isT (evD row o1) = true then evD row o2 else evD row o3) → Q v H' := k
          rw [if_neg (by decide +kernel), if_neg (show ¬ ("if" : Str) = "not" by decide +kernel)] at kk
          refine ⟨_, rfl, D, _, rfl, .inl (SqL.of hD3), rfl, _, rfl, iteF ?_⟩
          refine ⟨_, rfl, rfl, _, rfl, ?_⟩
          rw [sE, decide_eq_false (by decide +kernel)]
          refine iteF ⟨_, rfl, D, _, _, u1, rfl, rfl, SqL.of hD3, rfl, rfl, _, rfl, ?_⟩
          rw [dh_isN g1]
          refine ite2 (fun z => ?_) (fun z => ?_)
          · rw [if_pos z] at kk
            exact kk _ H3 s03 .non
          · rw [if_neg z] at kk
            refine ⟨_, rfl, rfl, _, rfl, ?_⟩
            rw [sE, decide_eq_false (by decide +kernel)]
            refine iteF ⟨_, rfl, D, _, _, u1, rfl, rfl, SqL.of hD3, rfl, true, rfl, _, rfl, ?_⟩
            rw [(dh_isB g1).1]
            refine ite2 (fun z => ?_) (fun z => ?_)
            · rw [if_pos z] at kk
              exact ⟨_, rfl, D, _, _, u2, rfl, rfl, SqL.of hD3, rfl, kk _ H3 s03 g2⟩
            · rw [if_neg z] at kk
              exact ⟨_, rfl, D, _, _, u3, rfl, rfl, SqL.of hD3, rfl, kk _ H3 s03 g3⟩
theorem ok_wo (F : Fun K "worth" "worth" sWo f fd) (T : Bt mg)
    (GT : FnOk P w K mg base CX0 6 fT fdT ["word", "a", "b"] spWt) (mT : mg "worth_of_two" = some (.ref fT)) (kT : PySem.W.keepIn K (.ref fT) = true) (bT : Binds K fdT ["word", "a", "b"] [])
    (mX : mg "worth" = some (.ref f)) (kX : PySem.W.keepIn K (.ref f) = true) (bX : Binds K fd ["row", "part"] []) : ∀ n : Nat, FnOk P w K mg base CX0 (6 + n) f fd ["row", "part"] (spWo n)
  | 0 => fn_weak (sp' := fun _ _ _ _ => False) (fun _ _ _ _ ⟨_, _, _, _, _, _, _, _, _, _, _, _, xp, _⟩ => xp.zero.elim) fn_none
  | n + 1 => ok_wo1 n F T GT mT kT bT (ok_wo F T GT mT kT bT mX kX bX n) mX kX bX
end
end K10
set_option Elab.async false
set_option linter.all false
set_option maxRecDepth 100000
set_option maxHeartbeats 4000000
namespace K10
open PySem PySem.Spec PyProof.Rows L2 Lc
abbrev sEv : Stmt := top 29
theorem take_new : ∀ {ps : List (Str × Str)} {i : Nat} {p : Str × Str}, (ps.map (·.1)).Nodup → ps[i]? = some p → ∀ q ∈ ps.take i, q.1 ≠ p.1
  | [], i, p, _, e => by simp at e
  | a :: r, 0, p, _, _ => by simp
  | a :: r, i + 1, p, nd, e => by
    have e' : r[i]? = some p := by simpa using e
    rw [List.map_cons, List.nodup_cons] at nd
    intro q hq
    rw [List.take_succ_cons] at hq
    rcases List.mem_cons.mp hq with rfl | hq
    · exact fun z => nd.1 (List.mem_map.mpr ⟨p, List.mem_of_getElem? e', z.symm⟩)
    · exact take_new nd.2 e' q hq
theorem Vks.noL : ∀ {ks : List Str} {ds : List PyData}, Vks ks ds → ∀ d ∈ ds, noL d = true
  | _, _, .nil => nofun
  | _, _, .cons h r => fun d hd => by
    rcases List.mem_cons.mp hd with rfl | hd
    · exact h.noL
    · exact r.noL d hd
def rowOf (ps : List (Str × Str)) (ds : List PyData) : List (Str × PyData) := (ps.map (·.1)).zip ds
theorem look_new {row : List (Str × PyData)} {z : Str} (h : ∀ q ∈ row, q.1 ≠ z) : row.lookup z = none := by
  induction row with
  | nil => rfl
  | cons a r ih =>
    obtain ⟨a1, a2⟩ := a
    have n : (z == a1) = false := by
      rw [beq_eq_false_iff_ne]
      exact fun e => h _ List.mem_cons_self e.symm
    rw [List.lookup_cons, n]
    exact ih fun q hq => h q (List.mem_cons_of_mem _ hq)
theorem rowH_put {H : Hp} {kvs : List (Key × V)} {row : List (Str × PyData)} {z : Str} {v : V} {d : PyData} (new : ∀ q ∈ row, q.1 ≠ z) (h : RowH H kvs row) (hv : Dh H v d) : RowH H (putK kvs (Sum.inr z : Key) v) (row ++ [(z, d)]) := by
  intro z' d' e
  rw [List.lookup_append] at e
  rw [valV_put]
  by_cases q : z' = z
  · subst q
    rw [look_new new] at e
    have e : ([(z', d)] : List (Str × PyData)).lookup z' = some d' := e
    rw [List.lookup_cons, beq_self_eq_true] at e
    obtain rfl := Option.some.inj e
    exact ⟨v, if_pos rfl, hv⟩
  · rw [if_neg (fun y => q (by injection y))]
    cases l : row.lookup z' with
    | some d0 =>
      rw [l] at e
      obtain rfl : d0 = d' := Option.some.inj e
      exact h z' _ l
    | none =>
      rw [l] at e
      have e : ([(z, d)] : List (Str × PyData)).lookup z' = some d' := e
      rw [List.lookup_cons, beq_eq_false_iff_ne.mpr q] at e
      cases e
theorem rowT_of : ∀ {ps : List (Str × Str)} {ds : List PyData}, (ps.map (·.1)).Nodup → Vks (ps.map (·.2)) ds → RowT ps (rowOf ps ds)
  | [], _, _, _ => nofun
  | (z, k) :: r, ds, nd, h => by
    rw [List.map_cons] at h nd
    rw [List.nodup_cons] at nd
    cases h with
    | @cons _ d _ ds' hd hr =>
    intro z' k' hm
    show ∃ d', ((z, d) :: rowOf r ds').lookup z' = some d' ∧ Vk k' d'
    rw [List.lookup_cons]
    rcases List.mem_cons.mp hm with e | hm
    · injection e with e1 e2
      subst e1 e2
      rw [beq_self_eq_true]
      exact ⟨d, rfl, hd⟩
    · have ne : z' ≠ z := fun e => nd.1 (List.mem_map.mpr ⟨_, hm, e⟩)
      rw [beq_eq_false_iff_ne.mpr ne]
      exact rowT_of nd.2 hr z' k' hm
theorem row_take {ps : List (Str × Str)} {ds : List PyData} {i : Nat} {z k : Str} {d : PyData} (e1 : ps[i]? = some (z, k)) (e2 : ds[i]? = some d) : (rowOf ps ds).take (i + 1) = (rowOf ps ds).take i ++ [(z, d)] := by
  have e : (rowOf ps ds)[i]? = some (z, d) := by
    unfold rowOf
    rw [List.getElem?_zip_eq_some]
    exact ⟨by rw [List.getElem?_map, e1]; rfl, e2⟩
  rw [List.take_add_one, e]
  rfl
theorem row_new {ps : List (Str × Str)} {ds : List PyData} {i : Nat} {z k : Str} (nd : (ps.map (·.1)).Nodup) (e : ps[i]? = some (z, k)) : ∀ q ∈ (rowOf ps ds).take i, q.1 ≠ z := by
  intro q hq
  unfold rowOf at hq
  have hm : q.1 ∈ (ps.take i).map (·.1) := by
    obtain ⟨j, hj⟩ := List.mem_iff_getElem?.mp hq
    rw [List.getElem?_take] at hj
    rw [List.map_take]
    by_cases lt : j < i
    · rw [if_pos lt] at hj
      obtain ⟨a, b⟩ := q
      have h1 := (List.getElem?_zip_eq_some.mp hj).1
      exact List.mem_iff_getElem?.mpr ⟨j, by rw [List.getElem?_take, if_pos lt]; exact h1⟩
    · rw [if_neg lt] at hj
      cases hj
  obtain ⟨p, hp, ep⟩ := List.mem_map.mp hm
  rw [← ep]
  exact take_new nd e p hp
def spEv : Sp := fun vs H Q _ => ∃ (L M : Addr) (x : V) (xs ys : List V) (ps : List (Str × Str)) (ds : List PyData) (d : PyData) (k : Str), vs = [.ref L, .ref M, x] ∧ H L = some (.tup xs) ∧ H M = some (.tup ys) ∧ Cols H xs ps ∧ (ps.map (·.1)).Nodup ∧ ps.length ≤ 8 ∧ DhAll H ys ds ∧ Vks (ps.map (·.2)) ds ∧ Dh H x d ∧ Xp ps 8 k d ∧ ∀ v H', Same H H' → Dh H' v (evD (rowOf ps ds) d) → Q v H'
section
variable {P : Program} {w : World} {K : PySem.W.Frag} {mg : Str → Option Value} {base : Heap} {f fK fW : Addr} {fd fdK fdW : FuncData}
abbrev nEv : List Str := ["columns", "values", "expression", "row", "name", "kind", "value"]
theorem scEv : FnScope nEv ["columns", "values", "expression"] (defScope sEv) := ⟨rfl, rfl, rfl, by decide +kernel, rfl, by decide +kernel, by decide +kernel⟩
theorem ok_ev (F : Fun K "evaluate" "evaluate" sEv f fd) (mZ : mg "zip" = none) (GW : FnOk P w K mg base CX0 14 fW fdW ["row", "part"] (spWo 8)) (mW : mg "worth" = some (.ref fW)) (kW : PySem.W.keepIn K (.ref fW) = true) (bW : Binds K fdW ["row", "part"] []) : FnOk P w K mg base CX0 15 f fd ["columns", "values", "expression"] spEv := by
  refine F.ok scEv (fun vs H Q E h => ?_) (fun cdv A outer s H vs Q E hr h => ?_)
  · obtain ⟨L, M, x, xs, ys, ps, ds, d, k, rfl, _⟩ := h
    rfl
  · obtain ⟨L, M, x, xs, ys, ps, ds, d, kd, rfl, hL, hM, hc, nd, l8, hy, hv, hd, xp, k⟩ := h
    refine ⟨_, pss_cons (ps_setDc (i := 3) (own := [("name", 4), ("kind", 5), ("value", 6)]) (g := gTup K 2 (gCons (gTup K 2 (gCons (gName 4) (gCons (gName 5) gNil))) (gCons (gName 6) gNil))) (tt := tYes) (tk := tVar 4) (tv := tVar 6) (by rfl) scEv.nd rfl rfl (sw_dict rfl rfl rfl (by decide +kernel)) (RZ.pi_zipA (by rfl) mZ (pa_cons (pv 0) (pa_cons (pv 1) pa_nil))) (blkOk_by (own := [("name", 4), ("kind", 5), ("value", 6)]) (N := nEv) (sc := defScope sEv) (by decide +kernel))
        (fun _ _ _ _ _ => pg_tup rfl (pgs_cons (pg_tup rfl (pgs_cons (pg_name (i := 4) scEv.nd rfl (.inl rfl)) (pgs_cons (pg_name (i := 5) scEv.nd rfl (.inl rfl)) pgs_nil))) (pgs_cons (pg_name (i := 6) scEv.nd rfl (.inl rfl)) pgs_nil))) (fun _ _ _ _ _ => pts_nil) (fun _ _ _ _ _ => pv 4) (fun _ _ _ _ _ => pv 6))
      (pss_one (ps_ret (pe_call GW hr (by rfl) mW kW bW .nil pass0 (pa_cons (pv 3) (pa_cons (pv 2) pa_nil))))), ?_⟩
    have lx := hc.len
    have ly := hy.len
    have lv := hv.len
    rw [List.length_map] at lv
    have lr : (rowOf ps ds).length = xs.length := by unfold rowOf; rw [List.length_zip, List.length_map]; omega
    refine ⟨_, rfl, _, rfl, L, M, xs, ys, rfl, .inr ⟨SqT.of hL, SqT.of hM, fun D hD => dc_zip (K := K) (a := L) (b := M) (xs := xs) (ys := ys) (by omega) (fun i H' => ∃ kvs, H' D = some (.dK kvs) ∧ kvs.length ≤ i ∧ RowH H' kvs ((rowOf ps ds).take i) ∧ Same H H') ⟨[], upd_same, Nat.le_refl _, fun _ _ e => by simp at e, Same.upd hD⟩ (fun i H' p => by obtain ⟨_, _, _, _, s'⟩ := p; exact ⟨SqT.of (s' _ _ hL), SqT.of (s' _ _ hM)⟩) ?_ ?_⟩⟩
    · rintro i x1 y1 T1 H1 hx hy1 ⟨kvs, hD1, ln, rh, s1⟩ hT1
      obtain ⟨q, z, kk, rfl, ea, ep⟩ := hc.get _ _ hx
      obtain ⟨dy, edy, dhy⟩ := hy.get _ _ hy1
      have hi : i < xs.length := (List.getElem?_eq_some_iff.mp hx).1
      have zT := Same.upd (o := .tup [.ref q, y1]) hT1
      have sT := s1.trans zT
      refine ⟨T1, _, rfl, SqT.of upd_same, rfl, _, _, rfl, ⟨q, _, rfl, SqT.of (sT _ _ ea), rfl, _, _, rfl, _, _, rfl, rfl, _, _, rfl, rfl, rfl, ?_⟩⟩
      dsimp only [tYes]
      have hD2 := zT _ _ hD1
      have kd2 : SameT (upd H1 T1 (.tup [.ref q, y1])) (upd (upd H1 T1 (.tup [.ref q, y1])) D (.dK (putK kvs (Sum.inr z) y1))) := fun b us e => by
        rw [upd_ne (ne_of e hD2 nofun)]
        exact e
      refine iteT ⟨_, rfl, _, rfl, kvs, Sum.inr z, rfl, hD2, Nat.lt_of_le_of_lt (show _ ≤ 8 by omega) (by decide), _, upd_same, Nat.le_trans (length_putK _ _ _) (by omega), ?_, fun b o e => by rw [upd_ne (ne_of_none e hD)]; exact sT b o e⟩
      rw [row_take ep edy]
      refine rowH_put (row_new nd ep) (fun z' d' e' => ?_) ?_
      · obtain ⟨v', h1, h2⟩ := rh z' d' e'
        have hm : d' ∈ ds := by
          have hmem : (z', d') ∈ (rowOf ps ds).take i := by
            clear h1 h2
            generalize (rowOf ps ds).take i = l at e'
            induction l with
            | nil => cases e'
            | cons c l ih =>
              obtain ⟨c1, c2⟩ := c
              rw [List.lookup_cons] at e'
              split at e'
              · rename_i hb
                obtain rfl := Option.some.inj e'
                rw [eq_of_beq hb]
                exact List.mem_cons_self
              · exact List.mem_cons_of_mem _ (ih e')
          exact (List.of_mem_zip (List.mem_of_mem_take hmem)).2
        exact ⟨v', h1, (h2.same zT).t kd2 (hv.noL d' hm)⟩
      · exact (dhy.same sT).t kd2 (hv.noL dy (List.mem_of_getElem? edy))
    · rintro H1 ⟨kvs, hD1, ln, rh, s1⟩
      rw [← lr, List.take_length] at rh
      exact ⟨_, rfl, _, rfl, D, x, kvs, rowOf ps ds, ps, d, kd, rfl, hD1, rh, rowT_of nd hv, hd.same s1, xp, fun v H' s' hv' => k v H' (s1.trans s') hv'⟩
end
end K10
set_option Elab.async false
set_option linter.all false
set_option maxRecDepth 100000
set_option maxHeartbeats 4000000
namespace K10
open PySem PySem.Spec PyProof.Rows L2 Lc
/-! ## how long expressions are when they are shown -/
theorem tm_int {i : Int} (h : i.natAbs ≤ 10000000000000000000000000000000000000000) : Tm 0 2000 (.int i) := by
  have b : i.natAbs < 2 ^ 1000 := Nat.lt_of_le_of_lt h (Nat.lt_of_lt_of_le (show 10000000000000000000000000000000000000000 < 2 ^ 140 by decide) (Nat.pow_le_pow_right (by decide) (by decide)))
  obtain ⟨h1, h2⟩ := num_len b
  exact ⟨h1, rfl, Nat.le_refl _, Nat.le_trans h2 (by decide)⟩
theorem tm_txt {x : Str} (h : Sh 100 x) : Tm 0 2000 (.str x) := by
  refine ⟨rfl, rfl, Nat.le_refl _, ?_⟩
  show (reprText x).length ≤ 2000
  have := StrLaws.reprText_len x (fun c hc => Nat.lt_trans (h.ok c hc) (by decide))
  have e := lenL x
  have := h.len
  omega
theorem tm_nonB : Tm 0 2000 .none ∧ ∀ b : Bool, Tm 0 2000 (.bool b) := ⟨⟨rfl, rfl, Nat.le_refl _, by decide +kernel⟩, fun b => ⟨rfl, rfl, Nat.le_refl _, by cases b <;> decide +kernel⟩⟩
theorem Vk.tm {k : Str} {d : PyData} (h : Vk k d) : Tm 1 4100 d := by
  cases h with
  | non => exact tm_nonB.1.mono (by decide) (by decide)
  | flag b => exact (tm_nonB.2 b).mono (by decide) (by decide)
  | word h _ => exact (tm_txt (h.mono (by decide))).mono (by decide) (by decide)
  | @num n d _ h1 h2 =>
    exact (tm_tup (k := 0) (n := 2000) (fun x hx => by simp at hx; rcases hx with rfl | rfl; exact tm_int h1; exact tm_int h2)).mono (by decide) (by show 2000 * 2 + 2 * 2 + 4 ≤ 4100; decide)
/-- by the sum of the parts -/
theorem tm_tupS {k n : Nat} {ds : List PyData} (h : ∀ d ∈ ds, ∃ m, Tm k m d) (s : ((PyData.shownAll ds).map (·.length)).sum ≤ n) : Tm (k + 1) (n + 2 * ds.length + 4) (.tuple ds) := by
  have key : PyData.showableAll ds = true ∧ PyData.hasDictAll ds = false ∧ PyData.depthAll ds ≤ k ∧ (PyData.shownAll ds).length = ds.length := by
    clear s
    induction ds with
    | nil => exact ⟨rfl, rfl, Nat.zero_le _, rfl⟩
    | cons d ds ih =>
      obtain ⟨h1, h2, h3, h4⟩ := ih fun x hx => h x (List.mem_cons_of_mem _ hx)
      obtain ⟨m, hd⟩ := h d List.mem_cons_self
      refine ⟨by simp [PyData.showableAll, hd.sh, h1], by simp [PyData.hasDictAll, hd.nd, h2], ?_, by simp [PyData.shownAll, h4]⟩
      simp only [PyData.depthAll]
      have := hd.dz
      omega
  obtain ⟨h1, h2, h3, h4⟩ := key
  refine ⟨by simpa [PyData.showable] using h1, by simpa [PyData.hasDict] using h2, ?_, ?_⟩
  · simp only [PyData.depth]
    omega
  · have := tupleText_len_le (PyData.shownAll ds)
    simp only [PyData.shown]
    omega
theorem tm_word {w : Str} {os : List PyData} {k m : Nat} (hw : (PyData.str w).shown.length ≤ 20) (ho : ∀ o ∈ os, Tm k m o) : Tm (k + 1) (m * os.length + 2 * os.length + 26) (.tuple (.str w :: os)) := by
  have tw : Tm 0 20 (.str w) := ⟨rfl, rfl, Nat.le_refl _, hw⟩
  have a := (tm_all ho).2.2.2.1
  refine (tm_tupS (k := k) (n := 20 + m * os.length) (fun d hd => ?_) ?_).mono (Nat.le_refl _) (by rw [List.length_cons]; omega)
  · rcases List.mem_cons.mp hd with rfl | hd
    · exact ⟨20, tw.mono (Nat.zero_le _) (Nat.le_refl _)⟩
    · exact ⟨m, ho d hd⟩
  · simp only [PyData.shownAll, List.map_cons, List.sum_cons]
    have := tw.ln
    omega
def szX : Nat → Nat
  | 0 => 0
  | n + 1 => 3 * szX n + 4200
theorem oneW_len {w k r : Str} (h : OneW w k r) : (PyData.str w).shown.length ≤ 20 := by
  rcases h with ⟨rfl, _⟩ | ⟨rfl, _⟩ <;> decide +kernel
theorem twoW_len {w k r : Str} (h : TwoW w k r) : (PyData.str w).shown.length ≤ 20 := by
  rcases h with ⟨rfl | rfl | rfl | rfl, _⟩ | ⟨rfl, _⟩ | ⟨rfl, _⟩ | ⟨rfl | rfl, _⟩ <;> decide +kernel
theorem xp_tm {ps : List (Str × Str)} (hp : ∀ p ∈ ps, Sh 12 p.1) {n : Nat} {k : Str} {d : PyData} (h : Xp ps n k d) : Tm (n + 1) (szX n) d := by
  induction h with
  | @col n z k h =>
    have t := (tm_txt ((hp _ h).mono (show 12 ≤ 100 by decide))).mono (show 0 ≤ 1 by decide) (show 2000 ≤ 4100 by decide)
    refine (tm_word (w := "column") (k := 1) (m := 4100) (by decide +kernel) (fun o ho => by rw [List.mem_singleton.mp ho]; exact t)).mono (by omega) ?_
    show 4100 * 1 + 2 * 1 + 26 ≤ 3 * szX n + 4200
    omega
  | @val n k d h _ =>
    refine (tm_word (w := "value") (k := 1) (m := 4100) (by decide +kernel) (fun o ho => by rw [List.mem_singleton.mp ho]; exact h.tm)).mono (by omega) ?_
    show 4100 * 1 + 2 * 1 + 26 ≤ 3 * szX n + 4200
    omega
  | @one n w k r a hw ha ia =>
    refine (tm_word (k := n + 1) (m := szX n) (oneW_len hw) (fun o ho => by rw [List.mem_singleton.mp ho]; exact ia)).mono (by omega) ?_
    show szX n * 1 + 2 * 1 + 26 ≤ 3 * szX n + 4200
    omega
  | @two n w k r a b hw ha hb ia ib =>
    refine (tm_word (k := n + 1) (m := szX n) (twoW_len hw) (fun o ho => by simp only [List.mem_cons, List.not_mem_nil, or_false] at ho; rcases ho with rfl | rfl; exact ia; exact ib)).mono (by omega) ?_
    show szX n * 2 + 2 * 2 + 26 ≤ 3 * szX n + 4200
    omega
  | @iff n k a b c ha hb hc ia ib ic =>
    refine (tm_word (w := "if") (k := n + 1) (m := szX n) (by decide +kernel) (fun o ho => by simp only [List.mem_cons, List.not_mem_nil, or_false] at ho; rcases ho with rfl | rfl | rfl; exact ia; exact ib; exact ic)).mono (by omega) ?_
    show szX n * 3 + 2 * 3 + 26 ≤ 3 * szX n + 4200
    omega
def ColsOk (ps : List (Str × Str)) : Prop := ∀ p ∈ ps, Sh 12 p.1 ∧ nameB (.str p.1) = true ∧ KindS p.2
theorem cols_tm {ps : List (Str × Str)} (h : ColsOk ps) (l8 : ps.length ≤ 8) : Tm 2 40000 (.tuple (ps.map colP)) := by
  refine (tm_tup (k := 1) (n := 4100) (fun d hd => ?_)).mono (by decide) (by rw [List.length_map]; omega)
  obtain ⟨p, hp, rfl⟩ := List.mem_map.mp hd
  obtain ⟨h1, _, h3⟩ := h p hp
  exact (tm_tup (k := 0) (n := 2000) (fun x hx => by simp at hx; rcases hx with rfl | rfl; exact tm_txt (h1.mono (by decide)); exact tm_txt h3.sh)).mono (by decide) (by show 2000 * 2 + 2 * 2 + 4 ≤ 4100; decide)
/-- [columns, expression] is shown -/
theorem shw_both {K : PySem.W.Frag} {H : Hp} {q : Addr} {x y : V} {ps : List (Str × Str)} {k : Str} {d : PyData} (hq : H q = some (.lst [x, y])) (hx : Dh H x (.tuple (ps.map colP))) (hy : Dh H y d) (hp : ColsOk ps) (l8 : ps.length ≤ 8) (xp : Xp ps 8 k d) : Shw K H (.ref q) (PyData.list [.tuple (ps.map colP), d]).shown := by
  have t1 := cols_tm hp l8
  have t2 := xp_tm (fun p h => (hp p h).1) xp
  have e : szX 8 = 13776000 := by decide +kernel
  rw [e] at t2
  have dh : Dh H (.ref q) (.list [.tuple (ps.map colP), d]) := .lst hq (.cons hx (.cons hy .nil))
  refine dh.shw ?_ ?_ ?_ ?_
  · simp [PyData.showable, PyData.showableAll, t1.sh, t2.sh, show PyData.showableAll (ps.map colP) = true from by simpa [PyData.showable] using t1.sh]
  · simp [PyData.hasDict, PyData.hasDictAll, t2.nd, show PyData.hasDictAll (ps.map colP) = false from by simpa [PyData.hasDict] using t1.nd]
  · have a := t1.dz
    have b := t2.dz
    rw [PyData.depth, PyData.depthAll, PyData.depthAll, PyData.depthAll]
    omega
  · have a := t1.ln
    have b := t2.ln
    have := listText_len_le (PyData.shownAll [.tuple (ps.map colP), d])
    simp only [PyData.shownAll, List.map_cons, List.map_nil, List.sum_cons, List.sum_nil, List.length_cons, List.length_nil] at this
    rw [PyData.shown]
    simp only [PyData.shownAll]
    refine Nat.le_trans (show _ ≤ 14000000 by omega) (by decide)
end K10
set_option Elab.async false
set_option linter.all false
set_option maxRecDepth 100000
set_option maxHeartbeats 4000000
namespace K10
open PySem PySem.Spec PyProof.Rows L2 Lc
def spAri : Sp := fun vs H Q _ => ∃ (wd : Str) (p q : Addr) (an ad bn bd : Int), vs = [.str wd, .ref p, .ref q] ∧ H p = some (.tup [.int an, .int ad]) ∧ H q = some (.tup [.int bn, .int bd]) ∧ Rt an ad ∧ Rt bn bd ∧ Sm an ∧ Sm ad ∧ Sm bn ∧ Sm bd ∧ (wd = "plus" ∨ wd = "minus" ∨ wd = "times" ∨ wd = "over") ∧ ∀ v H', Same H H' → Dh H' v (arD wd an ad bn bd) → Q v H'
/-- the pair that is found -/
def fdN (wd : Str) (an ad bn bd : Int) : Int := if wd = "over" then divN an ad bn bd else if wd = "minus" then lowN (an * bd - bn * ad) (ad * bd) else if wd = "plus" then lowN (an * bd + bn * ad) (ad * bd) else lowN (an * bn) (ad * bd)
def fdD (wd : Str) (an ad bn bd : Int) : Int := if wd = "over" then divD an ad bn bd else if wd = "minus" then lowD (an * bd - bn * ad) (ad * bd) else if wd = "plus" then lowD (an * bd + bn * ad) (ad * bd) else lowD (an * bn) (ad * bd)
theorem ar_fd {wd : Str} {an ad bn bd : Int} (hw : wd = "plus" ∨ wd = "minus" ∨ wd = "times" ∨ wd = "over") (z : wd = "over" → bn ≠ 0) : arD wd an ad bn bd = limD (fdN wd an ad bn bd) (fdD wd an ad bn bd) := by
  have a1 : ("plus" : Str) ≠ "over" := by decide +kernel
  have a2 : ("plus" : Str) ≠ "minus" := by decide +kernel
  have a3 : ("minus" : Str) ≠ "over" := by decide +kernel
  have a4 : ("minus" : Str) ≠ "plus" := by decide +kernel
  have a5 : ("times" : Str) ≠ "over" := by decide +kernel
  have a6 : ("times" : Str) ≠ "minus" := by decide +kernel
  have a7 : ("times" : Str) ≠ "plus" := by decide +kernel
  have a8 : ("over" : Str) ≠ "plus" := by decide +kernel
  have a9 : ("over" : Str) ≠ "minus" := by decide +kernel
  have a0 : ("over" : Str) ≠ "times" := by decide +kernel
  unfold arD fdN fdD
  rcases hw with rfl | rfl | rfl | rfl
  · rw [if_pos rfl, if_neg a1, if_neg a2, if_pos rfl, if_neg a1, if_neg a2, if_pos rfl]
  · rw [if_neg a4, if_pos rfl, if_neg a3, if_pos rfl, if_neg a3, if_pos rfl]
  · rw [if_neg a7, if_neg a6, if_pos rfl, if_neg a5, if_neg a6, if_neg a7, if_neg a5, if_neg a6, if_neg a7]
  · rw [if_neg a8, if_neg a9, if_neg a0, if_pos rfl, if_neg (z rfl), if_pos rfl, if_pos rfl]
section
variable {P : Program} {w : World} {K : PySem.W.Frag} {mg : Str → Option Value} {base : Heap} {f : Addr} {fd : FuncData}
abbrev sAri : Stmt := top 44
abbrev nAri : List Str := ["_law_word", "_law_a", "_law_b", "_law_found"]
abbrev pAri : List Str := ["_law_word", "_law_a", "_law_b"]
theorem scAri : FnScope nAri pAri (defScope sAri) := ⟨rfl, rfl, rfl, by decide +kernel, rfl, by decide +kernel, by decide +kernel⟩
section
variable {fA_ : Addr} {fdA_ : FuncData}
theorem ok_Ari (F : Fun K "_law_arithmetic" "_law_arithmetic" sAri f fd) (T : Bt mg)
    (GA_ : FnOk P w K mg base CX0 1 fA_ fdA_ ["_law_n", "_law_d"] (spLowest)) (mA_ : mg "_law_lowest" = some (.ref fA_)) (kA_ : PySem.W.keepIn K (.ref fA_) = true) (bA_ : Binds K fdA_ ["_law_n", "_law_d"] []) : FnOk P w K mg base CX0 2 f fd pAri (spAri) := by
  refine F.ok scAri (fun vs H Q E h => ?_) (fun cdv A outer s H vs Q E hr h => ?_)
  · obtain ⟨wd, p, q, an, ad, bn, bd, rfl, _⟩ := h
    rfl
  · obtain ⟨wd, p, q, an, ad, bn, bd, rfl, hp, hq, ra, rb, s1, s2, s3, s4, hw, k⟩ := h
    have hrA_ : Room (1) _ := hr.mono (by first | decide | omega)
    refine ⟨_, (Evl.pss_cut (ps_if (PW.pt (pw_and (pt_cmpR op_eq (pv 0) pe_str (nomark _)) (pw_and1 (pt_cmpR op_eq (pe_ix ix_tup (pv 2) pe_int (fun _ _ => rfl)) pe_int (nomark _))))) (pss_one (ps_ret pe_non)) pss_nil)
      (pss_cons (ps_set (i := 3) scAri.nd rfl (Or.inl rfl) (pe_call GA_ hrA_ (by rfl) mA_ kA_ bA_ .nil pass0 (pa_cons (pe_op op_mulW (pe_ix ix_tup (pv 1) pe_int (fun _ _ => rfl)) (pe_ix ix_tup (pv 2) pe_int (fun _ _ => rfl))) (pa_cons (pe_op op_mulW (pe_ix ix_tup (pv 1) pe_int (fun _ _ => rfl)) (pe_ix ix_tup (pv 2) pe_int (fun _ _ => rfl))) pa_nil))))
      (Evl.pss_cut (ps_if (pt_cmpR op_eq (pv 0) pe_str (nomark _)) (pss_one (ps_set (i := 3) scAri.nd rfl (Or.inl rfl) (pe_call GA_ hrA_ (by rfl) mA_ kA_ bA_ .nil pass0 (pa_cons (pe_op op_add (pe_op op_mulW (pe_ix ix_tup (pv 1) pe_int (fun _ _ => rfl)) (pe_ix ix_tup (pv 2) pe_int (fun _ _ => rfl))) (pe_op op_mulW (pe_ix ix_tup (pv 2) pe_int (fun _ _ => rfl)) (pe_ix ix_tup (pv 1) pe_int (fun _ _ => rfl)))) (pa_cons (pe_op op_mulW (pe_ix ix_tup (pv 1) pe_int (fun _ _ => rfl)) (pe_ix ix_tup (pv 2) pe_int (fun _ _ => rfl))) pa_nil))))) pss_nil)
      (Evl.pss_cut (ps_if (pt_cmpR op_eq (pv 0) pe_str (nomark _)) (pss_one (ps_set (i := 3) scAri.nd rfl (Or.inl rfl) (pe_call GA_ hrA_ (by rfl) mA_ kA_ bA_ .nil pass0 (pa_cons (pe_op op_sub (pe_op op_mulW (pe_ix ix_tup (pv 1) pe_int (fun _ _ => rfl)) (pe_ix ix_tup (pv 2) pe_int (fun _ _ => rfl))) (pe_op op_mulW (pe_ix ix_tup (pv 2) pe_int (fun _ _ => rfl)) (pe_ix ix_tup (pv 1) pe_int (fun _ _ => rfl)))) (pa_cons (pe_op op_mulW (pe_ix ix_tup (pv 1) pe_int (fun _ _ => rfl)) (pe_ix ix_tup (pv 2) pe_int (fun _ _ => rfl))) pa_nil))))) pss_nil)
      (Evl.pss_cut (ps_if (pt_cmpR op_eq (pv 0) pe_str (nomark _)) (pss_one (ps_set (i := 3) scAri.nd rfl (Or.inl rfl) (pe_call GA_ hrA_ (by rfl) mA_ kA_ bA_ .nil pass0 (pa_cons (pe_op op_mul (pe_op op_mulW (pe_ix ix_tup (pv 1) pe_int (fun _ _ => rfl)) (pe_ix ix_tup (pv 2) pe_int (fun _ _ => rfl))) (pe_ix ix_list (pe_lst (pa_cons pe_int (pa_cons (pe_un un_neg pe_int) pa_nil))) (pe_callTy call_int1 (by rfl) T.int boot_int (pa_cons (pe_cmpR op_lt (pe_ix ix_tup (pv 2) pe_int (fun _ _ => rfl)) pe_int (nomark _)) pa_nil)) (fun _ _ => rfl))) (pa_cons (pe_op op_mulW (pe_ix ix_tup (pv 1) pe_int (fun _ _ => rfl)) (pe_callB call_abs (by rfl) T.abs boot_abs (pa_cons (pe_ix ix_tup (pv 2) pe_int (fun _ _ => rfl)) pa_nil))) pa_nil))))) pss_nil)
      (pss_one (ps_ret (pe_ifExp (PW.pt (pw_or (pt_cmpR op_gt (pe_callB call_abs (by rfl) T.abs boot_abs (pa_cons (pe_ix ix_tup (pv 3) pe_int (fun _ _ => rfl)) pa_nil)) (pe_op op_pow pe_int pe_int) (nomark _)) (pw_or1 (pt_cmpR op_gt (pe_ix ix_tup (pv 3) pe_int (fun _ _ => rfl)) (pe_op op_pow pe_int pe_int) (nomark _))))) pe_non (pv 3))))))))), ?_⟩
    have sE : ∀ (a b : Str), decide (V.str a = V.str b) = decide (a = b) := fun a b => decide_eq_decide.mpr ⟨fun e => by injection e, fun e => by rw [e]⟩
    have dp : 0 < ad * bd := Int.mul_pos ra.pos rb.pos
    have sd : (ad * bd).natAbs < 2 ^ 4000 := small_of (sm_mul s2 s4)
    have pw40 : CPow 10 40 := ⟨by decide, by decide, by decide⟩
    -- no division by zero
    refine ⟨fun σ H' => σ = [some (.str wd), some (.ref p), some (.ref q), none] ∧ H' = H ∧ (wd = "over" → bn ≠ 0), ?_, ?_⟩
    · refine ⟨_, rfl, rfl, _, rfl, ?_⟩
      rw [sE]
      by_cases o : wd = "over"
      · rw [decide_eq_true o]
        refine iteT ⟨_, rfl, q, _, _, _, rfl, rfl, SqT.of hq, rfl, rfl, _, rfl, ?_⟩
        by_cases z : bn = 0
        · rw [decide_eq_true (show V.int bn = V.int 0 by rw [z])]
          refine iteT (k _ H (Same.refl H) ?_)
          subst o
          unfold arD
          rw [if_neg (by decide +kernel), if_neg (by decide +kernel), if_neg (by decide +kernel), if_pos rfl, if_pos z]
          exact .non
        · rw [decide_eq_false (show ¬ V.int bn = V.int 0 from fun e => z (by injection e))]
          exact iteF ⟨rfl, rfl, fun _ => z⟩
      · rw [decide_eq_false o]
        exact iteF (iteF ⟨rfl, rfl, fun e => absurd e o⟩)
    rintro σ H0 ⟨rfl, rfl, nz⟩
    refine ⟨_, rfl, p, _, _, _, rfl, rfl, SqT.of hp, rfl, _, rfl, q, _, _, _, rfl, rfl, SqT.of hq, rfl, _, _, rfl, rfl, mw s1 s3, _, rfl, p, _, _, _, rfl, rfl, SqT.of hp, rfl, _, rfl, q, _, _, _, rfl, rfl, SqT.of hq, rfl, _, _, rfl, rfl, mw s2 s4, _, _, rfl, dp, sd, fun r0 hr0 => ?_⟩
    have z0 := Same.upd (o := .tup [.int (lowN (an * bn) (ad * bd)), .int (lowD (an * bn) (ad * bd))]) hr0
    -- plus
    refine ⟨fun σ H' => ∃ r, σ = [some (.str wd), some (.ref p), some (.ref q), some (.ref r)] ∧ Same H0 H' ∧ H' r = some (.tup [.int (if wd = "plus" then lowN (an * bd + bn * ad) (ad * bd) else lowN (an * bn) (ad * bd)), .int (if wd = "plus" then lowD (an * bd + bn * ad) (ad * bd) else lowD (an * bn) (ad * bd))]), ?_, ?_⟩
    · refine ⟨_, rfl, rfl, _, rfl, ?_⟩
      rw [sE]
      by_cases o : wd = "plus"
      · rw [decide_eq_true o, if_pos o, if_pos o]
        have hp0 := z0 _ _ hp
        have hq0 := z0 _ _ hq
        refine iteT ⟨_, rfl, p, _, _, _, rfl, rfl, SqT.of hp0, rfl, _, rfl, q, _, _, _, rfl, rfl, SqT.of hq0, rfl, _, _, rfl, rfl, mw s1 s4, _, rfl, q, _, _, _, rfl, rfl, SqT.of hq0, rfl, _, rfl, p, _, _, _, rfl, rfl, SqT.of hp0, rfl, _, _, rfl, rfl, mw s3 s2, _, _, rfl, rfl, _, rfl, p, _, _, _, rfl, rfl, SqT.of hp0, rfl, _, rfl, q, _, _, _, rfl, rfl, SqT.of hq0, rfl, _, _, rfl, rfl, mw s2 s4, _, _, rfl, dp, sd, fun r1 hr1 => ?_⟩
        exact ⟨r1, rfl, z0.trans (Same.upd hr1), upd_same⟩
      · rw [decide_eq_false o, if_neg o, if_neg o]
        exact iteF ⟨r0, rfl, z0, upd_same⟩
    clear z0 hr0
    rintro σ H1 ⟨r1, rfl, z1, h1⟩
    have hp1 := z1 _ _ hp
    have hq1 := z1 _ _ hq
    -- minus
    refine ⟨fun σ H' => ∃ r, σ = [some (.str wd), some (.ref p), some (.ref q), some (.ref r)] ∧ Same H0 H' ∧ H' r = some (.tup [.int (if wd = "minus" then lowN (an * bd - bn * ad) (ad * bd) else if wd = "plus" then lowN (an * bd + bn * ad) (ad * bd) else lowN (an * bn) (ad * bd)), .int (if wd = "minus" then lowD (an * bd - bn * ad) (ad * bd) else if wd = "plus" then lowD (an * bd + bn * ad) (ad * bd) else lowD (an * bn) (ad * bd))]), ?_, ?_⟩
    · refine ⟨_, rfl, rfl, _, rfl, ?_⟩
      rw [sE]
      by_cases o : wd = "minus"
      · rw [decide_eq_true o, if_pos o, if_pos o]
        refine iteT ⟨_, rfl, p, _, _, _, rfl, rfl, SqT.of hp1, rfl, _, rfl, q, _, _, _, rfl, rfl, SqT.of hq1, rfl, _, _, rfl, rfl, mw s1 s4, _, rfl, q, _, _, _, rfl, rfl, SqT.of hq1, rfl, _, rfl, p, _, _, _, rfl, rfl, SqT.of hp1, rfl, _, _, rfl, rfl, mw s3 s2, _, _, rfl, rfl, _, rfl, p, _, _, _, rfl, rfl, SqT.of hp1, rfl, _, rfl, q, _, _, _, rfl, rfl, SqT.of hq1, rfl, _, _, rfl, rfl, mw s2 s4, _, _, rfl, dp, sd, fun r2 hr2 => ?_⟩
        exact ⟨r2, rfl, z1.trans (Same.upd hr2), upd_same⟩
      · rw [decide_eq_false o, if_neg o, if_neg o]
        exact iteF ⟨r1, rfl, z1, h1⟩
    clear h1 hp1 hq1 z1
    rintro σ H1 ⟨r1, rfl, z1, h1⟩
    have hp1 := z1 _ _ hp
    have hq1 := z1 _ _ hq
    -- over
    refine ⟨fun σ H' => ∃ r, σ = [some (.str wd), some (.ref p), some (.ref q), some (.ref r)] ∧ Same H0 H' ∧ H' r = some (.tup [.int (fdN wd an ad bn bd), .int (fdD wd an ad bn bd)]), ?_, ?_⟩
    · unfold fdN fdD
      refine ⟨_, rfl, rfl, _, rfl, ?_⟩
      rw [sE]
      by_cases o : wd = "over"
      · rw [decide_eq_true o, if_pos o, if_pos o]
        have bz := nz o
        have two : 2 ≤ sizeLine := by decide
        refine iteT ⟨_, rfl, p, _, _, _, rfl, rfl, SqT.of hp1, rfl, _, rfl, q, _, _, _, rfl, rfl, SqT.of hq1, rfl, _, _, rfl, rfl, mw s1 s4, ?_⟩
        refine ⟨_, rfl, two, fun l hl => ?_⟩
        have zl := Same.upd (o := .lst [.int 1, .int (-1)]) hl
        have hq2 := zl _ _ hq1
        have hp2 := zl _ _ hp1
        refine ⟨_, rfl, q, _, _, _, rfl, rfl, SqT.of hq2, rfl, _, _, rfl, rfl, ?_⟩
        refine .inr ⟨_, rfl, ?_⟩
        have pa := ra.pos
        have sb : Sm (if bn < 0 then -bn else bn) := by
          unfold Sm at s3 ⊢
          split
          · rw [Int.natAbs_neg]; exact s3
          · exact s3
        have nd : ∀ {n d : Int}, n = (if bn < 0 then -(an * bd) else an * bd) → d = (if bn < 0 then -(ad * bn) else ad * bn) → 0 < d ∧ lowN n d = divN an ad bn bd ∧ lowD n d = divD an ad bn bd := fun {n d} en ed => by
          subst en ed
          refine ⟨?_, rfl, rfl⟩
          split
          · rename_i g
            have := Int.mul_neg_of_pos_of_neg pa g
            omega
          · exact Int.mul_pos pa (by omega)
        by_cases ng : bn < 0
        · have e1 : (if bn < 0 then -bn else bn) = -bn := if_pos ng
          show rIxL _ _ (.int (if decide (bn < 0) = true then 1 else 0)) _ _
          rw [if_pos (decide_eq_true ng)]
          refine ⟨l, _, _, .int (-1), rfl, rfl, SqL.of upd_same, rfl, _, _, rfl, rfl, .inr ⟨by decide, by decide⟩, _, rfl, p, _, _, _, rfl, rfl, SqT.of hp2, rfl, _, rfl, q, _, _, _, rfl, rfl, SqT.of hq2, rfl, bn, rfl, _, _, rfl, rfl, mw s2 sb, ?_⟩
          obtain ⟨g1, g2, g3⟩ := nd (n := an * bd * -1) (d := ad * -bn) (by rw [if_pos ng, Int.mul_neg, Int.mul_one]) (by rw [if_pos ng, Int.mul_neg])
          have sb' : Sm (-bn) := by rw [← e1]; exact sb
          refine ⟨an * bd * -1, ad * (if bn < 0 then -bn else bn), rfl, by rw [e1]; exact g1, small_of (sm_mul s2 sb), fun r2 hr2 => ?_⟩
          refine ⟨r2, rfl, (z1.trans zl).trans (Same.upd hr2), ?_⟩
          rw [upd_same, e1, g2, g3]
        · have e1 : (if bn < 0 then -bn else bn) = bn := if_neg ng
          show rIxL _ _ (.int (if decide (bn < 0) = true then 1 else 0)) _ _
          rw [if_neg (by simpa using ng)]
          refine ⟨l, _, _, .int 1, rfl, rfl, SqL.of upd_same, rfl, _, _, rfl, rfl, .inr ⟨by decide, by decide⟩, _, rfl, p, _, _, _, rfl, rfl, SqT.of hp2, rfl, _, rfl, q, _, _, _, rfl, rfl, SqT.of hq2, rfl, bn, rfl, _, _, rfl, rfl, mw s2 sb, ?_⟩
          obtain ⟨g1, g2, g3⟩ := nd (n := an * bd * 1) (d := ad * bn) (by rw [if_neg ng, Int.mul_one]) (by rw [if_neg ng])
          refine ⟨an * bd * 1, ad * (if bn < 0 then -bn else bn), rfl, by rw [e1]; exact g1, small_of (sm_mul s2 sb), fun r2 hr2 => ?_⟩
          refine ⟨r2, rfl, (z1.trans zl).trans (Same.upd hr2), ?_⟩
          rw [upd_same, e1, g2, g3]
      · rw [decide_eq_false o, if_neg o, if_neg o]
        exact iteF ⟨r1, rfl, z1, h1⟩
    clear h1 hp1 hq1 z1
    rintro σ H1 ⟨r1, rfl, z1, h1⟩
    have e : limB (.int (fdN wd an ad bn bd)) (.int (fdD wd an ad bn bd)) = (decide ((if fdN wd an ad bn bd < 0 then -fdN wd an ad bn bd else fdN wd an ad bn bd) ≤ lim) && decide (fdD wd an ad bn bd ≤ lim)) := rfl
    rw [ar_fd hw nz] at k
    unfold limD at k
    generalize fdN wd an ad bn bd = n at h1 e k
    generalize fdD wd an ad bn bd = d at h1 e k
    refine ⟨_, rfl, r1, _, _, _, rfl, rfl, SqT.of h1, rfl, n, rfl, _, _, rfl, rfl, pw40, _, _, rfl, rfl, _, rfl, ?_⟩
    rw [p40]
    by_cases g1 : (if n < 0 then -n else n) > 10000000000000000000000000000000000000000
    · rw [decide_eq_true g1]
      have e0 : limB (.int n) (.int d) = false := by rw [e, decide_eq_false (show ¬ (if n < 0 then -n else n) ≤ lim by unfold lim; omega)]; rfl
      rw [e0, if_neg (by decide)] at k
      exact iteT (iteT (k _ H1 z1 .non))
    · rw [decide_eq_false g1]
      refine iteF ⟨_, rfl, r1, _, _, _, rfl, rfl, SqT.of h1, rfl, _, _, rfl, rfl, pw40, _, _, rfl, rfl, _, rfl, ?_⟩
      rw [p40]
      have e1 : decide ((if n < 0 then -n else n) ≤ lim) = true := decide_eq_true (by unfold lim; omega)
      by_cases g2 : d > 10000000000000000000000000000000000000000
      · rw [decide_eq_true g2]
        have e0 : limB (.int n) (.int d) = false := by rw [e, e1, decide_eq_false (show ¬ d ≤ lim by unfold lim; omega)]; rfl
        rw [e0, if_neg (by decide)] at k
        exact iteT (k _ H1 z1 .non)
      · rw [decide_eq_false g2]
        have e0 : limB (.int n) (.int d) = true := by rw [e, e1, decide_eq_true (show d ≤ lim by unfold lim; omega)]; rfl
        rw [e0, if_pos rfl] at k
        exact iteF ⟨_, rfl, k _ H1 z1 (.tup h1 (.cons (.int n) (.cons (.int d) .nil)))⟩
end
end
end K10
set_option Elab.async false
set_option linter.all false
set_option maxRecDepth 100000
set_option maxHeartbeats 4000000
namespace K10
open PySem PySem.Spec PyProof.Rows L2 Lc
def spFlg : Sp := fun vs H Q _ => ∃ (wd : Str) (x y : V) (a b : PyData), vs = [.str wd, x, y] ∧ Dh H x a ∧ Dh H y b ∧ Vk "flag" a ∧ Vk "flag" b ∧ LenW wd ∧ ∀ v H', Same H H' → Dh H' v (twoD wd a b) → Q v H'
section
variable {P : Program} {w : World} {K : PySem.W.Frag} {mg : Str → Option Value} {base : Heap} {f : Addr} {fd : FuncData}
abbrev sFlg : Stmt := top 45
abbrev nFlg : List Str := ["_law_word", "_law_a", "_law_b", "_law_strong"]
abbrev pFlg : List Str := ["_law_word", "_law_a", "_law_b"]
theorem scFlg : FnScope nFlg pFlg (defScope sFlg) := ⟨rfl, rfl, rfl, by decide +kernel, rfl, by decide +kernel, by decide +kernel⟩
section
theorem ok_Flg (F : Fun K "_law_flags" "_law_flags" sFlg f fd) (T : Bt mg) : FnOk P w K mg base CX0 1 f fd pFlg (spFlg) := by
  refine F.ok scFlg (fun vs H Q E h => ?_) (fun cdv A outer s H vs Q E hr h => ?_)
  · obtain ⟨wd, x, y, a, b, rfl, _⟩ := h
    rfl
  · obtain ⟨wd, x, y, a, b, rfl, hx, hy, va, vb, hw, k⟩ := h
    refine ⟨_, (pss_cons (ps_set (i := 3) scFlg.nd rfl (Or.inl rfl) (pe_cmpR op_eq (pv 0) pe_str (nomark _)))
      (pss_cons (ps_if (PW.pt (pw_or (pt_cmpR op_isN (pv 1) pe_non (nomark _)) (pw_or1 (pt_cmpR op_isN (pv 2) pe_non (nomark _))))) (pss_one (ps_ret (pe_ifExp (pt_cmpR op_in_seq (pv 3) (pe_lst (pa_cons (pv 1) (pa_cons (pv 2) pa_nil))) (by rfl)) (pv 3) pe_non))) pss_nil)
      (pss_one (ps_ret (pe_ifExp (pt_val (pv 3)) (pe_or (pv 1) (pe_one (pv 2))) (pe_and (pv 1) (pe_one (pv 2)))))))), ?_⟩
    have two : 2 ≤ sizeLine := by decide
    have e : decide (V.str wd = V.str "either") = decide (wd = "either") := decide_eq_decide.mpr ⟨fun e => by injection e, fun e => by rw [e]⟩
    refine ⟨_, rfl, rfl, ?_⟩
    show tSeq _ _ _ [_, _, _, some (V.bl (decide (V.str wd = V.str "either")))] _
    rw [e]
    rcases hw with rfl | rfl
    · rw [decide_eq_false (show ("both" : Str) ≠ "either" by decide +kernel)]
      have kk : ∀ v H', Same H H' → Dh H' v (bothD a b) → Q v H' := fun v H' s' h => k v H' s' (by unfold twoD; rw [if_pos rfl]; exact h)
      rcases va.isflag rfl with rfl | ⟨ba, rfl⟩ <;> rcases vb.isflag rfl with rfl | ⟨bb, rfl⟩ <;> cases hx <;> cases hy
      · exact ⟨_, rfl, rfl, _, rfl, iteT (iteT ⟨_, rfl, _, rfl, _, rfl, two, fun l hl => ⟨l, _, rfl, .inl (SqL.of upd_same), rfl, rfl, _, rfl, iteF (kk _ _ (Same.upd hl) .non)⟩⟩)⟩
      · cases bb with
        | true => exact ⟨_, rfl, rfl, _, rfl, iteT (iteT ⟨_, rfl, _, rfl, _, rfl, two, fun l hl => ⟨l, _, rfl, .inl (SqL.of upd_same), rfl, rfl, _, rfl, iteF (kk _ _ (Same.upd hl) .non)⟩⟩)⟩
        | false => exact ⟨_, rfl, rfl, _, rfl, iteT (iteT ⟨_, rfl, _, rfl, _, rfl, two, fun l hl => ⟨l, _, rfl, .inl (SqL.of upd_same), rfl, rfl, _, rfl, iteT ⟨_, rfl, kk _ _ (Same.upd hl) (.bl _)⟩⟩⟩)⟩
      · cases ba with
        | true => exact ⟨_, rfl, rfl, _, rfl, iteF ⟨_, rfl, rfl, _, rfl, iteT ⟨_, rfl, _, rfl, _, rfl, two, fun l hl => ⟨l, _, rfl, .inl (SqL.of upd_same), rfl, rfl, _, rfl, iteF (kk _ _ (Same.upd hl) .non)⟩⟩⟩⟩
        | false => exact ⟨_, rfl, rfl, _, rfl, iteF ⟨_, rfl, rfl, _, rfl, iteT ⟨_, rfl, _, rfl, _, rfl, two, fun l hl => ⟨l, _, rfl, .inl (SqL.of upd_same), rfl, rfl, _, rfl, iteT ⟨_, rfl, kk _ _ (Same.upd hl) (.bl _)⟩⟩⟩⟩⟩
      · have f : Dh H (.bl (ba && bb)) (bothD (.bool ba) (.bool bb)) := by cases ba <;> cases bb <;> exact .bl _
        refine ⟨_, rfl, rfl, _, rfl, iteF ⟨_, rfl, rfl, _, rfl, iteF ⟨_, rfl, _, rfl, iteF ⟨_, rfl, _, rfl, ?_⟩⟩⟩⟩
        cases ba with
        | true => exact iteT ⟨_, rfl, kk _ H (Same.refl H) f⟩
        | false => exact iteF (kk _ H (Same.refl H) f)
    · rw [decide_eq_true rfl]
      have kk : ∀ v H', Same H H' → Dh H' v (eithD a b) → Q v H' := fun v H' s' h => k v H' s' (by unfold twoD; rw [if_neg (by decide +kernel), if_pos rfl]; exact h)
      rcases va.isflag rfl with rfl | ⟨ba, rfl⟩ <;> rcases vb.isflag rfl with rfl | ⟨bb, rfl⟩ <;> cases hx <;> cases hy
      · exact ⟨_, rfl, rfl, _, rfl, iteT (iteT ⟨_, rfl, _, rfl, _, rfl, two, fun l hl => ⟨l, _, rfl, .inl (SqL.of upd_same), rfl, rfl, _, rfl, iteF (kk _ _ (Same.upd hl) .non)⟩⟩)⟩
      · cases bb with
        | false => exact ⟨_, rfl, rfl, _, rfl, iteT (iteT ⟨_, rfl, _, rfl, _, rfl, two, fun l hl => ⟨l, _, rfl, .inl (SqL.of upd_same), rfl, rfl, _, rfl, iteF (kk _ _ (Same.upd hl) .non)⟩⟩)⟩
        | true => exact ⟨_, rfl, rfl, _, rfl, iteT (iteT ⟨_, rfl, _, rfl, _, rfl, two, fun l hl => ⟨l, _, rfl, .inl (SqL.of upd_same), rfl, rfl, _, rfl, iteT ⟨_, rfl, kk _ _ (Same.upd hl) (.bl _)⟩⟩⟩)⟩
      · cases ba with
        | false => exact ⟨_, rfl, rfl, _, rfl, iteF ⟨_, rfl, rfl, _, rfl, iteT ⟨_, rfl, _, rfl, _, rfl, two, fun l hl => ⟨l, _, rfl, .inl (SqL.of upd_same), rfl, rfl, _, rfl, iteF (kk _ _ (Same.upd hl) .non)⟩⟩⟩⟩
        | true => exact ⟨_, rfl, rfl, _, rfl, iteF ⟨_, rfl, rfl, _, rfl, iteT ⟨_, rfl, _, rfl, _, rfl, two, fun l hl => ⟨l, _, rfl, .inl (SqL.of upd_same), rfl, rfl, _, rfl, iteT ⟨_, rfl, kk _ _ (Same.upd hl) (.bl _)⟩⟩⟩⟩⟩
      · have f : Dh H (.bl (ba || bb)) (eithD (.bool ba) (.bool bb)) := by cases ba <;> cases bb <;> exact .bl _
        refine ⟨_, rfl, rfl, _, rfl, iteF ⟨_, rfl, rfl, _, rfl, iteF ⟨_, rfl, _, rfl, iteT ⟨_, rfl, _, rfl, ?_⟩⟩⟩⟩
        cases ba with
        | true => exact iteT (kk _ H (Same.refl H) f)
        | false => exact iteF ⟨_, rfl, kk _ H (Same.refl H) f⟩
end
end
end K10
set_option Elab.async false
set_option linter.all false
set_option maxRecDepth 100000
set_option maxHeartbeats 4000000
namespace K10
open PySem PySem.Spec PyProof.Rows L2 Lc
abbrev teDue (n : Nat) : TE := tCall (spWo n) [] E0 (tCons (tVar 0) (tCons (tVar 4) tNil))
abbrev ttDue : TT := tTest (tOp (fun x y H Q => y = .non ∧ Q (.bl (decide (x = .non))) H) (tVar 5) (tC .non))
theorem nones_can : ∀ l : List V, PyData.canLayAll0 (l.map fun _ => PyData.none) = true ∧ PyData.depthAll (l.map fun _ => PyData.none) = 0
  | [] => ⟨rfl, rfl⟩
  | v :: l => by
    obtain ⟨h1, h2⟩ := nones_can l
    rw [List.map_cons, PyData.canLayAll0, PyData.depthAll, h1, h2]
    exact ⟨rfl, rfl⟩
theorem nones_shp (l : List V) : SeqAt.shaped (.list (l.map fun _ => .none)) = true := by
  obtain ⟨h1, h2⟩ := nones_can l
  refine Bool.and_eq_true_iff.mpr ⟨h1, decide_eq_true ?_⟩
  rw [PyData.depth, h2]
  decide
theorem nones_eqv (l : List V) : (!PyData.eqv (.list (l.map fun _ => .none)) (.list [])) = !l.isEmpty := by
  cases l with
  | nil => simp [PyData.eqv, PyData.eqvAll]
  | cons v l => simp [PyData.eqv, PyData.eqvAll]
theorem evs_nil_none : ∀ {us : List V} {ds : List PyData} {H : Hp}, DhAll H us ds → (us.filter fun v => decide (v = .non)) = [] → ∀ d ∈ ds, isN d = false
  | _, _, _, .nil, _ => nofun
  | _, _, _, .cons h r, e => by
    rw [List.filter_cons] at e
    split at e
    · cases e
    · rename_i z
      intro d hd
      rcases List.mem_cons.mp hd with rfl | hd
      · rw [← dh_isN h]; simpa using z
      · exact evs_nil_none r e d hd
theorem evs_some_none : ∀ {us : List V} {ds : List PyData} {H : Hp}, DhAll H us ds → (us.filter fun v => decide (v = .non)) ≠ [] → ∃ d ∈ ds, isN d = true
  | _, _, _, .nil, e => absurd rfl e
  | _, _, _, .cons h r, e => by
    rw [List.filter_cons] at e
    split at e
    · rename_i z
      exact ⟨_, List.mem_cons_self, by rw [← dh_isN h]; exact z⟩
    · obtain ⟨d, hd, e'⟩ := evs_some_none r e
      exact ⟨d, List.mem_cons_of_mem _ hd, e'⟩
section
variable {P : Program} {w : World} {K : PySem.W.Frag} {mg : Str → Option Value} {base : Heap} {f : Addr} {fd : FuncData}
abbrev sDue : Stmt := top 46
abbrev nDue : List Str := ["_law_row", "_law_expression_here", "_law_word", "_law_some", "_law_operand", "_law_one"]
abbrev pDue : List Str := ["_law_row", "_law_expression_here"]
theorem scDue : FnScope nDue pDue (defScope sDue) := ⟨rfl, rfl, rfl, by decide +kernel, rfl, by decide +kernel, by decide +kernel⟩
section
variable {fA_ fB_ fC_ : Addr} {fdA_ fdB_ fdC_ : FuncData}
theorem ok_Due (F : Fun K "_law_due" "_law_due" sDue f fd) (T : Bt mg) (n : Nat)
    (GA_ : FnOk P w K mg base CX0 (3 + n) fA_ fdA_ ["_law_row", "_law_expression_here"] (spWo n)) (mA_ : mg "_law_due" = some (.ref fA_)) (kA_ : PySem.W.keepIn K (.ref fA_) = true) (bA_ : Binds K fdA_ ["_law_row", "_law_expression_here"] [])
    (GB_ : FnOk P w K mg base CX0 1 fB_ fdB_ ["_law_word", "_law_a", "_law_b"] (spFlg)) (mB_ : mg "_law_flags" = some (.ref fB_)) (kB_ : PySem.W.keepIn K (.ref fB_) = true) (bB_ : Binds K fdB_ ["_law_word", "_law_a", "_law_b"] [])
    (GC_ : FnOk P w K mg base CX0 2 fC_ fdC_ ["_law_word", "_law_a", "_law_b"] (spAri)) (mC_ : mg "_law_arithmetic" = some (.ref fC_)) (kC_ : PySem.W.keepIn K (.ref fC_) = true) (bC_ : Binds K fdC_ ["_law_word", "_law_a", "_law_b"] []) : FnOk P w K mg base CX0 (3 + n + 1) f fd pDue (spWo (n + 1)) := by
  refine F.ok scDue (fun vs H Q E h => ?_) (fun cdv A outer s H vs Q E hr h => ?_)
  · obtain ⟨g, x, kvs, row, ps, d, kd, rfl, _⟩ := h
    rfl
  · obtain ⟨g, x, kvs, row, ps, d, kd, rfl, hg, rh, rt, hd, xp, k⟩ := h
    have hrA_ : Room ((3 + n)) _ := hr.mono (by first | decide | omega)
    have hrB_ : Room (1) _ := hr.mono (by first | decide | omega)
    have hrC_ : Room (2) _ := hr.mono (by first | decide | omega)
    refine ⟨_, (pss_cons (ps_set (i := 2) scDue.nd rfl (Or.inl rfl) (pe_ix ix_tup (pv 1) pe_int (fun _ _ => rfl)))
      (pss_cons (ps_if (pt_cmpR op_eq (pv 2) pe_str (nomark _)) (pss_one (ps_ret (pe_ix ix_tup (pv 1) pe_int (fun _ _ => rfl)))) pss_nil)
      (pss_cons (ps_if (pt_cmpR op_eq (pv 2) pe_str (nomark _)) (pss_one (ps_ret (pe_dget (hu_of hr) (pv 0) (pe_ix ix_tup (pv 1) pe_int (fun _ _ => rfl)) (fun _ _ => rfl)))) pss_nil)
      (pss_cons (ps_setLc (i := 3) (own := [("_law_operand", 4)]) (g := (gName 4)) (tt := tYes) (te := teDue n) (by rfl) scDue.nd rfl rfl (sw_true rfl rfl rfl (by decide +kernel)) (pi_tup (pe_slice sl_tup (pv 1) (po_some pe_int) po_none)) (blkOk_by (own := [("_law_operand", 4)]) (N := nDue) (sc := defScope sDue) (by decide +kernel)) (fun _ _ _ _ _ => (pg_name (i := 4) scDue.nd rfl (.inl rfl))) (fun _ _ _ _ _ => pts_nil) (fun _ _ _ _ _ => (pe_call GA_ hrA_ (by rfl) mA_ kA_ bA_ .nil pass0 (pa_cons (pv 0) (pa_cons (pv 4) pa_nil)))))
      (pss_cons (ps_if (pt_cmpR op_eq (pv 2) pe_str (nomark _)) (pss_one (ps_ret (pe_cmpR op_isN (pe_ix ix_list (pv 3) pe_int (fun _ _ => rfl)) pe_non (nomark _)))) pss_nil)
      (pss_cons (ps_if (pt_cmpR op_in_seq (pv 2) (pe_lst (pa_cons pe_str (pa_cons pe_str pa_nil))) (by rfl)) (pss_one (ps_ret (pe_call GB_ hrB_ (by rfl) mB_ kB_ bB_ .nil pass0 (pa_cons (pv 2) (pa_cons (pe_ix ix_list (pv 3) pe_int (fun _ _ => rfl)) (pa_cons (pe_ix ix_list (pv 3) pe_int (fun _ _ => rfl)) pa_nil)))))) pss_nil)
      (pss_cons (ps_if (pt_cmpR op_eq (pv 2) pe_str (nomark _)) (pss_one (ps_ret (pe_ifExp (pt_cmpR op_isN (pe_ix ix_list (pv 3) pe_int (fun _ _ => rfl)) pe_non (nomark _)) pe_non (pe_ix ix_list (pe_lst (pa_cons (pe_ix ix_list (pv 3) pe_int (fun _ _ => rfl)) (pa_cons (pe_ix ix_list (pv 3) pe_int (fun _ _ => rfl)) pa_nil))) (pe_callTy call_int1 (by rfl) T.int boot_int (pa_cons (pe_ix ix_list (pv 3) pe_int (fun _ _ => rfl)) pa_nil)) (fun _ _ => rfl))))) pss_nil)
      (pss_cons (ps_if (pt_cmpR (op_neD hr.units) (pe_lc (own := [("_law_one", 5)]) (g := (gName 5)) (tt := ttDue) (te := (tVar 5)) (by rfl) scDue.nd (pi_list (pv 3)) (blkOk_by (own := [("_law_one", 5)]) (N := nDue) (sc := defScope sDue) (by decide +kernel)) (fun _ _ _ _ _ => (pg_name (i := 5) scDue.nd rfl (.inl rfl))) (fun _ _ _ _ _ => (pts_one (pt_cmpR op_isN (pv 5) pe_non (nomark _)))) (fun _ _ _ _ _ => (pv 5))) (pe_lst pa_nil) (nomark _)) (pss_one (ps_ret pe_non)) pss_nil)
      (pss_cons (ps_if (pt_cmpR op_eq (pv 2) pe_str (nomark _)) (pss_one (ps_ret (pe_not (pe_ix ix_list (pv 3) pe_int (fun _ _ => rfl))))) pss_nil)
      (pss_cons (ps_if (pt_cmpR op_eq (pv 2) pe_str (nomark _)) (pss_one (ps_ret (pe_cmpR (op_eqD hr.units) (pe_ix ix_list (pv 3) pe_int (fun _ _ => rfl)) (pe_ix ix_list (pv 3) pe_int (fun _ _ => rfl)) (nomark _)))) pss_nil)
      (pss_cons (ps_if (pt_cmpR op_eq (pv 2) pe_str (nomark _)) (pss_one (ps_ret (pe_cmpR op_lt (pe_op op_mulW (pe_ix ix_tup (pe_ix ix_list (pv 3) pe_int (fun _ _ => rfl)) pe_int (fun _ _ => rfl)) (pe_ix ix_tup (pe_ix ix_list (pv 3) pe_int (fun _ _ => rfl)) pe_int (fun _ _ => rfl))) (pe_op op_mulW (pe_ix ix_tup (pe_ix ix_list (pv 3) pe_int (fun _ _ => rfl)) pe_int (fun _ _ => rfl)) (pe_ix ix_tup (pe_ix ix_list (pv 3) pe_int (fun _ _ => rfl)) pe_int (fun _ _ => rfl))) (nomark _)))) pss_nil)
      (pss_one (ps_ret (pe_call GC_ hrC_ (by rfl) mC_ kC_ bC_ .nil pass0 (pa_cons (pv 2) (pa_cons (pe_ix ix_list (pv 3) pe_int (fun _ _ => rfl)) (pa_cons (pe_ix ix_list (pv 3) pe_int (fun _ _ => rfl)) pa_nil))))))))))))))))), ?_⟩
    have sE : ∀ (a b : Str), decide (V.str a = V.str b) = decide (a = b) := fun a b => decide_eq_decide.mpr ⟨fun e => by injection e, fun e => by rw [e]⟩
    obtain ⟨ds0, rfl⟩ : ∃ ds0, d = .tuple ds0 := by rcases xp.ops2 with ⟨_, _, _, e, _⟩ | ⟨_, _, _, _, e, _⟩ <;> exact ⟨_, e⟩
    cases hd with
    | @tup a ys0 _ ea hs0 =>
    rcases xp.ops2 with ⟨wd, x, hw, ed, lf⟩ | ⟨wd, os, ks, hw, ed, ok, xs⟩
    · injection ed with ed
      subst ed
      cases hs0 with
      | cons h1 r1 =>
      cases h1
      cases r1 with
      | @cons v2 _ _ _ h2 r2 =>
      cases r2
      refine ⟨_, rfl, a, _, _, .str wd, rfl, rfl, SqT.of ea, at_zero, ?_⟩
      refine ⟨_, rfl, rfl, _, rfl, ?_⟩
      rw [sE]
      rcases lf with ⟨rfl, z, rfl, hz⟩ | ⟨rfl, _, _, _⟩
      · rw [decide_eq_false (show ("column" : Str) ≠ "value" by decide +kernel)]
        cases h2
        obtain ⟨dv, e1, _⟩ := rt z kd hz
        obtain ⟨vv, e2, e3⟩ := rh z dv e1
        refine iteF ⟨_, rfl, rfl, _, rfl, ?_⟩
        rw [decide_eq_true rfl]
        refine iteT ⟨_, rfl, _, rfl, a, _, _, .str z, rfl, rfl, SqT.of ea, rfl, g, vv, rfl, ?_, ?_⟩
        · have q := DGet.k (k := (Sum.inr z : Key)) hg
          rw [e2] at q
          exact q
        · rw [ev_col, e1] at k
          exact k vv H (Same.refl H) e3
      · rw [decide_eq_true rfl]
        rw [ev_val] at k
        exact iteT ⟨_, rfl, a, _, _, v2, rfl, rfl, SqT.of ea, rfl, k v2 H (Same.refl H) h2⟩
    · injection ed with ed
      subst ed
      cases hs0 with
      | @cons _ ys _ _ h1 r1 =>
      cases h1
      have ly := r1.len
      have lk := xs.len
      rw [ev_op hw] at k
      refine ⟨_, rfl, a, _, _, .str wd, rfl, rfl, SqT.of ea, at_zero, ?_⟩
      refine ⟨_, rfl, rfl, _, rfl, ?_⟩
      rw [sE, decide_eq_false (fun z => hw (.inr z))]
      refine iteF ⟨_, rfl, rfl, _, rfl, ?_⟩
      rw [sE, decide_eq_false (fun z => hw (.inl z))]
      refine iteF ⟨_, rfl, 1, rfl, a, _, rfl, SqT.of ea, tail_not, fun p hp => ?_⟩
      rw [cut_tail]
      have zp := Same.upd (o := .tup ys) hp
      have hp2 : upd H p (.tup ys) p = some (.tup ys) := upd_same
      generalize upd H p (.tup ys) = H2 at zp hp2 ⊢
      have l3 : os.length ≤ 3 := by obtain ⟨_, _, _, l3⟩ := ok.ne; omega
      refine ⟨p, rfl, ⟨_, SqT.of hp2⟩, fun D hD => lc_tup (K := K) (a := p) (xs := ys) (fun i H' => ∃ us : List V, H' D = some (.lst us) ∧ DhAll H' us ((evs row os).take i) ∧ Same H2 H') ⟨[], upd_same, by rw [List.take_zero]; exact .nil, Same.upd hD⟩ (fun i H' _ pr => by obtain ⟨_, _, _, s⟩ := pr; exact SqT.of (s _ _ hp2)) ?_ ?_⟩
      · rintro i x H3 hx ⟨us, hD3, hu3, s3⟩
        obtain ⟨o, eo, dh⟩ := r1.get _ _ hx
        obtain ⟨kk, ekk, xo⟩ := xs.get i o eo
        have s03 := zp.trans s3
        refine ⟨rfl, ?_⟩
        change teDue n _ _ _
        refine ⟨_, rfl, _, rfl, g, x, kvs, row, ps, o, kk, rfl, s03 _ _ hg, rh.same s03, rt, dh.same s03, xo, fun v H4 s4 hv => ⟨us, s4 _ _ hD3, ?_, us ++ [v], upd_same, ?_, fun b o' eb => by rw [upd_ne (ne_of_none eb hD)]; exact s4 b o' (s3 b o' eb)⟩⟩
        · have := hu3.len
          rw [List.length_take] at this
          exact Nat.lt_of_le_of_lt (show _ ≤ 3 by rw [this, evs_len]; omega) (by decide)
        · have hu4 := DhAll.same s4 hu3
          have ee := evs_get (row := row) eo
          rw [List.take_add_one, ee]
          refine DhAll.append ?_ (.cons (hv.t (SameT.lst (s4 _ _ hD3)) (ev_vk rt xo).noL) .nil)
          refine DhAll.t (SameT.lst (s4 _ _ hD3)) hu4 (noLs_all.mpr fun d hd => ?_)
          obtain ⟨j, hj⟩ := List.mem_iff_getElem?.mp (List.mem_of_mem_take hd)
          have hlt : j < os.length := by
            have := (List.getElem?_eq_some_iff.mp hj).1
            rwa [evs_len] at this
          obtain ⟨kj, ej, xj⟩ := xs.get j _ (List.getElem?_eq_getElem hlt)
          have e2 := evs_get (row := row) (List.getElem?_eq_getElem hlt)
          rw [hj] at e2
          rw [Option.some.inj e2]
          exact (ev_vk rt xj).noL
      · rintro H3 ⟨us, hD3, hu3, s3⟩
        rw [ly, ← evs_len (row := row) (ds := os), List.take_length] at hu3
        have s03 := zp.trans s3
        have vks := opk_evs rt xs
        clear hp2 hD s3 zp
        have two : 2 ≤ sizeLine := by decide
        have inW : ∀ w : Str, inV (.str w) [.str "both", .str "either"] = decide (w ∈ (["both", "either"] : List Str)) := fun w => in_strs (ss := ["both", "either"])
        have kk : ∀ v H', Same H3 H' → Dh H' v (opD wd (evs row os)) → Q v H' := fun v H' s' h => k v H' (s03.trans s') h
        clear k
        -- missing
        refine ⟨_, rfl, rfl, _, rfl, ?_⟩
        rw [sE]
        by_cases m : wd = "missing"
        · subst m
          rw [decide_eq_true rfl]
          cases ok with
          | two hw2 => rcases hw2 with ⟨e | e | e | e, _⟩ | ⟨e, _⟩ | ⟨e, _⟩ | ⟨e | e, _⟩ <;> exact absurd e (by decide +kernel)
          | one hw1 =>
            cases xs with
            | @cons _ _ o1 _ _ xr =>
            cases xr
            rw [evs, evs] at hu3 kk
            cases hu3 with
            | @cons u1 _ _ _ g1 q1 =>
            cases q1
            refine iteT ⟨_, rfl, D, _, _, u1, rfl, rfl, SqL.of hD3, rfl, rfl, ?_⟩
            rw [dh_isN g1]
            refine kk _ H3 (Same.refl _) ?_
            show Dh H3 _ (oneD "missing" (evD row o1) [])
            unfold oneD
            rw [if_pos rfl]
            exact .bl _
        rw [decide_eq_false m]
        -- both, either
        refine iteF ⟨_, rfl, two, fun p1 hp1 => ⟨p1, _, rfl, .inl (SqL.of upd_same), rfl, rfl, _, rfl, ?_⟩⟩
        have z1 := Same.upd (o := .lst [.str "both", .str "either"]) hp1
        rw [inW]
        have hD4 := z1 _ _ hD3
        have hu4 := DhAll.same z1 hu3
        have kk4 : ∀ v H', Same (upd H3 p1 (.lst [.str "both", .str "either"])) H' → Dh H' v (opD wd (evs row os)) → Q v H' := fun v H' s' h => kk v H' (z1.trans s') h
        generalize upd H3 p1 (.lst [.str "both", .str "either"]) = H4 at hD4 hu4 kk4 ⊢
        clear kk hD3 hu3 z1
        by_cases be : LenW wd
        · rw [decide_eq_true (by rcases be with rfl | rfl <;> simp)]
          cases ok with
          | one hw1 => rcases hw1 with ⟨rfl, _⟩ | ⟨rfl, _⟩ <;> exact absurd be (by unfold LenW; decide +kernel)
          | iff => exact absurd be (by unfold LenW; decide +kernel)
          | @two _ kq rq hw2 =>
            have ef : kq = "flag" := by
              rcases hw2 with ⟨e | e | e | e, _⟩ | ⟨e, _⟩ | ⟨e, _⟩ | ⟨_, e, _⟩
              · subst e; exact absurd be (by unfold LenW; decide +kernel)
              · subst e; exact absurd be (by unfold LenW; decide +kernel)
              · subst e; exact absurd be (by unfold LenW; decide +kernel)
              · subst e; exact absurd be (by unfold LenW; decide +kernel)
              · subst e; exact absurd be (by unfold LenW; decide +kernel)
              · subst e; exact absurd be (by unfold LenW; decide +kernel)
              · exact e
            subst ef
            cases xs with
            | @cons _ _ o1 _ _ xr =>
            cases xr with
            | @cons _ _ o2 _ _ xr =>
            cases xr
            rw [evs, evs, evs] at hu4 kk4 vks
            cases hu4 with
            | @cons u1 _ _ _ g1 q1 =>
            cases q1 with
            | @cons u2 _ _ _ g2 q2 =>
            cases q2
            obtain ⟨d1, e1, w1⟩ := vks 0 _ rfl
            obtain ⟨d2, e2, w2⟩ := vks 1 _ rfl
            obtain rfl := Option.some.inj e1
            obtain rfl := Option.some.inj e2
            exact iteT ⟨_, rfl, _, rfl, D, _, _, u1, rfl, rfl, SqL.of hD4, rfl, _, rfl, D, _, _, u2, rfl, rfl, SqL.of hD4, rfl, wd, u1, u2, _, _, rfl, g1, g2, w1, w2, be, fun v H' s' hv => kk4 v H' s' hv⟩
        rw [decide_eq_false (by simpa [LenW] using be)]
        -- if
        refine iteF ⟨_, rfl, rfl, _, rfl, ?_⟩
        rw [sE]
        by_cases fi : wd = "if"
        · subst fi
          rw [decide_eq_true rfl]
          cases ok with
          | two hw2 => rcases hw2 with ⟨e | e | e | e, _⟩ | ⟨e, _⟩ | ⟨e, _⟩ | ⟨e | e, _⟩ <;> exact absurd e (by decide +kernel)
          | one hw1 => rcases hw1 with ⟨e, _⟩ | ⟨e, _⟩ <;> exact absurd e (by decide +kernel)
          | iff =>
            cases xs with
            | @cons _ _ o1 _ _ xr =>
            cases xr with
            | @cons _ _ o2 _ _ xr =>
            cases xr with
            | @cons _ _ o3 _ _ xr =>
            cases xr
            rw [evs, evs, evs, evs] at hu4 kk4 vks
            cases hu4 with
            | @cons u1 _ _ _ g1 q1 =>
            cases q1 with
            | @cons u2 _ _ _ g2 q2 =>
            cases q2 with
            | @cons u3 _ _ _ g3 q3 =>
            cases q3
            obtain ⟨d1, e1, w1⟩ := vks 0 _ rfl
            obtain rfl := Option.some.inj e1
            have k5 : ∀ v H', Same H4 H' → Dh H' v (oneD "if" (evD row o1) [evD row o2, evD row o3]) → Q v H' := kk4
            unfold oneD at k5
            rw [if_neg (by decide +kernel), if_neg (show ¬ ("if" : Str) = "not" by decide +kernel)] at k5
            refine iteT ⟨_, rfl, D, _, _, u1, rfl, rfl, SqL.of hD4, rfl, rfl, _, rfl, ?_⟩
            rw [dh_isN g1]
            by_cases z : isN (evD row o1) = true
            · rw [if_pos z] at k5
              rw [z]
              exact iteT (k5 _ H4 (Same.refl _) .non)
            · rw [if_neg z] at k5
              rw [show isN (evD row o1) = false by simpa using z]
              rcases w1.isflag rfl with q | ⟨b, q⟩
              · rw [q] at z; exact absurd rfl z
              rw [q] at g1
              cases g1
              rw [q] at k5
              refine iteF ⟨_, rfl, D, _, _, u3, rfl, rfl, SqL.of hD4, rfl, _, rfl, D, _, _, u2, rfl, rfl, SqL.of hD4, rfl, two, fun l hl => ?_⟩
              have zl := Same.upd (o := .lst [u3, u2]) hl
              refine ⟨_, rfl, D, _, _, .bl b, rfl, rfl, SqL.of (zl _ _ hD4), rfl, .inr ⟨b, rfl, ?_⟩⟩
              cases b with
              | true => exact ⟨l, _, _, u2, rfl, rfl, SqL.of upd_same, rfl, k5 _ _ zl (g2.same zl)⟩
              | false => exact ⟨l, _, _, u3, rfl, rfl, SqL.of upd_same, rfl, k5 _ _ zl (g3.same zl)⟩
        rw [decide_eq_false fi]
        -- something is missing
        have lu := hu4.len
        rw [evs_len] at lu
        refine iteF ⟨_, rfl, D, rfl, ⟨_, SqL.of hD4⟩, fun E1 hE => lc_list (K := K) (a := D) (xs := us) (fun i H' => H' E1 = some (.lst ((us.take i).filter fun v => decide (v = .non))) ∧ Same H4 H') ⟨by rw [upd_same]; rfl, Same.upd hE⟩ (fun i H' _ pr => SqL.of (pr.2 _ _ hD4)) ?_ ?_⟩
        · rintro i x H5 hx ⟨hE5, s5⟩
          refine ⟨rfl, ?_⟩
          change ttDue _ _ _
          refine ⟨_, rfl, rfl, _, rfl, ite2 (fun z => ?_) (fun z => ?_)⟩
          · refine ⟨_, rfl, _, hE5, ?_, ?_, fun b o e => by rw [upd_ne (ne_of_none e hE)]; exact s5 b o e⟩
            · refine Nat.lt_of_le_of_lt (show _ ≤ 3 from Nat.le_trans (List.length_filter_le _ _) ?_) (by decide)
              rw [List.length_take]
              omega
            · rw [upd_same, List.take_add_one, hx]
              simp only [Option.toList, List.filter_append]
              rw [List.filter_cons, if_pos z]
              rfl
          · refine ⟨?_, s5⟩
            rw [hE5, List.take_add_one, hx]
            simp only [Option.toList, List.filter_append]
            rw [List.filter_cons, if_neg z, List.filter_nil, List.append_nil]
        rintro H5 ⟨hE5, s5⟩
        rw [List.take_length] at hE5
        refine ⟨by show 0 ≤ sizeLine; decide, fun E2 hE2 => ?_⟩
        have z2 := Same.upd (o := .lst []) hE2
        have s6 := s5.trans z2
        have hE6 := z2 _ _ hE5
        have dpn : ∀ {l : List V}, (∀ v ∈ l, v = .non) → DpAll K (upd H5 E2 (.lst [])) l (l.map fun _ => .none) := fun {l} => by
          induction l with
          | nil => intro _; exact .nil
          | cons v l ih => intro h; rw [List.map_cons, h v List.mem_cons_self]; exact .cons .non (ih fun x hx => h x (List.mem_cons_of_mem _ hx))
        have alln : ∀ v ∈ us.filter (fun v => decide (v = .non)), v = .non := fun v hv => of_decide_eq_true (List.mem_filter.mp hv).2
        have dD : Dp K (upd H5 E2 (.lst [])) (.ref E1) (.list ((us.filter fun v => decide (v = .non)).map fun _ => .none)) := .lst (SqL.of hE6) (dpn alln)
        refine ⟨_, _, dD, .lst (SqL.of upd_same) .nil, nones_shp _, nones_shp [], _, rfl, ?_⟩
        rw [nones_eqv]
        have hD6 := s6 _ _ hD4
        have hu6 := DhAll.same s6 hu4
        have k6 : ∀ v H', Same (upd H5 E2 (.lst [])) H' → Dh H' v (opD wd (evs row os)) → Q v H' := fun v H' s' h => kk4 v H' (s6.trans s') h
        generalize upd H5 E2 (.lst []) = H6 at hD6 hu6 k6 ⊢
        clear kk4 hu4 dpn dD hE6 hE5 s6
        have nz : us.filter (fun v => decide (v = .non)) = [] ∨ us.filter (fun v => decide (v = .non)) ≠ [] := by
          cases us.filter (fun v => decide (v = .non)) with
          | nil => exact .inl rfl
          | cons => exact .inr nofun
        cases ok with
        | iff => exact absurd rfl fi
        | @one _ kq rq hw1 =>
          have nt : wd = "not" := (not_two hw1).resolve_left m
          cases xs with
          | @cons _ _ o1 _ _ xr =>
          cases xr
          rw [evs, evs] at hu6 k6 vks
          cases hu6 with
          | @cons u1 _ _ _ g1 q1 =>
          cases q1
          have k7 : ∀ v H', Same H6 H' → Dh H' v (oneD wd (evD row o1) []) → Q v H' := k6
          unfold oneD at k7
          rw [if_neg m, if_pos nt] at k7
          have kf : kq = "flag" := by
            rcases hw1 with ⟨_, e, _⟩ | ⟨e, _⟩
            · exact e
            · exact absurd e m
          obtain ⟨d1, e1, w1⟩ := vks 0 _ rfl
          obtain rfl := Option.some.inj e1
          rcases w1.isflag kf with q | ⟨b, q⟩
          · rw [q] at g1
            cases g1
            rw [q, if_pos (show isN .none = true from rfl)] at k7
            exact iteT (k7 _ H6 (Same.refl _) .non)
          · rw [q] at g1
            cases g1
            rw [q, if_neg (by simp [isN])] at k7
            refine iteF ⟨_, rfl, rfl, _, rfl, ?_⟩
            rw [sE, decide_eq_true nt]
            refine iteT ⟨_, rfl, D, _, _, .bl b, rfl, rfl, SqL.of hD6, rfl, _, rfl, ?_⟩
            have e2 : isF (.bool b) = !b := by cases b <;> rfl
            rw [e2] at k7
            exact k7 _ H6 (Same.refl _) (.bl _)
        | @two _ kq rq hw2 =>
          cases xs with
          | @cons _ _ o1 _ _ xr =>
          cases xr with
          | @cons _ _ o2 _ _ xr =>
          cases xr
          rw [evs, evs, evs] at hu6 k6 vks
          cases hu6 with
          | @cons u1 _ _ _ g1 q1 =>
          cases q1 with
          | @cons u2 _ _ _ g2 q2 =>
          cases q2
          obtain ⟨d1, e1, w1⟩ := vks 0 _ rfl
          obtain ⟨d2, e2, w2⟩ := vks 1 _ rfl
          obtain rfl := Option.some.inj e1
          obtain rfl := Option.some.inj e2
          generalize evD row o1 = da at g1 w1 k6
          generalize evD row o2 = db at g2 w2 k6
          have k7 : ∀ v H', Same H6 H' → Dh H' v (twoD wd da db) → Q v H' := k6
          have sw : StrictW wd := by
            rcases twoW_or hw2 with l | l
            · exact absurd l be
            · exact l.1
          have nt : wd ≠ "not" := by
            rcases sw with e | e | e | e | e | e <;> (rw [e]; decide +kernel)
          have al : DhAll H6 [u1, u2] [da, db] := .cons g1 (.cons g2 .nil)
          rcases nz with nz | nz
          · have ann := evs_nil_none al nz
            have na : da ≠ .none := fun e => by have := ann da List.mem_cons_self; rw [e] at this; cases this
            have nb : db ≠ .none := fun e => by have := ann db (List.mem_cons_of_mem _ List.mem_cons_self); rw [e] at this; cases this
            rw [nz]
            refine iteF ⟨_, rfl, rfl, _, rfl, ?_⟩
            rw [sE, decide_eq_false nt]
            refine iteF ⟨_, rfl, rfl, _, rfl, ?_⟩
            rw [sE]
            by_cases sm : wd = "same"
            · rw [decide_eq_true sm]
              subst sm
              have e : twoD "same" da db = .bool (PyData.eqv da db) := by
                unfold twoD
                rw [if_neg (by decide +kernel), if_neg (by decide +kernel), if_neg, if_pos rfl]
                rw [Bool.or_eq_true, isN_iff, isN_iff]
                exact fun z => z.elim na nb
              rw [e] at k7
              exact iteT ⟨_, rfl, D, _, _, u1, rfl, rfl, SqL.of hD6, rfl, _, rfl, D, _, _, u2, rfl, rfl, SqL.of hD6, rfl, da, db, g1.dp w1.nd, g2.dp w2.nd, w1.shp, w2.shp, k7 _ H6 (Same.refl _) (.bl _)⟩
            · rw [decide_eq_false sm]
              have nw : wd = "plus" ∨ wd = "minus" ∨ wd = "times" ∨ wd = "over" ∨ wd = "less" := by
                rcases sw with e | e | e | e | e | e
                · exact .inl e
                · exact .inr (.inl e)
                · exact .inr (.inr (.inl e))
                · exact .inr (.inr (.inr (.inl e)))
                · exact .inr (.inr (.inr (.inr e)))
                · exact absurd e sm
              have ek := twoW_num hw2 nw
              obtain ⟨an, ad, rfl, ra, l1, l2⟩ := w1.isnum ek na
              obtain ⟨bn, bd, rfl, rb, l4, l5⟩ := w2.isnum ek nb
              obtain ⟨p, rfl, hp⟩ := dh_pair g1
              obtain ⟨q, rfl, hq⟩ := dh_pair g2
              rw [two_num nw] at k7
              refine iteF ⟨_, rfl, rfl, _, rfl, ?_⟩
              rw [sE]
              by_cases le : wd = "less"
              · rw [decide_eq_true le]
                subst le
                unfold arD at k7
                rw [if_neg (by decide +kernel), if_neg (by decide +kernel), if_neg (by decide +kernel), if_neg (by decide +kernel)] at k7
                refine iteT ⟨_, rfl, D, _, _, .ref p, rfl, rfl, SqL.of hD6, rfl, p, _, _, _, rfl, rfl, SqT.of hp, rfl, _, rfl, D, _, _, .ref q, rfl, rfl, SqL.of hD6, rfl, q, _, _, _, rfl, rfl, SqT.of hq, rfl, _, _, rfl, rfl, mw (sm_lim l1) (sm_lim l5), _, rfl, D, _, _, .ref q, rfl, rfl, SqL.of hD6, rfl, q, _, _, _, rfl, rfl, SqT.of hq, rfl, _, rfl, D, _, _, .ref p, rfl, rfl, SqL.of hD6, rfl, p, _, _, _, rfl, rfl, SqT.of hp, rfl, _, _, rfl, rfl, mw (sm_lim l4) (sm_lim l2), _, _, rfl, rfl, ?_⟩
                exact k7 _ H6 (Same.refl _) (.bl _)
              · rw [decide_eq_false le]
                have aw : wd = "plus" ∨ wd = "minus" ∨ wd = "times" ∨ wd = "over" := by
                  rcases nw with e | e | e | e | e
                  · exact .inl e
                  · exact .inr (.inl e)
                  · exact .inr (.inr (.inl e))
                  · exact .inr (.inr (.inr e))
                  · exact absurd e le
                exact iteF ⟨_, rfl, _, rfl, D, _, _, .ref p, rfl, rfl, SqL.of hD6, rfl, _, rfl, D, _, _, .ref q, rfl, rfl, SqL.of hD6, rfl, wd, p, q, an, ad, bn, bd, rfl, hp, hq, ra, rb, sm_lim l1, sm_lim l2, sm_lim l4, sm_lim l5, aw, fun v H' s' hv => k7 v H' s' hv⟩
          · obtain ⟨dz, hm, hz⟩ := evs_some_none al nz
            have e : twoD wd da db = .none := by
              unfold twoD
              rw [if_neg (fun q => be (.inl q)), if_neg (fun q => be (.inr q)), if_pos]
              simp only [List.mem_cons, List.not_mem_nil, or_false] at hm
              rcases hm with rfl | rfl
              · rw [hz]; rfl
              · rw [hz, Bool.or_true]
            rw [e] at k7
            have nn : (!([u1, u2].filter fun v => decide (v = .non)).isEmpty) = true := by
              cases h : [u1, u2].filter fun v => decide (v = .non) with
              | nil => exact absurd h nz
              | cons => rfl
            rw [nn]
            exact iteT (k7 _ H6 (Same.refl _) .non)
theorem ok_DueN {fA fB : Addr} {fdA fdB : FuncData} (F : Fun K "_law_due" "_law_due" sDue f fd) (T : Bt mg) (mX : mg "_law_due" = some (.ref f)) (kX : PySem.W.keepIn K (.ref f) = true) (bX : Binds K fd pDue [])
    (GA : FnOk P w K mg base CX0 1 fA fdA ["_law_word", "_law_a", "_law_b"] spFlg) (mA : mg "_law_flags" = some (.ref fA)) (kA : PySem.W.keepIn K (.ref fA) = true) (bA : Binds K fdA ["_law_word", "_law_a", "_law_b"] [])
    (GB : FnOk P w K mg base CX0 2 fB fdB ["_law_word", "_law_a", "_law_b"] spAri) (mB : mg "_law_arithmetic" = some (.ref fB)) (kB : PySem.W.keepIn K (.ref fB) = true) (bB : Binds K fdB ["_law_word", "_law_a", "_law_b"] []) : ∀ n : Nat, FnOk P w K mg base CX0 (3 + n) f fd pDue (spWo n)
  | 0 => fn_weak (sp' := fun _ _ _ _ => False) (fun _ _ _ _ ⟨_, _, _, _, _, _, _, _, _, _, _, _, xp, _⟩ => xp.zero.elim) fn_none
  | n + 1 => ok_Due F T n (ok_DueN F T mX kX bX GA mA kA bA GB mB kB bB n) mX kX bX GA mA kA bA GB mB kB bB
end
end
end K10
set_option Elab.async false
set_option linter.all false
set_option maxRecDepth 100000
set_option maxHeartbeats 4000000
namespace K10
open PySem PySem.Spec PyProof.Rows L2 Lc
def spTab : Sp := fun vs H Q _ => vs = [] ∧ ∀ H', Same H H' → Q (.bl true) H'
abbrev psF : List (Str × Str) := [("a", "flag"), ("b", "flag")]
theorem psF_nd : (psF.map (·.1)).Nodup := by decide +kernel
theorem vksF {dx dy : PyData} (h1 : Vk "flag" dx) (h2 : Vk "flag" dy) : Vks (psF.map (·.2)) [dx, dy] := .cons h1 (.cons h2 .nil)
theorem rowF {H : Hp} {x y : V} {dx dy : PyData} (h1 : Dh H x dx) (h2 : Dh H y dy) : RowH H (mergeK [] [((Sum.inr "a" : Key), x), (Sum.inr "b", y)]) (rowOf psF [dx, dy]) := by
  have r0 : RowH H [] [] := fun z d e => by cases e
  have r1 : RowH H _ ([] ++ [(("a" : Str), dx)]) := rowH_put (z := "a") (fun q hq => by cases hq) r0 h1
  refine rowH_put (z := "b") (fun q hq => ?_) r1 h2
  have e : q = (("a" : Str), dx) := by simpa using hq
  rw [e]
  show ("a" : Str) ≠ "b"
  decide +kernel
def colA : PyData := .tuple [.str "column", .str "a"]
def colB : PyData := .tuple [.str "column", .str "b"]
theorem xpA {n : Nat} : Xp psF (n + 1) "flag" colA := .col (by simp)
theorem xpB {n : Nat} : Xp psF (n + 1) "flag" colB := .col (by simp)
section
variable {P : Program} {w : World} {K : PySem.W.Frag} {mg : Str → Option Value} {base : Heap} {f : Addr} {fd : FuncData}
abbrev sTab : Stmt := top 47
abbrev nTab : List Str := ["_law_columns_here", "_law_a", "_law_b", "_law_one", "_law_other", "_law_word", "_law_row", "_law_told", "_law_due_here"]
abbrev pTab : List Str := []
theorem scTab : FnScope nTab pTab (defScope sTab) := ⟨rfl, rfl, rfl, by decide +kernel, rfl, by decide +kernel, by decide +kernel⟩
section
variable {fA_ fB_ : Addr} {fdA_ fdB_ : FuncData}
theorem ok_Tab (F : Fun K "_law_tables_right" "_law_tables_right" sTab f fd) (T : Bt mg)
    (GA_ : FnOk P w K mg base CX0 15 fA_ fdA_ ["columns", "values", "expression"] (spEv)) (mA_ : mg "evaluate" = some (.ref fA_)) (kA_ : PySem.W.keepIn K (.ref fA_) = true) (bA_ : Binds K fdA_ ["columns", "values", "expression"] [])
    (GB_ : FnOk P w K mg base CX0 11 fB_ fdB_ ["_law_row", "_law_expression_here"] (spWo 8)) (mB_ : mg "_law_due" = some (.ref fB_)) (kB_ : PySem.W.keepIn K (.ref fB_) = true) (bB_ : Binds K fdB_ ["_law_row", "_law_expression_here"] []) : FnG P w K mg base 16 f fd pTab (spTab) := by
  refine Lc.Fun.okG F scTab (fun vs H Q E h => ?_) (fun cdv A outer s H vs Q E hg hr h => ?_)
  · obtain ⟨rfl, _⟩ := h
    rfl
  · obtain ⟨rfl, k⟩ := h
    have hrA_ : Room (15) _ := hr.mono (by first | decide | omega)
    have hrB_ : Room (11) _ := hr.mono (by first | decide | omega)
    refine ⟨_, (pss_cons (ps_set (i := 0) scTab.nd rfl (Or.inl rfl) (pe_tup (pa_cons (pe_tup (pa_cons pe_str (pa_cons pe_str pa_nil))) (pa_cons (pe_tup (pa_cons pe_str (pa_cons pe_str pa_nil))) pa_nil))))
      (pss_cons (ps_asg (pe_tup (pa_cons (pe_tup (pa_cons pe_str (pa_cons pe_str pa_nil))) (pa_cons (pe_tup (pa_cons pe_str (pa_cons pe_str pa_nil))) pa_nil))) (pg_tup rfl (pgs_cons (pg_name (i := 1) scTab.nd rfl (.inl rfl)) (pgs_cons (pg_name (i := 2) scTab.nd rfl (.inl rfl)) pgs_nil))))
      (pss_cons (ps_for PassesOwn.never rfl (pi_list (pe_lst (pa_cons pe_bl (pa_cons pe_bl (pa_cons pe_non pa_nil))))) (pg_name (i := 3) scTab.nd rfl (.inl rfl)) (pss_one (ps_for PassesOwn.never rfl (pi_list (pe_lst (pa_cons pe_bl (pa_cons pe_bl (pa_cons pe_non pa_nil))))) (pg_name (i := 4) scTab.nd rfl (.inl rfl)) (pss_cons (ps_for PassesOwn.never rfl (pi_list (pe_lst (pa_cons pe_str (pa_cons pe_str (pa_cons pe_str pa_nil))))) (pg_name (i := 5) scTab.nd rfl (.inl rfl)) (pss_cons (ps_set (i := 6) scTab.nd rfl (Or.inl rfl) (pe_callTy (call_dictP rfl) (by rfl) T.dict boot_dict (pa_cons (pe_lst (pa_cons (pe_tup (pa_cons pe_str (pa_cons (pv 3) pa_nil))) (pa_cons (pe_tup (pa_cons pe_str (pa_cons (pv 4) pa_nil))) pa_nil))) pa_nil)))
      (pss_one (ps_if (pt_cmpR op_ne (pe_callB (call_reprV hg hr.units) (by rfl) T.repr boot_repr (pa_cons (pe_call GA_ hrA_ (by rfl) mA_ kA_ bA_ .nil pass0 (pa_cons (pv 0) (pa_cons (pe_tup (pa_cons (pv 3) (pa_cons (pv 4) pa_nil))) (pa_cons (pe_tup (pa_cons (pv 5) (pa_cons (pv 1) (pa_cons (pv 2) pa_nil)))) pa_nil)))) pa_nil)) (pe_callB (call_reprV hg hr.units) (by rfl) T.repr boot_repr (pa_cons (pe_call GB_ hrB_ (by rfl) mB_ kB_ bB_ .nil pass0 (pa_cons (pv 6) (pa_cons (pe_tup (pa_cons (pv 5) (pa_cons (pv 1) (pa_cons (pv 2) pa_nil)))) pa_nil))) pa_nil)) (nomark _)) (pss_one (ps_ret pe_bl)) pss_nil))))
      (pss_cons (ps_set (i := 7) scTab.nd rfl (Or.inl rfl) (pe_call GA_ hrA_ (by rfl) mA_ kA_ bA_ .nil pass0 (pa_cons (pv 0) (pa_cons (pe_tup (pa_cons (pv 3) (pa_cons (pv 4) pa_nil))) (pa_cons (pe_tup (pa_cons pe_str (pa_cons (pv 1) (pa_cons (pv 2) (pa_cons (pe_tup (pa_cons pe_str (pa_cons pe_bl pa_nil))) pa_nil))))) pa_nil)))))
      (Evl.pss_cut (ps_set (i := 8) scTab.nd rfl (Or.inl rfl) (pe_ifExp (pt_cmpR op_isN (pv 3) pe_non (nomark _)) pe_non (pe_ix ix_list (pe_lst (pa_cons pe_bl (pa_cons (pv 4) pa_nil))) (pe_callTy call_int1 (by rfl) T.int boot_int (pa_cons (pe_cmpR op_isBA (pv 3) pe_bl (nomark _)) pa_nil)) (fun _ _ => rfl))))
      (pss_one (ps_if (pt_cmpR op_ne (pe_callB (call_reprV hg hr.units) (by rfl) T.repr boot_repr (pa_cons (pv 7) pa_nil)) (pe_callB (call_reprV hg hr.units) (by rfl) T.repr boot_repr (pa_cons (pv 8) pa_nil)) (nomark _)) (pss_one (ps_ret pe_bl)) pss_nil))))))))
      (pss_cons (ps_if (pt_cmpR op_notBl (pe_call GA_ hrA_ (by rfl) mA_ kA_ bA_ .nil pass0 (pa_cons (pv 0) (pa_cons (pe_tup (pa_cons pe_non (pa_cons pe_non pa_nil))) (pa_cons (pe_tup (pa_cons pe_str (pa_cons (pv 1) pa_nil))) pa_nil)))) pe_bl (nomark _)) (pss_one (ps_ret pe_bl)) pss_nil)
      (pss_one (ps_ret (pe_cmpR op_isN (pe_call GA_ hrA_ (by rfl) mA_ kA_ bA_ .nil pass0 (pa_cons (pv 0) (pa_cons (pe_tup (pa_cons pe_non (pa_cons pe_non pa_nil))) (pa_cons (pe_tup (pa_cons pe_str (pa_cons (pv 1) pa_nil))) pa_nil)))) pe_non (nomark _)))))))), ?_⟩
    have two : 2 ≤ sizeLine := by decide
    have three : 3 ≤ sizeLine := by decide
    have four : 4 ≤ sizeLine := by decide
    refine ⟨two, fun c1 hc1 => ⟨two, fun c2 hc2 => ⟨two, fun L hL => ?_⟩⟩⟩
    have z1 := Same.upd (o := .tup [.str "a", .str "flag"]) hc1
    have z2 := Same.upd (o := .tup [.str "b", .str "flag"]) hc2
    have z3 := Same.upd (o := .tup [.ref c1, .ref c2]) hL
    refine ⟨two, fun pa hpa => ⟨two, fun pb hpb => ⟨two, fun pq hpq => ⟨pq, _, rfl, SqT.of upd_same, rfl, _, _, rfl, _, _, rfl, rfl, ?_⟩⟩⟩⟩
    have z6 := Same.upd (o := .tup [.ref pa, .ref pb]) hpq
    have z4 := Same.upd (o := .tup [.str "column", .str "a"]) hpa
    have z5 := Same.upd (o := .tup [.str "column", .str "b"]) hpb
    have s0 := (z1.trans z2).trans ((z3.trans z4).trans z5)
    have fL := (z4.trans z5) _ _ (upd_same (H := upd (upd H c1 (.tup [.str "a", .str "flag"])) c2 (.tup [.str "b", .str "flag"])) (a := L) (o := .tup [.ref c1, .ref c2]))
    have f1 := (z2.trans ((z3.trans z4).trans z5)) _ _ (upd_same (H := H) (a := c1) (o := .tup [.str "a", .str "flag"]))
    have f2 := ((z3.trans z4).trans z5) _ _ (upd_same (H := upd H c1 (.tup [.str "a", .str "flag"])) (a := c2) (o := .tup [.str "b", .str "flag"]))
    have fA := z5 _ _ (upd_same (H := upd (upd (upd H c1 (.tup [.str "a", .str "flag"])) c2 (.tup [.str "b", .str "flag"])) L (.tup [.ref c1, .ref c2])) (a := pa) (o := .tup [.str "column", .str "a"]))
    have fB := upd_same (H := upd (upd (upd (upd H c1 (.tup [.str "a", .str "flag"])) c2 (.tup [.str "b", .str "flag"])) L (.tup [.ref c1, .ref c2])) pa (.tup [.str "column", .str "a"])) (a := pb) (o := .tup [.str "column", .str "b"])
    generalize upd (upd (upd (upd (upd H c1 (.tup [.str "a", .str "flag"])) c2 (.tup [.str "b", .str "flag"])) L (.tup [.ref c1, .ref c2])) pa (.tup [.str "column", .str "a"])) pb (.tup [.str "column", .str "b"]) = Ha at s0 fL f1 f2 fA fB z6 hpq ⊢
    replace s0 := s0.trans z6
    replace fL := z6 _ _ fL
    replace f1 := z6 _ _ f1
    replace f2 := z6 _ _ f2
    replace fA := z6 _ _ fA
    replace fB := z6 _ _ fB
    generalize upd Ha pq (.tup [.ref pa, .ref pb]) = Hb at s0 fL f1 f2 fA fB ⊢
    clear z1 z2 z3 z4 z5 z6 hc1 hc2 hL hpa hpb
    have cF : ∀ {Hc : Hp}, Same Hb Hc → Cols Hc [.ref c1, .ref c2] psF := fun {Hc} s => .cons (s _ _ f1) (.cons (s _ _ f2) .nil)
    have dA : ∀ {Hc : Hp}, Same Hb Hc → Dh Hc (.ref pa) colA := fun {Hc} s => .tup (s _ _ fA) (.cons (.str _) (.cons (.str _) .nil))
    have dB : ∀ {Hc : Hp}, Same Hb Hc → Dh Hc (.ref pb) colB := fun {Hc} s => .tup (s _ _ fB) (.cons (.str _) (.cons (.str _) .nil))
    have EV : ∀ {Hc : Hp} {t1 : Addr} {x y z : V} {dx dy d : PyData} {R : VK}, Same Hb Hc → Hc t1 = some (.tup [x, y]) → (∀ H, Dh H x dx) → (∀ H, Dh H y dy) → Vk "flag" dx → Vk "flag" dy → Dh Hc z d → Xp psF 8 "flag" d → (∀ v H', Same Hc H' → Dh H' v (evD (rowOf psF [dx, dy]) d) → R v H') → spEv [.ref L, .ref t1, z] Hc R E0 := fun {Hc t1 x y z dx dy d R} s e hx hy vx vy hz xp r =>
      ⟨L, t1, z, [.ref c1, .ref c2], [x, y], psF, [dx, dy], d, "flag", rfl, s _ _ fL, e, cF s, psF_nd, by decide, .cons (hx _) (.cons (hy _) .nil), vksF vx vy, hz, xp, r⟩
    have fl : ∀ x ∈ ([.bl true, .bl false, .non] : List V), ∃ dx : PyData, (∀ H, Dh H x dx) ∧ Vk "flag" dx := fun x hx => by
      simp only [List.mem_cons, List.not_mem_nil, or_false] at hx
      rcases hx with rfl | rfl | rfl
      · exact ⟨_, fun _ => .bl _, .flag _⟩
      · exact ⟨_, fun _ => .bl _, .flag _⟩
      · exact ⟨_, fun _ => .non, .non _⟩
    have tyw : ∀ x ∈ ([.str "both", .str "either", .str "same"] : List V), ∃ wd : Str, x = .str wd ∧ TwoW wd "flag" "flag" := fun x hx => by
      simp only [List.mem_cons, List.not_mem_nil, or_false] at hx
      rcases hx with rfl | rfl | rfl
      · exact ⟨_, rfl, .inr (.inr (.inr ⟨.inl rfl, rfl, rfl⟩))⟩
      · exact ⟨_, rfl, .inr (.inr (.inr ⟨.inr rfl, rfl, rfl⟩))⟩
      · exact ⟨_, rfl, .inr (.inr (.inl ⟨rfl, .inr (.inr rfl), rfl⟩))⟩
    let Sg : L2.St → Prop := fun σ => ∃ v3 v4 v5 v6 v7 v8 : Option V, σ = [some (.ref L), some (.ref pa), some (.ref pb), v3, v4, v5, v6, v7, v8]
    -- the first flag
    refine ⟨three, fun l1 hl1 => ⟨l1, rfl, ⟨_, SqL.of upd_same⟩, ?_⟩⟩
    have y1 := Same.upd (o := .lst [.bl true, .bl false, .non]) hl1
    have q1 : upd Hb l1 (.lst [.bl true, .bl false, .non]) l1 = some (.lst [.bl true, .bl false, .non]) := upd_same
    generalize upd Hb l1 (.lst [.bl true, .bl false, .non]) = H1 at y1 q1 ⊢
    refine for_list (K := K) (a := l1) (xs := [.bl true, .bl false, .non]) (fun j σ H' => Sg σ ∧ Same H1 H') ⟨⟨_, _, _, _, _, _, rfl⟩, Same.refl _⟩ (fun j σ H' _ e => SqL.of (e.2 _ _ q1)) ?_ ?_
    · rintro j x σ H2 hj ⟨⟨v3, v4, v5, v6, v7, v8, rfl⟩, s2⟩
      obtain ⟨dx, hx, vx⟩ := fl x (List.mem_of_getElem? hj)
      have sb2 := y1.trans s2
      refine ⟨three, fun l2 hl2 => ⟨l2, rfl, ⟨_, SqL.of upd_same⟩, ?_⟩⟩
      have y2 := Same.upd (o := .lst [.bl true, .bl false, .non]) hl2
      have q2 : upd H2 l2 (.lst [.bl true, .bl false, .non]) l2 = some (.lst [.bl true, .bl false, .non]) := upd_same
      generalize upd H2 l2 (.lst [.bl true, .bl false, .non]) = H3 at y2 q2 ⊢
      refine for_list (K := K) (a := l2) (xs := [.bl true, .bl false, .non]) (fun j σ H' => (∃ v4 v5 v6 v7 v8 : Option V, σ = [some (.ref L), some (.ref pa), some (.ref pb), some x, v4, v5, v6, v7, v8]) ∧ Same H3 H') ⟨⟨_, _, _, _, _, rfl⟩, Same.refl _⟩ (fun j σ H' _ e => SqL.of (e.2 _ _ q2)) ?_ (fun σ H' ⟨⟨v4, v5, v6, v7, v8, e⟩, s'⟩ => ⟨⟨_, v4, v5, v6, v7, v8, e⟩, s2.trans (y2.trans s')⟩)
      rintro j2 y σ H4 hj2 ⟨⟨v4, v5, v6, v7, v8, rfl⟩, s4⟩
      obtain ⟨dy, hy, vy⟩ := fl y (List.mem_of_getElem? hj2)
      have sb4 := sb2.trans (y2.trans s4)
      have rt : RowT psF (rowOf psF [dx, dy]) := rowT_of psF_nd (vksF vx vy)
      -- both, either, same
      refine ⟨three, fun l3 hl3 => ⟨l3, rfl, ⟨_, SqL.of upd_same⟩, ?_⟩⟩
      have y3 := Same.upd (o := .lst [.str "both", .str "either", .str "same"]) hl3
      have q3 : upd H4 l3 (.lst [.str "both", .str "either", .str "same"]) l3 = some (.lst [.str "both", .str "either", .str "same"]) := upd_same
      generalize upd H4 l3 (.lst [.str "both", .str "either", .str "same"]) = H5 at y3 q3 ⊢
      refine for_list (K := K) (a := l3) (xs := [.str "both", .str "either", .str "same"]) (fun j σ H' => (∃ v5 v6 v7 v8 : Option V, σ = [some (.ref L), some (.ref pa), some (.ref pb), some x, some y, v5, v6, v7, v8]) ∧ Same H5 H') ⟨⟨_, _, _, _, rfl⟩, Same.refl _⟩ (fun j σ H' _ e => SqL.of (e.2 _ _ q3)) ?_ ?_
      · rintro j3 wv σ H6 hj3 ⟨⟨v5, v6, v7, v8, rfl⟩, s6⟩
        obtain ⟨wd, rfl, tw⟩ := tyw wv (List.mem_of_getElem? hj3)
        have sb6 := sb4.trans (y3.trans s6)
        have xp : Xp psF 8 "flag" (.tuple [.str wd, colA, colB]) := .two (n := 7) tw xpA xpB
        refine ⟨_, rfl, two, fun t1 ht1 => ⟨_, rfl, two, fun t2 ht2 => ⟨two, fun t3 ht3 => ?_⟩⟩⟩
        have g1 := Same.upd (o := .tup [.str "a", x]) ht1
        have g2 := Same.upd (o := .tup [.str "b", y]) ht2
        have g3 := Same.upd (o := .lst [.ref t1, .ref t2]) ht3
        have e1 := (g2.trans g3) _ _ (upd_same (H := H6) (a := t1) (o := .tup [.str "a", x]))
        have e2 := g3 _ _ (upd_same (H := upd H6 t1 (.tup [.str "a", x])) (a := t2) (o := .tup [.str "b", y]))
        refine ⟨t3, [t1, t2], [((Sum.inr "a" : Key), x), (Sum.inr "b", y)], rfl, SqL.of upd_same, .cons (SqT.of e1) (.cons (SqT.of e2) .nil), fun g hg => ?_⟩
        have g4 := Same.upd (o := .dK (mergeK [] [((Sum.inr "a" : Key), x), (Sum.inr "b", y)])) hg
        have sb7 := sb6.trans (((g1.trans g2).trans g3).trans g4)
        have s7 := s6.trans (((g1.trans g2).trans g3).trans g4)
        have eg : upd (upd (upd (upd H6 t1 (.tup [.str "a", x])) t2 (.tup [.str "b", y])) t3 (.lst [.ref t1, .ref t2])) g (.dK (mergeK [] [((Sum.inr "a" : Key), x), (Sum.inr "b", y)])) g = some (.dK (mergeK [] [((Sum.inr "a" : Key), x), (Sum.inr "b", y)])) := upd_same
        generalize upd (upd (upd (upd H6 t1 (.tup [.str "a", x])) t2 (.tup [.str "b", y])) t3 (.lst [.ref t1, .ref t2])) g (.dK (mergeK [] [((Sum.inr "a" : Key), x), (Sum.inr "b", y)])) = H7 at sb7 s7 eg ⊢
        refine ⟨_, rfl, _, rfl, _, rfl, two, fun t4 ht4 => ⟨_, rfl, _, rfl, _, rfl, three, fun t5 ht5 => ?_⟩⟩
        have g5 := Same.upd (o := .tup [x, y]) ht4
        have g6 := Same.upd (o := .tup [.str wd, .ref pa, .ref pb]) ht5
        have s8 := s7.trans (g5.trans g6)
        have sb8 := sb7.trans (g5.trans g6)
        refine EV (dx := dx) (dy := dy) sb8 (g6 _ _ upd_same) hx hy vx vy (.tup upd_same (.cons (.str _) (.cons (dA sb8) (.cons (dB sb8) .nil)))) xp (fun v H9 s9 hv => ?_)
        refine ⟨v, _, rfl, hv.shwT (ev_vk rt xp).tm (by decide) (by decide), ?_⟩
        have sb9 := sb8.trans s9
        refine ⟨_, rfl, _, rfl, _, rfl, _, rfl, three, fun t6 ht6 => ?_⟩
        have g7 := Same.upd (o := .tup [.str wd, .ref pa, .ref pb]) ht6
        have sb10 := sb9.trans g7
        have s10 := (s8.trans s9).trans g7
        refine ⟨g, .ref t6, _, rowOf psF [dx, dy], psF, .tuple [.str wd, colA, colB], "flag", rfl, ((g5.trans g6).trans (s9.trans g7)) _ _ eg, rowF (hx _) (hy _), rt, .tup upd_same (.cons (.str _) (.cons (dA sb10) (.cons (dB sb10) .nil))), xp, fun v2 H11 s11 hv2 => ?_⟩
        refine ⟨v2, _, rfl, hv2.shwT (ev_vk rt xp).tm (by decide) (by decide), rfl, _, rfl, ?_⟩
        rw [decide_eq_true rfl]
        exact iteF ⟨⟨_, _, _, _, rfl⟩, s10.trans s11⟩
      rintro σ H6 ⟨⟨v5, v6, v7, v8, rfl⟩, s6⟩
      have sb6 := sb4.trans (y3.trans s6)
      -- if
      have xp : Xp psF 8 "flag" (.tuple [.str "if", colA, colB, .tuple [.str "value", .bool true]]) := .iff (n := 7) xpA xpB (.val (n := 6) (.flag true) nofun)
      refine ⟨_, rfl, _, rfl, _, rfl, two, fun t1 ht1 => ⟨_, rfl, _, rfl, two, fun t2 ht2 => ⟨four, fun t3 ht3 => ?_⟩⟩⟩
      have g1 := Same.upd (o := .tup [x, y]) ht1
      have g2 := Same.upd (o := .tup [.str "value", .bl true]) ht2
      have g3 := Same.upd (o := .tup [.str "if", .ref pa, .ref pb, .ref t2]) ht3
      have sb7 := sb6.trans ((g1.trans g2).trans g3)
      have s7 := s6.trans ((g1.trans g2).trans g3)
      refine EV (dx := dx) (dy := dy) sb7 ((g2.trans g3) _ _ upd_same) hx hy vx vy (.tup upd_same (.cons (.str _) (.cons (dA sb7) (.cons (dB sb7) (.cons (.tup (g3 _ _ upd_same) (.cons (.str _) (.cons (.bl _) .nil))) .nil))))) xp (fun v H9 s9 hv => ?_)
      have s9' := s7.trans s9
      have shw := hv.shwT (K := K) (ev_vk rt xp).tm (by decide) (by decide)
      have ee : evD (rowOf psF [dx, dy]) (.tuple [.str "if", colA, colB, .tuple [.str "value", .bool true]]) = if isN dx = true then .none else if isT dx = true then dy else .bool true := by
        rw [ev_op (by decide +kernel), evs, evs, evs, evs]
        have ea : evD (rowOf psF [dx, dy]) colA = dx := by unfold colA; rw [ev_col]; rfl
        have eb : evD (rowOf psF [dx, dy]) colB = dy := by unfold colB; rw [ev_col]; rfl
        rw [ea, eb, ev_val]
        show oneD "if" dx [dy, .bool true] = _
        unfold oneD
        rw [if_neg (by decide +kernel), if_neg (show ¬ ("if" : Str) = "not" by decide +kernel)]
        rfl
      have fin : ∀ {Hq : Hp} {u : V}, Same H9 Hq → Dh Hq u (if isN dx = true then .none else if isT dx = true then dy else .bool true) → ∃ z, Shw K Hq u z ∧ Shw K Hq v z := fun {Hq u} sq hu => by
        rw [← ee] at hu
        exact ⟨_, hu.shwT (ev_vk rt xp).tm (by decide) (by decide), shw.same sq⟩
      refine ⟨fun σ H' => ∃ (v5 v6 : Option V) (u : V), σ = [some (.ref L), some (.ref pa), some (.ref pb), some x, some y, v5, v6, some v, some u] ∧ Same H9 H' ∧ Dh H' u (if isN dx = true then .none else if isT dx = true then dy else .bool true), ?_, ?_⟩
      · refine ⟨_, rfl, rfl, _, rfl, ?_⟩
        rw [dh_isN (hx H9)]
        by_cases z : isN dx = true
        · rw [z]
          exact iteT ⟨_, _, _, rfl, Same.refl _, by rw [if_pos rfl]; exact .non⟩
        · rw [show isN dx = false by simpa using z]
          refine iteF ⟨_, rfl, two, fun l hl => ?_⟩
          have zl := Same.upd (o := .lst [.bl true, y]) hl
          refine ⟨_, rfl, true, rfl, .inr ⟨_, rfl, ?_⟩⟩
          have e := (dh_isB (hx (upd H9 l (.lst [.bl true, y])))).1
          rw [e]
          cases q : isT dx with
          | true => exact ⟨l, _, _, y, rfl, rfl, SqL.of upd_same, rfl, _, _, _, rfl, zl, by rw [if_neg (by decide), if_pos rfl]; exact hy _⟩
          | false => exact ⟨l, _, _, .bl true, rfl, rfl, SqL.of upd_same, rfl, _, _, _, rfl, zl, by rw [if_neg (by decide), if_neg (by decide)]; exact .bl _⟩
      rintro σ H10 ⟨w5, w6, u, rfl, s10, hu⟩
      obtain ⟨z, h1, h2⟩ := fin s10 hu
      refine ⟨_, rfl, v, z, rfl, h2, _, rfl, u, z, rfl, h1, rfl, _, rfl, ?_⟩
      rw [decide_eq_true rfl]
      exact iteF ⟨⟨_, _, _, _, _, rfl⟩, (s4.trans (y3.trans s9')).trans s10⟩
    · rintro σ H2 ⟨⟨v3, v4, v5, v6, v7, v8, rfl⟩, s2⟩
      have sb2 := y1.trans s2
      have rt : RowT psF (rowOf psF [.none, .none]) := rowT_of psF_nd (vksF (.non _) (.non _))
      have ea : evD (rowOf psF [.none, .none]) colA = .none := by unfold colA; rw [ev_col]; rfl
      have xm : Xp psF 8 "flag" (.tuple [.str "missing", colA]) := .one (n := 7) (.inr ⟨rfl, .inr (.inr rfl), rfl⟩) xpA
      have xn : Xp psF 8 "flag" (.tuple [.str "not", colA]) := .one (n := 7) (.inl ⟨rfl, rfl, rfl⟩) xpA
      refine ⟨_, rfl, two, fun t1 ht1 => ⟨_, rfl, two, fun t2 ht2 => ?_⟩⟩
      have g1 := Same.upd (o := .tup [.non, .non]) ht1
      have g2 := Same.upd (o := .tup [.str "missing", .ref pa]) ht2
      have sb3 := sb2.trans (g1.trans g2)
      refine EV (dx := .none) (dy := .none) sb3 (g2 _ _ upd_same) (fun _ => .non) (fun _ => .non) (.non _) (.non _) (.tup upd_same (.cons (.str _) (.cons (dA sb3) .nil))) xm (fun v H4 s4 hv => ?_)
      rw [ev_op (by decide +kernel), evs, evs, ea] at hv
      have hv : Dh H4 v (oneD "missing" .none []) := hv
      unfold oneD at hv
      rw [if_pos rfl] at hv
      cases hv
      refine ⟨true, true, rfl, rfl, _, rfl, iteF ?_⟩
      have sb4 := sb3.trans s4
      refine ⟨_, rfl, two, fun t3 ht3 => ⟨_, rfl, two, fun t4 ht4 => ?_⟩⟩
      have g3 := Same.upd (o := .tup [.non, .non]) ht3
      have g4 := Same.upd (o := .tup [.str "not", .ref pa]) ht4
      have sb5 := sb4.trans (g3.trans g4)
      refine EV (dx := .none) (dy := .none) sb5 (g4 _ _ upd_same) (fun _ => .non) (fun _ => .non) (.non _) (.non _) (.tup upd_same (.cons (.str _) (.cons (dA sb5) .nil))) xn (fun v H6 s6 hv => ?_)
      rw [ev_op (by decide +kernel), evs, evs, ea] at hv
      have hv : Dh H6 v (oneD "not" .none []) := hv
      unfold oneD at hv
      rw [if_neg (by decide +kernel), if_pos (show isN .none = true from rfl)] at hv
      cases hv
      exact ⟨rfl, k _ (s0.trans (sb5.trans s6))⟩
end
end
end K10
set_option Elab.async false
set_option linter.all false
set_option maxRecDepth 100000
set_option maxHeartbeats 4000000
namespace K10
open PySem PySem.Spec PyProof.Rows L2 Lc
theorem Xp.noL {ps : List (Str × Str)} {n : Nat} {k : Str} {d : PyData} (h : Xp ps n k d) : noL d = true := by
  induction h with
  | col _ => rfl
  | val h _ => simp [Lc.noL, noLs, h.noL]
  | one _ _ ia => simp [Lc.noL, noLs, ia]
  | two _ _ _ ia ib => simp [Lc.noL, noLs, ia, ib]
  | iff _ _ _ ia ib ic => simp [Lc.noL, noLs, ia, ib, ic]
def spLaw (K : PySem.W.Frag) : Sp := fun vs H Q _ => ∃ (a : Addr) (ns : List Int), vs = [.ref a] ∧ SqL K H a (ns.map V.int) ∧ ∀ H', Q (.bl true) H'
abbrev teLaw (K : PySem.W.Frag) : TE := tTup (tCons (tOp (rIxT K) (tVar 9) (tC (.int 0))) (tCons (tVar 10) tNil))
def kvsOf (ps : List (Str × Str)) (ys : List V) : List (Key × V) := (ps.zip ys).map fun q => ((Sum.inr q.1.1 : Key), q.2)
theorem rowH_merge {H : Hp} : ∀ {ps : List (Str × Str)} {ys : List V} {ds : List PyData} {acc : List (Key × V)} {ra : List (Str × PyData)}, DhAll H ys ds → ps.length = ys.length → (ps.map (·.1)).Nodup → (∀ q ∈ ra, ∀ p ∈ ps, q.1 ≠ p.1) → RowH H acc ra → RowH H (mergeK acc (kvsOf ps ys)) (ra ++ rowOf ps ds)
  | [], ys, ds, acc, ra, _, _, _, _, h => by
    have e : rowOf [] ds = [] := by unfold rowOf; rfl
    rw [e, List.append_nil]
    exact h
  | (z, k) :: r, [], _, _, _, _, l, _, _, _ => by cases l
  | (z, k) :: r, y :: ys, _, acc, ra, .cons (d := d) (ds := ds) hy hr, l, nd, hn, h => by
    rw [List.map_cons, List.nodup_cons] at nd
    have e : ra ++ rowOf ((z, k) :: r) (d :: ds) = (ra ++ [(z, d)]) ++ rowOf r ds := by
      rw [List.append_assoc]
      rfl
    rw [e]
    refine rowH_merge (ps := r) (ys := ys) (acc := putK acc (Sum.inr z : Key) y) hr (by simpa using l) nd.2 (fun q hq p hp => ?_) (rowH_put (fun q hq => hn q hq _ List.mem_cons_self) h hy)
    rcases List.mem_append.mp hq with hq | hq
    · exact hn q hq p (List.mem_cons_of_mem _ hp)
    · have e : q = (z, d) := by simpa using hq
      rw [e]
      exact fun e2 => nd.1 (List.mem_map.mpr ⟨p, hp, e2.symm⟩)
theorem kvs_take {ps : List (Str × Str)} {ys : List V} {i : Nat} {z k : Str} {y : V} (e1 : ps[i]? = some (z, k)) (e2 : ys[i]? = some y) : (kvsOf ps ys).take (i + 1) = (kvsOf ps ys).take i ++ [((Sum.inr z : Key), y)] := by
  have e : (kvsOf ps ys)[i]? = some ((Sum.inr z : Key), y) := by
    unfold kvsOf
    rw [List.getElem?_map, (List.getElem?_zip_eq_some (z := ((z, k), y))).mpr ⟨e1, e2⟩]
    rfl
  rw [List.take_add_one, e]
  rfl
section
variable {P : Program} {w : World} {K : PySem.W.Frag} {mg : Str → Option Value} {base : Heap} {f : Addr} {fd : FuncData}
abbrev sLaw : Stmt := top 48
abbrev nLaw : List Str := ["_law_script", "_law_tape_here", "_law_columns_here", "_law_turn", "_law_kind", "_law_expression_here", "_law_again", "_law_values_here", "_law_row", "_law_column", "_law_value_here"]
abbrev pLaw : List Str := ["_law_script"]
theorem scLaw : FnScope nLaw pLaw (defScope sLaw) := ⟨rfl, rfl, rfl, by decide +kernel, rfl, by decide +kernel, by decide +kernel⟩
section
variable {fA_ fB_ fC_ fD_ fE_ fF_ fG_ : Addr} {fdA_ fdB_ fdC_ fdD_ fdE_ fdF_ fdG_ : FuncData}
theorem ok_Law (F : Fun K "law" "law" sLaw f fd) (T : Bt mg) (mZ : mg "zip" = none)
    (GA_ : FnG P w K mg base 16 fA_ fdA_ [] (spTab)) (mA_ : mg "_law_tables_right" = some (.ref fA_)) (kA_ : PySem.W.keepIn K (.ref fA_) = true) (bA_ : Binds K fdA_ [] [])
    (GB_ : FnOk P w K mg base CX0 1 fB_ fdB_ ["_law_script"] (spTape K)) (mB_ : mg "_law_tape" = some (.ref fB_)) (kB_ : PySem.W.keepIn K (.ref fB_) = true) (bB_ : Binds K fdB_ ["_law_script"] [])
    (GC_ : FnOk P w K mg base CX0 4 fC_ fdC_ ["_law_tape_here", "_law_lead", "_law_many", "_law_taken"] (spCls)) (mC_ : mg "_law_columns" = some (.ref fC_)) (kC_ : PySem.W.keepIn K (.ref fC_) = true) (bC_ : Binds K fdC_ ["_law_tape_here", "_law_lead", "_law_many", "_law_taken"] [])
    (GD_ : FnOk P w K mg base CX0 8 fD_ fdD_ ["_law_tape_here", "_law_columns_here", "_law_kind", "_law_depth"] (spXp 5)) (mD_ : mg "_law_expression" = some (.ref fD_)) (kD_ : PySem.W.keepIn K (.ref fD_) = true) (bD_ : Binds K fdD_ ["_law_tape_here", "_law_columns_here", "_law_kind", "_law_depth"] [])
    (GE_ : FnOk P w K mg base CX0 4 fE_ fdE_ ["_law_tape_here", "_law_columns_here", "_law_wide"] (spVals)) (mE_ : mg "_law_values" = some (.ref fE_)) (kE_ : PySem.W.keepIn K (.ref fE_) = true) (bE_ : Binds K fdE_ ["_law_tape_here", "_law_columns_here", "_law_wide"] [])
    (GF_ : FnOk P w K mg base CX0 15 fF_ fdF_ ["columns", "values", "expression"] (spEv)) (mF_ : mg "evaluate" = some (.ref fF_)) (kF_ : PySem.W.keepIn K (.ref fF_) = true) (bF_ : Binds K fdF_ ["columns", "values", "expression"] [])
    (GG_ : FnOk P w K mg base CX0 11 fG_ fdG_ ["_law_row", "_law_expression_here"] (spWo 8)) (mG_ : mg "_law_due" = some (.ref fG_)) (kG_ : PySem.W.keepIn K (.ref fG_) = true) (bG_ : Binds K fdG_ ["_law_row", "_law_expression_here"] []) : FnG P w K mg base 17 f fd pLaw (spLaw K) := by
  refine Lc.Fun.okG F scLaw (fun vs H Q E h => ?_) (fun cdv A outer s H vs Q E hg hr h => ?_)
  · obtain ⟨a0, ns, rfl, _⟩ := h
    rfl
  · obtain ⟨a0, ns, rfl, hS, k⟩ := h
    have hrA_ : Room (16) _ := hr.mono (by first | decide | omega)
    have hrB_ : Room (1) _ := hr.mono (by first | decide | omega)
    have hrC_ : Room (4) _ := hr.mono (by first | decide | omega)
    have hrD_ : Room (8) _ := hr.mono (by first | decide | omega)
    have hrE_ : Room (4) _ := hr.mono (by first | decide | omega)
    have hrF_ : Room (15) _ := hr.mono (by first | decide | omega)
    have hrG_ : Room (11) _ := hr.mono (by first | decide | omega)
    refine ⟨_, (pss_cons (ps_if (pt_not (pt_val (pe_callG0 GA_ hg hrA_ (by rfl) mA_ kA_ bA_))) (pss_one (ps_ret pe_bl)) pss_nil)
      (pss_cons (ps_set (i := 1) scLaw.nd rfl (Or.inl rfl) (pe_call GB_ hrB_ (by rfl) mB_ kB_ bB_ .nil pass0 (pa_cons (pv 0) pa_nil)))
      (pss_cons (ps_set (i := 2) scLaw.nd rfl (Or.inl rfl) (pe_call GC_ hrC_ (by rfl) mC_ kC_ bC_ .nil pass0 (pa_cons (pv 1) (pa_cons (pe_tup (pa_cons pe_str (pa_cons pe_str pa_nil))) (pa_cons pe_int (pa_cons (pe_tup pa_nil) pa_nil))))))
      (pss_cons (ps_for PassesOwn.never rfl (pi_range1 (by rfl) T.range (pa_cons pe_int pa_nil)) (pg_name (i := 3) scLaw.nd rfl (.inl rfl)) (pss_one (ps_for PassesOwn.never rfl (pi_list (pe_lst (pa_cons pe_str (pa_cons pe_str (pa_cons pe_str pa_nil))))) (pg_name (i := 4) scLaw.nd rfl (.inl rfl)) (pss_cons (ps_set (i := 5) scLaw.nd rfl (Or.inl rfl) (pe_call GD_ hrD_ (by rfl) mD_ kD_ bD_ .nil pass0 (pa_cons (pv 1) (pa_cons (pv 2) (pa_cons (pv 4) (pa_cons pe_int pa_nil))))))
      (pss_one (ps_for PassesOwn.never rfl (pi_range1 (by rfl) T.range (pa_cons pe_int pa_nil)) (pg_name (i := 6) scLaw.nd rfl (.inl rfl)) (pss_cons (ps_set (i := 7) scLaw.nd rfl (Or.inl rfl) (pe_call GE_ hrE_ (by rfl) mE_ kE_ bE_ .nil pass0 (pa_cons (pv 1) (pa_cons (pv 2) (pa_cons pe_bl pa_nil)))))
      (pss_cons (ps_set (i := 8) scLaw.nd rfl (Or.inl rfl) (pe_callTy (call_dictP rfl) (by rfl) T.dict boot_dict (pa_cons (pe_lc (own := [("_law_column", 9), ("_law_value_here", 10)]) (g := (gTup K 2 (gCons (gName 9) (gCons (gName 10) gNil)))) (tt := tYes) (te := (teLaw K)) (by rfl) scLaw.nd (RZ.pi_zipA (by rfl) mZ (pa_cons (pv 2) (pa_cons (pv 7) pa_nil))) (blkOk_by (own := [("_law_column", 9), ("_law_value_here", 10)]) (N := nLaw) (sc := defScope sLaw) (by decide +kernel)) (fun _ _ _ _ _ => (pg_tup rfl (pgs_cons (pg_name (i := 9) scLaw.nd rfl (.inl rfl)) (pgs_cons (pg_name (i := 10) scLaw.nd rfl (.inl rfl)) pgs_nil)))) (fun _ _ _ _ _ => pts_nil) (fun _ _ _ _ _ => (pe_tup (pa_cons (pe_ix ix_tup (pv 9) pe_int (fun _ _ => rfl)) (pa_cons (pv 10) pa_nil))))) pa_nil)))
      (pss_one (ps_if (pt_cmpR op_ne (pe_callB (call_reprV hg hr.units) (by rfl) T.repr boot_repr (pa_cons (pe_call GF_ hrF_ (by rfl) mF_ kF_ bF_ .nil pass0 (pa_cons (pv 2) (pa_cons (pv 7) (pa_cons (pv 5) pa_nil)))) pa_nil)) (pe_callB (call_reprV hg hr.units) (by rfl) T.repr boot_repr (pa_cons (pe_call GG_ hrG_ (by rfl) mG_ kG_ bG_ .nil pass0 (pa_cons (pv 8) (pa_cons (pv 5) pa_nil))) pa_nil)) (nomark _)) (pss_one (ps_ret pe_bl)) pss_nil))))))))))
      (pss_one (ps_ret pe_bl)))))), ?_⟩
    have two : 2 ≤ sizeLine := by decide
    refine ⟨rfl, fun Ha sa => ⟨_, rfl, iteF ?_⟩⟩
    refine ⟨_, rfl, a0, ns, rfl, sa.seq hS, fun t H0 e0 ht hT0 => ?_⟩
    obtain ⟨c, hT0⟩ := hT0
    have hT0 : TapeL c H0 t := hT0
    refine ⟨_, rfl, by show 2 ≤ sizeLine; decide, fun p1 hp1 => ?_⟩
    have z1 := Same.upd (o := .tup [.str "number", .str "number"]) hp1
    refine ⟨by show 0 ≤ sizeLine; decide, fun p2 hp2 => ?_⟩
    have z2 := Same.upd (o := .tup []) hp2
    refine ⟨t, c, p1, p2, 5, ["number", "number"], rfl, hT0.same (z1.trans z2), z2 _ _ upd_same, upd_same, by decide, by decide, by decide, by decide, fun k hk => by simp only [List.mem_cons, List.not_mem_nil, or_false] at hk; rcases hk with rfl | rfl <;> exact .inl rfl, fun L xs ps H1 hL hc ho nd l1 l6 T1 S1 => ?_⟩
    have l8 : ps.length ≤ 8 := Nat.le_trans l6 (by decide)
    have ho : ColsOk ps := ho
    clear S1 z1 z2 hT0
    let Sg : L2.St → Prop := fun σ => ∃ v3 v4 v5 v6 v7 v8 v9 v10 : Option V, σ = [some (.ref a0), some (.ref t), some (.ref L), v3, v4, v5, v6, v7, v8, v9, v10]
    refine ⟨5, rfl, by decide, by decide, for_range (n := 5) (fun i σ H' => Sg σ ∧ TapeL c H' t ∧ SameB t H1 H') ⟨⟨_, _, _, _, _, _, _, _, rfl⟩, T1, SameB.refl t H1⟩ ?_ (fun σ H' _ => k H')⟩
    rintro i σ H2 hi ⟨⟨v3, v4, v5, v6, v7, v8, v9, v10, rfl⟩, T2, S2⟩
    refine ⟨by show 3 ≤ sizeLine; decide, fun l hl => ⟨l, rfl, ⟨_, SqL.of upd_same⟩, ?_⟩⟩
    have zl := Same.upd (o := .lst [.str "number", .str "word", .str "flag"]) hl
    have nl : l ≠ t := T2.tape.ne hl
    have hl2 : upd H2 l (.lst [.str "number", .str "word", .str "flag"]) l = some (.lst [.str "number", .str "word", .str "flag"]) := upd_same
    have T2' := T2.same zl
    have S2' := S2.trans (Same.b t zl)
    generalize upd H2 l (.lst [.str "number", .str "word", .str "flag"]) = H3 at zl hl2 T2' S2' ⊢
    refine for_list (K := K) (a := l) (xs := [.str "number", .str "word", .str "flag"]) (fun j σ H' => Sg σ ∧ H' l = some (.lst [.str "number", .str "word", .str "flag"]) ∧ TapeL c H' t ∧ SameB t H1 H')
      ⟨⟨_, _, _, _, _, _, _, _, rfl⟩, hl2, T2', S2'⟩ (fun j σ H' _ ⟨_, e, _⟩ => SqL.of e) ?_ (fun σ H' ⟨e, _, T', S'⟩ => ⟨e, T', S'⟩)
    rintro j x σ H4 hj ⟨⟨v3, v4, v5, v6, v7, v8, v9, v10, rfl⟩, hl4, T4, S4⟩
    obtain ⟨kd, rfl, hk⟩ : ∃ kd : Str, x = .str kd ∧ KindS kd := by
      have := List.mem_of_getElem? hj
      simp only [List.mem_cons, List.not_mem_nil, or_false] at this
      rcases this with rfl | rfl | rfl
      · exact ⟨_, rfl, .inl rfl⟩
      · exact ⟨_, rfl, .inr (.inl rfl)⟩
      · exact ⟨_, rfl, .inr (.inr rfl)⟩
    have st4 := SameT.b T1.tape S4
    refine ⟨_, rfl, _, rfl, _, rfl, t, c, L, kd, xs, ps, rfl, hk, T4, st4 _ _ hL, hc.t st4, l8, fun v d H5 df xp T5 S5 => ?_⟩
    have S45 := S4.trans S5
    have hl5 := S5 _ _ nl hl4
    have dv := df.now
    have xp8 : Xp ps 8 kd d := xp.mono (by decide)
    have dn : Lc.noL d = true := xp.noL
    refine ⟨3, rfl, by decide, by decide, for_range (n := 3) (fun i σ H' => (∃ v6 v7 v8 v9 v10 : Option V, σ = [some (.ref a0), some (.ref t), some (.ref L), v3, some (.str kd), some v, v6, v7, v8, v9, v10]) ∧ H' l = some (.lst [.str "number", .str "word", .str "flag"]) ∧ TapeL c H' t ∧ SameB t H5 H') ⟨⟨_, _, _, _, _, rfl⟩, hl5, T5, SameB.refl t H5⟩ ?_ (fun σ H' ⟨⟨v6, v7, v8, v9, v10, e⟩, hl', T', S'⟩ => ⟨⟨_, _, _, v6, v7, v8, v9, v10, e⟩, hl', T', S45.trans S'⟩)⟩
    rintro i2 σ H6 hi2 ⟨⟨v6, v7, v8, v9, v10, rfl⟩, hl6, T6, S6⟩
    have S16 := S45.trans S6
    have st6 := SameT.b T1.tape S16
    refine ⟨_, rfl, _, rfl, t, c, L, true, xs, ps, rfl, T6, st6 _ _ hL, hc.t st6, fun p hp => (ho p hp).2.2, l8, fun r ds H7 dr vks T7 S7 => ?_⟩
    have S17 := S16.trans S7
    have st7 := SameT.b T1.tape S17
    have st57 : SameT H5 H7 := SameT.b T5.tape (S6.trans S7)
    have hl7 := S7 _ _ nl hl6
    have dr := dr.now
    cases dr with
    | @tup _ ys _ er hys =>
    have lx := hc.len
    have ly := hys.len
    have lv := vks.len
    rw [List.length_map] at lv
    have hc7 := hc.t st7
    -- the row
    refine ⟨_, rfl, _, rfl, L, r, xs, ys, rfl, .inr ⟨SqT.of (st7 _ _ hL), SqT.of er, fun D hD => lc_zip (K := K) (a := L) (b := r) (xs := xs) (ys := ys) (by omega) (fun i H' => ∃ rs : List Addr, H' D = some (.lst (rs.map V.ref)) ∧ rs.length ≤ i ∧ Paired (fun p kv => H' p = some (.tup [kV kv.1, kv.2])) rs ((kvsOf ps ys).take i) ∧ Same H7 H') ⟨[], upd_same, Nat.le_refl _, .nil, Same.upd hD⟩ (fun i H' p => by obtain ⟨_, _, _, _, s'⟩ := p; exact ⟨SqT.of (s' _ _ (st7 _ _ hL)), SqT.of (s' _ _ er)⟩) ?_ ?_⟩⟩
    · rintro i3 x1 y1 T8 H8 hx hy1 ⟨rs, hD8, ln, pr, s8⟩ hT8
      obtain ⟨q, z, kk, rfl, ea, ep⟩ := hc7.get _ _ hx
      have hi3 : i3 < xs.length := (List.getElem?_eq_some_iff.mp hx).1
      have zT := Same.upd (o := .tup [.ref q, y1]) hT8
      have sT := s8.trans zT
      refine ⟨T8, _, rfl, SqT.of upd_same, rfl, _, _, rfl, _, _, rfl, rfl, rfl, ?_⟩
      dsimp only [tYes]
      refine iteT ?_
      change teLaw K _ _ _
      have hD9 := zT _ _ hD8
      refine ⟨_, rfl, q, _, _, .str z, rfl, rfl, SqT.of (sT _ _ ea), rfl, _, rfl, two, fun u hu => ?_⟩
      have zu := Same.upd (o := .tup [.str z, y1]) hu
      have hD10 := zu _ _ hD9
      have kT : SameT (upd (upd H8 T8 (.tup [.ref q, y1])) u (.tup [.str z, y1])) (upd (upd (upd H8 T8 (.tup [.ref q, y1])) u (.tup [.str z, y1])) D (.lst (rs.map V.ref ++ [.ref u]))) := SameT.lst hD10
      refine ⟨_, hD10, by rw [List.length_map]; exact Nat.lt_of_le_of_lt (show _ ≤ 8 by omega) (by decide), rs ++ [u], by rw [upd_same, List.map_append]; rfl, by rw [List.length_append]; show rs.length + 1 ≤ _; omega, ?_, fun b o e => by rw [upd_ne (ne_of_none e hD)]; exact zu b o (sT b o e)⟩
      rw [kvs_take ep hy1]
      refine paired_snoc (a := u) (b := ((Sum.inr z : Key), y1)) (R := fun (p : Addr) (kv : Key × V) => upd (upd (upd H8 T8 (.tup [.ref q, y1])) u (.tup [.str z, y1])) D (.lst (rs.map V.ref ++ [.ref u])) p = some (.tup [kV kv.1, kv.2])) (kT _ _ upd_same) (paired_imp (fun p kv e => kT _ _ (zu _ _ (zT _ _ e))) pr)
    rintro H8 ⟨rs, hD8, ln, pr, s8⟩
    have lk : (kvsOf ps ys).length = xs.length := by unfold kvsOf; rw [List.length_map, List.length_zip]; omega
    rw [← lk, List.take_length] at pr
    refine ⟨D, rs, kvsOf ps ys, rfl, SqL.of hD8, paired_imp (fun p kv e => SqT.of e) pr, fun g hg => ?_⟩
    have zg := Same.upd (o := .dK (mergeK [] (kvsOf ps ys))) hg
    have s9 := s8.trans zg
    have eg : upd H8 g (.dK (mergeK [] (kvsOf ps ys))) g = some (.dK (mergeK [] (kvsOf ps ys))) := upd_same
    generalize upd H8 g (.dK (mergeK [] (kvsOf ps ys))) = H9 at zg s9 eg ⊢
    have st9 : SameT H1 H9 := st7.trans (SameT.of s9)
    have dv9 : Dh H9 v d := (dv.t st57 dn).same s9
    have rt := rowT_of nd vks
    refine ⟨_, rfl, _, rfl, _, rfl, L, r, v, xs, ys, ps, ds, d, kd, rfl, st9 _ _ hL, s9 _ _ er, hc.t st9, nd, l8, DhAll.same s9 hys, vks, dv9, xp8, fun u H10 s10 hu => ?_⟩
    refine ⟨u, _, rfl, hu.shwT (ev_vk rt xp8).tm (by decide) (by decide), ?_⟩
    have rH : RowH H10 (mergeK [] (kvsOf ps ys)) ([] ++ rowOf ps ds) := rowH_merge (DhAll.same (s9.trans s10) hys) (by omega) nd nofun (fun z d e => by cases e)
    refine ⟨_, rfl, _, rfl, g, v, _, rowOf ps ds, ps, d, kd, rfl, s10 _ _ eg, rH, rt, dv9.same s10, xp8, fun u2 H11 s11 hu2 => ?_⟩
    refine ⟨u2, _, rfl, hu2.shwT (ev_vk rt xp8).tm (by decide) (by decide), rfl, _, rfl, ?_⟩
    rw [decide_eq_true rfl]
    have s711 := s9.trans (s10.trans s11)
    exact iteF ⟨⟨_, _, _, _, _, rfl⟩, s711 _ _ hl7, T7.same s711, (S6.trans S7).trans (Same.b t s711)⟩
end
end
end K10
set_option Elab.async false
set_option linter.all false
set_option maxRecDepth 100000
set_option maxHeartbeats 4000000
namespace Lc
open PySem PySem.Spec PyProof.Rows L2 He
/-! ## The head's facts, with one more Bool -/
abbrev AlE : Type := AlD × Bool
def obsE (n : Nat) (fa : List Fa) (fn : List DefD) (ex : PySem.W.Frag → Bool) (g : Addr → Option Obj) : AlE := (obsD fa fn (frG g (asD g n)), ex (frG g (asD g n)))
def hookE (n : Nat) (fa : List Fa) (fn : List DefD) (ex : PySem.W.Frag → Bool) : PySem.W.Hook where
  α := AlE
  obs := fun s => obsE n fa fn ex s.heap.get?
  val := fun _ => (valD fn, true)
  says := fun _ h => ∃ K : PySem.W.Frag, K.In h ∧ SaysD fa fn K ∧ ex K = true
  of := fun _ _ e => ⟨_, frG_in, congrArg (fun z : AlE => z.1) e, congrArg (fun z : AlE => z.2) e⟩
  keeps := fun _ _ _ ⟨K, hK, c⟩ k => ⟨K, PySem.W.Frag.In.keeps hK k, c⟩
theorem obsE_eq {n : Nat} {fa : List Fa} {fn : List DefD} {ex : PySem.W.Frag → Bool} {g : Addr → Option Obj} {s : Shared} (h : ∀ a, g a = s.heap.get? a) : obsE n fa fn ex g = (hookE n fa fn ex).obs s := by
  have e : g = s.heap.get? := funext h
  rw [e] <;> rfl
/-! ## What is asked of the error classes -/
def optB (a b : Option Bool) : Bool := decide (a = b)
def optV (a b : Option Value) : Bool := decide (a = b)
def oexB (K : PySem.W.Frag) (C : Addr) : Bool := (match K.lookup C with
  | some ⟨.type "type", _, .cls cd, sl⟩ => (match cd.mro, sl.toList with
    | .ref C' :: bm, [_, _, _, _, some (.builtin n), _] => C' == C && n == "ValueError.__new__" && !cd.hasDel && cd.hasDict && PySem.HandSPX.refsVE bm
    | _, _ => false)
  | _ => false) && (eqO (PySem.W.findIn K (.ref C) "__setattr__") (some (some (.builtin "object.__setattr__"))) && (optB (PySem.W.subIn K (.ref C) (.type "BaseException")) (some true) && (optV (PySem.W.typeIn K (.ref C)) (some (.type "type")) && PySem.W.keepIn K (.ref C))))
theorem oexB_ok {K : PySem.W.Frag} {C : Addr} (h : oexB K C = true) : OexC K C := by
  obtain ⟨q, h⟩ := ba h
  obtain ⟨h1, h⟩ := ba h
  obtain ⟨h2, h⟩ := ba h
  obtain ⟨h3, h4⟩ := ba h
  refine ⟨?_, eqO_ok h1, of_decide_eq_true h2, of_decide_eq_true h3, h4⟩
  split at q
  · rename_i dd cd sl ho
    split at q
    · rename_i C' bm k0 k1 k2 k3 n k5 hm hs
      simp only [Bool.and_eq_true, beq_iff_eq, Bool.not_eq_true'] at q
      obtain ⟨⟨⟨⟨rfl, rfl⟩, hdel⟩, hdi⟩, ht⟩ := q
      obtain ⟨nm, bs, mro, ns, qn, hd, sn, sub, ab, col, del⟩ := cd
      dsimp only at hm hdel hdi
      subst hm hdel hdi
      have hsl : sl = #[k0, k1, k2, k3, some (.builtin "ValueError.__new__"), k5] := by
        obtain ⟨l⟩ := sl
        simp only at hs
        rw [hs]
      subst hsl
      exact ⟨nm, qn, ns, bs, bm, sn, sub, ab, col, dd, k0, k1, k2, k3, k5, ho, ht⟩
    · cases q
  · cases q
def xisB (K : PySem.W.Frag) (C : Addr) : Bool := (PySem.W.clsIn K C).isSome && (eqO (PySem.W.findIn K (.ref C) "__getattribute__") (some (some (.builtin "BaseException.__getattribute__"))) && (eqO (PySem.W.findIn K (.ref C) "__getattr__") (some none) &&
  (optB (PySem.W.subIn K (.ref C) (.type "BaseException")) (some true) && (eqO (PySem.W.findIn K (.ref C) "__class__") (some (some (.builtin "object.__class__"))) && (eqO (PySem.W.specialIn K (.builtin "object.__class__") "__get__") (some (some (.builtin "getset_descriptor.__get__"))) &&
  (optB (PySem.W.takesIn K (.builtin "object.__class__")) (some true) && optB (PySem.W.mroIn K C (.type "object")) (some true)))))))
theorem xisB_ok {K : PySem.W.Frag} {C : Addr} (h : xisB K C = true) : XisC K C := by
  obtain ⟨h1, h⟩ := ba h
  obtain ⟨h2, h⟩ := ba h
  obtain ⟨h3, h⟩ := ba h
  obtain ⟨h4, h⟩ := ba h
  obtain ⟨h5, h⟩ := ba h
  obtain ⟨h6, h⟩ := ba h
  obtain ⟨h7, h8⟩ := ba h
  exact ⟨h1, eqO_ok h2, eqO_ok h3, of_decide_eq_true h4, eqO_ok h5, eqO_ok h6, of_decide_eq_true h7, of_decide_eq_true h8⟩
/-- a def without defaults -/
theorem fun_of {K : PySem.W.Frag} {x qual : Str} {st : Stmt} {f : Addr} {fd : FuncData} (F : FunD K x qual (defArgs st) (defBody st) (defScope st) [] [] f fd) : Fun K x qual st f fd := by
  obtain ⟨oc, od, dV, kV, doc, pm, an, cdv, ct, osl, rfl, lk, hcd, hD, hK⟩ := F.ex
  rcases hD with ⟨_, rfl⟩ | ⟨e, _⟩
  · exact ⟨⟨oc, od, kV, doc, pm, an, cdv, ct, osl, rfl, lk, hcd⟩, F.kp⟩
  · exact absurd rfl e
/-! ## The end of a law whose defs are promised where no repr is under way -/
theorem walk_GE {l : PySem.W.OpenLaw} {n k : Nat} {q : Program} {loose : List Str} {XP : (Str → Option Value) → Heap → Prop} {YP : World → Heap → Prop} {d : DefRec} {x : Str}
    (hn : l.most = some n) (hn2 : n ≤ sizeLine) (hdf : d.params.defaults = []) (hr : Room k callerA)
    (F : ∀ (w : World) (mg : Str → Option Value) (fa : Addr) (h : Heap), YP w h → h.Ns mainGlobals mg → mg d.name = some (.ref fa) →
      ∃ (K : PySem.W.Frag) (fd : FuncData) (sp : Sp), K.In h ∧ (∀ (s : Shared) (u : Value), BindsTo s fd ⟨[u], []⟩ [(x, u)]) ∧
        (∀ (H : Hp) (a : Addr) (ns : List Int), ns.length ≤ n → SqL K H a (ns.map V.int) → sp [.ref a] H (fun v _ => v = .bl true) fun _ _ _ => False) ∧
        ∀ base : Heap, K.In base → base.Ns mainGlobals mg → FnG l.prog w K mg base k fa fd [x] sp) :
    PySem.W.WalkO q loose XP YP l.row.toRowW d [] (fun f vs => PySem.call f vs) := by
  refine Att.attach_call hn hdf fun w _ s mg mb fa _ _ _ _ a vs ns G Y _ _ _ hmg hobj hints hlen hg => ?_
  obtain ⟨K, fd, sp, KX, hb, hsp, hF⟩ := F w mg fa _ Y G.T.g hmg
  exact law_callG KX G.T.g G.T.b G.T.builtins G.T.nolimit hg hobj hints (Nat.le_trans hlen hn2) hr hF hb fun H hS => hsp H a ns hlen hS
end Lc
namespace Lc
theorem all_at {l : List Bool} (h : l.all id = true) (i : Nat) {b : Bool} (e : l[i]? = some b := by rfl) : b = true := List.all_eq_true.mp h b (List.mem_of_getElem? e)
end Lc
set_option Elab.async false
set_option linter.all false
set_option maxRecDepth 100000
set_option maxHeartbeats 4000000
namespace Lc
open PySem PySem.Spec PyProof.Rows L2 He
/-! ## The head's facts, with dicts of the module that have text keys -/
abbrev AlF : Type := AlE × List (Option (List (Option (Str × Int))))
def obsF (n : Nat) (fa : List Fa) (fn : List DefD) (ex : PySem.W.Frag → Bool) (ts : List Tab) (g : Addr → Option Obj) : AlF := (obsE n fa fn ex g, ts.map fun t => dicW (frG g (asD g n)) (t.1 (frG g (asD g n))))
def TabsOk (ts : List Tab) (w : World) (K : PySem.W.Frag) : Prop := ∀ (i : Nat) (t : Tab), ts[i]? = some t → ∃ es n, KDict K w (t.1 K) es n
theorem tabs_of {ts : List Tab} {w : World} {K : PySem.W.Frag} (e : ts.map (fun t => dicW K (t.1 K)) = ts.map fun t => some (keysIn w.params t.2)) : TabsOk ts w K := by
  intro i t h
  have e2 : (ts.map fun t => dicW K (t.1 K))[i]? = (ts.map fun t => some (keysIn w.params t.2))[i]? := congrArg (fun l => l[i]?) e
  rw [List.getElem?_map, h, List.getElem?_map, h] at e2
  exact dicW_ok (Option.some.inj e2)
def hookF (n : Nat) (fa : List Fa) (fn : List DefD) (ex : PySem.W.Frag → Bool) (ts : List Tab) : PySem.W.Hook where
  α := AlF
  obs := fun s => obsF n fa fn ex ts s.heap.get?
  val := fun w => ((valD fn, true), ts.map fun t : Tab => some (keysIn w.params t.2))
  says := fun w h => ∃ K : PySem.W.Frag, K.In h ∧ SaysD fa fn K ∧ ex K = true ∧ TabsOk ts w K
  of := fun _ _ e => ⟨_, frG_in, congrArg (fun z : AlF => z.1.1) e, congrArg (fun z : AlF => z.1.2) e, tabs_of (show _ = _ from congrArg (fun z : AlF => z.2) e)⟩
  keeps := fun _ _ _ ⟨K, hK, c⟩ k => ⟨K, PySem.W.Frag.In.keeps hK k, c⟩
theorem obsF_eq {n : Nat} {fa : List Fa} {fn : List DefD} {ex : PySem.W.Frag → Bool} {ts : List Tab} {g : Addr → Option Obj} {s : Shared} (h : ∀ a, g a = s.heap.get? a) : obsF n fa fn ex ts g = (hookF n fa fn ex ts).obs s := by
  have e : g = s.heap.get? := funext h
  rw [e] <;> rfl
/-! ## what stands in such a dict -/
def atD (K : PySem.W.Frag) (d : Addr) (x : Str) : Addr := match PySem.W.nsIn K d x with
  | some (some (.ref a)) => a
  | _ => 0
def tupA (K : PySem.W.Frag) (a : Addr) (vs : List Dv) : Bool := match K.lookup a with
  | some ⟨.type c, _, .seq its _, _⟩ => decide (c = "tuple") && (decide (its.size ≤ sizeLine) && relAll (vs.map (Dv.v K)) its.toList)
  | _ => false
theorem tupA_ok {K : PySem.W.Frag} {a : Addr} {vs : List Dv} (h : tupA K a vs = true) (H : Hp) : SqT K H a (vs.map (Dv.v K)) := by
  unfold tupA at h
  split at h
  · rename_i c od its n osl q
    obtain ⟨h1, h2⟩ := ba h
    obtain ⟨h3, h4⟩ := ba h2
    exact .inr ⟨_, its, n, q, congrArg Value.type (of_decide_eq_true h1), rfl, of_decide_eq_true h3, relAll_ok h4⟩
  · cases h
/-- at the key x a tuple of these -/
def dtB (K : PySem.W.Frag) (d : Addr) (x : Str) (vs : List Dv) : Bool := eqO (PySem.W.nsIn K d x) (some (some (.ref (atD K d x)))) && tupA K (atD K d x) vs
theorem kdct_of {K : PySem.W.Frag} {w : World} {d a : Addr} {x : Str} (D : ∃ es n, KDict K w d es n) (h : PySem.W.nsIn K d x = some (some (.ref a))) : KDct K w d x (.ref a) := by
  obtain ⟨es, n, D⟩ := D
  exact ⟨es, n, _, D.at_, D.lit, h, rfl⟩
theorem dt_ok {K : PySem.W.Frag} {w : World} {d : Addr} {x : Str} {vs : List Dv} (D : ∃ es n, KDict K w d es n) (h : dtB K d x vs = true) : ∃ a, KDct K w d x (.ref a) ∧ PySem.W.nsIn K d x = some (some (.ref a)) ∧ ∀ H, SqT K H a (vs.map (Dv.v K)) := by
  obtain ⟨h1, h2⟩ := ba h
  exact ⟨_, kdct_of D (eqO_ok h1), eqO_ok h1, fun H => tupA_ok h2 H⟩
/-- at the key x the def y -/
def dfB (K : PySem.W.Frag) (d : Addr) (x y : Str) : Bool := eqO (PySem.W.nsIn K d x) (some (some (.ref (ga K y))))
def dnB (K : PySem.W.Frag) (d : Addr) (x : Str) : Bool := eqO (PySem.W.nsIn K d x) (some none)
end Lc
set_option Elab.async false
set_option linter.all false
set_option maxRecDepth 100000
set_option maxHeartbeats 8000000
namespace K10
open PySem PySem.Spec PyProof.Rows L2 Lc He
/-! ## the head -/
def dOf (x : Str) (st : Stmt) : DefD := ⟨(x, none), x, x, defArgs st, defBody st, defScope st, [], []⟩
def dMt (c m q : Str) (st : Stmt) : DefD := ⟨(c, some m), m, q, defArgs st, defBody st, defScope st, [], []⟩
def dKw (x : Str) (st : Stmt) (kw : List (Str × Dv)) : DefD := ⟨(x, none), x, x, defArgs st, defBody st, defScope st, [], kw⟩
def dDf (x : Str) (st : Stmt) (df : List Dv) : DefD := ⟨(x, none), x, x, defArgs st, defBody st, defScope st, df, []⟩
def dMd (c m q : Str) (st : Stmt) (df : List Dv) : DefD := ⟨(c, some m), m, q, defArgs st, defBody st, defScope st, df, []⟩
def fn : List DefD := [dOf "is_whole" sWhole, dOf "common_divisor" sCd, dOf "is_rational" sIsR, dOf "check_rational" sChk, dOf "lowest_terms" sLow, dOf "add" sAddR, dOf "subtract" sSubR, dOf "multiply" sMulR, dOf "divide" sDivR, dOf "compare" sCmpR, dOf "within_limit" sWithin, dOf "limited" sLim, dOf "plus" sPlus, dOf "minus" sMinus, dOf "times" sTimes, dOf "over" sOver, dOf "less" sLess, dOf "same" sSame, dOf "both" sBoth, dOf "either" sEither, dOf "evaluate" sEv, dOf "worth" sWo, dOf "worth_of_two" sWt, dOf "_law_tape" sTape, dOf "_law_draw" sDraw, dOf "_law_lowest" sLst, dOf "_law_rational" sRat, dOf "_law_name" sLnm, dOf "_law_fresh" sFr, dOf "_law_columns" sCls, dOf "_law_value" sLv, dOf "_law_values" sLvs, dOf "_law_leaf" sLf, dOf "_law_expression" sXp, dOf "_law_arithmetic" sAri, dOf "_law_flags" sFlg, dOf "_law_due" sDue, dOf "_law_tables_right" sTab, dOf "law" sLaw]
def gl : List Str := (["STRICT", "LENIENT", "is_whole", "common_divisor", "is_rational", "check_rational", "lowest_terms", "add", "subtract", "multiply", "divide", "compare", "within_limit", "limited", "plus", "minus", "times", "over", "less", "same"] : List Str) ++ (["both", "either", "evaluate", "worth", "worth_of_two", "_law_tape", "_law_draw", "_law_lowest", "_law_rational", "_law_name", "_law_fresh", "_law_columns", "_law_value", "_law_values", "_law_leaf", "_law_expression", "_law_arithmetic", "_law_flags", "_law_due", "_law_tables_right"] : List Str)
def loose : List Str := gl ++ (["BadNumber", "DivisionByZero", "LIMIT"] : List Str)
def fa : List Fa := (.glo "law") :: gl.map Fa.glo ++ (btNames ++ (["zip"] : List Str)).map Fa.free ++ [.int "LIMIT" lim]
def exL (K : PySem.W.Frag) : List Bool := [dnB K (ga K "LENIENT") "plus", dfB K (ga K "STRICT") "plus" "plus", dnB K (ga K "LENIENT") "minus", dfB K (ga K "STRICT") "minus" "minus", dnB K (ga K "LENIENT") "times", dfB K (ga K "STRICT") "times" "times", dnB K (ga K "LENIENT") "over", dfB K (ga K "STRICT") "over" "over", dnB K (ga K "LENIENT") "less", dfB K (ga K "STRICT") "less" "less", dnB K (ga K "LENIENT") "same", dfB K (ga K "STRICT") "same" "same", dfB K (ga K "LENIENT") "both" "both", dfB K (ga K "LENIENT") "either" "either"]
def ex (K : PySem.W.Frag) : Bool := (exL K).all id
def ts : List Tab := [((fun K => ga K "STRICT"), ["plus", "minus", "times", "over", "less", "same"]), ((fun K => ga K "LENIENT"), ["both", "either"])]
abbrev R : PySem.W.OpenRow := PySem.W.OpenLaw.row PySem.Challenge.rw_liveclaims_k10_values_of_expressions
abbrev hk : PySem.W.Hook := hookF 5 fa fn ex ts
def ob (s : PySem.W.SharedT) : AlF := obsF 5 fa fn ex ts (HandSHeadRun.getT s)
theorem ob_eq (s : PySem.W.SharedT) : ob s = hk.obs s.abs := obsF_eq (HandSHeadRun.getT_eq s)
theorem run_false (w : World) : HandSHeadRun.RunEq R (PySem.W.view R.prog [48]) hk ob 4000 loose (w.withFollow "special-get-raises" false) := by
  intro os
  kernel_rfl
theorem run_true (w : World) : HandSHeadRun.RunEq R (PySem.W.view R.prog [48]) hk ob 4000 loose (w.withFollow "special-get-raises" true) := by
  intro os
  kernel_rfl
theorem run (w : World) : HandSHeadRun.RunEq R (PySem.W.view R.prog [48]) hk ob 4000 loose w := PySem.W.byRow2 "special-get-raises" (P := fun w => HandSHeadRun.RunEq R (PySem.W.view R.prog [48]) hk ob 4000 loose w) run_false run_true w
theorem facts {P : Program} {w : World} {K : PySem.W.Frag} {h : Heap} {mg : Str → Option Value} {f : Addr} (X : K.In h) (G : h.Ns mainGlobals mg) (hfa : mg ("law" : Str) = some (.ref f)) (c : SaysD fa fn K) (e : ex K = true) (tb : TabsOk ts w K) :
    ∃ fd : FuncData, (∀ (s : Shared) (v : Value), BindsTo s fd ⟨[v], []⟩ [("_law_script", v)]) ∧ ∀ base : Heap, K.In base → base.Ns mainGlobals mg → FnG P w K mg base 17 f fd ["_law_script"] (spLaw K) := by
  obtain ⟨fd0, D0⟩ := c.def_ 0 (d := dOf "is_whole" sWhole) rfl
  obtain ⟨fd1, D1⟩ := c.def_ 1 (d := dOf "common_divisor" sCd) rfl
  obtain ⟨fd2, D2⟩ := c.def_ 2 (d := dOf "is_rational" sIsR) rfl
  obtain ⟨fd3, D3⟩ := c.def_ 3 (d := dOf "check_rational" sChk) rfl
  obtain ⟨fd4, D4⟩ := c.def_ 4 (d := dOf "lowest_terms" sLow) rfl
  obtain ⟨fd5, D5⟩ := c.def_ 5 (d := dOf "add" sAddR) rfl
  obtain ⟨fd6, D6⟩ := c.def_ 6 (d := dOf "subtract" sSubR) rfl
  obtain ⟨fd7, D7⟩ := c.def_ 7 (d := dOf "multiply" sMulR) rfl
  obtain ⟨fd8, D8⟩ := c.def_ 8 (d := dOf "divide" sDivR) rfl
  obtain ⟨fd9, D9⟩ := c.def_ 9 (d := dOf "compare" sCmpR) rfl
  obtain ⟨fd10, D10⟩ := c.def_ 10 (d := dOf "within_limit" sWithin) rfl
  obtain ⟨fd11, D11⟩ := c.def_ 11 (d := dOf "limited" sLim) rfl
  obtain ⟨fd12, D12⟩ := c.def_ 12 (d := dOf "plus" sPlus) rfl
  obtain ⟨fd13, D13⟩ := c.def_ 13 (d := dOf "minus" sMinus) rfl
  obtain ⟨fd14, D14⟩ := c.def_ 14 (d := dOf "times" sTimes) rfl
  obtain ⟨fd15, D15⟩ := c.def_ 15 (d := dOf "over" sOver) rfl
  obtain ⟨fd16, D16⟩ := c.def_ 16 (d := dOf "less" sLess) rfl
  obtain ⟨fd17, D17⟩ := c.def_ 17 (d := dOf "same" sSame) rfl
  obtain ⟨fd18, D18⟩ := c.def_ 18 (d := dOf "both" sBoth) rfl
  obtain ⟨fd19, D19⟩ := c.def_ 19 (d := dOf "either" sEither) rfl
  obtain ⟨fd20, D20⟩ := c.def_ 20 (d := dOf "evaluate" sEv) rfl
  obtain ⟨fd21, D21⟩ := c.def_ 21 (d := dOf "worth" sWo) rfl
  obtain ⟨fd22, D22⟩ := c.def_ 22 (d := dOf "worth_of_two" sWt) rfl
  obtain ⟨fd23, D23⟩ := c.def_ 23 (d := dOf "_law_tape" sTape) rfl
  obtain ⟨fd24, D24⟩ := c.def_ 24 (d := dOf "_law_draw" sDraw) rfl
  obtain ⟨fd25, D25⟩ := c.def_ 25 (d := dOf "_law_lowest" sLst) rfl
  obtain ⟨fd26, D26⟩ := c.def_ 26 (d := dOf "_law_rational" sRat) rfl
  obtain ⟨fd27, D27⟩ := c.def_ 27 (d := dOf "_law_name" sLnm) rfl
  obtain ⟨fd28, D28⟩ := c.def_ 28 (d := dOf "_law_fresh" sFr) rfl
  obtain ⟨fd29, D29⟩ := c.def_ 29 (d := dOf "_law_columns" sCls) rfl
  obtain ⟨fd30, D30⟩ := c.def_ 30 (d := dOf "_law_value" sLv) rfl
  obtain ⟨fd31, D31⟩ := c.def_ 31 (d := dOf "_law_values" sLvs) rfl
  obtain ⟨fd32, D32⟩ := c.def_ 32 (d := dOf "_law_leaf" sLf) rfl
  obtain ⟨fd33, D33⟩ := c.def_ 33 (d := dOf "_law_expression" sXp) rfl
  obtain ⟨fd34, D34⟩ := c.def_ 34 (d := dOf "_law_arithmetic" sAri) rfl
  obtain ⟨fd35, D35⟩ := c.def_ 35 (d := dOf "_law_flags" sFlg) rfl
  obtain ⟨fd36, D36⟩ := c.def_ 36 (d := dOf "_law_due" sDue) rfl
  obtain ⟨fd37, D37⟩ := c.def_ 37 (d := dOf "_law_tables_right" sTab) rfl
  obtain ⟨fd38, D38⟩ := c.def_ 38 (d := dOf "law" sLaw) rfl
  have ef := hfa.symm.trans (glo_ok X G (c.fact 0 (f := .glo "law") rfl))
  cases ef
  have g : ∀ (i : Nat) (x : Str), fa[i]? = some (.glo x) → mg x = some (.ref (ga K x)) := fun i x z => glo_ok X G (c.fact i (f := .glo x) z)
  have z : ∀ (i : Nat) (x : Str), fa[i]? = some (.free x) → mg x = none := fun i x z => free_ok X G (c.fact i (f := .free x) z)
  have T : Bt mg := ⟨z 41 _ rfl, z 42 _ rfl, z 43 _ rfl, z 44 _ rfl, z 45 _ rfl, z 46 _ rfl, z 47 _ rfl, z 48 _ rfl, z 49 _ rfl, z 50 _ rfl, z 51 _ rfl, z 52 _ rfl, z 53 _ rfl, z 54 _ rfl, z 55 _ rfl, z 56 _ rfl, z 57 _ rfl, z 58 _ rfl⟩
  obtain ⟨uc0, mc0⟩ := int_ok X G (c.fact 60 (f := .int "LIMIT" lim) rfl)
  have a : ∀ (i : Nat) {b : Bool}, (exL K)[i]? = some b → b = true := fun i _ z => all_at e i z
  have b0 : Binds K fd0 ["value"] [] := D0.bindsN fun _ _ _ _ _ _ us hl => match us, hl with | [_], _ => rfl
  have b1 : Binds K fd1 ["a", "b"] [] := D1.bindsN fun _ _ _ _ _ _ us hl => match us, hl with | [_, _], _ => rfl
  have b2 : Binds K fd2 ["value"] [] := D2.bindsN fun _ _ _ _ _ _ us hl => match us, hl with | [_], _ => rfl
  have b3 : Binds K fd3 ["value"] [] := D3.bindsN fun _ _ _ _ _ _ us hl => match us, hl with | [_], _ => rfl
  have b4 : Binds K fd4 ["n", "d"] [] := D4.bindsN fun _ _ _ _ _ _ us hl => match us, hl with | [_, _], _ => rfl
  have b5 : Binds K fd5 ["a", "b"] [] := D5.bindsN fun _ _ _ _ _ _ us hl => match us, hl with | [_, _], _ => rfl
  have b6 : Binds K fd6 ["a", "b"] [] := D6.bindsN fun _ _ _ _ _ _ us hl => match us, hl with | [_, _], _ => rfl
  have b7 : Binds K fd7 ["a", "b"] [] := D7.bindsN fun _ _ _ _ _ _ us hl => match us, hl with | [_, _], _ => rfl
  have b8 : Binds K fd8 ["a", "b"] [] := D8.bindsN fun _ _ _ _ _ _ us hl => match us, hl with | [_, _], _ => rfl
  have b9 : Binds K fd9 ["a", "b"] [] := D9.bindsN fun _ _ _ _ _ _ us hl => match us, hl with | [_, _], _ => rfl
  have b10 : Binds K fd10 ["number"] [] := D10.bindsN fun _ _ _ _ _ _ us hl => match us, hl with | [_], _ => rfl
  have b11 : Binds K fd11 ["number"] [] := D11.bindsN fun _ _ _ _ _ _ us hl => match us, hl with | [_], _ => rfl
  have b12 : Binds K fd12 ["a", "b"] [] := D12.bindsN fun _ _ _ _ _ _ us hl => match us, hl with | [_, _], _ => rfl
  have b13 : Binds K fd13 ["a", "b"] [] := D13.bindsN fun _ _ _ _ _ _ us hl => match us, hl with | [_, _], _ => rfl
  have b14 : Binds K fd14 ["a", "b"] [] := D14.bindsN fun _ _ _ _ _ _ us hl => match us, hl with | [_, _], _ => rfl
  have b15 : Binds K fd15 ["a", "b"] [] := D15.bindsN fun _ _ _ _ _ _ us hl => match us, hl with | [_, _], _ => rfl
  have b16 : Binds K fd16 ["a", "b"] [] := D16.bindsN fun _ _ _ _ _ _ us hl => match us, hl with | [_, _], _ => rfl
  have b17 : Binds K fd17 ["a", "b"] [] := D17.bindsN fun _ _ _ _ _ _ us hl => match us, hl with | [_, _], _ => rfl
  have b18 : Binds K fd18 ["a", "b"] [] := D18.bindsN fun _ _ _ _ _ _ us hl => match us, hl with | [_, _], _ => rfl
  have b19 : Binds K fd19 ["a", "b"] [] := D19.bindsN fun _ _ _ _ _ _ us hl => match us, hl with | [_, _], _ => rfl
  have b20 : Binds K fd20 ["columns", "values", "expression"] [] := D20.bindsN fun _ _ _ _ _ _ us hl => match us, hl with | [_, _, _], _ => rfl
  have b21 : Binds K fd21 ["row", "part"] [] := D21.bindsN fun _ _ _ _ _ _ us hl => match us, hl with | [_, _], _ => rfl
  have b22 : Binds K fd22 ["word", "a", "b"] [] := D22.bindsN fun _ _ _ _ _ _ us hl => match us, hl with | [_, _, _], _ => rfl
  have b23 : Binds K fd23 ["_law_script"] [] := D23.bindsN fun _ _ _ _ _ _ us hl => match us, hl with | [_], _ => rfl
  have b24 : Binds K fd24 ["_law_tape_here", "_law_many"] [] := D24.bindsN fun _ _ _ _ _ _ us hl => match us, hl with | [_, _], _ => rfl
  have b25 : Binds K fd25 ["_law_n", "_law_d"] [] := D25.bindsN fun _ _ _ _ _ _ us hl => match us, hl with | [_, _], _ => rfl
  have b26 : Binds K fd26 ["_law_tape_here", "_law_wide"] [] := D26.bindsN fun _ _ _ _ _ _ us hl => match us, hl with | [_, _], _ => rfl
  have b27 : Binds K fd27 ["_law_tape_here"] [] := D27.bindsN fun _ _ _ _ _ _ us hl => match us, hl with | [_], _ => rfl
  have b28 : Binds K fd28 ["_law_tape_here", "_law_taken"] [] := D28.bindsN fun _ _ _ _ _ _ us hl => match us, hl with | [_, _], _ => rfl
  have b29 : Binds K fd29 ["_law_tape_here", "_law_lead", "_law_many", "_law_taken"] [] := D29.bindsN fun _ _ _ _ _ _ us hl => match us, hl with | [_, _, _, _], _ => rfl
  have b30 : Binds K fd30 ["_law_tape_here", "_law_kind", "_law_wide"] [] := D30.bindsN fun _ _ _ _ _ _ us hl => match us, hl with | [_, _, _], _ => rfl
  have b31 : Binds K fd31 ["_law_tape_here", "_law_columns_here", "_law_wide"] [] := D31.bindsN fun _ _ _ _ _ _ us hl => match us, hl with | [_, _, _], _ => rfl
  have b32 : Binds K fd32 ["_law_tape_here", "_law_columns_here", "_law_kind"] [] := D32.bindsN fun _ _ _ _ _ _ us hl => match us, hl with | [_, _, _], _ => rfl
  have b33 : Binds K fd33 ["_law_tape_here", "_law_columns_here", "_law_kind", "_law_depth"] [] := D33.bindsN fun _ _ _ _ _ _ us hl => match us, hl with | [_, _, _, _], _ => rfl
  have b34 : Binds K fd34 ["_law_word", "_law_a", "_law_b"] [] := D34.bindsN fun _ _ _ _ _ _ us hl => match us, hl with | [_, _, _], _ => rfl
  have b35 : Binds K fd35 ["_law_word", "_law_a", "_law_b"] [] := D35.bindsN fun _ _ _ _ _ _ us hl => match us, hl with | [_, _, _], _ => rfl
  have b36 : Binds K fd36 ["_law_row", "_law_expression_here"] [] := D36.bindsN fun _ _ _ _ _ _ us hl => match us, hl with | [_, _], _ => rfl
  have b37 : Binds K fd37 [] [] := D37.bindsN fun _ _ _ _ _ _ us hl => match us, hl with | [], _ => rfl
  have bl := FunD.bindsA (ps := ["_law_script"]) D38 fun _ _ _ _ _ _ us hl => match us, hl with | [_], _ => rfl
  refine ⟨fd38, fun s v => bl s [v] rfl, fun base _ _ => ?_⟩
  have m_STRICT : mg "STRICT" = some (.ref (ga K "STRICT")) := g 1 _ rfl
  have m_LENIENT : mg "LENIENT" = some (.ref (ga K "LENIENT")) := g 2 _ rfl
  have m_is_whole : mg "is_whole" = some (.ref (ga K "is_whole")) := g 3 _ rfl
  have m_common_divisor : mg "common_divisor" = some (.ref (ga K "common_divisor")) := g 4 _ rfl
  have m_is_rational : mg "is_rational" = some (.ref (ga K "is_rational")) := g 5 _ rfl
  have m_check_rational : mg "check_rational" = some (.ref (ga K "check_rational")) := g 6 _ rfl
  have m_lowest_terms : mg "lowest_terms" = some (.ref (ga K "lowest_terms")) := g 7 _ rfl
  have m_add : mg "add" = some (.ref (ga K "add")) := g 8 _ rfl
  have m_subtract : mg "subtract" = some (.ref (ga K "subtract")) := g 9 _ rfl
  have m_multiply : mg "multiply" = some (.ref (ga K "multiply")) := g 10 _ rfl
  have m_divide : mg "divide" = some (.ref (ga K "divide")) := g 11 _ rfl
  have m_compare : mg "compare" = some (.ref (ga K "compare")) := g 12 _ rfl
  have m_within_limit : mg "within_limit" = some (.ref (ga K "within_limit")) := g 13 _ rfl
  have m_limited : mg "limited" = some (.ref (ga K "limited")) := g 14 _ rfl
  have m_plus : mg "plus" = some (.ref (ga K "plus")) := g 15 _ rfl
  have m_minus : mg "minus" = some (.ref (ga K "minus")) := g 16 _ rfl
  have m_times : mg "times" = some (.ref (ga K "times")) := g 17 _ rfl
  have m_over : mg "over" = some (.ref (ga K "over")) := g 18 _ rfl
  have m_less : mg "less" = some (.ref (ga K "less")) := g 19 _ rfl
  have m_same : mg "same" = some (.ref (ga K "same")) := g 20 _ rfl
  have m_both : mg "both" = some (.ref (ga K "both")) := g 21 _ rfl
  have m_either : mg "either" = some (.ref (ga K "either")) := g 22 _ rfl
  have m_evaluate : mg "evaluate" = some (.ref (ga K "evaluate")) := g 23 _ rfl
  have m_worth : mg "worth" = some (.ref (ga K "worth")) := g 24 _ rfl
  have m_worth_of_two : mg "worth_of_two" = some (.ref (ga K "worth_of_two")) := g 25 _ rfl
  have m__law_tape : mg "_law_tape" = some (.ref (ga K "_law_tape")) := g 26 _ rfl
  have m__law_draw : mg "_law_draw" = some (.ref (ga K "_law_draw")) := g 27 _ rfl
  have m__law_lowest : mg "_law_lowest" = some (.ref (ga K "_law_lowest")) := g 28 _ rfl
  have m__law_rational : mg "_law_rational" = some (.ref (ga K "_law_rational")) := g 29 _ rfl
  have m__law_name : mg "_law_name" = some (.ref (ga K "_law_name")) := g 30 _ rfl
  have m__law_fresh : mg "_law_fresh" = some (.ref (ga K "_law_fresh")) := g 31 _ rfl
  have m__law_columns : mg "_law_columns" = some (.ref (ga K "_law_columns")) := g 32 _ rfl
  have m__law_value : mg "_law_value" = some (.ref (ga K "_law_value")) := g 33 _ rfl
  have m__law_values : mg "_law_values" = some (.ref (ga K "_law_values")) := g 34 _ rfl
  have m__law_leaf : mg "_law_leaf" = some (.ref (ga K "_law_leaf")) := g 35 _ rfl
  have m__law_expression : mg "_law_expression" = some (.ref (ga K "_law_expression")) := g 36 _ rfl
  have m__law_arithmetic : mg "_law_arithmetic" = some (.ref (ga K "_law_arithmetic")) := g 37 _ rfl
  have m__law_flags : mg "_law_flags" = some (.ref (ga K "_law_flags")) := g 38 _ rfl
  have m__law_due : mg "_law_due" = some (.ref (ga K "_law_due")) := g 39 _ rfl
  have m__law_tables_right : mg "_law_tables_right" = some (.ref (ga K "_law_tables_right")) := g 40 _ rfl
  have mf_zip : mg "zip" = none := z 59 _ rfl
  have G0 : FnOk P w K mg base CX0 (1) _ fd0 ["value"] (spWhole) := ok_whole (fun_of D0) T
  have G1 : FnOk P w K mg base CX0 (1) _ fd1 ["a", "b"] (spCd) := ok_cd (fun_of D1)
  have G2 : FnOk P w K mg base CX0 (2) _ fd2 ["value"] (spIsR) := ok_isr (fun_of D2) T G0 m_is_whole D0.kp b0 G1 m_common_divisor D1.kp b1
  have G10 : FnOk P w K mg base CX0 (1) _ fd10 ["number"] (spWithin) := ok_within (fun_of D10) T mc0
  have G3 : FnOk P w K mg base CX0 (3) _ fd3 ["value"] (spChkQ) := ok_chkQ (fun_of D3) G2 m_is_rational D2.kp b2
  have G4 : FnOk P w K mg base CX0 (2) _ fd4 ["n", "d"] (spLow) := ok_low (fun_of D4) T G1 m_common_divisor D1.kp b1
  have R0 : Ar P w K mg base _ _ _ _ := ⟨G3, m_check_rational, D3.kp, b3, G4, m_lowest_terms, D4.kp, b4⟩
  have G5 : FnOk P w K mg base CX0 (4) _ fd5 ["a", "b"] (spBQ okAdd) := ok_add (fun_of D5) R0
  have G6 : FnOk P w K mg base CX0 (4) _ fd6 ["a", "b"] (spBQ okSub) := ok_sub (fun_of D6) R0
  have G7 : FnOk P w K mg base CX0 (4) _ fd7 ["a", "b"] (spBQ okMul) := ok_mul (fun_of D7) R0
  have G8 : FnOk P w K mg base CX0 (4) _ fd8 ["a", "b"] (spBQ okDiv) := ok_div (fun_of D8) R0
  have G9 : FnOk P w K mg base CX0 (4) _ fd9 ["a", "b"] (spBQ okCmp) := ok_cmp (fun_of D9) R0
  have G11 : FnOk P w K mg base CX0 (2) _ fd11 ["number"] (spLim) := ok_lim (fun_of D11) G10 m_within_limit D10.kp b10
  have G12 : FnOk P w K mg base CX0 (5) _ fd12 ["a", "b"] (spTwo "plus") := ok_plus (fun_of D12) G11 m_limited D11.kp b11 G5 m_add D5.kp b5
  have G13 : FnOk P w K mg base CX0 (5) _ fd13 ["a", "b"] (spTwo "minus") := ok_minus (fun_of D13) G11 m_limited D11.kp b11 G6 m_subtract D6.kp b6
  have G14 : FnOk P w K mg base CX0 (5) _ fd14 ["a", "b"] (spTwo "times") := ok_times (fun_of D14) G11 m_limited D11.kp b11 G7 m_multiply D7.kp b7
  have G15 : FnOk P w K mg base CX0 (5) _ fd15 ["a", "b"] (spTwo "over") := ok_over (fun_of D15) G11 m_limited D11.kp b11 G8 m_divide D8.kp b8
  have G16 : FnOk P w K mg base CX0 (5) _ fd16 ["a", "b"] (spTwo "less") := ok_less (fun_of D16) G9 m_compare D9.kp b9
  have G17 : FnOk P w K mg base CX0 (5) _ fd17 ["a", "b"] (spTwo "same") := ok_same (fun_of D17)
  have G18 : FnOk P w K mg base CX0 (5) _ fd18 ["a", "b"] (spTwo "both") := ok_both (fun_of D18)
  have G19 : FnOk P w K mg base CX0 (5) _ fd19 ["a", "b"] (spTwo "either") := ok_either (fun_of D19)
  have tS := tb 0 _ rfl
  have tL := tb 1 _ rfl
  have A2 : TwoA P w K mg base (ga K "STRICT") (ga K "LENIENT") := by
    refine ⟨m_STRICT, m_LENIENT, tL, fun x hx => ?_, fun x hx => ?_⟩
    · rcases hx with rfl | rfl | rfl | rfl | rfl | rfl
      · exact ⟨eqO_ok (a 0 rfl), _, kdct_of tS (eqO_ok (a 1 rfl)), ⟨⟨_, _, G12, D12.kp, b12⟩⟩⟩
      · exact ⟨eqO_ok (a 2 rfl), _, kdct_of tS (eqO_ok (a 3 rfl)), ⟨⟨_, _, G13, D13.kp, b13⟩⟩⟩
      · exact ⟨eqO_ok (a 4 rfl), _, kdct_of tS (eqO_ok (a 5 rfl)), ⟨⟨_, _, G14, D14.kp, b14⟩⟩⟩
      · exact ⟨eqO_ok (a 6 rfl), _, kdct_of tS (eqO_ok (a 7 rfl)), ⟨⟨_, _, G15, D15.kp, b15⟩⟩⟩
      · exact ⟨eqO_ok (a 8 rfl), _, kdct_of tS (eqO_ok (a 9 rfl)), ⟨⟨_, _, G16, D16.kp, b16⟩⟩⟩
      · exact ⟨eqO_ok (a 10 rfl), _, kdct_of tS (eqO_ok (a 11 rfl)), ⟨⟨_, _, G17, D17.kp, b17⟩⟩⟩
    · rcases hx with rfl | rfl
      · exact ⟨_, kdct_of tL (eqO_ok (a 12 rfl)), eqO_ok (a 12 rfl), ⟨⟨_, _, G18, D18.kp, b18⟩⟩⟩
      · exact ⟨_, kdct_of tL (eqO_ok (a 13 rfl)), eqO_ok (a 13 rfl), ⟨⟨_, _, G19, D19.kp, b19⟩⟩⟩
  have G22 : FnOk P w K mg base CX0 (6) _ fd22 ["word", "a", "b"] (spWt) := ok_wt (fun_of D22) A2
  have G21 : FnOk P w K mg base CX0 (6 + 8) _ fd21 ["row", "part"] (spWo 8) := ok_wo (fun_of D21) T G22 m_worth_of_two D22.kp b22 m_worth D21.kp b21 8
  have G20 : FnOk P w K mg base CX0 (15) _ fd20 ["columns", "values", "expression"] (spEv) := ok_ev (fun_of D20) mf_zip G21 m_worth D21.kp b21
  have G23 : FnOk P w K mg base CX0 (1) _ fd23 ["_law_script"] (spTape K) := ok_tape (fun_of D23) T
  have G24 : FnOk P w K mg base CX0 (1) _ fd24 ["_law_tape_here", "_law_many"] (spDrawL) := ok_draw (fun_of D24) T
  have G25 : FnOk P w K mg base CX0 (1) _ fd25 ["_law_n", "_law_d"] (spLowest) := ok_lst (fun_of D25) T
  have G26 : FnOk P w K mg base CX0 (2) _ fd26 ["_law_tape_here", "_law_wide"] (spRatL) := ok_rat (fun_of D26) T G24 m__law_draw D24.kp b24 G25 m__law_lowest D25.kp b25
  have G27 : FnOk P w K mg base CX0 (2) _ fd27 ["_law_tape_here"] (spLNm) := ok_lnm (fun_of D27) T G24 m__law_draw D24.kp b24
  have G28 : FnOk P w K mg base CX0 (3) _ fd28 ["_law_tape_here", "_law_taken"] (spFr) := ok_fr (fun_of D28) G27 m__law_name D27.kp b27
  have G29 : FnOk P w K mg base CX0 (4) _ fd29 ["_law_tape_here", "_law_lead", "_law_many", "_law_taken"] (spCls) := ok_cls (fun_of D29) T G24 m__law_draw D24.kp b24 G28 m__law_fresh D28.kp b28
  have G30 : FnOk P w K mg base CX0 (3) _ fd30 ["_law_tape_here", "_law_kind", "_law_wide"] (spVal) := ok_lv (fun_of D30) G24 m__law_draw D24.kp b24 G26 m__law_rational D26.kp b26 G27 m__law_name D27.kp b27
  have G31 : FnOk P w K mg base CX0 (4) _ fd31 ["_law_tape_here", "_law_columns_here", "_law_wide"] (spVals) := ok_lvs (fun_of D31) T G30 m__law_value D30.kp b30
  have G32 : FnOk P w K mg base CX0 (3) _ fd32 ["_law_tape_here", "_law_columns_here", "_law_kind"] (spLf) := ok_lf (fun_of D32) T G24 m__law_draw D24.kp b24 G26 m__law_rational D26.kp b26
  have G33 : FnOk P w K mg base CX0 (3 + 5) _ fd33 ["_law_tape_here", "_law_columns_here", "_law_kind", "_law_depth"] (spXp 5) := ok_xp (fun_of D33) G24 m__law_draw D24.kp b24 G32 m__law_leaf D32.kp b32 m__law_expression D33.kp b33 5
  have G34 : FnOk P w K mg base CX0 (2) _ fd34 ["_law_word", "_law_a", "_law_b"] (spAri) := ok_Ari (fun_of D34) T G25 m__law_lowest D25.kp b25
  have G35 : FnOk P w K mg base CX0 (1) _ fd35 ["_law_word", "_law_a", "_law_b"] (spFlg) := ok_Flg (fun_of D35) T
  have G36 : FnOk P w K mg base CX0 (3 + 8) _ fd36 ["_law_row", "_law_expression_here"] (spWo 8) := ok_DueN (fun_of D36) T m__law_due D36.kp b36 G35 m__law_flags D35.kp b35 G34 m__law_arithmetic D34.kp b34 8
  have G37 : FnG P w K mg base (16) _ fd37 [] (spTab) := ok_Tab (fun_of D37) T G20 m_evaluate D20.kp b20 G36 m__law_due D36.kp b36
  exact ok_Law (fun_of D38) T mf_zip G37 m__law_tables_right D37.kp b37 G23 m__law_tape D23.kp b23 G29 m__law_columns D29.kp b29 G33 m__law_expression D33.kp b33 G31 m__law_values D31.kp b31 G20 m_evaluate D20.kp b20 G36 m__law_due D36.kp b36
end K10
open PySem PySem.W PySem.Calls PyProof.Rows
theorem PySem.Challenge.cw_liveclaims_k10_values_of_expressions_holds : PySem.Challenge.rw_liveclaims_k10_values_of_expressions.Holds := by
  w_on; o_law
  refine HandSHeadRun.head_any (r := OpenLaw.row PySem.Challenge.rw_liveclaims_k10_values_of_expressions) (q := view (OpenLaw.row PySem.Challenge.rw_liveclaims_k10_values_of_expressions).prog [48]) (H := K10.hk) (ob := K10.ob) (M := 4000) (loose := K10.loose) (d := HandSHeadRun.topDef (OpenLaw.row PySem.Challenge.rw_liveclaims_k10_values_of_expressions).prog 48) (kwd := []) K10.ob_eq
    (by kernel_rfl) (fun s => by kernel_rfl) K10.run (by kernel_rfl) (by kernel_rfl) (by kernel_rfl) (by rfl) (by first | assumption | decide +kernel) (by decide +kernel) ⟨rfl, rfl, rfl, rfl, rfl, by decide +kernel⟩ ?hw ?hc
  case hw => w_witness2
  case hc =>
    refine Lc.walk_GE (l := PySem.Challenge.rw_liveclaims_k10_values_of_expressions) (n := 63) (k := 17) (x := "_law_script") rfl (by decide) (by kernel_rfl) ⟨rfl, by decide, by decide⟩ ?F
    intro w mg fa h Y G hmg0
    obtain ⟨K, KX, c, e, tb⟩ := Y
    have hmg : mg ("law" : PySem.Str) = some (.ref fa) := by
      have e : (HandSHeadRun.topDef (OpenLaw.row PySem.Challenge.rw_liveclaims_k10_values_of_expressions).prog 48).name = ("law" : PySem.Str) := by kernel_rfl
      rw [← e]
      exact hmg0
    obtain ⟨fd, hb, hF⟩ := K10.facts (P := (PySem.Challenge.rw_liveclaims_k10_values_of_expressions).prog) (w := w) KX G hmg c e tb
    exact ⟨K, fd, K10.spLaw K, KX, hb, fun H a ns hl hS => ⟨a, ns, rfl, hS, fun _ => rfl⟩, hF⟩
