import PyProof.Rows.All
import Wide.All
import OpenK.AllK
import Wide.FinOn
import HandS.ForMost
import HandS.ForExc
import HandS.Wide
import HandS.Flow
import HandS.IsInst
import HandS.ExcInit
import HandS.ExcField
import HandS.ExcIs
import HandS.TryMany
import HandS.CallLocal
import HandS.RaiseMore
import HandS.CallSlots
import KE.KExcIs
import PyProof.ReprRoads
import PyProof.ReprText
import HandS.Evl
import HandS.Head0
import HandS.Head1
import HandS.Head2
import HandS.HeadHook1
import HandS.HeadHook2
import KE.KStateDown
import PySem.Challenge.RW_liveclaims_k01_exact_arithmetic
set_option maxRecDepth 100000
set_option maxHeartbeats 4000000
set_option linter.all false
namespace Lc
/-! ## Greatest common divisors and lowest terms -/
def gd (a b : Int) : Int := (Int.gcd a b : Int)
theorem gd_nonneg (a b : Int) : 0 ≤ gd a b := Int.natCast_nonneg _
theorem gd_pos {a b : Int} (h : b ≠ 0) : 0 < gd a b := by
  have : 0 < Int.gcd a b := Int.gcd_pos_of_ne_zero_right a h
  unfold gd
  omega
theorem gd_zero {a : Int} (h : 0 ≤ a) : gd a 0 = a := by
  unfold gd
  rw [Int.gcd_zero_right]
  omega
theorem gd_step {a b : Int} (ha : 0 ≤ a) (hb : 0 < b) : gd b (a % b) = gd a b := by
  unfold gd Int.gcd
  have e1 : (a % b).natAbs = a.natAbs % b.natAbs := by
    have h0 : 0 ≤ a % b := Int.emod_nonneg a (by omega)
    have : ((a % b).natAbs : Int) = ((a.natAbs % b.natAbs : Nat) : Int) := by
      rw [Int.natCast_emod, Int.natAbs_of_nonneg h0, Int.natAbs_of_nonneg ha, Int.natAbs_of_nonneg (by omega : 0 ≤ b)]
    exact Int.ofNat.inj this
  rw [e1, Nat.gcd_comm b.natAbs, ← Nat.gcd_rec, Nat.gcd_comm]
theorem gd_abs (a b : Int) : gd (if a < 0 then -a else a) b = gd a b := by
  unfold gd
  split
  · rw [Int.neg_gcd]
  · rfl
theorem gd_abs2 (a b : Int) : gd a (if b < 0 then -b else b) = gd a b := by
  unfold gd
  split
  · rw [Int.gcd_neg]
  · rfl
theorem gd_dvd1 (a b : Int) : gd a b ∣ a := Int.gcd_dvd_left a b
theorem gd_dvd2 (a b : Int) : gd a b ∣ b := Int.gcd_dvd_right a b
theorem gd_natAbs_le {a b : Int} (h : b ≠ 0) : (gd a b).natAbs ≤ b.natAbs := by
  have h1 : Int.gcd a b ≤ b.natAbs := Nat.le_of_dvd (by omega) (Int.gcd_dvd_natAbs_right a b)
  unfold gd
  rw [Int.natAbs_natCast]
  exact h1
def lowN (n d : Int) : Int := n / gd n d
def lowD (n d : Int) : Int := d / gd n d
structure Rt (n d : Int) : Prop where
  pos : 0 < d
  cop : gd n d = 1
theorem low_mul {n d : Int} (h : d ≠ 0) : lowN n d * gd n d = n ∧ lowD n d * gd n d = d := ⟨Int.ediv_mul_cancel (gd_dvd1 n d), Int.ediv_mul_cancel (gd_dvd2 n d)⟩
theorem lowD_pos {n d : Int} (h : 0 < d) : 0 < lowD n d := Int.ediv_pos_of_pos_of_dvd h (gd_nonneg n d) (gd_dvd2 n d)
theorem low_rt {n d : Int} (h : 0 < d) : Rt (lowN n d) (lowD n d) := by
  refine ⟨lowD_pos h, ?_⟩
  have hg : 0 < Int.gcd n d := Int.gcd_pos_of_ne_zero_right n (by omega)
  unfold lowN lowD gd
  rw [Int.gcd_ediv_gcd_ediv_gcd hg]
  rfl
theorem dvd_cop {k m n : Int} (h : k ∣ n * m) (g : Int.gcd m k = 1) : k ∣ n := by
  have h1 : k.natAbs ∣ m.natAbs * n.natAbs := by
    rw [← Int.natAbs_mul, Int.mul_comm]
    exact Int.natAbs_dvd_natAbs.mpr h
  have c : Nat.Coprime k.natAbs m.natAbs := by
    show Nat.gcd k.natAbs m.natAbs = 1
    rw [Nat.gcd_comm]
    exact g
  exact Int.natAbs_dvd_natAbs.mp (c.dvd_of_dvd_mul_left h1)
/-- lowest terms are one pair alone -/
theorem rt_unique {a b c d : Int} (h1 : Rt a b) (h2 : Rt c d) (e : a * d = c * b) : a = c ∧ b = d := by
  have g1 : Int.gcd a b = 1 := by have := h1.cop; unfold gd at this; omega
  have g2 : Int.gcd c d = 1 := by have := h2.cop; unfold gd at this; omega
  have db : b ∣ d := by
    have : b ∣ d * a := ⟨c, by rw [Int.mul_comm d a, e, Int.mul_comm]⟩
    exact dvd_cop this g1
  have dd : d ∣ b := by
    have : d ∣ b * c := ⟨a, by rw [Int.mul_comm b c, ← e, Int.mul_comm]⟩
    exact dvd_cop this g2
  have hb := h1.pos
  have hd := h2.pos
  have ebd : b = d := Int.le_antisymm (Int.le_of_dvd hd db) (Int.le_of_dvd hb dd)
  subst ebd
  exact ⟨Int.eq_of_mul_eq_mul_right (by omega) e, rfl⟩
theorem low_is {n d a b : Int} (hd : 0 < d) (h : Rt a b) (e : n * b = a * d) : lowN n d = a ∧ lowD n d = b := by
  have m := low_mul (n := n) (d := d) (by omega)
  have g := gd_pos (a := n) (b := d) (by omega)
  refine rt_unique (low_rt hd) h ?_
  have e2 : (lowN n d * b) * gd n d = (a * lowD n d) * gd n d := by
    rw [Int.mul_right_comm, m.1, Int.mul_assoc, m.2, e]
  exact Int.eq_of_mul_eq_mul_right (by omega) e2
theorem fdiv_neg_dvd {a g : Int} (hg : 0 < g) (h : g ∣ a) : a.fdiv (-g) = (-a) / g := by
  obtain ⟨m, rfl⟩ := h
  have e1 : g * m = (-g) * (-m) := by rw [Int.neg_mul_neg]
  have e2 : -(g * m) = g * (-m) := by rw [Int.mul_neg]
  rw [e2, Int.mul_ediv_cancel_left _ (by omega), e1, Int.mul_fdiv_cancel_left _ (by omega)]
/-- the sums and products of the law -/
theorem sub_add {an ad bn bd p q : Int} (had : 0 < ad) (hbd : 0 < bd) (hq : 0 < q) (h : p * (ad * bd) = (an * bd + bn * ad) * q) : (p * bd - bn * q) * ad = an * (q * bd) := by
  have e1 : (p * bd - bn * q) * ad = p * (ad * bd) - bn * q * ad := by
    rw [Int.sub_mul, Int.mul_assoc p bd ad, Int.mul_comm bd ad]
  have e2 : (an * bd + bn * ad) * q = an * (q * bd) + bn * q * ad := by
    rw [Int.add_mul, Int.mul_assoc an bd q, Int.mul_comm bd q, Int.mul_assoc bn ad q, Int.mul_comm ad q, Int.mul_assoc bn q ad]
  rw [e1, h, e2]
  omega
theorem mul_div {an ad bn bd p q : Int} (h : p * (ad * bn) = (an * bd) * q) (hbn : bn ≠ 0) : (p * bn) * ad = an * (q * bd) := by
  rw [Int.mul_assoc p bn ad, Int.mul_comm bn ad, h, Int.mul_assoc an bd q, Int.mul_comm bd q]
end Lc
namespace Lc
theorem low_le {n d : Int} (h : d ≠ 0) : (lowN n d).natAbs ≤ n.natAbs ∧ (lowD n d).natAbs ≤ d.natAbs := by
  have m := low_mul (n := n) (d := d) h
  have g := gd_pos (a := n) (b := d) h
  have e1 : n.natAbs = (lowN n d).natAbs * (gd n d).natAbs := by rw [← Int.natAbs_mul, m.1]
  have e2 : d.natAbs = (lowD n d).natAbs * (gd n d).natAbs := by rw [← Int.natAbs_mul, m.2]
  have gp : 0 < (gd n d).natAbs := by omega
  exact ⟨by rw [e1]; exact Nat.le_mul_of_pos_right _ gp, by rw [e2]; exact Nat.le_mul_of_pos_right _ gp⟩
theorem rt_one (n : Int) : Rt n 1 := ⟨by decide, by unfold gd; rw [Int.gcd_one]; rfl⟩
theorem rt_inv {d : Int} (h : 0 < d) : Rt 1 d := ⟨h, by unfold gd; rw [Int.one_gcd]; rfl⟩
theorem rt_ninv {d : Int} (h : 0 < d) : Rt (-1) d := ⟨h, by unfold gd; rw [Int.neg_gcd, Int.one_gcd]; rfl⟩
end Lc
set_option Elab.async false
set_option linter.all false
set_option maxRecDepth 100000
set_option maxHeartbeats 4000000
namespace Lc
open PySem PySem.Spec PyProof.Rows L2
/-! ## A try with clauses of both forms, «except X:» and «except X as n:» -/
structure Cl where
  c : Value
  slot : Option Nat
  ts : Addr → Value → Option Addr → TS
def putS : Option Nat → Option V → L2.St → L2.St
  | none, _, σ => σ
  | some i, v, σ => σ.set i v
def endS (q : Option Nat) (D : Ends) : Ends := ⟨fun σ H => D.nx (putS q none σ) H, D.rt, fun σ H => D.bk (putS q none σ) H, fun σ H => D.ct (putS q none σ) H⟩
def wCl (K : PySem.W.Frag) (Wout : WX) (D : Ends) : List Cl → WX
  | [] => Wout
  | q :: r => fun cls d σ H => ∃ b, PySem.W.exmOne K cls q.c = some b ∧ (b = true → ∀ a, H a = none → q.ts a cls d (endS q.slot D) (putS q.slot (some (.ref a)) σ) H) ∧
      (b = false → wCl K Wout D r cls d σ H)
abbrev SuiteOk (X : Cx) (st : List Stmt) (ts : Addr → Value → Option Addr → TS) : Prop :=
  ∀ (a : Addr) (ob : Obj) (cls : Value) (d : Option Addr) (pn : List (Addr × Obj)), Zc cls d ob → (∃ vs, ob.data = .fields vs) → PSs (X.suite a ((a, ob) :: pn)) st (ts a cls d)
inductive ClsOk (X : Cx) : List ExceptHandler → List Cl → Prop
  | nil : ClsOk X [] []
  | bare {x : Str} {q : Cl} {st : Stmt} {sts : List Stmt} {p1 p2 : Pos} {hds : List ExceptHandler} {l : List Cl} (hc : Names X x q.c) (hq : q.slot = none) (su : SuiteOk X (st :: sts) q.ts) (r : ClsOk X hds l) :
      ClsOk X (.ExceptHandler (some (.Name x p1)) none (st :: sts) p2 :: hds) (q :: l)
  | named {x n : Str} {q : Cl} {i : Nat} {st : Stmt} {sts : List Stmt} {p1 p2 : Pos} {hds : List ExceptHandler} {l : List Cl} (hc : Names X x q.c) (hq : q.slot = some i) (hN : X.N.Nodup) (hi : X.N[i]? = some n) (hn : X.env.kindOf n = some .local)
      (su : SuiteOk X (st :: sts) q.ts) (r : ClsOk X hds l) : ClsOk X (.ExceptHandler (some (.Name x p1)) (some n) (st :: sts) p2 :: hds) (q :: l)
section
variable {X : Cx}
theorem clauses_go {Wout : WX} {D : Ends} {pins : List (Addr × Obj)} {σ : L2.St} {H : Hp} {cls : Value} {d : Option Addr} {a : Addr} {B : Heap} {sI s' : Shared} {h3 : Heap}
    (hs : X.stack = X.env :: X.outer) (hf : X.env.frame = some X.env.locals) (tk : Takes X Wout) (J : Inv X pins σ H sI)
    (nb : ∀ b o, sI.heap.get? b = some o → b ∉ frs X.stack → B.get? b = some o) (na : H a = none) (os : s'.os = sI.os) (ag : AllBare s'.gens)
    (up : sI.heap.UpToSlots h3) (fl : HandSPX.FlyingZ B (X.env :: X.outer) a (Zc cls d) h3) :
    ∀ {hds : List ExceptHandler} {l : List Cl}, ClsOk X hds l → wCl X.K Wout D l cls d σ H → wpAny (model X.prog X.w) X.A (handleBy (.ref a) X.env hds) (SP X pins D) X.xe { s' with heap := h3 } := by
  have ok := J.ok
  have land : ∀ {h4 : Heap}, HandSPX.FlyingZ B (X.env :: X.outer) a (Zc cls d) h4 → sI.heap.UpToSlots h4 → Inv X pins σ H { s' with heap := h4 } ∧ ∃ ob vs, Zc cls d ob ∧ ob.data = .fields vs ∧ h4.get? a = some ob ∧
      Inv (X.suite a ((a, ob) :: (X.pn ++ pins))) [] σ H { s' with heap := h4 } := by
    intro h4 f4 u4
    have J4 : Inv X pins σ H { s' with heap := h4 } := J.landed nb f4.1 u4 os ag
    obtain ⟨ob, vs, hob, hz, hd⟩ := f4.there
    have nfr : a ∉ frs (X.env :: X.outer) := fun hm => by
      obtain ⟨_, ox, ex, nf⟩ := f4.2.2.1.mem hm
      rw [hob] at ex
      cases ex
      exact nf _ hd
    have nL : a ≠ X.env.locals := fun z => nfr (List.mem_filterMap.mpr ⟨X.env, List.mem_cons_self, by rw [hf, z]⟩)
    have nF : a ∉ X.fs := fun hm => by
      obtain ⟨en, hen, qq⟩ := List.mem_filterMap.mp hm
      exact nfr (List.mem_filterMap.mpr ⟨en, List.mem_cons_of_mem _ hen, qq⟩)
    exact ⟨J4, ob, vs, hz, hd, hob, J4.suite hob hd na nL nF⟩
  obtain ⟨J3, o3, vs3, hz3, hd3, ho3, S3⟩ := land fl up
  have ty : PySem.W.Looks (model X.prog X.w) h3 (typeOf (.ref a)) cls := fun _ _ _ _ kk qq => wpAny_typeOf_ref (kk _ _ ho3) (by rw [hz3.1]; exact qq)
  have tst : ∀ {x : Str} {c : Value} {p1 : Pos} {Q : Value → Shared → Prop} {E : Value → Shared → Prop}, Names X x c → Q c { s' with heap := h3 } →
      wpAny (model X.prog X.w) (X.A.mark (some (.ref a))) (eval (.Name x p1) X.env) Q E { s' with heap := h3 } := by
    intro x c p1 Q E hc hq
    rcases hc with ⟨hg, hdb, hm | ⟨hm, hv, hne⟩⟩
    · exact ld_glob (X := X.suite a ((a, o3) :: (X.pn ++ pins))) S3 hg hm hq hdb
    · exact ld_blt (X := X.suite a ((a, o3) :: (X.pn ++ pins))) S3 hg hm hv hq hne hdb
  intro hds l hk
  induction hk with
  | nil =>
    intro wi
    refine wpAny_handleBy_nil ?_
    obtain ⟨_, _, _, ox, vx, T, _, _, hox, _, hdx, h1, _⟩ := id fl
    have out : wpAny (model X.prog X.w) X.A (setFlight (.ref a) X.env.frame) (fun _ s4 => wpAny (model X.prog X.w) X.A (throw (.ref a) : Sem Flow) (SP X pins D) X.xe s4) X.xe { s' with heap := h3 } := by
      rw [hf]
      exact HandSPX.setFlight_upZ fl fun h4 f4 u4 => wpAny_throw (tk _ _ ⟨a, B, sI, pins, σ, H, cls, d, rfl, J, nb, up.trans u4, .inr (.inr (by rw [hs]; exact f4)), na, os, ag, wi⟩)
    unfold PySem.passOn
    refine wpAny_bind (wpAny_field hox hdx h1 ?_)
    rw [if_neg (by simp : ¬ ((Value.ref T == Value.none) = true))]
    first
      | exact wpAny_bind out
      | exact wpAny_bind (wpAny_pure (wpAny_bind out))
  | @bare x q st sts p1 p2 hds2 l2 hc hq su r ih =>
    intro wi
    obtain ⟨b, hb, yes, no⟩ := wi
    refine wpAny_handleBy_cons (codeAny_handlers_test (tst hc ((PySem.W.exm_one (M := model X.prog X.w) J3.kIn ty hb).here ?_))) (by intro z; cases z)
    cases b with
    | false => exact ih (no rfl)
    | true =>
      refine codeAny_handlers_suite (HandSPX.lands_againZ fl fun h4 f4 u4 => ?_)
      obtain ⟨J4, o4, vs4, hz4, hd4, ho4, S4⟩ := land f4 (up.trans u4)
      have yy := yes rfl a na
      rw [hq] at yy
      refine wpAny_mono ((su a o4 cls d (X.pn ++ pins) hz4 ⟨_, hd4⟩).run [] _ _ H _ S4 yy) (fun f s6 hsp => ?_) (fun _ _ z => z.elim)
      cases f with
      | ret u =>
        obtain ⟨v6, σ6, H6, S6, r6, q6⟩ := hsp
        exact ⟨v6, σ6, H6, S6.unsuite ok, r6, q6⟩
      | next => obtain ⟨σ6, H6, S6, q6⟩ := hsp; exact ⟨σ6, H6, S6.unsuite ok, q6⟩
      | brk => obtain ⟨σ6, H6, S6, q6⟩ := hsp; exact ⟨σ6, H6, S6.unsuite ok, q6⟩
      | cont => obtain ⟨σ6, H6, S6, q6⟩ := hsp; exact ⟨σ6, H6, S6.unsuite ok, q6⟩
  | @named x n q i st sts p1 p2 hds2 l2 hc hq hN hi hn su r ih =>
    intro wi
    obtain ⟨b, hb, yes, no⟩ := wi
    refine wpAny_handleBy_cons (codeAny_handlers_test (tst hc ((PySem.W.exm_one (M := model X.prog X.w) J3.kIn ty hb).here ?_))) (by intro z; cases z)
    cases b with
    | false => exact ih (no rfl)
    | true =>
      refine codeAny_handlers_suite_as (HandSPX.lands_againZ fl fun h4 f4 u4 => ?_)
      obtain ⟨J4, o4, vs4, hz4, hd4, ho4, S4⟩ := land f4 (up.trans u4)
      have yy := yes rfl a na
      rw [hq] at yy
      refine store_ok (X := X.suite a ((a, o4) :: (X.pn ++ pins))) (v := .ref a) S4 hN hi (.inl hn) rfl (fun s5 S5 => ?_) (.inr hn)
      refine wpAny_mono ((su a o4 cls d (X.pn ++ pins) hz4 ⟨_, hd4⟩).run [] s5 _ H _ S5 yy) (fun f s6 hsp => ?_) (fun _ _ z => z.elim)
      have fin : ∀ {σ6 : L2.St} {H6 : Hp} {Q : Shared → Prop}, Inv (X.suite a ((a, o4) :: (X.pn ++ pins))) [] σ6 H6 s6 → (∀ s7, Inv X pins (σ6.set i none) H6 s7 → Q s7) →
          wpAny (model X.prog X.w) X.A (do bindName X.env n .none; unbindBehindTheSuite X.env n p2) (fun _ s7 => Q s7) X.xe s6 := fun S6 k => gone_ok (S6.unsuite ok) hN hi hn k
      cases f with
      | ret u =>
        obtain ⟨v6, σ6, H6, S6, r6, q6⟩ := hsp
        exact fin S6 fun s7 J7 => ⟨_, _, _, J7, r6, q6⟩
      | next => obtain ⟨σ6, H6, S6, q6⟩ := hsp; exact fin S6 fun s7 J7 => ⟨_, _, J7, q6⟩
      | brk => obtain ⟨σ6, H6, S6, q6⟩ := hsp; exact fin S6 fun s7 J7 => ⟨_, _, J7, q6⟩
      | cont => obtain ⟨σ6, H6, S6, q6⟩ := hsp; exact fin S6 fun s7 J7 => ⟨_, _, J7, q6⟩
theorem ps_tryL {body : List Stmt} {h₀ : ExceptHandler} {hds : List ExceptHandler} {l : List Cl} {pos : Pos} {tb : WX → TS} {Wout : WX} (hs : X.stack = X.env :: X.outer) (hf : X.env.frame = some X.env.locals) (tk : Takes X Wout)
    (hb : ∀ (W : WX) (pn : List (Addr × Obj)) (xe : Value → Shared → Prop), Takes (X.tr pn xe) W → PassesOwn (model X.prog X.w) X.A X.env xe → PSs (X.tr pn xe) body (tb W)) (hh : ClsOk X (h₀ :: hds) l) :
    PS X (.Try body (h₀ :: hds) [] [] pos) (fun D σ H => tb (wCl X.K Wout D l) D σ H) := by
  refine ⟨fun pins s σ H D I h => ?_⟩
  have ok := I.ok
  have fr : X.A.frames = some (X.env :: X.outer) := ok.frames.trans (congrArg some hs)
  refine wpAny_Try_except (wpAny_mono ((hb (wCl X.K Wout D l) (X.pn ++ pins) (fun e s₁ => wpAny (model X.prog X.w) X.A (noteFrame e X.env) (fun _ s₂ => wpAny (model X.prog X.w) X.A (setFlight e none)
    (fun _ s₃ => wpAny (model X.prog X.w) X.A (handleBy e X.env (h₀ :: hds)) (SP X pins D) X.xe s₃) X.xe s₂) X.xe s₁) (fun u s' xx => ?_) PassesOwn.looking).run [] s σ H D (I.toTry _) h) (fun f s1 hsp => ?_) (fun _ _ he => he))
  · obtain ⟨a, B, sI, _, σ1, H1, cls, d, rfl, J', nb, up, sky, na, os, ag, wi⟩ := xx
    rw [hs] at sky
    exact Sky.land Zc.steady fr hf sky fun h3 f3 u3 => clauses_go hs hf tk (J'.ofTry ok) nb na os ag (up.trans u3) f3 hh wi
  · cases f with
    | ret u =>
      obtain ⟨v1, σ1, H1, J1, r1, q1⟩ := hsp
      exact ⟨v1, σ1, H1, J1.ofTry ok, r1, q1⟩
    | next => obtain ⟨σ1, H1, J1, q1⟩ := hsp; exact wpAny_execs_nil ⟨σ1, H1, J1.ofTry ok, q1⟩
    | brk => obtain ⟨σ1, H1, J1, q1⟩ := hsp; exact ⟨σ1, H1, J1.ofTry ok, q1⟩
    | cont => obtain ⟨σ1, H1, J1, q1⟩ := hsp; exact ⟨σ1, H1, J1.ofTry ok, q1⟩
end
/-! ## isinstance of the caught error, whether it has a dict or not -/
structure XisC (K : PySem.W.Frag) (C : Addr) : Prop where
  hc : (PySem.W.clsIn K C).isSome = true
  ga : PySem.W.findIn K (.ref C) "__getattribute__" = some (some (.builtin "BaseException.__getattribute__"))
  gt : PySem.W.findIn K (.ref C) "__getattr__" = some none
  sb : PySem.W.subIn K (.ref C) (.type "BaseException") = some true
  cl : PySem.W.findIn K (.ref C) "__class__" = some (some (.builtin "object.__class__"))
  sp : PySem.W.specialIn K (.builtin "object.__class__") "__get__" = some (some (.builtin "getset_descriptor.__get__"))
  tk : PySem.W.takesIn K (.builtin "object.__class__") = some true
  mo : PySem.W.mroIn K C (.type "object") = some true
def rIsX (K : PySem.W.Frag) (cls : Value) (d : Option Addr) (C a : Addr) : List V → Hp → VK → Prop := fun xs H Q => cls = .ref C ∧ ∃ (c : V) (cv : Value) (b : Bool), xs = [.ref a, c] ∧ ClsV c cv ∧ (∀ dd, d = some dd → ∃ fs, H dd = some (.xd fs)) ∧
  PySem.W.kitOne K (.ref C) cv = some b ∧ Q (.bl b) H
section
variable {X : Cx}
theorem call_isX {a C : Addr} {ob : Obj} {cls : Value} {d : Option Addr} {pn : List (Addr × Obj)} (T : XisC X.K C) (hz : Zc cls d ob) (hf : ∃ vs, ob.data = .fields vs) : CallR (X.suite a ((a, ob) :: pn)) (.builtin "isinstance") (rIsX X.K cls d C a) := by
  intro pins s σ H xs us Q I r h
  obtain ⟨ec, c, cv, b, rfl, hcv, hd, e, q⟩ := h
  obtain ⟨u1, u2, rfl, r1, r2⟩ := vals2 r
  have e2 := hcv.eq r2
  subst e2 ec
  obtain rfl : u1 = Value.ref a := r1
  obtain ⟨vs, hv⟩ := hf
  obtain ⟨hget, _⟩ := I.pin (a, ob) (List.mem_append_left _ List.mem_cons_self)
  have nc : PySem.W.notCls ob = true := by unfold PySem.W.notCls; rw [hv]
  have key : ∃ od, PySem.W.InstAt s.heap a ob C od := by
    cases d with
    | none => exact ⟨none, hget, hz.1, nc, by rw [hz.2]; trivial⟩
    | some dd =>
      obtain ⟨fs, hfs⟩ := hd dd rfl
      obtain ⟨mA, ⟨o, _, _, ho, _⟩, _⟩ := (show ObjOk X.prog X.w H s.heap dd (.xd fs) from I.hok dd _ hfs)
      exact ⟨some o, hget, hz.1, nc, by rw [hz.2]; exact ho⟩
  obtain ⟨od, J⟩ := key
  exact PySem.W.kia_one (PySem.W.kitx_exc T.hc T.ga T.gt T.sb T.cl T.sp T.tk T.mo) I.kIn J e (fun z => nomatch z) fun tk => ⟨.bl b, H, I.kept (t' := tk) fun _ _ z => z, rfl, q⟩
/-! ## f(e, ..), f a local name that holds a def which may raise -/
def tCallLS (i : Nat) (f : Addr) (sp : Sp) (E : L2.St → XK) (t : TA) : TE := fun σ H Q => σ[i]? = some (some (.ref f)) ∧ t σ H fun vs H1 => sp vs H1 Q (E σ)
theorem pe_callLS {CX : CXT} {k i : Nat} {f : Addr} {fd : FuncData} {ps : List Str} {sp : Sp} {E : L2.St → XK} {x : Str} {p pos : Pos} {e : Expr} {es : List Expr} {t : TA}
    (F : FnOk X.prog X.w X.K X.mg X.base CX k f fd ps sp) (hr : Room k X.A) (hN : X.N[i]? = some x) (hv : Vis X.env.scope x) (hk : PySem.W.keepIn X.K (.ref f) = true) (hb : Binds X.K fd ps []) (hx : ∀ σ, PassesAt CX X σ (E σ)) (ha : PA X (e :: es) t)
    (hdb : (x == ("__debug__" : Str)) = false := by decide) (hcd : (x == ("__classdict__" : Str)) = false := by decide)
    (he : starEach (e :: es) X.env = (false, eval e X.env) :: starEach es X.env := by rfl) (hpl : (backTo pos (starEach es X.env)).any (·.1) = false := by rfl) : PE X (.Call (.Name x p) (e :: es) [] pos) (tCallLS i f sp E t) := by
  refine ⟨fun pins s σ H Q I ⟨hs, ht⟩ => wpAny_Call_Name_kw (thn ((pe_var (pos := p) hN hv hdb hcd).run pins s σ H (fun v H1 => v = .ref f ∧ H1 = H) I ⟨.ref f, hs, rfl, rfl⟩) fun u s1 ⟨v, H1, I1, r1, e1, e2⟩ => ?_)⟩
  subst e1 e2
  obtain rfl : u = Value.ref f := r1
  exact PySem.W.callWith_K (h₀ := X.base) I.ok.mod.kin hk (thn (ha.run pos pins s1 σ _ _ I1 ht) fun us s2 ⟨vs, H2, I2, r, q⟩ => ⟨I2.kIn, run_fnS F hr hb (hx σ) I2 r q⟩) he hpl
/-! ## C(), an own error class without an __init__ -/
theorem pmk_own0 {C : Addr} {bmB : List Value} {B newId initId : String} {x : Str} {p pos : Pos} (F : ExcBaseFacts B newId initId bmB) (q : PySem.W.excIn X.K C bmB newId = true) (gC : X.mg x = some (.ref C)) (kC : PySem.W.keepIn X.K (.ref C) = true)
    (r : Raises X (.ref C)) (hg : Gl X x) (hdb : (x == ("__debug__" : Str)) = false := by decide) : PMk X (.Call (.Name x p) [] [] pos) (fun _ H Q => Q (.ref C) none H) := by
  intro pins s σ H Q I h
  refine wpAny_Call_Name_kw (ld_glob I hg gC (PySem.W.callWith_K0 I.kIn kC ?_) hdb)
  obtain ⟨_, _, _, _, _, _, _, _, _, _, _, _, _, _, _, _, _, hC, hN, hni, T⟩ := exc_obj I.kIn q
  exact wpAny_call_exc_subT F T hC hN hni (fun h' e hm => mk_of I hm r h (I.hok.gone hm.new)) (by show 0 ≤ sizeLine; omega)
/-! ## // by any great number but 0 -/
theorem op_fdivZ : OpR X (binaryOp .FloorDiv) (rI (fun _ j => j ≠ 0 ∧ j.natAbs.log2 < 9000) fun i j => .int (i.fdiv j)) := opI fun _ _ _ _ _ _ _ hc q => floordiv_int hc.1 q (.inl (PyProof.noPylong_of_log2 hc.2))
/-! ## repr of data -/
def rReprD (K : PySem.W.Frag) : List V → Hp → VK → Prop := fun xs H Q => ∃ (a : Addr) (d : PyData), xs = [.ref a] ∧ Dp K H (.ref a) d ∧ d.showable = true ∧ d.hasDict = false ∧ d.depth ≤ 60 ∧ d.shown.length ≤ sizeLine ∧ Q (.str d.shown) H
theorem call_reprD (hu : X.A.units + 64 < cLine) (hg : X.A.guards = some []) : CallR X (.builtin "repr") (rReprD X.K) := by
  intro pins s σ H xs us Q I r h
  obtain ⟨a, d, rfl, hd, hs, hn, hde, hl, q⟩ := h
  obtain ⟨u, rfl, ru⟩ := vals1 r
  obtain rfl : u = Value.ref a := ru
  obtain ⟨as, rd⟩ := Dp.reads I d _ _ hd rfl
  exact repr_of_reads' rd hs (fun z => by rw [hn] at z; cases z) hg (by omega) (fun _ _ e => e) (fun h' u tk hk => ⟨.str d.shown, H, I.kept (t' := tk) hk, ⟨u, rfl⟩, q⟩) hl
end
end Lc
set_option Elab.async false
set_option linter.all false
set_option maxRecDepth 100000
set_option maxHeartbeats 4000000
namespace Lc
open PySem PySem.Spec PyProof.Rows L2
/-! ## Promises of defs that are called where no repr is under way -/
structure FnG (P : Program) (w : World) (K : PySem.W.Frag) (mg : Str → Option Value) (base : Heap) (k : Nat) (f : Addr) (fd : FuncData) (ps : List Str) (sp : Sp) : Prop where
  len : ∀ vs H Q E, sp vs H Q E → vs.length = ps.length
  run : ∀ (A : Around) (outer : List Env) (s : Shared) (H : Hp) (args : Args) (us : List Value) (vs : List V) (Q : VK) (E : XK), A.guards = some [] → Room k A → Env0 P w K mg base A outer s H → BindsTo s fd args (ps.zip us) → Vals vs us → sp vs H Q E →
    codeAny (model P w) A (.call (.ref f) args) (CR CX0 outer P w H s Q E) s
section
variable {P : Program} {w : World} {K : PySem.W.Frag} {mg : Str → Option Value} {base : Heap}
theorem Fun.okG {x qual : Str} {st : Stmt} {f : Addr} {fd : FuncData} {N ps : List Str} {k : Nat} {sp : Sp} (F : Fun K x qual st f fd) (S : FnScope N ps (defScope st)) (len : ∀ vs H Q E, sp vs H Q E → vs.length = ps.length)
    (go : ∀ (cdv : Value) (A : Around) (outer : List Env) (s : Shared) (H : Hp) (vs : List V) (Q : VK) (E : XK), A.guards = some [] → Room k (A.deeper (envOfC qual (defScope st) s.heap.objs.size f cdv)) → sp vs H Q E →
      ∃ t, PSs (cxOf CX0 P w K mg base N qual (defScope st) f cdv A outer s H E).nox (defBody st) t ∧ t { nx := fun _ H' => Q .non H', rt := Q } (start N vs) H) : FnG P w K mg base (k + 1) f fd ps sp := by
  obtain ⟨oc, od, kV, doc, pm, an, cdv, ct, osl, rfl, lk, hcd⟩ := F.ex
  refine ⟨len, fun A outer s H args us vs Q E hg hr e0 hb r hsp => ?_⟩
  have up : ∀ b o, base.get? b = some o → s.heap.get? b = some o := fun b o z => (e0.bs b o z).1
  have KX := e0.mod.kin.keeps up
  refine codeAny_call_function hr.depth (KX _ _ lk) rfl S.co S.gen rfl (PySem.W.codeRec_of KX hcd) (hb _ _ _ _ ?_)
  refine wpAny_newFunctionEnv_cells S.kind (fun y hy => ?_) fun env he s1 x => ?_
  · rcases S.par y.1 (List.of_mem_zip (a := y.1) (b := y.2) hy).1 with z | z
    · exact .inl z
    · exact .inr ⟨z, PySem.W.cellsFrom_some _ _ _ (.inl z)⟩
  subst he
  obtain ⟨t, ht, hq⟩ := go cdv A outer s H vs Q E hg (hr.deeper _) hsp
  have I : Inv (cxOf CX0 P w K mg base N qual (defScope st) f cdv A outer s H E) [] (start N vs) H s1 := inv_start S hr.hd e0 (len _ _ _ _ hsp) r x
  refine ⟨(e0.mod.nolimit.keeps up).keeps x.toInCall.keep, codeAny_func (wpAny_mono (ht.nox.run [] s1 (start N vs) H _ I hq) (fun fl s' hs => ?_) fun _ _ z => z)⟩
  cases fl with
  | ret u => obtain ⟨v, _, H', J, rv, q⟩ := hs; exact ⟨v, H', J.os, J.bare, J.base, J.hok, rv, q⟩
  | next => obtain ⟨_, H', J, q⟩ := hs; exact ⟨V.non, H', J.os, J.bare, J.base, J.hok, rfl, q⟩
  | brk => obtain ⟨_, _, _, q⟩ := hs; exact q.elim
  | cont => obtain ⟨_, _, _, q⟩ := hs; exact q.elim
end
section
variable {X : Cx} {k : Nat} {f : Addr} {fd : FuncData} {ps : List Str} {sp : Sp} {x : Str} {p pos : Pos} {e : Expr} {es : List Expr} {t : TA}
/-- f(e, ..), f kept under FnG -/
theorem pe_callG (F : FnG X.prog X.w X.K X.mg X.base k f fd ps sp) (gg : X.A.guards = some []) (hr : Room k X.A) (hg : Gl X x) (hm : X.mg x = some (.ref f)) (hk : PySem.W.keepIn X.K (.ref f) = true) (hb : Binds X.K fd ps [])
    (ha : PA X (e :: es) t) (hdb : (x == ("__debug__" : Str)) = false := by decide) (he : starEach (e :: es) X.env = (false, eval e X.env) :: starEach es X.env := by rfl) (hpl : (backTo pos (starEach es X.env)).any (·.1) = false := by rfl) :
    PE X (.Call (.Name x p) (e :: es) [] pos) (tCall sp [] E0 t) := by
  refine ⟨fun pins s σ H Q I h => wpAny_Call_Name_kw (ld_glob I hg hm ?_ hdb)⟩
  refine PySem.W.callWith_K (h₀ := X.base) I.ok.mod.kin hk (thn (ha.run pos pins s σ H _ I h) fun us s1 ⟨vs, H1, I1, r, q⟩ => ⟨I1.kIn, ?_⟩) he hpl
  replace q : sp vs H1 Q E0 := by
    have z : sp (vs ++ []) H1 Q E0 := q
    rw [List.append_nil] at z
    exact z
  have hl : us.length = ps.length := by rw [← r.length]; exact F.len _ _ _ _ q
  have b := hb s1 us I1.kIn (by rw [List.append_nil]; exact hl)
  rw [List.append_nil] at b
  refine wpAny_call (codeAny_mono (F.run X.A X.stack s1 H1 ⟨us, []⟩ us vs Q E0 gg hr I1.env0 b r q) fun rr s' hq => ?_)
  cases rr with
  | error er => exact False.elim hq
  | ok fl =>
    cases fl with
    | ret u => exact I1.after hq
    | next => exact False.elim hq
    | brk => exact False.elim hq
    | cont => exact False.elim hq
end
/-! ## The law itself -/
section
variable {P : Program} {w : World} {K : PySem.W.Frag} {mg mb : Str → Option Value} {k : Nat} {fa a : Addr} {fd : FuncData} {x : Str} {sp : Sp} {s : Shared} {vs : List Value} {ns : List Int}
theorem env_of {H : Hp} (KX : K.In s.heap) (hns : s.heap.Ns mainGlobals mg) (hb : s.heap.Ns builtinsNs mb) (hbb : ∀ x : Str, x ≠ "__name__" → mb x = bootBuiltins x) (hlim : s.heap.NoLimit) (hg : s.gens = #[])
    (ha : s.heap.get? a = some { cls := .type "list", data := .seq vs.toArray }) (hok : HOk P w H s.heap) (one : ∀ b, b ≠ a → H b = none) (nk : H a = none ∨ K.lookup a = none) :
    K.In (hidT s.heap H) ∧ (hidT s.heap H).Ns mainGlobals mg ∧ Env0 P w K mg (hidT s.heap H) callerA [] s H := by
  have keepN : ∀ {b : Addr} {m : Str → Option Value}, s.heap.Ns b m → (hidT s.heap H).Ns b m := by
    rintro b m ⟨o, es, ep, e, d, r⟩
    have nb : b ≠ a := fun z => by
      rw [z, ha] at e
      cases e
      exact nomatch (show Data.seq vs.toArray _ = Data.dict es ep from d)
    exact ⟨o, es, ep, hidT_get e (one b nb), d, r⟩
  have kin : K.In (hidT s.heap H) := fun b o e => hidT_get (KX b o e) (by
    by_cases z : b = a
    · rcases nk with q | q
      · rw [z]; exact q
      · rw [z, q] at e; cases e
    · exact one b z)
  obtain ⟨mc, l1, l2⟩ := hlim
  exact ⟨kin, keepN hns, rfl, ⟨kin, keepN hns, ⟨mb, keepN hb, hbb⟩, ⟨mc, keepN l1, l2⟩⟩, fun b o e => of_hidT e, Nat.le_of_eq (hidT_size _ _), trivial, fun b z => absurd (show b ∈ ([] : List Addr) from z) (by simp), hok, .of_eq hg⟩
theorem law_callG (KX : K.In s.heap) (hns : s.heap.Ns mainGlobals mg) (hb : s.heap.Ns builtinsNs mb) (hbb : ∀ x : Str, x ≠ "__name__" → mb x = bootBuiltins x) (hlim : s.heap.NoLimit) (hg : s.gens = #[])
    (ha : s.heap.get? a = some { cls := .type "list", data := .seq vs.toArray }) (hi : IntsAre vs ns) (hl : ns.length ≤ sizeLine) (hr : Room k callerA)
    (F : ∀ base : Heap, K.In base → base.Ns mainGlobals mg → FnG P w K mg base k fa fd [x] sp) (hbind : ∀ (s : Shared) (u : Value), BindsTo s fd ⟨[u], []⟩ [(x, u)])
    (hsp : ∀ H : Hp, SqL K H a (ns.map V.int) → sp [.ref a] H (fun v _ => v = .bl true) fun _ _ _ => False) :
    codeAny (model P w) callerA (.call (.ref fa) ⟨[.ref a], []⟩) (fun r s' => r = .ok (.ret (.bool true)) ∧ OldK s.heap s'.heap ∧ s'.os = s.os ∧ AllBare s'.gens) s := by
  have rv := vals_ints hi
  have go : ∀ H : Hp, SqL K H a (ns.map V.int) → HOk P w H s.heap → (∀ b, b ≠ a → H b = none) → (H a = none ∨ K.lookup a = none) → (∀ o, H a = some o → ∃ ob u, o = .frz ob u) →
      codeAny (model P w) callerA (.call (.ref fa) ⟨[.ref a], []⟩) (fun r s' => r = .ok (.ret (.bool true)) ∧ OldK s.heap s'.heap ∧ s'.os = s.os ∧ AllBare s'.gens) s := by
    intro H hS hok one nk fz
    obtain ⟨k1, k2, e0⟩ := env_of KX hns hb hbb hlim hg ha hok one nk
    refine codeAny_mono ((F _ k1 k2).run callerA [] s H ⟨[.ref a], []⟩ [.ref a] [.ref a] _ _ rfl hr e0 (hbind s (.ref a)) (.cons rfl .nil) (hsp H hS)) fun r s' h => ?_
    cases r with
    | error _ => exact False.elim h
    | ok fl =>
      cases fl with
      | next => exact False.elim h
      | brk => exact False.elim h
      | cont => exact False.elim h
      | ret u =>
        obtain ⟨v, H', os, bare, un, hok', ru, ev⟩ := h
        subst ev
        obtain rfl : u = Value.bool true := ru
        refine ⟨rfl, OldK.of_keep fun b o e => ?_, os, bare⟩
        cases q : H b with
        | none => exact un.keep b o e q (fun z => absurd (show b ∈ ([] : List Addr) from z) (by simp)) (by simp)
        | some oo =>
          have zb : b = a := Classical.byContradiction fun z => by rw [one b z] at q; cases q
          subst zb
          obtain ⟨ob, u, rfl⟩ := fz oo q
          obtain ⟨e1, _⟩ := hok b _ q
          obtain ⟨e2, _⟩ := hok' b _ (un.frzs b ob u q)
          rw [e] at e1
          cases e1
          exact e2
  cases hk : K.lookup a with
  | some o =>
    have e := KX a o hk
    rw [ha] at e
    cases e
    exact go (fun _ => none) (.inr ⟨_, vs.toArray, _, hk, rfl, rfl, rfl, by rw [List.size_toArray, hi.length]; exact hl, by simpa using rv⟩) (fun b u z => nomatch z) (fun _ _ => rfl) (.inl rfl) (fun o z => nomatch z)
  | none =>
    let ob : Obj := { cls := .type "list", data := .seq vs.toArray }
    refine go (upd (fun _ => none) a (.frz ob (.lst (ns.map V.int)))) (.inl (.inr ⟨ob, upd_same⟩)) (fun b u z => ?_) (fun b z => upd_ne z) (.inr hk) (fun o z => ?_)
    · by_cases q : b = a
      · subst q
        rw [upd_same] at z
        cases z
        exact ⟨ha, by rw [List.length_map]; exact hl, vs, _, rv, ha⟩
      · rw [upd_ne q] at z
        cases z
    · rw [upd_same] at z
      cases z
      exact ⟨_, _, rfl⟩
end
theorem walk_G {l : PySem.W.OpenLaw} {n k : Nat} {q : Program} {loose : List Str} {XP : (Str → Option Value) → Heap → Prop} {YP : World → Heap → Prop} {d : DefRec} {K : Params → PySem.W.Frag} {sp : PySem.W.Frag → Sp} {x : Str}
    (hn : l.most = some n) (hn2 : n ≤ sizeLine) (hdf : d.params.defaults = []) (hr : Room k callerA) (hY : ∀ (w : World) (h : Heap), YP w h → (K w.params).In h)
    (F : ∀ (w : World) (mg : Str → Option Value) (fa : Addr) (h : Heap), (K w.params).In h → h.Ns mainGlobals mg → mg d.name = some (.ref fa) →
      ∃ fd : FuncData, (∀ (s : Shared) (u : Value), BindsTo s fd ⟨[u], []⟩ [(x, u)]) ∧ ∀ base : Heap, (K w.params).In base → base.Ns mainGlobals mg → FnG l.prog w (K w.params) mg base k fa fd [x] (sp (K w.params)))
    (hsp : ∀ (K : PySem.W.Frag) (H : Hp) (a : Addr) (ns : List Int), ns.length ≤ n → SqL K H a (ns.map V.int) → sp K [.ref a] H (fun v _ => v = .bl true) fun _ _ _ => False) :
    PySem.W.WalkO q loose XP YP l.row.toRowW d [] (fun f vs => PySem.call f vs) := by
  refine Att.attach_call hn hdf fun w _ s mg mb fa _ _ _ _ a vs ns G Y _ _ _ hmg hobj hints hlen hg => ?_
  obtain ⟨fd, hb, hF⟩ := F w mg fa _ (hY w _ Y) G.T.g hmg
  exact law_callG (hY w _ Y) G.T.g G.T.b G.T.builtins G.T.nolimit hg hobj hints (Nat.le_trans hlen hn2) hr hF hb fun H hS => hsp _ H a ns hlen hS
end Lc
set_option Elab.async false
set_option linter.all false
set_option maxRecDepth 100000
set_option maxHeartbeats 4000000
namespace Lc
open PySem PySem.Spec PyProof.Rows L2
/-! ## Kinds of values -/
inductive TyN (H : Hp) : V → String → Prop
  | non : TyN H .non "NoneType"
  | bl (b : Bool) : TyN H (.bl b) "bool"
  | int (i : Int) : TyN H (.int i) "int"
  | str (x : Str) : TyN H (.str x) "str"
  | tup {a : Addr} {xs : List V} (e : H a = some (.tup xs)) : TyN H (.ref a) "tuple"
  | lst {a : Addr} {xs : List V} (e : H a = some (.lst xs)) : TyN H (.ref a) "list"
  | dct {a : Addr} {kvs : List (Key × V)} (e : H a = some (.dK kvs)) : TyN H (.ref a) "dict"
theorem TyN.x {K : PySem.W.Frag} {H : Hp} {v : V} {t : String} (h : TyN H v t) : TyX K H v (.type t) := by
  cases h with
  | non => exact .base .non
  | bl b => exact .base (.bl b)
  | int i => exact .base (.int i)
  | str x => exact .base (.str x)
  | tup e => exact .base (.tup e)
  | lst e => exact .base (.lst e)
  | dct e => exact .base (.dK e)
theorem TyN.same {H H' : Hp} {v : V} {t : String} (h : TyN H v t) (s : Same H H') : TyN H' v t := by
  cases h with
  | non => exact .non
  | bl b => exact .bl b
  | int i => exact .int i
  | str x => exact .str x
  | tup e => exact .tup (s _ _ e)
  | lst e => exact .lst (s _ _ e)
  | dct e => exact .dct (s _ _ e)
theorem TyN.isInt {H : Hp} {v : V} {t : String} (h : TyN H v t) (e : t = "int") : ∃ i, v = .int i := by
  cases h <;> first | exact ⟨_, rfl⟩ | exact absurd e (by decide)
theorem TyN.isStr {H : Hp} {v : V} {t : String} (h : TyN H v t) (e : t = "str") : ∃ x, v = .str x := by
  cases h <;> first | exact ⟨_, rfl⟩ | exact absurd e (by decide)
theorem TyN.isTup {H : Hp} {v : V} {t : String} (h : TyN H v t) (e : t = "tuple") : ∃ a xs, v = .ref a ∧ H a = some (.tup xs) := by
  cases h <;> first | exact ⟨_, _, rfl, by assumption⟩ | exact absurd e (by decide)
def tyNames : List String := ["NoneType", "bool", "int", "str", "tuple", "list", "dict"]
theorem TyN.mem {H : Hp} {v : V} {t : String} (h : TyN H v t) : t ∈ tyNames := by
  cases h <;> simp [tyNames]
theorem kit_int {K : PySem.W.Frag} {t : String} (h : t ∈ tyNames) : PySem.W.kitOne K (.type t) (.type "int") = some (t == "int" || t == "bool") := by
  have : ∀ t ∈ tyNames, kitB t "int" = some (t == "int" || t == "bool") := by decide +kernel
  exact kit_ty (this t h)
theorem kit_bool {K : PySem.W.Frag} {t : String} (h : t ∈ tyNames) : PySem.W.kitOne K (.type t) (.type "bool") = some (t == "bool") := by
  have : ∀ t ∈ tyNames, kitB t "bool" = some (t == "bool") := by decide +kernel
  exact kit_ty (this t h)
theorem kit_tuple {K : PySem.W.Frag} {t : String} (h : t ∈ tyNames) : PySem.W.kitOne K (.type t) (.type "tuple") = some (t == "tuple") := by
  have : ∀ t ∈ tyNames, kitB t "tuple" = some (t == "tuple") := by decide +kernel
  exact kit_ty (this t h)
theorem kit_str {K : PySem.W.Frag} {t : String} (h : t ∈ tyNames) : PySem.W.kitOne K (.type t) (.type "str") = some (t == "str") := by
  have : ∀ t ∈ tyNames, kitB t "str" = some (t == "str") := by decide +kernel
  exact kit_ty (this t h)
/-! ## What is a rational -/
def ratB : V → V → Bool
  | .int n, .int d => decide (0 < d) && decide (gd n d = 1)
  | _, _ => false
inductive Rk (H : Hp) : V → Bool → Prop
  | other {v : V} {t : String} (h : TyN H v t) (n : t ≠ "tuple") : Rk H v false
  | len {a : Addr} {xs : List V} (e : H a = some (.tup xs)) (n : xs.length ≠ 2) : Rk H (.ref a) false
  | pair {a : Addr} {x y : V} {tx ty : String} (e : H a = some (.tup [x, y])) (hx : TyN H x tx) (hy : TyN H y ty) : Rk H (.ref a) (ratB x y)
theorem Rk.same {H H' : Hp} {v : V} {b : Bool} (h : Rk H v b) (s : Same H H') : Rk H' v b := by
  cases h with
  | other h n => exact .other (h.same s) n
  | len e n => exact .len (s _ _ e) n
  | pair e hx hy => exact .pair (s _ _ e) (hx.same s) (hy.same s)
theorem Rk.of {H : Hp} {a : Addr} {n d : Int} (e : H a = some (.tup [.int n, .int d])) (r : Rt n d) : Rk H (.ref a) true := by
  have z : ratB (.int n) (.int d) = true := by
    show (decide (0 < d) && decide (gd n d = 1)) = true
    rw [decide_eq_true r.pos, decide_eq_true r.cop]
    rfl
  rw [← z]
  exact .pair e (.int n) (.int d)
/-! ## repr -/
inductive Shw (K : PySem.W.Frag) (H : Hp) : V → Str → Prop
  | data {v : V} {d : PyData} (h : Dp K H v d) (h1 : d.showable = true) (h2 : d.hasDict = false) (h3 : d.depth ≤ 60) (h4 : d.shown.length ≤ sizeLine) : Shw K H v d.shown
  | empty {a : Addr} (e : H a = some (.dK [])) : Shw K H (.ref a) (PyData.dict []).shown
def rReprV (K : PySem.W.Frag) : List V → Hp → VK → Prop := fun xs H Q => ∃ (v : V) (z : Str), xs = [v] ∧ Shw K H v z ∧ Q (.str z) H
theorem call_reprV {X : Cx} (hg : X.A.guards = some []) (hu : X.A.units + 64 < cLine) : CallR X (.builtin "repr") (rReprV X.K) := by
  intro pins s σ H xs us Q I r h
  obtain ⟨v, z, rfl, hd, q⟩ := h
  obtain ⟨u, rfl, ru⟩ := vals1 r
  cases hd with
  | @data _ d hd h1 h2 h3 h4 =>
    obtain ⟨as, rd⟩ := Dp.reads I d _ _ hd ru
    cases hd with
    | non =>
      obtain rfl : u = Value.none := ru
      exact P.repr_of_none ⟨.str _, H, I.tok _, ⟨_, rfl⟩, q⟩
    | bl b =>
      obtain rfl : u = Value.bool b := ru
      exact P.repr_of_bool ⟨.str _, H, I.tok _, ⟨_, rfl⟩, q⟩
    | int i =>
      obtain ⟨t, rfl⟩ := (show ∃ t, u = Value.int i t from ru)
      exact P.repr_of_int (of_decide_eq_true (by simpa [PyData.showable] using h1)) ⟨.str _, H, I.tok _, ⟨_, rfl⟩, q⟩
    | str x =>
      obtain ⟨t, rfl⟩ := (show ∃ t, u = Value.str x t from ru)
      exact P.repr_of_str ⟨.str _, H, I.tok _, ⟨_, rfl⟩, q⟩ h4
    | @lst a xs ds e1 e2 =>
      obtain rfl : u = Value.ref a := ru
      exact repr_of_reads' rd h1 (PyData.noDict_hsm h2) hg (by omega) (fun _ _ e => e) (fun h' u tk hk => ⟨.str _, H, I.kept (t' := tk) hk, ⟨u, rfl⟩, q⟩) h4
    | @tup a xs ds e1 e2 =>
      obtain rfl : u = Value.ref a := ru
      exact repr_of_reads' rd h1 (PyData.noDict_hsm h2) hg (by omega) (fun _ _ e => e) (fun h' u tk hk => ⟨.str _, H, I.kept (t' := tk) hk, ⟨u, rfl⟩, q⟩) h4
  | @empty a e =>
    obtain rfl : u = Value.ref a := ru
    obtain ⟨_, ns, vs, kv, o, es, ep, h1, h2, h3, h4⟩ := (show ObjOk X.prog X.w H s.heap a (.dK []) from I.hok a _ e)
    cases kv
    have es0 : es.toList = [] := by
      obtain ⟨_, hp, _⟩ := h4
      generalize es.toList = l at hp
      cases hp
      rfl
    have rd : Reads s.heap (.ref a) (.dict []) (a :: [] ++ []) := Reads.dict h1 h2.1 h3 (by rw [es0]; exact .nil) (by rw [es0]; exact .nil)
    exact repr_of_reads' rd (by decide) (fun _ hm => by
      have : sysModules = a := by simpa using hm
      rw [this] at ns
      simp at ns) hg (by show X.A.units + (PyData.depth (.dict []) + 1) < cLine; have : PyData.depth (.dict []) ≤ 60 := by decide +kernel
                         omega) (fun _ _ e => e) (fun h' u tk hk => ⟨.str _, H, I.kept (t' := tk) hk, ⟨u, rfl⟩, q⟩) (by decide +kernel)
theorem dp_same {K : PySem.W.Frag} {H H' : Hp} (s : Same H H') : ∀ {v : V} {d : PyData}, Dp K H v d → Dp K H' v d := by
  have sq : ∀ {a xs}, SqT K H a xs → SqT K H' a xs := by
    intro a xs h
    rcases h with (h | ⟨o, h⟩) | h
    · exact .inl (.inl (s _ _ h))
    · exact .inl (.inr ⟨o, s _ _ h⟩)
    · exact .inr h
  intro v d h
  induction h using Dp.rec (motive_2 := fun vs ds _ => DpAll K H' vs ds) with
  | non => exact .non
  | bl b => exact .bl b
  | int i => exact .int i
  | str x => exact .str x
  | lst h1 _ ih => exact .lst (s.seq h1) ih
  | tup h1 _ ih => exact .tup (sq h1) ih
  | nil => exact .nil
  | cons _ _ i1 i2 => exact .cons i1 i2
theorem Shw.same {K : PySem.W.Frag} {H H' : Hp} (s : Same H H') {v : V} {z : Str} (h : Shw K H v z) : Shw K H' v z := by
  cases h with
  | data h h1 h2 h3 h4 => exact .data (dp_same s h) h1 h2 h3 h4
  | empty e => exact .empty (s _ _ e)
theorem Same.upd {H : Hp} {p : Addr} {o : HO} (h : H p = none) : Same H (upd H p o) := fun b u e => by rw [upd_ne (ne_of_none e h)]; exact e
end Lc
set_option Elab.async false
set_option linter.all false
set_option maxRecDepth 100000
set_option maxHeartbeats 4000000
namespace Lc
open PySem PySem.Spec PyProof.Rows L2
/-! ## The law's tape -/
def Tape (H : Hp) (t : Addr) : Prop := ∃ (l : Addr) (ns : List Int) (pos rest mix : Int), H t = some (.lst [.ref l, .int pos, .int rest, .int mix]) ∧ H l = some (.lst (ns.map V.int)) ∧ 0 ≤ pos ∧ 0 ≤ rest ∧ 0 ≤ mix ∧ mix < 2147483647
/-- all but what stands at t is as it was -/
def SameB (t : Addr) (H H' : Hp) : Prop := ∀ b o, b ≠ t → H b = some o → H' b = some o
theorem SameB.refl (t : Addr) (H : Hp) : SameB t H H := fun _ _ _ e => e
theorem SameB.trans {t : Addr} {H H1 H2 : Hp} (a : SameB t H H1) (b : SameB t H1 H2) : SameB t H H2 := fun c o n e => b c o n (a c o n e)
theorem Same.b {H H' : Hp} (t : Addr) (s : Same H H') : SameB t H H' := fun b o _ e => s b o e
theorem SameB.upd {t : Addr} {H : Hp} {o : HO} : SameB t H (upd H t o) := fun b u n e => by rw [upd_ne n]; exact e
theorem tape_ne {l t : Addr} {H : Hp} {ns : List Int} {vs : List V} (h1 : H t = some (.lst (.ref l :: vs))) (h2 : H l = some (.lst (ns.map V.int))) : l ≠ t := by
  refine ne_of h2 h1 fun z => ?_
  cases ns with
  | nil => injection z with z; cases z
  | cons n ns => injection z with z; injection z with z; cases z
theorem Tape.same {H H' : Hp} {t : Addr} (h : Tape H t) (s : Same H H') : Tape H' t := by
  obtain ⟨l, ns, pos, rest, mix, h1, h2, h3⟩ := h
  exact ⟨l, ns, pos, rest, mix, s _ _ h1, s _ _ h2, h3⟩
theorem cut_ints (ns : List Int) (lo hi : Option Int) : ∃ ms : List Int, cutV (ns.map V.int) lo hi = ms.map V.int := by
  unfold cutV
  rw [← List.map_drop, ← List.map_take]
  exact ⟨_, rfl⟩
def spTape (K : PySem.W.Frag) : Sp := fun vs H Q _ => ∃ (a : Addr) (ns : List Int), vs = [.ref a] ∧ SqL K H a (ns.map V.int) ∧ ∀ (t : Addr) (H' : Hp), Same H H' → H t = none → Tape H' t → Q (.ref t) H'
def spDraw : Sp := fun vs H Q _ => ∃ (t : Addr) (many : Int), vs = [.ref t, .int many] ∧ Tape H t ∧ 0 < many ∧ many.natAbs < 2 ^ 4000 ∧ ∀ (k : Int) (H' : Hp), 0 ≤ k → k < many → Tape H' t → SameB t H H' → Q (.int k) H'
def New2' (H : Hp) (Q : VK) (n d : Int) : Prop := ∀ p, H p = none → Q (.ref p) (upd H p (.tup [.int n, .int d]))
def spLowest : Sp := fun vs H Q _ => ∃ n d : Int, vs = [.int n, .int d] ∧ 0 < d ∧ d.natAbs < 2 ^ 4000 ∧ New2' H Q (lowN n d) (lowD n d)
def spRational : Sp := fun vs H Q _ => ∃ (t : Addr) (b : Bool), vs = [.ref t, .bl b] ∧ Tape H t ∧ ∀ (p : Addr) (n d : Int) (H' : Hp), Rt n d → n.natAbs < 2 ^ 140 → d.natAbs < 2 ^ 140 → H' p = some (.tup [.int n, .int d]) → H p = none → Tape H' t → SameB t H H' → Q (.ref p) H'
theorem log_lt' {n : Int} (h : n.natAbs < 2 ^ 4000) : n.natAbs.log2 < 9000 := by
  by_cases z : n.natAbs = 0
  · rw [z]
    decide
  · exact Nat.lt_of_lt_of_le ((Nat.log2_lt z).mpr h) (by decide)
end Lc
namespace Lc
open PySem PySem.Spec PyProof.Rows L2
theorem SameB.free {t p : Addr} {H H' : Hp} (s : SameB t H H') (h : Tape H' t) (e : H' p = none) : H p = none := by
  cases q : H p with
  | none => rfl
  | some o =>
    by_cases z : p = t
    · subst z
      obtain ⟨_, _, _, _, _, h1, _⟩ := h
      rw [h1] at e
      cases e
    · rw [s p o z q] at e
      cases e
theorem Tape.ne {t p : Addr} {H : Hp} (h : Tape H t) (e : H p = none) : p ≠ t := by
  intro z
  subst z
  obtain ⟨_, _, _, _, _, h1, _⟩ := h
  rw [h1] at e
  cases e
theorem Tape.neT {t p : Addr} {H : Hp} {xs : List V} (h : Tape H t) (e : H p = some (.tup xs)) : p ≠ t := by
  intro z
  subst z
  obtain ⟨_, _, _, _, _, h1, _⟩ := h
  rw [h1] at e
  cases e
theorem p18 : (10 : Int) ^ (18 : Int).toNat = 1000000000000000000 := by decide
theorem p40 : (10 : Int) ^ (40 : Int).toNat = 10000000000000000000000000000000000000000 := by decide
end Lc
set_option Elab.async false
set_option linter.all false
set_option maxRecDepth 100000
set_option maxHeartbeats 4000000
namespace K01
open PySem PySem.Spec PyProof.Rows L2 Lc
def top (i : Nat) : Stmt := PySem.Challenge.pw_liveclaims_k01_exact_arithmetic.main.body.getD i (.Pass ⟨0, 0, 0, 0⟩)
abbrev sInit : Stmt := inClass (top 1) 0
abbrev sWhole : Stmt := top 4
abbrev sCd : Stmt := top 5
abbrev sIsR : Stmt := top 6
abbrev sChk : Stmt := top 7
abbrev sLow : Stmt := top 8
abbrev sAdd : Stmt := top 9
abbrev sSub : Stmt := top 10
abbrev sMul : Stmt := top 11
abbrev sDiv : Stmt := top 12
abbrev sCmp : Stmt := top 13
/-- the built-ins' names are free -/
structure Bt (mg : Str → Option Value) : Prop where
  isi : mg "isinstance" = none
  int : mg "int" = none
  bool : mg "bool" = none
  tuple : mg "tuple" = none
  list : mg "list" = none
  len : mg "len" = none
  abs : mg "abs" = none
  repr : mg "repr" = none
  range : mg "range" = none
  ve : mg "ValueError" = none
  zd : mg "ZeroDivisionError" = none
def Small (n : Int) : Prop := n.natAbs < 2 ^ 4000
/-! ## promises -/
def spWhole : Sp := fun vs H Q _ => ∃ (v : V) (t : String), vs = [v] ∧ TyN H v t ∧ Q (.bl (t == "int")) H
def spCd : Sp := fun vs H Q _ => ∃ a b : Int, vs = [.int a, .int b] ∧ 0 ≤ a ∧ 0 ≤ b ∧ Q (.int (gd a b)) H
def spIsR : Sp := fun vs H Q _ => ∃ (v : V) (b : Bool), vs = [v] ∧ Rk H v b ∧ Q (.bl b) H
/-- an error of the class at C that tells v is raised -/
def Tells (C : Addr) (H : Hp) (v : V) (E : XK) : Prop := ∀ (d : Addr) (H' : Hp), Same H H' → H d = none → H' d = some (.xd [(("given" : Str), v)]) → E (.ref C) (some d) H'
def spChk (C : Addr) : Sp := fun vs H Q E => ∃ (v : V) (b : Bool), vs = [v] ∧ Rk H v b ∧ (b = true → Q .non H) ∧ (b = false → Tells C H v E)
def New2 (H : Hp) (Q : VK) (n d : Int) : Prop := ∀ p, H p = none → Q (.ref p) (upd H p (.tup [.int n, .int d]))
def spLow : Sp := fun vs H Q _ => ∃ n d : Int, vs = [.int n, .int d] ∧ d ≠ 0 ∧ Small d ∧ New2 H Q (lowN (if d < 0 then -n else n) (if d < 0 then -d else d)) (lowD (if d < 0 then -n else n) (if d < 0 then -d else d))
section
variable {P : Program} {w : World} {K : PySem.W.Frag} {mg : Str → Option Value} {base : Heap} {f C : Addr} {fd : FuncData}
theorem scWhole : FnScope ["value"] ["value"] (defScope sWhole) := ⟨rfl, rfl, rfl, by decide +kernel, rfl, by decide +kernel, by decide +kernel⟩
theorem ok_whole (F : Fun K "is_whole" "is_whole" sWhole f fd) (T : Bt mg) : FnOk P w K mg base CX0 1 f fd ["value"] spWhole := by
  refine F.ok scWhole (fun vs H Q E h => ?_) (fun cdv A outer s H vs Q E hr h => ?_)
  · obtain ⟨v, t, rfl, _⟩ := h
    rfl
  · obtain ⟨v, t, rfl, ty, k⟩ := h
    refine ⟨_, pss_one (ps_ret (pe_and (pe_callB call_isi (by rfl) T.isi boot_isinstance (pa_cons (pv 0) (pa_cons (pe_bltn (v := .ty "int") (by rfl) T.int boot_int rfl) pa_nil)))
      (pe_one (pe_not (pe_callB call_isi (by rfl) T.isi boot_isinstance (pa_cons (pv 0) (pa_cons (pe_bltn (v := .ty "bool") (by rfl) T.bool boot_bool rfl) pa_nil))))))), ?_⟩
    refine ⟨_, rfl, v, .ty "int", _, _, _, rfl, .ty "int", ty.x, kit_int ty.mem, _, rfl, ?_⟩
    refine ite2 (fun hi => ?_) (fun hi => ?_)
    · refine ⟨_, rfl, v, .ty "bool", _, _, _, rfl, .ty "bool", ty.x, kit_bool ty.mem, _, rfl, ?_⟩
      have e : (!(t == "bool")) = (t == "int") := by cases ty <;> first | rfl | exact absurd hi (by decide)
      show Q (.bl (!(t == "bool"))) H
      rw [e]
      exact k
    · have e : false = (t == "int") := by cases ty <;> first | rfl | exact absurd rfl hi
      show Q (.bl false) H
      rw [e]
      exact k
theorem scCd : FnScope ["a", "b"] ["a", "b"] (defScope sCd) := ⟨rfl, rfl, rfl, by decide +kernel, rfl, by decide +kernel, by decide +kernel⟩
theorem ok_cd (F : Fun K "common_divisor" "common_divisor" sCd f fd) : FnOk P w K mg base CX0 1 f fd ["a", "b"] spCd := by
  refine F.ok scCd (fun vs H Q E h => ?_) (fun cdv A outer s H vs Q E hr h => ?_)
  · obtain ⟨a, b, rfl, _⟩ := h
    rfl
  · obtain ⟨a, b, rfl, ha, hb, k⟩ := h
    refine ⟨_, pss_cons (ps_while PassesOwn.never (pt_cmpR op_ne (pv 1) pe_int (nomark _)) (pss_one (ps_par (i := 0) (j := 1) (by rfl) scCd.nd rfl rfl (by decide) rfl rfl (pa_cons (pv 1) (pa_cons (pe_op op_mod (pv 0) (pv 1)) pa_nil)) (by rfl))))
      (pss_one (ps_ret (pv 0))), ?_⟩
    refine ⟨fun m σ H' => ∃ a' b' : Int, σ = [some (.int a'), some (.int b')] ∧ 0 ≤ a' ∧ 0 ≤ b' ∧ b'.toNat = m ∧ gd a' b' = gd a b ∧ H' = H, ⟨_, a, b, rfl, ha, hb, rfl, rfl, rfl⟩, ?_⟩
    rintro m σ H' ⟨a', b', rfl, ha', hb', rfl, e, rfl⟩
    refine ⟨_, rfl, rfl, _, rfl, ?_⟩
    rw [show (decide (V.int b' = V.int 0)) = decide (b' = 0) from dec_int.trans (by rw [Bool.eq_iff_iff]; simp)]
    by_cases z : b' = 0
    · rw [decide_eq_true z]
      refine iteF ⟨_, rfl, ?_⟩
      rw [← e, z, gd_zero ha'] at k
      exact k
    · rw [decide_eq_false z]
      have pb : 0 < b' := by omega
      refine iteT ⟨fun σ' H'' => ∃ a2 b2 : Int, σ' = [some (.int a2), some (.int b2)] ∧ 0 ≤ a2 ∧ 0 ≤ b2 ∧ b2.toNat < b'.toNat ∧ gd a2 b2 = gd a b ∧ H'' = H', ?_, ?_⟩
      · rintro σ' H'' ⟨a2, b2, h1, h2, h3, h4, h5, h6⟩
        exact ⟨_, h4, a2, b2, h1, h2, h3, rfl, h5, h6⟩
      · refine ⟨_, rfl, _, rfl, _, rfl, _, _, rfl, rfl, pb, _, _, rfl, b', a' % b', rfl, hb', Int.emod_nonneg _ (by omega), ?_, ?_, rfl⟩
        · have := Int.emod_lt_of_pos a' pb
          have := Int.emod_nonneg a' (by omega : b' ≠ 0)
          omega
        · rw [gd_step ha' pb]
          exact e
theorem scIsR : FnScope ["value", "n", "d"] ["value"] (defScope sIsR) := ⟨rfl, rfl, rfl, by decide +kernel, rfl, by decide +kernel, by decide +kernel⟩
theorem ok_isr {fW fC : Addr} {fdW fdC : FuncData} (F : Fun K "is_rational" "is_rational" sIsR f fd) (T : Bt mg) (GW : FnOk P w K mg base CX0 1 fW fdW ["value"] spWhole) (mW : mg "is_whole" = some (.ref fW)) (kW : PySem.W.keepIn K (.ref fW) = true) (bW : Binds K fdW ["value"] [])
    (GC : FnOk P w K mg base CX0 1 fC fdC ["a", "b"] spCd) (mC : mg "common_divisor" = some (.ref fC)) (kC : PySem.W.keepIn K (.ref fC) = true) (bC : Binds K fdC ["a", "b"] []) : FnOk P w K mg base CX0 2 f fd ["value"] spIsR := by
  refine F.ok scIsR (fun vs H Q E h => ?_) (fun cdv A outer s H vs Q E hr h => ?_)
  · obtain ⟨v, b, rfl, _⟩ := h
    rfl
  · obtain ⟨v, b, rfl, hk, k⟩ := h
    refine ⟨_, pss_cons (ps_if (PW.pt (pw_or (pt_not (pt_val (pe_callB call_isi (by rfl) T.isi boot_isinstance (pa_cons (pv 0) (pa_cons (pe_bltn (v := .ty "tuple") (by rfl) T.tuple boot_tuple rfl) pa_nil)))))
        (pw_or1 (pt_cmpR op_ne (pe_callB call_len_seq (by rfl) T.len PySem.boot_len (pa_cons (pv 0) pa_nil)) pe_int (nomark _))))) (pss_one (ps_ret pe_bl)) pss_nil)
      (pss_cons (ps_asg (pv 0) (pg_tup rfl (pgs_cons (pg_name (i := 1) scIsR.nd rfl (.inl rfl)) (pgs_cons (pg_name (i := 2) scIsR.nd rfl (.inl rfl)) pgs_nil))))
      (pss_cons (ps_if (PW.pt (pw_or (pt_not (pt_val (pe_call GW hr (by rfl) mW kW bW .nil pass0 (pa_cons (pv 1) pa_nil)))) (pw_or (pt_not (pt_val (pe_call GW hr (by rfl) mW kW bW .nil pass0 (pa_cons (pv 2) pa_nil))))
        (pw_or1 (pt_cmpR op_lt (pv 2) pe_int (nomark _)))))) (pss_one (ps_ret pe_bl)) pss_nil)
      (pss_one (ps_ret (pe_cmpR op_eq (pe_call GC hr (by rfl) mC kC bC .nil pass0 (pa_cons (pe_callB call_abs (by rfl) T.abs boot_abs (pa_cons (pv 1) pa_nil)) (pa_cons (pv 2) pa_nil))) pe_int (nomark _)))))), ?_⟩
    cases hk with
    | @other _ t ty n =>
      refine ⟨_, rfl, v, .ty "tuple", _, _, _, rfl, .ty "tuple", ty.x, kit_tuple ty.mem, _, rfl, ?_⟩
      have e : (t == "tuple") = false := by simpa using n
      rw [e]
      exact iteT (iteT k)
    | @len a xs e n =>
      refine ⟨_, rfl, .ref a, .ty "tuple", _, _, _, rfl, .ty "tuple", (TyN.tup e).x, kit_tuple (by decide), _, rfl, ?_⟩
      refine iteF ⟨_, rfl, a, xs, rfl, .inr (SqT.of e), rfl, _, rfl, ?_⟩
      have z : decide (V.int (xs.length : Int) = V.int 2) = false := decide_eq_false (fun q => n (by injection q with q; omega))
      rw [z]
      exact iteT k
    | @pair a x y tx ty e hx hy =>
      refine ⟨_, rfl, .ref a, .ty "tuple", _, _, _, rfl, .ty "tuple", (TyN.tup e).x, kit_tuple (by decide), _, rfl, ?_⟩
      refine iteF ⟨_, rfl, a, _, rfl, .inr (SqT.of e), rfl, _, rfl, ?_⟩
      refine iteF ?_
      refine ⟨_, rfl, a, _, rfl, SqT.of e, rfl, _, _, rfl, _, _, rfl, rfl, ?_⟩
      refine ⟨_, rfl, x, tx, rfl, hx, _, rfl, ?_⟩
      by_cases ix : tx = "int"
      · obtain ⟨n, rfl⟩ := hx.isInt ix
        subst ix
        · refine iteF ⟨_, rfl, y, ty, rfl, hy, _, rfl, ?_⟩
          by_cases iy : ty = "int"
          · obtain ⟨d, rfl⟩ := hy.isInt iy
            subst iy
            · refine iteF ⟨_, rfl, _, _, rfl, rfl, _, rfl, ?_⟩
              by_cases hd : d < 1
              · rw [decide_eq_true hd]
                have z : ratB (.int n) (.int d) = false := by
                  show (decide (0 < d) && _) = false
                  rw [decide_eq_false (by omega : ¬ 0 < d)]
                  rfl
                rw [z] at k
                exact iteT k
              · rw [decide_eq_false hd]
                refine iteF ?_
                refine ⟨_, rfl, n, rfl, _, rfl, _, d, rfl, by split <;> omega, by omega, rfl, ?_⟩
                have z : ratB (.int n) (.int d) = decide (V.int (gd (if n < 0 then -n else n) d) = V.int 1) := by
                  show (decide (0 < d) && decide (gd n d = 1)) = _
                  rw [decide_eq_true (by omega : 0 < d), gd_abs]
                  rw [Bool.eq_iff_iff]
                  simp
                rw [z] at k
                exact k
          · have z : (ty == "int") = false := by simpa using iy
            have z2 : ratB (.int n) y = false := by
              cases hy <;> first | rfl | exact absurd rfl iy
            rw [z2] at k
            rw [z]
            exact iteT (iteT k)
      · have z : (tx == "int") = false := by simpa using ix
        have z2 : ratB x y = false := by
          cases hx <;> first | rfl | exact absurd rfl ix
        rw [z2] at k
        rw [z]
        exact iteT (iteT k)
end
end K01
set_option Elab.async false
set_option linter.all false
set_option maxRecDepth 100000
set_option maxHeartbeats 4000000
namespace K01
open PySem PySem.Spec PyProof.Rows L2 Lc
/-! ## raising -/
def spInit (C : Addr) : Sp := fun vs H Q _ => ∃ (a : Addr) (v : V), vs = [.ref a, v] ∧ H a = some (exo a C none) ∧ ∀ dx, H dx = none → dx ≠ a → Q .non (upd (upd H dx (exd dx [(("given" : Str), v)])) a (exo a C (some dx)))
/-- what the written part says of BadNumber, at C, its __init__ at fI, and DivisionByZero, at Z -/
structure Er (K : PySem.W.Frag) (mg : Str → Option Value) (C fI Z : Addr) : Prop where
  oex : OexC K C
  iC : PySem.W.findIn K (.ref C) "__init__" = some (some (.ref fI))
  tI : PySem.W.typeIn K (.ref fI) = some (.type "function")
  nG : PySem.W.findIn K (.ref C) "given" = some none
  gC : mg "BadNumber" = some (.ref C)
  gZ : mg "DivisionByZero" = some (.ref Z)
  xZ : PySem.W.excIn K Z [.type "ZeroDivisionError", .type "ArithmeticError", .type "Exception", .type "BaseException", .type "object"] "ZeroDivisionError.__new__" = true
  kZ : PySem.W.keepIn K (.ref Z) = true
  bZ : PySem.W.subIn K (.ref Z) (.type "BaseException") = some true
  tZ : PySem.W.typeIn K (.ref Z) = some (.type "type")
section
variable {P : Program} {w : World} {K : PySem.W.Frag} {mg : Str → Option Value} {base : Heap} {f C fI Z : Addr} {fd fdI : FuncData}
theorem scInit : FnScope ["self", "given"] ["self", "given"] (defScope sInit) := ⟨rfl, rfl, rfl, by decide +kernel, rfl, by decide +kernel, by decide +kernel⟩
theorem ok_init (F : Fun K "__init__" "BadNumber.__init__" sInit fI fdI) (T : Er K mg C fI Z) : FnOk P w K mg base CX0 1 fI fdI ["self", "given"] (spInit C) := by
  refine F.ok scInit (fun vs H Q E h => ?_) (fun cdv A outer s H vs Q E hr h => ?_)
  · obtain ⟨a, v, rfl, _⟩ := h
    rfl
  · obtain ⟨a, v, rfl, ha, k⟩ := h
    refine ⟨_, pss_one (ps_ost (pv 0) (pv 1)), ?_⟩
    exact ⟨_, rfl, _, rfl, a, C, rfl, T.oex, T.nG, .inl ⟨ha, fun dx h1 h2 => k dx h1 h2⟩⟩
/-- raise BadNumber(v) -/
theorem tells_of {H : Hp} {v : V} {E : XK} (t : Tells C H v E) : ∀ a, H a = none → spInit C (.ref a :: ([v] ++ [])) (upd H a (exo a C none))
    (fun v' H2 => v' = .non ∧ ∃ (d : Addr) (fs : List (Str × V)), H2 a = some (exo a C (some d)) ∧ H2 d = some (exd d fs) ∧ H d = none ∧ E (.ref C) (some d) (upd (del H2 a) d (.xd fs))) (fun _ _ _ => False) := by
  intro a ha
  refine ⟨a, v, rfl, upd_same, fun dx hx hne => ⟨rfl, dx, _, upd_same, by rw [upd_ne hne, upd_same], by rw [upd_ne hne] at hx; exact hx, ?_⟩⟩
  rw [upd_ne hne] at hx
  refine t dx _ (fun b o e => ?_) hx upd_same
  have nb : b ≠ a := ne_of_none e ha
  have nd : b ≠ dx := ne_of_none e hx
  rw [upd_ne nd, del_ne nb, upd_ne nb, upd_ne nd, upd_ne nb]
  exact e
theorem scChk : FnScope ["value"] ["value"] (defScope sChk) := ⟨rfl, rfl, rfl, by decide +kernel, rfl, by decide +kernel, by decide +kernel⟩
theorem ok_chk {fR : Addr} {fdR : FuncData} (F : Fun K "check_rational" "check_rational" sChk f fd) (T : Er K mg C fI Z) (GI : FnOk P w K mg base CX0 1 fI fdI ["self", "given"] (spInit C)) (bI : Binds K fdI ["self", "given"] [])
    (GR : FnOk P w K mg base CX0 2 fR fdR ["value"] spIsR) (mR : mg "is_rational" = some (.ref fR)) (kR : PySem.W.keepIn K (.ref fR) = true) (bR : Binds K fdR ["value"] []) : FnOk P w K mg base (L2.CX P w) 3 f fd ["value"] (spChk C) := by
  refine F.okX scChk (fun vs H Q E h => ?_) (fun cdv A outer s H vs Q E hr h => ?_)
  · obtain ⟨v, b, rfl, _⟩ := h
    rfl
  · obtain ⟨v, b, rfl, hk, k1, k2⟩ := h
    refine ⟨_, pss_one (ps_if (pt_not (pt_val (pe_call GR hr (by rfl) mR kR bR .nil pass0 (pa_cons (pv 0) pa_nil))))
      (pss_one (ps_raise (W := fun cls d _ H => E cls d H) rfl (takes_of rfl rfl rfl rfl) (pmk_oex T.oex T.iC T.tI GI hr bI .nil pass0 (by rfl) T.gC (pa_cons (pv 0) pa_nil)))) pss_nil), ?_⟩
    refine ⟨_, rfl, v, b, rfl, hk, _, rfl, ?_⟩
    cases b with
    | true => exact iteF (k1 rfl)
    | false => exact iteT ⟨_, rfl, by show 1 ≤ 1000; decide, tells_of (k2 rfl)⟩
/-! ## lowest terms -/
theorem log_lt {n : Int} (h : n.natAbs < 2 ^ 4000) : n.natAbs.log2 < 9000 := by
  by_cases z : n.natAbs = 0
  · rw [z]
    decide
  · exact Nat.lt_of_lt_of_le ((Nat.log2_lt z).mpr h) (by decide)
theorem scLow : FnScope ["n", "d", "shared"] ["n", "d"] (defScope sLow) := ⟨rfl, rfl, rfl, by decide +kernel, rfl, by decide +kernel, by decide +kernel⟩
theorem gd_neg2 (a b : Int) : gd (-a) (-b) = gd a b := by unfold gd; rw [Int.neg_gcd, Int.gcd_neg]
theorem ok_low {fC : Addr} {fdC : FuncData} (F : Fun K "lowest_terms" "lowest_terms" sLow f fd) (T : Bt mg) (GC : FnOk P w K mg base CX0 1 fC fdC ["a", "b"] spCd) (mC : mg "common_divisor" = some (.ref fC)) (kC : PySem.W.keepIn K (.ref fC) = true) (bC : Binds K fdC ["a", "b"] []) :
    FnOk P w K mg base CX0 2 f fd ["n", "d"] spLow := by
  refine F.ok scLow (fun vs H Q E h => ?_) (fun cdv A outer s H vs Q E hr h => ?_)
  · obtain ⟨n, d, rfl, _⟩ := h
    rfl
  · obtain ⟨n, d, rfl, hd, hs, k⟩ := h
    refine ⟨_, pss_cons (ps_set (i := 2) scLow.nd rfl (Or.inl rfl) (pe_call GC hr (by rfl) mC kC bC .nil pass0 (pa_cons (pe_callB call_abs (by rfl) T.abs boot_abs (pa_cons (pv 0) pa_nil)) (pa_cons (pe_callB call_abs (by rfl) T.abs boot_abs (pa_cons (pv 1) pa_nil)) pa_nil))))
      (pss_cons (ps_if (pt_cmpR op_lt (pv 1) pe_int (nomark _)) (pss_one (ps_set (i := 2) scLow.nd rfl (Or.inl rfl) (pe_un un_neg (pv 2)))) pss_nil)
      (pss_one (ps_ret (pe_tup (pa_cons (pe_op op_fdivZ (pv 0) (pv 2)) (pa_cons (pe_op op_fdivZ (pv 1) (pv 2)) pa_nil)))))), ?_⟩
    refine ⟨_, rfl, n, rfl, _, rfl, d, rfl, _, _, rfl, by split <;> omega, by split <;> omega, ?_⟩
    rw [gd_abs, gd_abs2]
    have g0 : 0 < gd n d := gd_pos hd
    have gl : (gd n d).natAbs < 2 ^ 4000 := Nat.lt_of_le_of_lt (gd_natAbs_le hd) hs
    refine ⟨_, rfl, _, _, rfl, rfl, _, rfl, ?_⟩
    by_cases z : d < 0
    · rw [decide_eq_true z]
      rw [if_pos z, if_pos z] at k
      refine iteT ⟨_, rfl, _, rfl, ?_⟩
      have l : (-(gd n d)).natAbs.log2 < 9000 := by rw [Int.natAbs_neg]; exact log_lt gl
      refine ⟨_, rfl, _, rfl, _, _, rfl, rfl, ⟨by omega, l⟩, _, rfl, _, rfl, _, _, rfl, rfl, ⟨by omega, l⟩, by show 2 ≤ sizeLine; decide, ?_⟩
      show New2 H Q (n.fdiv (-(gd n d))) (d.fdiv (-(gd n d)))
      rw [fdiv_neg_dvd g0 (gd_dvd1 n d), fdiv_neg_dvd g0 (gd_dvd2 n d)]
      unfold lowN lowD at k
      rw [gd_neg2] at k
      exact k
    · rw [decide_eq_false z]
      rw [if_neg z, if_neg z] at k
      refine iteF ?_
      refine ⟨_, rfl, _, rfl, _, _, rfl, rfl, ⟨by omega, log_lt gl⟩, _, rfl, _, rfl, _, _, rfl, rfl, ⟨by omega, log_lt gl⟩, by show 2 ≤ sizeLine; decide, ?_⟩
      show New2 H Q (n.fdiv (gd n d)) (d.fdiv (gd n d))
      rw [Int.fdiv_eq_ediv_of_nonneg n (gd_nonneg n d), Int.fdiv_eq_ediv_of_nonneg d (gd_nonneg n d)]
      exact k
end
end K01
set_option Elab.async false
set_option linter.all false
set_option maxRecDepth 100000
set_option maxHeartbeats 4000000
namespace K01
open PySem PySem.Spec PyProof.Rows L2 Lc
/-! ## the five functions of two rationals -/
def Sm (n : Int) : Prop := n.natAbs < 2 ^ 1000
theorem sm_mul {a b : Int} (ha : Sm a) (hb : Sm b) : (a * b).natAbs < 2 ^ 2000 := by
  unfold Sm at ha hb
  rw [Int.natAbs_mul]
  have e : (2 : Nat) ^ 2000 = 2 ^ 1000 * 2 ^ 1000 := by rw [← Nat.pow_add]
  rw [e]
  exact Nat.mul_lt_mul'' ha hb
theorem mw {a b : Int} (ha : Sm a) (hb : Sm b) : CMulW a b := wide_mul ha hb (by decide) (by decide) (by decide)
theorem small_of {a : Int} (h : a.natAbs < 2 ^ 2000) : Small a := Nat.lt_of_lt_of_le h (Nat.pow_le_pow_right (by decide) (by decide))
abbrev OkF := Int → Int → Int → Int → Hp → VK → XK → Prop
def spBin (C : Addr) (ok : OkF) : Sp := fun vs H Q E => ∃ x y : V, vs = [x, y] ∧
  ((Rk H x false ∧ Tells C H x E) ∨ (Rk H x true ∧ Rk H y false ∧ Tells C H y E) ∨
    ∃ (p q : Addr) (an ad bn bd : Int), x = .ref p ∧ y = .ref q ∧ H p = some (.tup [.int an, .int ad]) ∧ H q = some (.tup [.int bn, .int bd]) ∧ Rt an ad ∧ Rt bn bd ∧ Sm an ∧ Sm ad ∧ Sm bn ∧ Sm bd ∧ ok an ad bn bd H Q E)
def okAdd : OkF := fun an ad bn bd H Q _ => New2 H Q (lowN (an * bd + bn * ad) (ad * bd)) (lowD (an * bd + bn * ad) (ad * bd))
def okSub : OkF := fun an ad bn bd H Q _ => New2 H Q (lowN (an * bd - bn * ad) (ad * bd)) (lowD (an * bd - bn * ad) (ad * bd))
def okMul : OkF := fun an ad bn bd H Q _ => New2 H Q (lowN (an * bn) (ad * bd)) (lowD (an * bn) (ad * bd))
def okDiv (Z : Addr) : OkF := fun an ad bn bd H Q E => (bn = 0 → E (.ref Z) none H) ∧ (bn ≠ 0 → New2 H Q (lowN (if bn < 0 then -(an * bd) else an * bd) (if bn < 0 then -(ad * bn) else ad * bn)) (lowD (if bn < 0 then -(an * bd) else an * bd) (if bn < 0 then -(ad * bn) else ad * bn)))
def okCmp : OkF := fun an ad bn bd H Q _ => Q (.int (if an * bd < bn * ad then -1 else if bn * ad < an * bd then 1 else 0)) H
section
variable {P : Program} {w : World} {K : PySem.W.Frag} {mg : Str → Option Value} {base : Heap} {f C fI Z fK fL : Addr} {fd fdI fdK fdL : FuncData}
theorem low_pos {n d : Int} {H : Hp} {Q : VK} (h : 0 < d) (k : New2 H Q (lowN n d) (lowD n d)) : New2 H Q (lowN (if d < 0 then -n else n) (if d < 0 then -d else d)) (lowD (if d < 0 then -n else n) (if d < 0 then -d else d)) := by
  rw [if_neg (by omega : ¬ d < 0), if_neg (by omega : ¬ d < 0)]
  exact k
/-- the promises of what they call -/
structure Ar (P : Program) (w : World) (K : PySem.W.Frag) (mg : Str → Option Value) (base : Heap) (C fK fL : Addr) (fdK fdL : FuncData) : Prop where
  GK : FnOk P w K mg base (L2.CX P w) 3 fK fdK ["value"] (spChk C)
  mK : mg "check_rational" = some (.ref fK)
  kK : PySem.W.keepIn K (.ref fK) = true
  bK : Binds K fdK ["value"] []
  GL : FnOk P w K mg base CX0 2 fL fdL ["n", "d"] spLow
  mL : mg "lowest_terms" = some (.ref fL)
  kL : PySem.W.keepIn K (.ref fL) = true
  bL : Binds K fdL ["n", "d"] []
theorem scAdd : FnScope ["a", "b"] ["a", "b"] (defScope sAdd) := ⟨rfl, rfl, rfl, by decide +kernel, rfl, by decide +kernel, by decide +kernel⟩
theorem ok_add (F : Fun K "add" "add" sAdd f fd) (R : Ar P w K mg base C fK fL fdK fdL) : FnOk P w K mg base (L2.CX P w) 4 f fd ["a", "b"] (spBin C okAdd) := by
  refine F.okX scAdd (fun vs H Q E h => ?_) (fun cdv A outer s H vs Q E hr h => ?_)
  · obtain ⟨x, y, rfl, _⟩ := h
    rfl
  · obtain ⟨x, y, rfl, h⟩ := h
    refine ⟨_, pss_cons (ps_expr (pe_callS R.GK hr (by rfl) R.mK R.kK R.bK (fun σ => passAt (W := fun cls d _ H => E cls d H) (takes_of rfl rfl rfl rfl) σ) (pa_cons (pv 0) pa_nil)))
      (pss_cons (ps_expr (pe_callS R.GK hr (by rfl) R.mK R.kK R.bK (fun σ => passAt (W := fun cls d _ H => E cls d H) (takes_of rfl rfl rfl rfl) σ) (pa_cons (pv 1) pa_nil)))
      (pss_one (ps_ret (pe_call R.GL (hr.mono (by decide)) (by rfl) R.mL R.kL R.bL .nil pass0 (pa_cons (pe_op op_add (pe_op op_mulW (pe_ix ix_tup (pv 0) pe_int (fun _ _ => rfl)) (pe_ix ix_tup (pv 1) pe_int (fun _ _ => rfl))) (pe_op op_mulW (pe_ix ix_tup (pv 1) pe_int (fun _ _ => rfl)) (pe_ix ix_tup (pv 0) pe_int (fun _ _ => rfl))))
        (pa_cons (pe_op op_mulW (pe_ix ix_tup (pv 0) pe_int (fun _ _ => rfl)) (pe_ix ix_tup (pv 1) pe_int (fun _ _ => rfl))) pa_nil)))))), ?_⟩
    rcases h with ⟨hx, t⟩ | ⟨hx, hy, t⟩ | ⟨p, q, an, ad, bn, bd, rfl, rfl, hp, hq, ra, rb, s1, s2, s3, s4, k⟩
    · exact ⟨_, rfl, x, false, rfl, hx, nofun, fun _ => t⟩
    · exact ⟨_, rfl, x, true, rfl, hx, fun _ => ⟨_, rfl, y, false, rfl, hy, nofun, fun _ => t⟩, nofun⟩
    · refine ⟨_, rfl, _, true, rfl, .of hp ra, fun _ => ⟨_, rfl, _, true, rfl, .of hq rb, fun _ => ?_, nofun⟩, nofun⟩
      have dp : 0 < ad * bd := Int.mul_pos ra.pos rb.pos
      refine ⟨_, rfl, p, _, _, _, rfl, rfl, SqT.of hp, rfl, _, rfl, q, _, _, _, rfl, rfl, SqT.of hq, rfl, _, _, rfl, rfl, mw s1 s4, _, rfl, q, _, _, _, rfl, rfl, SqT.of hq, rfl, _, rfl, p, _, _, _, rfl, rfl, SqT.of hp, rfl, _, _, rfl, rfl, mw s3 s2, _, _, rfl, rfl,
        _, rfl, p, _, _, _, rfl, rfl, SqT.of hp, rfl, _, rfl, q, _, _, _, rfl, rfl, SqT.of hq, rfl, _, _, rfl, rfl, mw s2 s4, _, _, rfl, by omega, small_of (sm_mul s2 s4), low_pos dp k⟩
theorem scSub : FnScope ["a", "b"] ["a", "b"] (defScope sSub) := ⟨rfl, rfl, rfl, by decide +kernel, rfl, by decide +kernel, by decide +kernel⟩
theorem ok_sub (F : Fun K "subtract" "subtract" sSub f fd) (R : Ar P w K mg base C fK fL fdK fdL) : FnOk P w K mg base (L2.CX P w) 4 f fd ["a", "b"] (spBin C okSub) := by
  refine F.okX scSub (fun vs H Q E h => ?_) (fun cdv A outer s H vs Q E hr h => ?_)
  · obtain ⟨x, y, rfl, _⟩ := h
    rfl
  · obtain ⟨x, y, rfl, h⟩ := h
    refine ⟨_, pss_cons (ps_expr (pe_callS R.GK hr (by rfl) R.mK R.kK R.bK (fun σ => passAt (W := fun cls d _ H => E cls d H) (takes_of rfl rfl rfl rfl) σ) (pa_cons (pv 0) pa_nil)))
      (pss_cons (ps_expr (pe_callS R.GK hr (by rfl) R.mK R.kK R.bK (fun σ => passAt (W := fun cls d _ H => E cls d H) (takes_of rfl rfl rfl rfl) σ) (pa_cons (pv 1) pa_nil)))
      (pss_one (ps_ret (pe_call R.GL (hr.mono (by decide)) (by rfl) R.mL R.kL R.bL .nil pass0 (pa_cons (pe_op op_sub (pe_op op_mulW (pe_ix ix_tup (pv 0) pe_int (fun _ _ => rfl)) (pe_ix ix_tup (pv 1) pe_int (fun _ _ => rfl))) (pe_op op_mulW (pe_ix ix_tup (pv 1) pe_int (fun _ _ => rfl)) (pe_ix ix_tup (pv 0) pe_int (fun _ _ => rfl))))
        (pa_cons (pe_op op_mulW (pe_ix ix_tup (pv 0) pe_int (fun _ _ => rfl)) (pe_ix ix_tup (pv 1) pe_int (fun _ _ => rfl))) pa_nil)))))), ?_⟩
    rcases h with ⟨hx, t⟩ | ⟨hx, hy, t⟩ | ⟨p, q, an, ad, bn, bd, rfl, rfl, hp, hq, ra, rb, s1, s2, s3, s4, k⟩
    · exact ⟨_, rfl, x, false, rfl, hx, nofun, fun _ => t⟩
    · exact ⟨_, rfl, x, true, rfl, hx, fun _ => ⟨_, rfl, y, false, rfl, hy, nofun, fun _ => t⟩, nofun⟩
    · refine ⟨_, rfl, _, true, rfl, .of hp ra, fun _ => ⟨_, rfl, _, true, rfl, .of hq rb, fun _ => ?_, nofun⟩, nofun⟩
      have dp : 0 < ad * bd := Int.mul_pos ra.pos rb.pos
      refine ⟨_, rfl, p, _, _, _, rfl, rfl, SqT.of hp, rfl, _, rfl, q, _, _, _, rfl, rfl, SqT.of hq, rfl, _, _, rfl, rfl, mw s1 s4, _, rfl, q, _, _, _, rfl, rfl, SqT.of hq, rfl, _, rfl, p, _, _, _, rfl, rfl, SqT.of hp, rfl, _, _, rfl, rfl, mw s3 s2, _, _, rfl, rfl,
        _, rfl, p, _, _, _, rfl, rfl, SqT.of hp, rfl, _, rfl, q, _, _, _, rfl, rfl, SqT.of hq, rfl, _, _, rfl, rfl, mw s2 s4, _, _, rfl, by omega, small_of (sm_mul s2 s4), low_pos dp k⟩
theorem scMul : FnScope ["a", "b"] ["a", "b"] (defScope sMul) := ⟨rfl, rfl, rfl, by decide +kernel, rfl, by decide +kernel, by decide +kernel⟩
theorem ok_mul (F : Fun K "multiply" "multiply" sMul f fd) (R : Ar P w K mg base C fK fL fdK fdL) : FnOk P w K mg base (L2.CX P w) 4 f fd ["a", "b"] (spBin C okMul) := by
  refine F.okX scMul (fun vs H Q E h => ?_) (fun cdv A outer s H vs Q E hr h => ?_)
  · obtain ⟨x, y, rfl, _⟩ := h
    rfl
  · obtain ⟨x, y, rfl, h⟩ := h
    refine ⟨_, pss_cons (ps_expr (pe_callS R.GK hr (by rfl) R.mK R.kK R.bK (fun σ => passAt (W := fun cls d _ H => E cls d H) (takes_of rfl rfl rfl rfl) σ) (pa_cons (pv 0) pa_nil)))
      (pss_cons (ps_expr (pe_callS R.GK hr (by rfl) R.mK R.kK R.bK (fun σ => passAt (W := fun cls d _ H => E cls d H) (takes_of rfl rfl rfl rfl) σ) (pa_cons (pv 1) pa_nil)))
      (pss_one (ps_ret (pe_call R.GL (hr.mono (by decide)) (by rfl) R.mL R.kL R.bL .nil pass0 (pa_cons (pe_op op_mulW (pe_ix ix_tup (pv 0) pe_int (fun _ _ => rfl)) (pe_ix ix_tup (pv 1) pe_int (fun _ _ => rfl)))
        (pa_cons (pe_op op_mulW (pe_ix ix_tup (pv 0) pe_int (fun _ _ => rfl)) (pe_ix ix_tup (pv 1) pe_int (fun _ _ => rfl))) pa_nil)))))), ?_⟩
    rcases h with ⟨hx, t⟩ | ⟨hx, hy, t⟩ | ⟨p, q, an, ad, bn, bd, rfl, rfl, hp, hq, ra, rb, s1, s2, s3, s4, k⟩
    · exact ⟨_, rfl, x, false, rfl, hx, nofun, fun _ => t⟩
    · exact ⟨_, rfl, x, true, rfl, hx, fun _ => ⟨_, rfl, y, false, rfl, hy, nofun, fun _ => t⟩, nofun⟩
    · refine ⟨_, rfl, _, true, rfl, .of hp ra, fun _ => ⟨_, rfl, _, true, rfl, .of hq rb, fun _ => ?_, nofun⟩, nofun⟩
      have dp : 0 < ad * bd := Int.mul_pos ra.pos rb.pos
      refine ⟨_, rfl, p, _, _, _, rfl, rfl, SqT.of hp, rfl, _, rfl, q, _, _, _, rfl, rfl, SqT.of hq, rfl, _, _, rfl, rfl, mw s1 s3,
        _, rfl, p, _, _, _, rfl, rfl, SqT.of hp, rfl, _, rfl, q, _, _, _, rfl, rfl, SqT.of hq, rfl, _, _, rfl, rfl, mw s2 s4, _, _, rfl, by omega, small_of (sm_mul s2 s4), low_pos dp k⟩
theorem scDiv : FnScope ["a", "b"] ["a", "b"] (defScope sDiv) := ⟨rfl, rfl, rfl, by decide +kernel, rfl, by decide +kernel, by decide +kernel⟩
theorem ok_div (F : Fun K "divide" "divide" sDiv f fd) (R : Ar P w K mg base C fK fL fdK fdL) (T : Er K mg C fI Z) : FnOk P w K mg base (L2.CX P w) 4 f fd ["a", "b"] (spBin C (okDiv Z)) := by
  refine F.okX scDiv (fun vs H Q E h => ?_) (fun cdv A outer s H vs Q E hr h => ?_)
  · obtain ⟨x, y, rfl, _⟩ := h
    rfl
  · obtain ⟨x, y, rfl, h⟩ := h
    refine ⟨_, pss_cons (ps_expr (pe_callS R.GK hr (by rfl) R.mK R.kK R.bK (fun σ => passAt (W := fun cls d _ H => E cls d H) (takes_of rfl rfl rfl rfl) σ) (pa_cons (pv 0) pa_nil)))
      (pss_cons (ps_expr (pe_callS R.GK hr (by rfl) R.mK R.kK R.bK (fun σ => passAt (W := fun cls d _ H => E cls d H) (takes_of rfl rfl rfl rfl) σ) (pa_cons (pv 1) pa_nil)))
      (pss_cons (ps_if (pt_cmpR op_eq (pe_ix ix_tup (pv 1) pe_int (fun _ _ => rfl)) pe_int (nomark _)) (pss_one (ps_raise (W := fun cls d _ H => E cls d H) rfl (takes_of rfl rfl rfl rfl) (pmk_own0 PySem.F.excBase_ZeroDivisionError T.xZ T.gZ T.kZ (raises_own T.bZ T.tZ) (by rfl)))) pss_nil)
      (pss_one (ps_ret (pe_call R.GL (hr.mono (by decide)) (by rfl) R.mL R.kL R.bL .nil pass0 (pa_cons (pe_op op_mulW (pe_ix ix_tup (pv 0) pe_int (fun _ _ => rfl)) (pe_ix ix_tup (pv 1) pe_int (fun _ _ => rfl)))
        (pa_cons (pe_op op_mulW (pe_ix ix_tup (pv 0) pe_int (fun _ _ => rfl)) (pe_ix ix_tup (pv 1) pe_int (fun _ _ => rfl))) pa_nil))))))), ?_⟩
    rcases h with ⟨hx, t⟩ | ⟨hx, hy, t⟩ | ⟨p, q, an, ad, bn, bd, rfl, rfl, hp, hq, ra, rb, s1, s2, s3, s4, k1, k2⟩
    · exact ⟨_, rfl, x, false, rfl, hx, nofun, fun _ => t⟩
    · exact ⟨_, rfl, x, true, rfl, hx, fun _ => ⟨_, rfl, y, false, rfl, hy, nofun, fun _ => t⟩, nofun⟩
    · refine ⟨_, rfl, _, true, rfl, .of hp ra, fun _ => ⟨_, rfl, _, true, rfl, .of hq rb, fun _ => ?_, nofun⟩, nofun⟩
      refine ⟨_, rfl, q, _, _, _, rfl, rfl, SqT.of hq, rfl, rfl, _, rfl, ?_⟩
      by_cases z : bn = 0
      · rw [decide_eq_true (show V.int bn = V.int 0 by rw [z])]
        exact iteT (k1 z)
      · rw [decide_eq_false (show ¬ V.int bn = V.int 0 from fun e => z (by injection e))]
        refine iteF ?_
        have k := k2 z
        have az := ra.pos
        have nz : ad * bn ≠ 0 := Int.mul_ne_zero (by omega) z
        have sg : (ad * bn < 0) ↔ (bn < 0) := by
          constructor
          · intro h
            rcases Int.lt_trichotomy bn 0 with g | g | g
            · exact g
            · exact absurd g z
            · have := Int.mul_pos az g
              omega
          · intro h
            exact Int.mul_neg_of_pos_of_neg az h
        refine ⟨_, rfl, p, _, _, _, rfl, rfl, SqT.of hp, rfl, _, rfl, q, _, _, _, rfl, rfl, SqT.of hq, rfl, _, _, rfl, rfl, mw s1 s4,
          _, rfl, p, _, _, _, rfl, rfl, SqT.of hp, rfl, _, rfl, q, _, _, _, rfl, rfl, SqT.of hq, rfl, _, _, rfl, rfl, mw s2 s3, _, _, rfl, nz, small_of (sm_mul s2 s3), ?_⟩
        by_cases ng : bn < 0
        · have ng2 := sg.mpr ng
          rw [if_pos ng, if_pos ng] at k
          rw [if_pos ng2, if_pos ng2]
          exact k
        · have ng2 : ¬ ad * bn < 0 := fun h => ng (sg.mp h)
          rw [if_neg ng, if_neg ng] at k
          rw [if_neg ng2, if_neg ng2]
          exact k
theorem scCmp : FnScope ["a", "b", "left", "right"] ["a", "b"] (defScope sCmp) := ⟨rfl, rfl, rfl, by decide +kernel, rfl, by decide +kernel, by decide +kernel⟩
theorem ok_cmp (F : Fun K "compare" "compare" sCmp f fd) (R : Ar P w K mg base C fK fL fdK fdL) : FnOk P w K mg base (L2.CX P w) 4 f fd ["a", "b"] (spBin C okCmp) := by
  refine F.okX scCmp (fun vs H Q E h => ?_) (fun cdv A outer s H vs Q E hr h => ?_)
  · obtain ⟨x, y, rfl, _⟩ := h
    rfl
  · obtain ⟨x, y, rfl, h⟩ := h
    refine ⟨_, pss_cons (ps_expr (pe_callS R.GK hr (by rfl) R.mK R.kK R.bK (fun σ => passAt (W := fun cls d _ H => E cls d H) (takes_of rfl rfl rfl rfl) σ) (pa_cons (pv 0) pa_nil)))
      (pss_cons (ps_expr (pe_callS R.GK hr (by rfl) R.mK R.kK R.bK (fun σ => passAt (W := fun cls d _ H => E cls d H) (takes_of rfl rfl rfl rfl) σ) (pa_cons (pv 1) pa_nil)))
      (pss_cons (ps_set (i := 2) scCmp.nd rfl (Or.inl rfl) (pe_op op_mulW (pe_ix ix_tup (pv 0) pe_int (fun _ _ => rfl)) (pe_ix ix_tup (pv 1) pe_int (fun _ _ => rfl))))
      (pss_cons (ps_set (i := 3) scCmp.nd rfl (Or.inl rfl) (pe_op op_mulW (pe_ix ix_tup (pv 1) pe_int (fun _ _ => rfl)) (pe_ix ix_tup (pv 0) pe_int (fun _ _ => rfl))))
      (pss_cons (ps_if (pt_cmpR op_lt (pv 2) (pv 3) (nomark _)) (pss_one (ps_ret (pe_un un_neg pe_int))) pss_nil)
      (pss_cons (ps_if (pt_cmpR op_gt (pv 2) (pv 3) (nomark _)) (pss_one (ps_ret pe_int)) pss_nil) (pss_one (ps_ret pe_int))))))), ?_⟩
    rcases h with ⟨hx, t⟩ | ⟨hx, hy, t⟩ | ⟨p, q, an, ad, bn, bd, rfl, rfl, hp, hq, ra, rb, s1, s2, s3, s4, k⟩
    · exact ⟨_, rfl, x, false, rfl, hx, nofun, fun _ => t⟩
    · exact ⟨_, rfl, x, true, rfl, hx, fun _ => ⟨_, rfl, y, false, rfl, hy, nofun, fun _ => t⟩, nofun⟩
    · refine ⟨_, rfl, _, true, rfl, .of hp ra, fun _ => ⟨_, rfl, _, true, rfl, .of hq rb, fun _ => ?_, nofun⟩, nofun⟩
      refine ⟨_, rfl, p, _, _, _, rfl, rfl, SqT.of hp, rfl, _, rfl, q, _, _, _, rfl, rfl, SqT.of hq, rfl, _, _, rfl, rfl, mw s1 s4,
        _, rfl, q, _, _, _, rfl, rfl, SqT.of hq, rfl, _, rfl, p, _, _, _, rfl, rfl, SqT.of hp, rfl, _, _, rfl, rfl, mw s3 s2, _, rfl, _, rfl, _, _, rfl, rfl, _, rfl, ?_⟩
      unfold okCmp at k
      by_cases z : an * bd < bn * ad
      · rw [decide_eq_true z]
        rw [if_pos z] at k
        exact iteT ⟨_, rfl, k⟩
      · rw [decide_eq_false z]
        rw [if_neg z] at k
        refine iteF ⟨_, rfl, _, rfl, _, _, rfl, rfl, _, rfl, ?_⟩
        by_cases z2 : bn * ad < an * bd
        · rw [decide_eq_true z2]
          rw [if_pos z2] at k
          exact iteT k
        · rw [decide_eq_false z2]
          rw [if_neg z2] at k
          exact iteF k
end
end K01
set_option Elab.async false
set_option linter.all false
set_option maxRecDepth 100000
set_option maxHeartbeats 4000000
namespace K01
open PySem PySem.Spec PyProof.Rows L2 Lc
abbrev sTape : Stmt := top 15
abbrev sDraw : Stmt := top 16
abbrev sLst : Stmt := top 17
abbrev sRat : Stmt := top 18
section
variable {P : Program} {w : World} {K : PySem.W.Frag} {mg : Str → Option Value} {base : Heap} {f : Addr} {fd : FuncData}
theorem scTape : FnScope ["_law_script"] ["_law_script"] (defScope sTape) := ⟨rfl, rfl, rfl, by decide +kernel, rfl, by decide +kernel, by decide +kernel⟩
theorem ok_tape (F : Fun K "_law_tape" "_law_tape" sTape f fd) (T : Bt mg) : FnOk P w K mg base CX0 1 f fd ["_law_script"] (spTape K) := by
  refine F.ok scTape (fun vs H Q E h => ?_) (fun cdv A outer s H vs Q E hr h => ?_)
  · obtain ⟨a, ns, rfl, _⟩ := h
    rfl
  · obtain ⟨a, ns, rfl, hS, k⟩ := h
    refine ⟨_, pss_one (ps_ret (pe_lst (pa_cons (pe_callTy call_list_of (by rfl) T.list boot_list (pa_cons (pe_slice sl_list (pv 0) po_none (po_some pe_int)) pa_nil)) (pa_cons pe_int (pa_cons pe_int (pa_cons pe_int pa_nil)))))), ?_⟩
    obtain ⟨ms, e⟩ := cut_ints ns none (some 63)
    refine ⟨_, rfl, _, rfl, a, _, rfl, hS, fun p hp => ⟨p, _, rfl, .inl (SqL.of upd_same), fun l hl => ⟨by show 4 ≤ sizeLine; decide, fun t ht => ?_⟩⟩⟩
    have s1 : Same H (upd H p (.lst (cutV (ns.map V.int) none (some 63)))) := Same.upd hp
    have s2 := Same.upd (o := .lst (cutV (ns.map V.int) none (some 63))) hl
    have s3 := Same.upd (o := .lst [.ref l, .int 0, .int 0, .int 17]) ht
    refine k t _ ((s1.trans s2).trans s3) ((s1.trans s2).free ht) ⟨l, ms, 0, 0, 17, upd_same, ?_, by decide, by decide, by decide, by decide⟩
    rw [← e]
    exact s3 _ _ upd_same
theorem scDraw : FnScope ["_law_tape_here", "_law_many", "_law_digit", "_law_cell", "_law_mixed"] ["_law_tape_here", "_law_many"] (defScope sDraw) := ⟨rfl, rfl, rfl, by decide +kernel, rfl, by decide +kernel, by decide +kernel⟩
theorem ok_draw (F : Fun K "_law_draw" "_law_draw" sDraw f fd) (T : Bt mg) : FnOk P w K mg base CX0 1 f fd ["_law_tape_here", "_law_many"] spDraw := by
  refine F.ok scDraw (fun vs H Q E h => ?_) (fun cdv A outer s H vs Q E hr h => ?_)
  · obtain ⟨t, m, rfl, _⟩ := h
    rfl
  · obtain ⟨t, m, rfl, ⟨l, ns, pos, rest, mix, ht, hl, p0, r0, m0, m1⟩, hm, hm2, k⟩ := h
    refine ⟨_, pss_cons (ps_if (pt_cmpR op_gt (pe_ix ix_list (pv 0) pe_int (fun _ _ => rfl)) pe_int (nomark _))
        (pss_cons (ps_set (i := 2) scDraw.nd rfl (Or.inl rfl) (pe_op op_mod (pe_ix ix_list (pv 0) pe_int (fun _ _ => rfl)) (pv 1)))
        (pss_cons (ps_asg (pe_op op_fdivW (pe_ix ix_list (pv 0) pe_int (fun _ _ => rfl)) (pv 1)) (pg_sub (pv 0) pe_int set_list)) (pss_one (ps_ret (pv 2))))) pss_nil)
      (pss_cons (ps_set (i := 3) scDraw.nd rfl (Or.inl rfl) pe_int)
      (Evl.pss_cut (ps_if (pt_cmpR op_lt (pe_ix ix_list (pv 0) pe_int (fun _ _ => rfl)) (pe_callB call_len_seq (by rfl) T.len PySem.boot_len (pa_cons (pe_ix ix_list (pv 0) pe_int (fun _ _ => rfl)) pa_nil)) (nomark _))
        (pss_one (ps_set (i := 3) scDraw.nd rfl (Or.inl rfl) (pe_ix ix_list (pe_ix ix_list (pv 0) pe_int (fun _ _ => rfl)) (pe_ix ix_list (pv 0) pe_int (fun _ _ => rfl)) (fun _ _ => rfl)))) pss_nil)
      (pss_cons (ps_asg (pe_op op_add (pe_ix ix_list (pv 0) pe_int (fun _ _ => rfl)) pe_int) (pg_sub (pv 0) pe_int set_list))
      (pss_cons (ps_if (pt_cmpR op_ge (pv 3) (pe_op op_pow pe_int pe_int) (nomark _))
        (pss_cons (ps_asg (pe_op op_fdivW (pv 3) (pv 1)) (pg_sub (pv 0) pe_int set_list)) (pss_one (ps_ret (pe_op op_mod (pv 3) (pv 1))))) pss_nil)
      (pss_cons (ps_set (i := 4) scDraw.nd rfl (Or.inl rfl) (pe_op op_add (pe_op op_add (pe_op op_add (pe_op op_mul (pe_ix ix_list (pv 0) pe_int (fun _ _ => rfl)) pe_int) (pe_op op_mod (pv 3) pe_int)) (pe_op op_mul pe_int (pe_ix ix_list (pv 0) pe_int (fun _ _ => rfl)))) pe_int))
      (pss_cons (ps_asg (pe_op op_mod (pv 4) pe_int) (pg_sub (pv 0) pe_int set_list))
      (pss_one (ps_ret (pe_op op_mod (pe_op op_mod (pe_op op_pow (pe_ix ix_list (pv 0) pe_int (fun _ _ => rfl)) pe_int) pe_int) (pv 1)))))))))), ?_⟩
    have nl := tape_ne ht hl
    have dv : ∀ c : Int, CDivW c m := fun c => ⟨hm, log_lt' hm2⟩
    have M0 : (0 : Int) < 2147483647 := by decide
    refine ⟨_, rfl, t, _, _, _, rfl, rfl, SqL.of ht, rfl, _, _, rfl, rfl, _, rfl, ?_⟩
    refine ite2 (fun z => ?_) (fun z => ?_)
    · have z' : 0 < rest := of_decide_eq_true z
      refine ⟨_, rfl, t, _, _, _, rfl, rfl, SqL.of ht, rfl, _, rfl, _, _, rfl, rfl, hm, ?_⟩
      refine ⟨_, rfl, t, _, _, _, rfl, rfl, SqL.of ht, rfl, _, rfl, _, _, rfl, rfl, dv _, _, rfl, t, _, _, 2, rfl, rfl, ht, rfl, ?_⟩
      refine ⟨_, rfl, ?_⟩
      refine k _ _ (Int.emod_nonneg _ (by omega)) (Int.emod_lt_of_pos _ hm) ⟨l, ns, pos, rest / m, mix, upd_same, by rw [upd_ne nl]; exact hl, p0, Int.ediv_nonneg r0 (by omega), m0, m1⟩ SameB.upd
    · refine ⟨fun σ' H' => ∃ c : Int, σ' = [some (.ref t), some (.int m), none, some (.int c), none] ∧ H' = H, ?_, ?_⟩
      · refine ⟨_, rfl, t, _, _, _, rfl, rfl, SqL.of ht, rfl, _, rfl, t, _, _, _, rfl, rfl, SqL.of ht, rfl, l, _, rfl, .inl (SqL.of hl), _, _, rfl, rfl, _, rfl, ?_⟩
        refine ite2 (fun y => ?_) (fun y => ?_)
        · have y' : pos < ((ns.map V.int).length : Int) := of_decide_eq_true y
          rw [List.length_map] at y'
          have g : (ns.map V.int)[pos.toNat]? = some (.int (ns[pos.toNat]'(by omega))) := by
            rw [List.getElem?_map, List.getElem?_eq_getElem (by omega : pos.toNat < ns.length)]
            rfl
          exact ⟨_, rfl, t, _, _, _, rfl, rfl, SqL.of ht, rfl, _, rfl, t, _, _, _, rfl, rfl, SqL.of ht, rfl, l, _, _, _, rfl, rfl, SqL.of hl, at_of (by omega) g, _, rfl, rfl⟩
        · exact ⟨0, rfl, rfl⟩
      · rintro σ' H' ⟨c, rfl, rfl⟩
        refine ⟨_, rfl, t, _, _, _, rfl, rfl, SqL.of ht, rfl, _, _, rfl, rfl, _, rfl, t, _, _, 1, rfl, rfl, ht, rfl, ?_⟩
        refine ⟨_, rfl, _, _, rfl, rfl, ⟨by decide, by decide, by decide⟩, _, _, rfl, rfl, _, rfl, ?_⟩
        refine ite2 (fun y => ?_) (fun y => ?_)
        · have y' : (10 : Int) ^ (18 : Int).toNat ≤ c := of_decide_eq_true y
          have c0 : 0 ≤ c := Int.le_trans (by decide) y'
          refine ⟨_, rfl, _, rfl, _, _, rfl, rfl, dv _, _, rfl, t, _, _, 2, rfl, rfl, upd_same, rfl, ?_⟩
          refine ⟨_, rfl, _, rfl, _, _, rfl, rfl, hm, ?_⟩
          exact k _ _ (Int.emod_nonneg _ (by omega)) (Int.emod_lt_of_pos _ hm) ⟨l, ns, pos + 1, c / m, mix, upd_same, by rw [upd_ne nl, upd_ne nl]; exact hl, by omega, Int.ediv_nonneg c0 (by omega), m0, m1⟩ (SameB.upd.trans SameB.upd)
        · refine ⟨_, rfl, t, _, _, _, rfl, rfl, SqL.of upd_same, rfl, _, _, rfl, rfl, .inl ⟨by omega, by omega⟩, _, rfl, _, _, rfl, rfl, M0, _, _, rfl, rfl, _, rfl, t, _, _, _, rfl, rfl, SqL.of upd_same, rfl, _, _, rfl, rfl, .inl ⟨by decide, by decide⟩, _, _, rfl, rfl, _, _, rfl, rfl, ?_⟩
          refine ⟨_, rfl, _, _, rfl, rfl, M0, _, rfl, t, _, _, 3, rfl, rfl, upd_same, rfl, ?_⟩
          have q0 := Int.emod_nonneg (mix * 48271 + c % 2147483647 + 7919 * (pos + 1) + 11) (by decide : (2147483647 : Int) ≠ 0)
          have q1 := Int.emod_lt_of_pos (mix * 48271 + c % 2147483647 + 7919 * (pos + 1) + 11) M0
          refine ⟨_, rfl, t, _, _, _, rfl, rfl, SqL.of upd_same, rfl, _, _, rfl, rfl, ⟨by decide, by decide, ?_⟩, _, _, rfl, rfl, M0, _, rfl, _, _, rfl, rfl, hm, ?_⟩
          · omega
          · exact k _ _ (Int.emod_nonneg _ (by omega)) (Int.emod_lt_of_pos _ hm) ⟨l, ns, pos + 1, rest, _, upd_same, by rw [upd_ne nl, upd_ne nl]; exact hl, by omega, r0, q0, q1⟩ (SameB.upd.trans SameB.upd)
end
end K01
set_option Elab.async false
set_option linter.all false
set_option maxRecDepth 100000
set_option maxHeartbeats 4000000
namespace K01
open PySem PySem.Spec PyProof.Rows L2 Lc
section
variable {P : Program} {w : World} {K : PySem.W.Frag} {mg : Str → Option Value} {base : Heap} {f : Addr} {fd : FuncData}
theorem scLst : FnScope ["_law_n", "_law_d", "_law_a", "_law_b", "_law_rest"] ["_law_n", "_law_d"] (defScope sLst) := ⟨rfl, rfl, rfl, by decide +kernel, rfl, by decide +kernel, by decide +kernel⟩
theorem ok_lst (F : Fun K "_law_lowest" "_law_lowest" sLst f fd) (T : Bt mg) : FnOk P w K mg base CX0 1 f fd ["_law_n", "_law_d"] spLowest := by
  refine F.ok scLst (fun vs H Q E h => ?_) (fun cdv A outer s H vs Q E hr h => ?_)
  · obtain ⟨n, d, rfl, _⟩ := h
    rfl
  · obtain ⟨n, d, rfl, hd, hd2, k⟩ := h
    refine ⟨_, pss_cons (ps_set (i := 2) scLst.nd rfl (Or.inl rfl) (pe_callB call_abs (by rfl) T.abs boot_abs (pa_cons (pv 0) pa_nil)))
      (pss_cons (ps_set (i := 3) scLst.nd rfl (Or.inl rfl) (pv 1))
      (pss_cons (ps_while PassesOwn.never (pt_cmpR op_gt (pv 3) pe_int (nomark _))
        (pss_cons (ps_set (i := 4) scLst.nd rfl (Or.inl rfl) (pe_op op_mod (pv 2) (pv 3))) (pss_cons (ps_set (i := 2) scLst.nd rfl (Or.inl rfl) (pv 3)) (pss_one (ps_set (i := 3) scLst.nd rfl (Or.inl rfl) (pv 4))))))
      (pss_one (ps_ret (pe_tup (pa_cons (pe_op op_fdivW (pv 0) (pv 2)) (pa_cons (pe_op op_fdivW (pv 1) (pv 2)) pa_nil))))))), ?_⟩
    refine ⟨_, rfl, n, rfl, _, rfl, ?_⟩
    refine ⟨fun m σ H' => ∃ (a' b' : Int) (r : Option V), σ = [some (.int n), some (.int d), some (.int a'), some (.int b'), r] ∧ 0 ≤ a' ∧ 0 ≤ b' ∧ b'.toNat = m ∧ gd a' b' = gd n d ∧ H' = H, ⟨_, _, d, none, rfl, by split <;> omega, by omega, rfl, gd_abs n d, rfl⟩, ?_⟩
    rintro m σ H' ⟨a', b', r, rfl, ha', hb', rfl, e, rfl⟩
    refine ⟨_, rfl, _, _, rfl, rfl, _, rfl, ?_⟩
    refine ite2 (fun z => ?_) (fun z => ?_)
    · have pb : 0 < b' := of_decide_eq_true z
      refine ⟨fun σ' H'' => ∃ (a2 b2 : Int) (r : Option V), σ' = [some (.int n), some (.int d), some (.int a2), some (.int b2), r] ∧ 0 ≤ a2 ∧ 0 ≤ b2 ∧ b2.toNat < b'.toNat ∧ gd a2 b2 = gd n d ∧ H'' = H', ?_, ?_⟩
      · rintro σ' H'' ⟨a2, b2, r2, h1, h2, h3, h4, h5, h6⟩
        exact ⟨_, h4, a2, b2, r2, h1, h2, h3, rfl, h5, h6⟩
      · refine ⟨_, rfl, _, rfl, _, _, rfl, rfl, pb, _, rfl, _, rfl, b', a' % b', _, rfl, hb', Int.emod_nonneg _ (by omega), ?_, ?_, rfl⟩
        · have := Int.emod_lt_of_pos a' pb
          have := Int.emod_nonneg a' (by omega : b' ≠ 0)
          omega
        · rw [gd_step ha' pb]
          exact e
    · have zb : ¬ 0 < b' := fun q => z (decide_eq_true q)
      have z0 : b' = 0 := by omega
      rw [z0, gd_zero ha'] at e
      subst e
      have g0 : 0 < gd n d := gd_pos (by omega)
      have gl : (gd n d).natAbs < 2 ^ 4000 := Nat.lt_of_le_of_lt (gd_natAbs_le (by omega)) hd2
      exact ⟨_, rfl, _, rfl, _, _, rfl, rfl, ⟨g0, log_lt' gl⟩, _, rfl, _, rfl, _, _, rfl, rfl, ⟨g0, log_lt' gl⟩, by show 2 ≤ sizeLine; decide, k⟩
theorem scRat : FnScope ["_law_tape_here", "_law_wide", "_law_size", "_law_edge"] ["_law_tape_here", "_law_wide"] (defScope sRat) := ⟨rfl, rfl, rfl, by decide +kernel, rfl, by decide +kernel, by decide +kernel⟩
theorem ok_rat {fD fL : Addr} {fdD fdL : FuncData} (F : Fun K "_law_rational" "_law_rational" sRat f fd) (T : Bt mg) (GD : FnOk P w K mg base CX0 1 fD fdD ["_law_tape_here", "_law_many"] spDraw) (mD : mg "_law_draw" = some (.ref fD)) (kD : PySem.W.keepIn K (.ref fD) = true) (bD : Binds K fdD ["_law_tape_here", "_law_many"] [])
    (GL : FnOk P w K mg base CX0 1 fL fdL ["_law_n", "_law_d"] spLowest) (mL : mg "_law_lowest" = some (.ref fL)) (kL : PySem.W.keepIn K (.ref fL) = true) (bL : Binds K fdL ["_law_n", "_law_d"] []) : FnOk P w K mg base CX0 2 f fd ["_law_tape_here", "_law_wide"] spRational := by
  refine F.ok scRat (fun vs H Q E h => ?_) (fun cdv A outer s H vs Q E hr h => ?_)
  · obtain ⟨t, b, rfl, _⟩ := h
    rfl
  · obtain ⟨t, b, rfl, hT, k⟩ := h
    refine ⟨_, pss_cons (ps_set (i := 2) scRat.nd rfl (Or.inl rfl) (pe_call GD hr (by rfl) mD kD bD .nil pass0 (pa_cons (pv 0) (pa_cons (pe_op op_add pe_int (pe_op op_mul pe_int (pe_callTy call_int1 (by rfl) T.int boot_int (pa_cons (pv 1) pa_nil)))) pa_nil))))
      (pss_cons (ps_if (pt_cmpR op_lt (pv 2) pe_int (nomark _)) (pss_one (ps_ret (pe_tup (pa_cons (pe_op op_sub (pe_call GD hr (by rfl) mD kD bD .nil pass0 (pa_cons (pv 0) (pa_cons pe_int pa_nil))) pe_int) (pa_cons pe_int pa_nil))))) pss_nil)
      (pss_cons (ps_if (pt_cmpR op_lt (pv 2) pe_int (nomark _)) (pss_one (ps_ret (pe_call GL hr (by rfl) mL kL bL .nil pass0 (pa_cons (pe_op op_sub (pe_call GD hr (by rfl) mD kD bD .nil pass0 (pa_cons (pv 0) (pa_cons pe_int pa_nil))) pe_int) (pa_cons (pe_op op_add pe_int (pe_call GD hr (by rfl) mD kD bD .nil pass0 (pa_cons (pv 0) (pa_cons pe_int pa_nil)))) pa_nil))))) pss_nil)
      (pss_cons (ps_if (pt_cmpR op_eq (pv 2) pe_int (nomark _)) (pss_one (ps_ret (pe_call GL hr (by rfl) mL kL bL .nil pass0 (pa_cons (pe_op op_sub (pe_call GD hr (by rfl) mD kD bD .nil pass0 (pa_cons (pv 0) (pa_cons (pe_op op_add (pe_op op_mul pe_int (pe_op op_pow pe_int pe_int)) pe_int) pa_nil))) (pe_op op_pow pe_int pe_int)) (pa_cons (pe_op op_add pe_int (pe_call GD hr (by rfl) mD kD bD .nil pass0 (pa_cons (pv 0) (pa_cons (pe_op op_pow pe_int pe_int) pa_nil)))) pa_nil))))) pss_nil)
      (pss_cons (ps_set (i := 3) scRat.nd rfl (Or.inl rfl) (pe_op op_sub (pe_op op_pow pe_int pe_int) (pe_call GD hr (by rfl) mD kD bD .nil pass0 (pa_cons (pv 0) (pa_cons pe_int pa_nil)))))
      (pss_one (ps_ret (pe_ix ix_list (pe_lst (pa_cons (pe_tup (pa_cons (pv 3) (pa_cons pe_int pa_nil))) (pa_cons (pe_tup (pa_cons (pe_op op_sub pe_int (pv 3)) (pa_cons pe_int pa_nil))) (pa_cons (pe_tup (pa_cons pe_int (pa_cons (pv 3) pa_nil))) (pa_cons (pe_tup (pa_cons (pe_un un_neg pe_int) (pa_cons (pv 3) pa_nil))) pa_nil)))))
        (pe_call GD hr (by rfl) mD kD bD .nil pass0 (pa_cons (pv 0) (pa_cons pe_int pa_nil))) (fun _ _ => rfl)))))))), ?_⟩
    have two : 2 ≤ sizeLine := by decide
    have pw18 : CPow 10 18 := ⟨by decide, by decide, by decide⟩
    have pw40 : CPow 10 40 := ⟨by decide, by decide, by decide⟩
    have b140 : ∀ z : Int, -100000000000000000000000000000000000000000 ≤ z → z ≤ 100000000000000000000000000000000000000000 → z.natAbs < 2 ^ 140 := by
      intro z h1 h2
      have : (2 : Nat) ^ 140 = 1393796574908163946345982392040522594123776 := by decide
      omega
    have big : ∀ z : Int, -100000000000000000000000000000000000000000 ≤ z → z ≤ 100000000000000000000000000000000000000000 → z.natAbs < 2 ^ 4000 := fun z h1 h2 => Nat.lt_of_lt_of_le (b140 z h1 h2) (Nat.pow_le_pow_right (by decide) (by decide))
    refine ⟨_, rfl, _, rfl, .inr ⟨b, rfl, _, _, rfl, rfl, .inl ⟨by decide, by decide⟩, _, _, rfl, rfl, t, _, rfl, hT, by cases b <;> decide, by cases b <;> exact big _ (by decide) (by decide), fun k1 H1 u1 v1 T1 S1 => ?_⟩⟩
    refine ⟨_, rfl, _, _, rfl, rfl, _, rfl, ?_⟩
    refine ite2 (fun _ => ?_) (fun _ => ?_)
    · refine ⟨_, rfl, t, _, rfl, T1, by decide, big _ (by decide) (by decide), fun k2 H2 u2 v2 T2 S2 => ?_⟩
      refine ⟨_, _, rfl, rfl, two, fun p hp => ?_⟩
      exact k p (k2 - 7) 1 _ (rt_one _) (b140 _ (by omega) (by omega)) (b140 _ (by decide) (by decide)) upd_same ((S1.trans S2).free T2 hp) (T2.same (Same.upd hp)) ((S1.trans S2).trans (Same.b t (Same.upd hp)))
    · refine ⟨_, rfl, _, _, rfl, rfl, _, rfl, ?_⟩
      refine ite2 (fun _ => ?_) (fun _ => ?_)
      · refine ⟨_, rfl, t, _, rfl, T1, by decide, big _ (by decide) (by decide), fun k2 H2 u2 v2 T2 S2 => ?_⟩
        refine ⟨_, _, rfl, rfl, _, rfl, t, _, rfl, T2, by decide, big _ (by decide) (by decide), fun k3 H3 u3 v3 T3 S3 => ?_⟩
        refine ⟨_, _, rfl, rfl, _, _, rfl, by omega, big _ (by omega) (by omega), fun p hp => ?_⟩
        have le := low_le (n := k2 - 200) (d := 1 + k3) (by omega)
        exact k p _ _ _ (low_rt (by omega)) (Nat.lt_of_le_of_lt le.1 (b140 _ (by omega) (by omega))) (Nat.lt_of_le_of_lt le.2 (b140 _ (by omega) (by omega))) upd_same (((S1.trans S2).trans S3).free T3 hp) (T3.same (Same.upd hp)) (((S1.trans S2).trans S3).trans (Same.b t (Same.upd hp)))
      · refine ⟨_, rfl, rfl, _, rfl, ?_⟩
        refine ite2 (fun _ => ?_) (fun _ => ?_)
        · refine ⟨_, rfl, _, _, rfl, rfl, pw18, _, _, rfl, rfl, .inl ⟨by decide, by decide⟩, _, _, rfl, rfl, t, _, rfl, T1, ?_, ?_, fun k2 H2 u2 v2 T2 S2 => ?_⟩
          · rw [p18]
            decide
          · rw [p18]
            exact big _ (by decide) (by decide)
          rw [p18] at v2
          refine ⟨_, _, rfl, rfl, pw18, _, _, rfl, rfl, _, rfl, _, _, rfl, rfl, pw18, t, _, rfl, T2, ?_, ?_, fun k3 H3 u3 v3 T3 S3 => ?_⟩
          · rw [p18]
            decide
          · rw [p18]
            exact big _ (by decide) (by decide)
          rw [p18] at v3
          refine ⟨_, _, rfl, rfl, _, _, rfl, by omega, big _ (by omega) (by omega), fun p hp => ?_⟩
          have le := low_le (n := k2 - 10 ^ (18 : Int).toNat) (d := 1 + k3) (by omega)
          rw [p18] at le
          refine k p _ _ _ (low_rt (by omega)) ?_ (Nat.lt_of_le_of_lt le.2 (b140 _ (by omega) (by omega))) upd_same (((S1.trans S2).trans S3).free T3 hp) (T3.same (Same.upd hp)) (((S1.trans S2).trans S3).trans (Same.b t (Same.upd hp)))
          exact Nat.lt_of_le_of_lt le.1 (b140 _ (by omega) (by omega))
        · refine ⟨_, _, rfl, rfl, pw40, _, rfl, t, _, rfl, T1, by decide, big _ (by decide) (by decide), fun k2 H2 u2 v2 T2 S2 => ?_⟩
          refine ⟨_, _, rfl, rfl, ?_⟩
          rw [p40]
          obtain ⟨ed, he⟩ : ∃ ed : Int, ed = 10000000000000000000000000000000000000000 - k2 := ⟨_, rfl⟩
          rw [show (fun i j : Int => V.int (i - j)) 10000000000000000000000000000000000000000 k2 = V.int ed by rw [he]]
          refine ⟨_, rfl, two, fun a1 ha1 => ⟨_, rfl, _, _, rfl, rfl, two, fun a2 ha2 => ⟨_, rfl, two, fun a3 ha3 => ⟨_, rfl, _, rfl, two, fun a4 ha4 => ⟨by show 4 ≤ sizeLine; decide, fun a5 ha5 => ?_⟩⟩⟩⟩⟩
          have z1 := Same.upd (o := .tup [.int ed, .int 1]) ha1
          have z2 := Same.upd (o := .tup [.int (0 - ed), .int 1]) ha2
          have z3 := Same.upd (o := .tup [.int 1, .int ed]) ha3
          have z4 := Same.upd (o := .tup [.int (-1), .int ed]) ha4
          have z5 := Same.upd (o := .lst [.ref a1, .ref a2, .ref a3, .ref a4]) ha5
          have zz := z1.trans (z2.trans (z3.trans (z4.trans z5)))
          have T5 := T2.same zz
          refine ⟨_, rfl, t, _, rfl, T5, by decide, big _ (by decide) (by decide), fun k3 H3 u3 v3 T3 S3 => ?_⟩
          have n5 : a5 ≠ t := (T2.same (z1.trans (z2.trans (z3.trans z4)))).ne ha5
          have n1 : a1 ≠ t := T2.ne ha1
          have n2 : a2 ≠ t := (T2.same z1).ne ha2
          have n3 : a3 ≠ t := (T2.same (z1.trans z2)).ne ha3
          have n4 : a4 ≠ t := (T2.same (z1.trans (z2.trans z3))).ne ha4
          have f0 := S1.trans S2
          have g1 : H a1 = none := f0.free T2 ha1
          have g2 : H a2 = none := f0.free T2 (z1.free ha2)
          have g3 : H a3 = none := f0.free T2 ((z1.trans z2).free ha3)
          have g4 : H a4 = none := f0.free T2 ((z1.trans (z2.trans z3)).free ha4)
          have sb := (f0.trans (Same.b t zz)).trans S3
          have e1 := S3 _ _ n1 ((z2.trans (z3.trans (z4.trans z5))) _ _ upd_same)
          have e2 := S3 _ _ n2 ((z3.trans (z4.trans z5)) _ _ upd_same)
          have e3 := S3 _ _ n3 ((z4.trans z5) _ _ upd_same)
          have e4 := S3 _ _ n4 (z5 _ _ upd_same)
          have hL := S3 _ _ n5 (upd_same)
          rcases (by omega : k3 = 0 ∨ k3 = 1 ∨ k3 = 2 ∨ k3 = 3) with rfl | rfl | rfl | rfl
          · exact ⟨a5, _, _, _, rfl, rfl, SqL.of hL, rfl, k a1 _ _ _ (rt_one _) (b140 _ (by omega) (by omega)) (b140 _ (by omega) (by omega)) e1 g1 T3 sb⟩
          · exact ⟨a5, _, _, _, rfl, rfl, SqL.of hL, rfl, k a2 _ _ _ (rt_one _) (b140 _ (by omega) (by omega)) (b140 _ (by omega) (by omega)) e2 g2 T3 sb⟩
          · exact ⟨a5, _, _, _, rfl, rfl, SqL.of hL, rfl, k a3 _ _ _ (rt_inv (by omega)) (b140 _ (by omega) (by omega)) (b140 _ (by omega) (by omega)) e3 g3 T3 sb⟩
          · exact ⟨a5, _, _, _, rfl, rfl, SqL.of hL, rfl, k a4 _ _ _ (rt_ninv (by omega)) (b140 _ (by omega) (by omega)) (b140 _ (by omega) (by omega)) e4 g4 T3 sb⟩
end
end K01
set_option Elab.async false
set_option linter.all false
set_option maxRecDepth 100000
set_option maxHeartbeats 4000000
namespace K01
open PySem PySem.Spec PyProof.Rows L2 Lc
abbrev sRef : Stmt := top 19
/-- what the written part says of the two classes where they are caught -/
structure Ex (K : PySem.W.Frag) (C Z : Addr) : Prop where
  xf : XfC K C
  xc : XisC K C
  xz : XisC K Z
  cc : PySem.W.exmOne K (.ref C) (.ref C) = some true
  zc : PySem.W.exmOne K (.ref Z) (.ref C) = some false
  zz : PySem.W.exmOne K (.ref Z) (.ref Z) = some true
  cv : PySem.W.kitOne K (.ref C) (.type "ValueError") = some true
  zv : PySem.W.kitOne K (.ref Z) (.type "ValueError") = some false
  zd : PySem.W.kitOne K (.ref Z) (.type "ZeroDivisionError") = some true
def OutN (H : Hp) (z : Str) (Q : VK) : Prop := ∀ (r : Addr) (H' : Hp), Same H H' → H' r = some (.lst [.str "number", .str z, .bl true]) → Q (.ref r) H'
def OutZ (H : Hp) (Q : VK) : Prop := ∀ (r : Addr) (H' : Hp), Same H H' → H' r = some (.lst [.str "zero", .bl true, .bl false]) → Q (.ref r) H'
def spRef (K : PySem.W.Frag) (Z : Addr) (S : Addr → OkF → Prop) : Sp := fun vs H Q _ => ∃ (f : Addr) (ok : OkF) (x y : V), vs = [.ref f, x, y] ∧ S f ok ∧
  ((∃ z, Rk H x false ∧ Shw K H x z ∧ OutN H z Q) ∨ (∃ z, Rk H x true ∧ Rk H y false ∧ Shw K H y z ∧ OutN H z Q) ∨
    ∃ (p q : Addr) (an ad bd : Int), x = .ref p ∧ y = .ref q ∧ H p = some (.tup [.int an, .int ad]) ∧ H q = some (.tup [.int 0, .int bd]) ∧ Rt an ad ∧ Rt 0 bd ∧ Sm an ∧ Sm ad ∧ Sm bd ∧ ok = okDiv Z ∧ OutZ H Q)
def tsN (K : PySem.W.Frag) (C : Addr) : Addr → Value → Option Addr → TS := fun a cls d => tRet (tLst (tCons (tC (.str "number")) (tCons (tCB (rReprV K) (tCons (tXf a cls d C "given" (tVar 3)) tNil)) (tCons (tCB (rIsX K cls d C a) (tCons (tVar 3) (tCons (tC (.ty "ValueError")) tNil))) tNil))))
def tsZ (K : PySem.W.Frag) (Z : Addr) : Addr → Value → Option Addr → TS := fun a cls d => tRet (tLst (tCons (tC (.str "zero")) (tCons (tCB (rIsX K cls d Z a) (tCons (tVar 3) (tCons (tC (.ty "ZeroDivisionError")) tNil))) (tCons (tCB (rIsX K cls d Z a) (tCons (tVar 3) (tCons (tC (.ty "ValueError")) tNil))) tNil))))
section
variable {P : Program} {w : World} {K : PySem.W.Frag} {mg : Str → Option Value} {base : Heap} {f C fI Z : Addr} {fd : FuncData} {S : Addr → OkF → Prop}
theorem scRef : FnScope ["_law_call", "_law_a", "_law_b", "e"] ["_law_call", "_law_a", "_law_b"] (defScope sRef) := ⟨rfl, rfl, rfl, by decide +kernel, rfl, by decide +kernel, by decide +kernel⟩
theorem ok_ref (F : Fun K "_law_refused" "_law_refused" sRef f fd) (T : Bt mg) (R : Er K mg C fI Z) (X : Ex K C Z) (hS : ∀ f ok, S f ok → ∃ fd, FnOk P w K mg base (L2.CX P w) 4 f fd ["a", "b"] (spBin C ok) ∧ PySem.W.keepIn K (.ref f) = true ∧ Binds K fd ["a", "b"] []) :
    FnG P w K mg base 5 f fd ["_law_call", "_law_a", "_law_b"] (spRef K Z S) := by
  refine Lc.Fun.okG F scRef (fun vs H Q E h => ?_) (fun cdv A outer s H vs Q E hg hr h => ?_)
  · obtain ⟨f, ok, x, y, rfl, _⟩ := h
    rfl
  · obtain ⟨g, ok, x, y, rfl, sg, h⟩ := h
    obtain ⟨fdg, G, kg, bg⟩ := hS g ok sg
    refine ⟨_, pss_cons (ps_tryL (Wout := fun _ _ _ _ => False) (tb := fun W => tDrop (tCallLS 0 g (spBin C ok) (WE W) (tCons (tVar 1) (tCons (tVar 2) tNil)))) (l := [⟨.ref C, some 3, tsN K C⟩, ⟨.ref Z, some 3, tsZ K Z⟩]) rfl rfl takes0
        (fun W pn xe tk _ => pss_one (ps_expr (pe_callLS (i := 0) G hr rfl (Or.inl rfl) kg bg (fun σ => passAt tk σ) (pa_cons (pv 1) (pa_cons (pv 2) pa_nil)))))
        (.named (i := 3) ⟨rfl, by decide, Or.inl R.gC⟩ rfl scRef.nd rfl rfl (fun a ob cls d pn hz hf => pss_one (ps_ret (pe_lst (pa_cons pe_str (pa_cons (pe_callB (call_reprV hg hr.units) (by rfl) T.repr boot_repr (pa_cons (pe_xf X.xf R.nG hz hf (pv 3)) pa_nil))
            (pa_cons (pe_callB (call_isX X.xc hz hf) (by rfl) T.isi boot_isinstance (pa_cons (pv 3) (pa_cons (pe_bltn (v := .ty "ValueError") (by rfl) T.ve PyProof.Rows.Boot.«ValueError» rfl) pa_nil))) pa_nil))))))
          (.named (i := 3) ⟨rfl, by decide, Or.inl R.gZ⟩ rfl scRef.nd rfl rfl (fun a ob cls d pn hz hf => pss_one (ps_ret (pe_lst (pa_cons pe_str (pa_cons (pe_callB (call_isX X.xz hz hf) (by rfl) T.isi boot_isinstance (pa_cons (pv 3) (pa_cons (pe_bltn (v := .ty "ZeroDivisionError") (by rfl) T.zd PyProof.Rows.Boot.«ZeroDivisionError» rfl) pa_nil)))
            (pa_cons (pe_callB (call_isX X.xz hz hf) (by rfl) T.isi boot_isinstance (pa_cons (pv 3) (pa_cons (pe_bltn (v := .ty "ValueError") (by rfl) T.ve PyProof.Rows.Boot.«ValueError» rfl) pa_nil))) pa_nil)))))) .nil)))
      (pss_one (ps_ret pe_str)), ?_⟩
    have three : 3 ≤ sizeLine := by decide
    have num : ∀ (v : V) (z : Str) (D : Ends), D.rt = Q → Shw K H v z → OutN H z Q → Tells C H v (WE (wCl K (fun _ _ _ _ => False) D [⟨.ref C, some 3, tsN K C⟩, ⟨.ref Z, some 3, tsZ K Z⟩]) [some (.ref g), some x, some y, none]) := by
      intro v z D hD hz hk d H' hs hd hx
      refine ⟨true, X.cc, fun _ a ha => ?_, nofun⟩
      refine ⟨_, rfl, rfl, rfl, d, _, v, rfl, hx, by simp [List.lookup], v, z, rfl, hz.same hs, ?_⟩
      refine ⟨_, rfl, rfl, _, _, _, rfl, .ty "ValueError", fun dd e => ?_, X.cv, three, fun r hr => ?_⟩
      · cases e
        exact ⟨_, hx⟩
      · show D.rt _ _
        rw [hD]
        exact hk r _ (hs.trans (Same.upd hr)) upd_same
    rcases h with ⟨z, hx, hz, hk⟩ | ⟨z, hx, hy, hz, hk⟩ | ⟨p, q, an, ad, bd, rfl, rfl, hp, hq, ra, rb, s1, s2, s3, rfl, hk⟩
    · exact ⟨rfl, _, rfl, _, rfl, x, y, rfl, .inl ⟨hx, num x z _ rfl hz hk⟩⟩
    · exact ⟨rfl, _, rfl, _, rfl, x, y, rfl, .inr (.inl ⟨hx, hy, num y z _ rfl hz hk⟩)⟩
    · refine ⟨rfl, _, rfl, _, rfl, _, _, rfl, .inr (.inr ⟨p, q, an, ad, 0, bd, rfl, rfl, hp, hq, ra, rb, s1, s2, by show (0 : Int).natAbs < _; exact Nat.pow_pos (by decide), s3, fun _ => ?_, fun n => absurd rfl n⟩)⟩
      refine ⟨false, X.zc, nofun, fun _ => ⟨true, X.zz, fun _ a ha => ?_, nofun⟩⟩
      refine ⟨_, rfl, rfl, _, _, _, rfl, .ty "ZeroDivisionError", nofun, X.zd, _, rfl, rfl, _, _, _, rfl, .ty "ValueError", nofun, X.zv, three, fun r hr => ?_⟩
      exact hk r _ (Same.upd hr) upd_same
end
end K01
set_option Elab.async false
set_option linter.all false
set_option maxRecDepth 100000
set_option maxHeartbeats 4000000
namespace K01
open PySem PySem.Spec PyProof.Rows L2 Lc
abbrev sPair : Stmt := top 20
abbrev sKinds : Stmt := top 21
def Ti (n : Int) : Prop := n.natAbs < 2 ^ 140
theorem Ti.sm {n : Int} (h : Ti n) : Sm n := Nat.lt_of_lt_of_le h (Nat.pow_le_pow_right (by decide) (by decide))
theorem ti_mul {a b : Int} (ha : Ti a) (hb : Ti b) : (a * b).natAbs < 2 ^ 280 := by
  unfold Ti at ha hb
  rw [Int.natAbs_mul, show (2 : Nat) ^ 280 = 2 ^ 140 * 2 ^ 140 from by rw [← Nat.pow_add]]
  exact Nat.mul_lt_mul'' ha hb
theorem sm280 {n : Int} (h : n.natAbs < 2 ^ 280) : Sm n := Nat.lt_of_lt_of_le h (Nat.pow_le_pow_right (by decide) (by decide))
theorem sm281 {a b : Int} (h : a.natAbs < 2 ^ 280) (h2 : b.natAbs < 2 ^ 280) : Sm (a + b) ∧ Sm (a - b) := by
  have e : (2 : Nat) ^ 281 = 2 ^ 280 + 2 ^ 280 := by rw [show (281 : Nat) = 280 + 1 from rfl, Nat.pow_succ]; omega
  have g : (2 : Nat) ^ 281 ≤ 2 ^ 1000 := Nat.pow_le_pow_right (by decide) (by decide)
  have k1 : (a + b).natAbs ≤ a.natAbs + b.natAbs := Int.natAbs_add_le a b
  have k2 : (a - b).natAbs ≤ a.natAbs + b.natAbs := Int.natAbs_sub_le a b
  exact ⟨Nat.lt_of_lt_of_le (Nat.lt_of_le_of_lt k1 (by omega)) g, Nat.lt_of_lt_of_le (Nat.lt_of_le_of_lt k2 (by omega)) g⟩
theorem big_of {n : Int} (h : n.natAbs < 2 ^ 280) : n.natAbs < 2 ^ 4000 := Nat.lt_of_lt_of_le h (Nat.pow_le_pow_right (by decide) (by decide))
def two (n d : Int) : PyData := .tuple [.int n, .int d]
theorem dp2 {K : PySem.W.Frag} {H : Hp} {p : Addr} {n d : Int} (h : H p = some (.tup [.int n, .int d])) : Dp K H (.ref p) (two n d) := .tup (SqT.of h) (.cons (.int n) (.cons (.int d) .nil))
theorem sh2 (n d : Int) : SeqAt.shaped (two n d) = true := rfl
theorem ev2 (n d : Int) : PyData.eqv (two n d) (two n d) = true := by simp [two, PyData.eqv, PyData.eqvAll]
structure FnB (P : Program) (w : World) (K : PySem.W.Frag) (mg : Str → Option Value) (base : Heap) (C : Addr) (x : Str) (f : Addr) (ok : OkF) : Prop where
  g : ∃ fd, FnOk P w K mg base (L2.CX P w) 4 f fd ["a", "b"] (spBin C ok) ∧ PySem.W.keepIn K (.ref f) = true ∧ Binds K fd ["a", "b"] []
  m : mg x = some (.ref f)
structure FnL (P : Program) (w : World) (K : PySem.W.Frag) (mg : Str → Option Value) (base : Heap) (k : Nat) (x : Str) (f : Addr) (ps : List Str) (sp : Sp) : Prop where
  g : ∃ fd, FnOk P w K mg base CX0 k f fd ps sp ∧ PySem.W.keepIn K (.ref f) = true ∧ Binds K fd ps []
  m : mg x = some (.ref f)
structure FnM (P : Program) (w : World) (K : PySem.W.Frag) (mg : Str → Option Value) (base : Heap) (k : Nat) (x : Str) (f : Addr) (ps : List Str) (sp : Sp) : Prop where
  g : ∃ fd, FnG P w K mg base k f fd ps sp ∧ PySem.W.keepIn K (.ref f) = true ∧ Binds K fd ps []
  m : mg x = some (.ref f)
def spPair : Sp := fun vs H Q _ => ∃ (p q : Addr) (an ad bn bd : Int), vs = [.ref p, .ref q] ∧ H p = some (.tup [.int an, .int ad]) ∧ H q = some (.tup [.int bn, .int bd]) ∧ Rt an ad ∧ Rt bn bd ∧ Ti an ∧ Ti ad ∧ Ti bn ∧ Ti bd ∧ ∀ H', Same H H' → Q (.bl true) H'
def spKinds : Sp := fun vs H Q _ => ∃ (p : Addr) (n d : Int), vs = [.ref p] ∧ H p = some (.tup [.int n, .int d]) ∧ ∀ H', Same H H' → Q (.bl true) H'
theorem low_cross {n d : Int} (h : 0 < d) : lowN n d * d = n * lowD n d := by
  have m := low_mul (n := n) (d := d) (by omega)
  have e : lowN n d * (lowD n d * gd n d) = (lowN n d * gd n d) * lowD n d := by
    rw [Int.mul_assoc, Int.mul_comm (gd n d) (lowD n d)]
  rw [m.1, m.2] at e
  exact e
section
variable {P : Program} {w : World} {K : PySem.W.Frag} {mg : Str → Option Value} {base : Heap} {f C fI Z fA fS fM fV fP fL fR : Addr} {fd : FuncData} {S : Addr → OkF → Prop}
theorem scPair : FnScope ["_law_a", "_law_b", "_law_left", "_law_right", "_law_sign"] ["_law_a", "_law_b"] (defScope sPair) := ⟨rfl, rfl, rfl, by decide +kernel, rfl, by decide +kernel, by decide +kernel⟩
theorem ok_pair (F : Fun K "_law_pair_right" "_law_pair_right" sPair f fd) (T : Bt mg) (A1 : FnB P w K mg base C "add" fA okAdd) (A2 : FnB P w K mg base C "subtract" fS okSub) (A3 : FnB P w K mg base C "multiply" fM okMul) (A4 : FnB P w K mg base C "divide" fV (okDiv Z))
    (A5 : FnB P w K mg base C "compare" fP okCmp) (A6 : FnL P w K mg base 1 "_law_lowest" fL ["_law_n", "_law_d"] spLowest) (A7 : FnM P w K mg base 5 "_law_refused" fR ["_law_call", "_law_a", "_law_b"] (spRef K Z S)) (hV : S fV (okDiv Z)) :
    FnG P w K mg base 6 f fd ["_law_a", "_law_b"] spPair := by
  refine Lc.Fun.okG F scPair (fun vs H Q E h => ?_) (fun cdv A outer s H vs Q E hg hr h => ?_)
  · obtain ⟨p, q, an, ad, bn, bd, rfl, _⟩ := h
    rfl
  · obtain ⟨p, q, an, ad, bn, bd, rfl, hp, hq, ra, rb, t1, t2, t3, t4, k⟩ := h
    have hp0 := hp
    have hq0 := hq
    obtain ⟨fd1, G1, k1, b1⟩ := A1.g
    obtain ⟨fd2, G2, k2, b2⟩ := A2.g
    obtain ⟨fd3, G3, k3, b3⟩ := A3.g
    obtain ⟨fd4, G4, k4, b4⟩ := A4.g
    obtain ⟨fd5, G5, k5, b5⟩ := A5.g
    obtain ⟨fd6, G6, k6, b6⟩ := A6.g
    obtain ⟨fd7, G7, k7, b7⟩ := A7.g
    have hr4 : Room 4 _ := hr.mono (by decide)
    have hr1 : Room 1 _ := hr.mono (by decide)
    refine ⟨_, Evl.pss_cut (ps_if (pt_cmpR (op_neD hr.units) (pe_call G1 hr4 (by rfl) A1.m k1 b1 .nil passL (pa_cons (pv 0) (pa_cons (pv 1) pa_nil)))
        (pe_call G6 hr1 (by rfl) A6.m k6 b6 .nil pass0 (pa_cons (pe_op op_add (pe_op op_mulW (pe_ix ix_tup (pv 0) pe_int (fun _ _ => rfl)) (pe_ix ix_tup (pv 1) pe_int (fun _ _ => rfl))) (pe_op op_mulW (pe_ix ix_tup (pv 1) pe_int (fun _ _ => rfl)) (pe_ix ix_tup (pv 0) pe_int (fun _ _ => rfl)))) (pa_cons (pe_op op_mulW (pe_ix ix_tup (pv 0) pe_int (fun _ _ => rfl)) (pe_ix ix_tup (pv 1) pe_int (fun _ _ => rfl))) pa_nil))) (nomark _)) (pss_one (ps_ret pe_bl)) pss_nil)
      (Evl.pss_cut (ps_if (PW.pt (pw_or (pt_cmpR (op_neD hr.units) (pe_call G2 hr4 (by rfl) A2.m k2 b2 .nil passL (pa_cons (pv 0) (pa_cons (pv 1) pa_nil)))
        (pe_call G6 hr1 (by rfl) A6.m k6 b6 .nil pass0 (pa_cons (pe_op op_sub (pe_op op_mulW (pe_ix ix_tup (pv 0) pe_int (fun _ _ => rfl)) (pe_ix ix_tup (pv 1) pe_int (fun _ _ => rfl))) (pe_op op_mulW (pe_ix ix_tup (pv 1) pe_int (fun _ _ => rfl)) (pe_ix ix_tup (pv 0) pe_int (fun _ _ => rfl)))) (pa_cons (pe_op op_mulW (pe_ix ix_tup (pv 0) pe_int (fun _ _ => rfl)) (pe_ix ix_tup (pv 1) pe_int (fun _ _ => rfl))) pa_nil))) (nomark _))
        (pw_or1 (pt_cmpR (op_neD hr.units) (pe_call G2 hr4 (by rfl) A2.m k2 b2 .nil passL (pa_cons (pe_call G1 hr4 (by rfl) A1.m k1 b1 .nil passL (pa_cons (pv 0) (pa_cons (pv 1) pa_nil))) (pa_cons (pv 1) pa_nil))) (pv 0) (nomark _))))) (pss_one (ps_ret pe_bl)) pss_nil)
      (Evl.pss_cut (ps_if (pt_cmpR (op_neD hr.units) (pe_call G3 hr4 (by rfl) A3.m k3 b3 .nil passL (pa_cons (pv 0) (pa_cons (pv 1) pa_nil)))
        (pe_call G6 hr1 (by rfl) A6.m k6 b6 .nil pass0 (pa_cons (pe_op op_mulW (pe_ix ix_tup (pv 0) pe_int (fun _ _ => rfl)) (pe_ix ix_tup (pv 1) pe_int (fun _ _ => rfl))) (pa_cons (pe_op op_mulW (pe_ix ix_tup (pv 0) pe_int (fun _ _ => rfl)) (pe_ix ix_tup (pv 1) pe_int (fun _ _ => rfl))) pa_nil))) (nomark _)) (pss_one (ps_ret pe_bl)) pss_nil)
      (pss_cons (ps_par (i := 2) (j := 3) (by rfl) scPair.nd rfl rfl (by decide) rfl rfl (pa_cons (pe_op op_mulW (pe_ix ix_tup (pv 0) pe_int (fun _ _ => rfl)) (pe_ix ix_tup (pv 1) pe_int (fun _ _ => rfl))) (pa_cons (pe_op op_mulW (pe_ix ix_tup (pv 1) pe_int (fun _ _ => rfl)) (pe_ix ix_tup (pv 0) pe_int (fun _ _ => rfl))) pa_nil)) (by rfl))
      (Evl.pss_cut (ps_if (pt_cmpR op_ne (pe_callB SkE.call_repr_int (by rfl) T.repr boot_repr (pa_cons (pe_call G5 hr4 (by rfl) A5.m k5 b5 .nil passL (pa_cons (pv 0) (pa_cons (pv 1) pa_nil))) pa_nil))
        (pe_callB SkE.call_repr_int (by rfl) T.repr boot_repr (pa_cons (pe_ix ix_list (pe_lst (pa_cons pe_int (pa_cons pe_int (pa_cons (pe_un un_neg pe_int) pa_nil)))) (pe_op op_sub (pe_callTy call_int1 (by rfl) T.int boot_int (pa_cons (pe_cmpR op_gt (pv 2) (pv 3) (nomark _)) pa_nil)) (pe_callTy call_int1 (by rfl) T.int boot_int (pa_cons (pe_cmpR op_lt (pv 2) (pv 3) (nomark _)) pa_nil))) (fun _ _ => rfl)) pa_nil)) (nomark _)) (pss_one (ps_ret pe_bl)) pss_nil)
      (pss_cons (ps_if (pt_cmpR op_eq (pe_ix ix_tup (pv 1) pe_int (fun _ _ => rfl)) pe_int (nomark _))
        (pss_one (ps_ret (pe_cmpR (op_eqD hr.units) (pe_callG G7 hg (hr.mono (by decide)) (by rfl) A7.m k7 b7 (pa_cons (pe_glob (v := .ref fV) (by rfl) A4.m rfl) (pa_cons (pv 0) (pa_cons (pv 1) pa_nil)))) (pe_lst (pa_cons pe_str (pa_cons pe_bl (pa_cons pe_bl pa_nil)))) (nomark _)))) pss_nil)
      (Evl.pss_cut (ps_set (i := 4) scPair.nd rfl (Or.inl rfl) (pe_ix ix_list (pe_lst (pa_cons pe_int (pa_cons (pe_un un_neg pe_int) pa_nil))) (pe_callTy call_int1 (by rfl) T.int boot_int (pa_cons (pe_cmpR op_lt (pe_ix ix_tup (pv 1) pe_int (fun _ _ => rfl)) pe_int (nomark _)) pa_nil)) (fun _ _ => rfl)))
      (pss_one (ps_ret (pe_and (pe_cmpR (op_eqD hr.units) (pe_call G4 hr4 (by rfl) A4.m k4 b4 .nil passL (pa_cons (pv 0) (pa_cons (pv 1) pa_nil)))
          (pe_call G6 hr1 (by rfl) A6.m k6 b6 .nil pass0 (pa_cons (pe_op op_mulW (pe_op op_mul (pv 4) (pe_ix ix_tup (pv 0) pe_int (fun _ _ => rfl))) (pe_ix ix_tup (pv 1) pe_int (fun _ _ => rfl))) (pa_cons (pe_op op_mulW (pe_ix ix_tup (pv 0) pe_int (fun _ _ => rfl)) (pe_callB call_abs (by rfl) T.abs boot_abs (pa_cons (pe_ix ix_tup (pv 1) pe_int (fun _ _ => rfl)) pa_nil))) pa_nil))) (nomark _))
        (pe_one (pe_cmpR (op_eqD hr.units) (pe_call G3 hr4 (by rfl) A3.m k3 b3 .nil passL (pa_cons (pe_call G4 hr4 (by rfl) A4.m k4 b4 .nil passL (pa_cons (pv 0) (pa_cons (pv 1) pa_nil))) (pa_cons (pv 1) pa_nil))) (pv 0) (nomark _)))))))))))), ?_⟩
    have s1 := t1.sm
    have s2 := t2.sm
    have s3 := t3.sm
    have s4 := t4.sm
    have dp : 0 < ad * bd := Int.mul_pos ra.pos rb.pos
    have u1 := ti_mul t1 t4
    have u2 := ti_mul t3 t2
    have u3 := ti_mul t2 t4
    have u4 := ti_mul t1 t3
    have u5 := ti_mul t2 t3
    let M : Option V → Option V → L2.St → Hp → Prop := fun l r σ H' => σ = [some (.ref p), some (.ref q), l, r, none] ∧ Same H H'
    refine ⟨M none none, ?_, ?_⟩
    · -- add
      refine ⟨_, rfl, _, rfl, _, _, rfl, .inr (.inr ⟨p, q, an, ad, bn, bd, rfl, rfl, hp, hq, ra, rb, s1, s2, s3, s4, fun r1 hr1 => ?_⟩)⟩
      have z1 := Same.upd (o := .tup [.int (lowN (an * bd + bn * ad) (ad * bd)), .int (lowD (an * bd + bn * ad) (ad * bd))]) hr1
      have hp1 := z1 _ _ hp
      have hq1 := z1 _ _ hq
      refine ⟨_, rfl, p, _, _, _, rfl, rfl, SqT.of hp1, rfl, _, rfl, q, _, _, _, rfl, rfl, SqT.of hq1, rfl, _, _, rfl, rfl, mw s1 s4, _, rfl, q, _, _, _, rfl, rfl, SqT.of hq1, rfl, _, rfl, p, _, _, _, rfl, rfl, SqT.of hp1, rfl, _, _, rfl, rfl, mw s3 s2, _, _, rfl, rfl,
        _, rfl, p, _, _, _, rfl, rfl, SqT.of hp1, rfl, _, rfl, q, _, _, _, rfl, rfl, SqT.of hq1, rfl, _, _, rfl, rfl, mw s2 s4, _, _, rfl, dp, big_of u3, fun r2 hr2 => ?_⟩
      have z2 := Same.upd (o := .tup [.int (lowN (an * bd + bn * ad) (ad * bd)), .int (lowD (an * bd + bn * ad) (ad * bd))]) hr2
      refine ⟨_, _, dp2 (z2 _ _ upd_same), dp2 upd_same, rfl, rfl, _, rfl, ?_⟩
      rw [ev2]
      exact iteF ⟨rfl, z1.trans z2⟩
    rintro σ H1 ⟨rfl, e1⟩
    replace hp := e1 _ _ hp
    replace hq := e1 _ _ hq
    refine ⟨M none none, ?_, ?_⟩
    · -- subtract
      refine ⟨_, rfl, _, rfl, _, _, rfl, .inr (.inr ⟨p, q, an, ad, bn, bd, rfl, rfl, hp, hq, ra, rb, s1, s2, s3, s4, fun r1 hr1 => ?_⟩)⟩
      have z1 := Same.upd (o := .tup [.int (lowN (an * bd - bn * ad) (ad * bd)), .int (lowD (an * bd - bn * ad) (ad * bd))]) hr1
      have hp1 := z1 _ _ hp
      have hq1 := z1 _ _ hq
      refine ⟨_, rfl, p, _, _, _, rfl, rfl, SqT.of hp1, rfl, _, rfl, q, _, _, _, rfl, rfl, SqT.of hq1, rfl, _, _, rfl, rfl, mw s1 s4, _, rfl, q, _, _, _, rfl, rfl, SqT.of hq1, rfl, _, rfl, p, _, _, _, rfl, rfl, SqT.of hp1, rfl, _, _, rfl, rfl, mw s3 s2, _, _, rfl, rfl,
        _, rfl, p, _, _, _, rfl, rfl, SqT.of hp1, rfl, _, rfl, q, _, _, _, rfl, rfl, SqT.of hq1, rfl, _, _, rfl, rfl, mw s2 s4, _, _, rfl, dp, big_of u3, fun r2 hr2 => ?_⟩
      have z2 := Same.upd (o := .tup [.int (lowN (an * bd - bn * ad) (ad * bd)), .int (lowD (an * bd - bn * ad) (ad * bd))]) hr2
      refine ⟨_, _, dp2 (z2 _ _ upd_same), dp2 upd_same, rfl, rfl, _, rfl, ?_⟩
      rw [ev2]
      refine iteF ?_
      have hp2 := z2 _ _ hp1
      have hq2 := z2 _ _ hq1
      refine ⟨_, rfl, _, rfl, _, _, rfl, .inr (.inr ⟨p, q, an, ad, bn, bd, rfl, rfl, hp2, hq2, ra, rb, s1, s2, s3, s4, fun r3 hr3 => ?_⟩)⟩
      have z3 := Same.upd (o := .tup [.int (lowN (an * bd + bn * ad) (ad * bd)), .int (lowD (an * bd + bn * ad) (ad * bd))]) hr3
      have le := low_le (n := an * bd + bn * ad) (d := ad * bd) (by omega)
      have r3t : Rt (lowN (an * bd + bn * ad) (ad * bd)) (lowD (an * bd + bn * ad) (ad * bd)) := low_rt dp
      have qp := r3t.pos
      refine ⟨_, rfl, _, _, rfl, .inr (.inr ⟨r3, q, _, _, bn, bd, rfl, rfl, upd_same, z3 _ _ hq2, r3t, rb, Nat.lt_of_le_of_lt le.1 (sm281 u1 u2).1, Nat.lt_of_le_of_lt le.2 (sm280 u3), s3, s4, fun r4 hr4 => ?_⟩)⟩
      have cr := low_cross (n := an * bd + bn * ad) dp
      have is := low_is (n := lowN (an * bd + bn * ad) (ad * bd) * bd - bn * lowD (an * bd + bn * ad) (ad * bd)) (d := lowD (an * bd + bn * ad) (ad * bd) * bd) (a := an) (b := ad) (Int.mul_pos qp rb.pos) ra (sub_add ra.pos rb.pos qp cr)
      rw [is.1, is.2]
      have z4 := Same.upd (o := .tup [.int an, .int ad]) hr4
      refine ⟨_, rfl, _, _, dp2 upd_same, dp2 (z4 _ _ (z3 _ _ hp2)), rfl, rfl, _, rfl, ?_⟩
      rw [ev2]
      exact iteF ⟨rfl, e1.trans (z1.trans (z2.trans (z3.trans z4)))⟩
    rintro σ H2 ⟨rfl, e2⟩
    replace hp := e2 _ _ (by exact hp0)
    replace hq := e2 _ _ (by exact hq0)
    clear e1 H1
    refine ⟨M none none, ?_, ?_⟩
    · -- multiply
      refine ⟨_, rfl, _, rfl, _, _, rfl, .inr (.inr ⟨p, q, an, ad, bn, bd, rfl, rfl, hp, hq, ra, rb, s1, s2, s3, s4, fun r1 hr1 => ?_⟩)⟩
      have z1 := Same.upd (o := .tup [.int (lowN (an * bn) (ad * bd)), .int (lowD (an * bn) (ad * bd))]) hr1
      have hp1 := z1 _ _ hp
      have hq1 := z1 _ _ hq
      refine ⟨_, rfl, p, _, _, _, rfl, rfl, SqT.of hp1, rfl, _, rfl, q, _, _, _, rfl, rfl, SqT.of hq1, rfl, _, _, rfl, rfl, mw s1 s3,
        _, rfl, p, _, _, _, rfl, rfl, SqT.of hp1, rfl, _, rfl, q, _, _, _, rfl, rfl, SqT.of hq1, rfl, _, _, rfl, rfl, mw s2 s4, _, _, rfl, dp, big_of u3, fun r2 hr2 => ?_⟩
      have z2 := Same.upd (o := .tup [.int (lowN (an * bn) (ad * bd)), .int (lowD (an * bn) (ad * bd))]) hr2
      refine ⟨_, _, dp2 (z2 _ _ upd_same), dp2 upd_same, rfl, rfl, _, rfl, ?_⟩
      rw [ev2]
      exact iteF ⟨rfl, e2.trans (z1.trans z2)⟩
    rintro σ H3 ⟨rfl, e3⟩
    replace hp := e3 _ _ hp0
    replace hq := e3 _ _ hq0
    clear e2 H2
    refine ⟨_, rfl, p, _, _, _, rfl, rfl, SqT.of hp, rfl, _, rfl, q, _, _, _, rfl, rfl, SqT.of hq, rfl, _, _, rfl, rfl, mw s1 s4, _, rfl, q, _, _, _, rfl, rfl, SqT.of hq, rfl, _, rfl, p, _, _, _, rfl, rfl, SqT.of hp, rfl, _, _, rfl, rfl, mw s3 s2, _, _, rfl, ?_⟩
    refine ⟨M (some (.int (an * bd))) (some (.int (bn * ad))), ?_, ?_⟩
    · -- compare
      refine ⟨_, rfl, _, rfl, _, _, rfl, .inr (.inr ⟨p, q, an, ad, bn, bd, rfl, rfl, hp, hq, ra, rb, s1, s2, s3, s4, ?_⟩)⟩
      have c3 : ∀ i : Int, i = -1 ∨ i = 0 ∨ i = 1 → i.natAbs.log2 < 1920 := by
        rintro i (rfl | rfl | rfl) <;> decide
      refine ⟨_, rfl, c3 _ (by split <;> (try split) <;> simp), ?_⟩
      refine ⟨_, rfl, by show 3 ≤ sizeLine; decide, fun r1 hr1 => ?_⟩
      have z1 := Same.upd (o := .lst [.int 0, .int 1, .int (-1)]) hr1
      refine ⟨_, rfl, _, rfl, _, _, rfl, rfl, .inr ⟨_, rfl, _, rfl, _, rfl, _, _, rfl, rfl, .inr ⟨_, rfl, _, _, rfl, rfl, r1, _, _, (.int (if an * bd < bn * ad then -1 else if bn * ad < an * bd then 1 else 0)), rfl, rfl, SqL.of upd_same, ?_, _, rfl, c3 _ (by split <;> (try split) <;> simp), rfl, _, rfl, ?_⟩⟩⟩
      · by_cases l1 : an * bd < bn * ad
        · have l2 : ¬ bn * ad < an * bd := by omega
          rw [if_pos l1, decide_eq_true l1, decide_eq_false l2]
          rfl
        · by_cases l2 : bn * ad < an * bd
          · rw [if_neg l1, if_pos l2, decide_eq_false l1, decide_eq_true l2]
            rfl
          · rw [if_neg l1, if_neg l2, decide_eq_false l1, decide_eq_false l2]
            rfl
      · rw [decide_eq_true rfl]
        exact iteF ⟨rfl, e3.trans z1⟩
    rintro σ H4 ⟨rfl, e4⟩
    replace hp := e4 _ _ hp0
    replace hq := e4 _ _ hq0
    clear e3 H3
    refine ⟨_, rfl, q, _, _, _, rfl, rfl, SqT.of hq, rfl, rfl, _, rfl, ?_⟩
    by_cases zb : bn = 0
    · subst zb
      rw [decide_eq_true rfl]
      refine iteT ⟨_, rfl, _, rfl, _, _, _, _, rfl, hV, .inr (.inr ⟨p, q, an, ad, bd, rfl, rfl, hp, hq, ra, rb, s1, s2, s4, rfl, fun r1 H5 e5 h5 => ?_⟩)⟩
      refine ⟨by show 3 ≤ sizeLine; decide, fun r2 hr2 => ?_⟩
      have z2 := Same.upd (o := .lst [.str "zero", .bl true, .bl false]) hr2
      refine ⟨_, _, .lst (SqL.of (z2 _ _ h5)) (.cons (.str _) (.cons (.bl _) (.cons (.bl _) .nil))), .lst (SqL.of upd_same) (.cons (.str _) (.cons (.bl _) (.cons (.bl _) .nil))), by decide +kernel, by decide +kernel, ?_⟩
      rw [show PyData.eqv (.list [.str "zero", .bool true, .bool false]) (.list [.str "zero", .bool true, .bool false]) = true by simp [PyData.eqv, PyData.eqvAll]]
      exact k _ (e4.trans (e5.trans z2))
    · rw [decide_eq_false (show ¬ V.int bn = V.int 0 from fun e => zb (by injection e))]
      refine iteF ?_
      refine ⟨fun σ H' => σ = [some (.ref p), some (.ref q), some (.int (an * bd)), some (.int (bn * ad)), some (.int (if bn < 0 then -1 else 1))] ∧ Same H H', ?_, ?_⟩
      · refine ⟨_, rfl, by show 2 ≤ sizeLine; decide, fun r1 hr1 => ?_⟩
        have z1 := Same.upd (o := .lst [.int 1, .int (-1)]) hr1
        refine ⟨_, rfl, q, _, _, _, rfl, rfl, SqT.of (z1 _ _ hq), rfl, _, _, rfl, rfl, .inr ⟨_, rfl, r1, _, _, (.int (if bn < 0 then -1 else 1)), rfl, rfl, SqL.of upd_same, ?_, rfl, e4.trans z1⟩⟩
        by_cases l : bn < 0
        · rw [if_pos l, decide_eq_true l]
          rfl
        · rw [if_neg l, decide_eq_false l]
          rfl
      rintro σ H5 ⟨rfl, e5⟩
      replace hp := e5 _ _ hp0
      replace hq := e5 _ _ hq0
      clear e4 H4
      have az := ra.pos
      let N : Int := if bn < 0 then -(an * bd) else an * bd
      let D : Int := if bn < 0 then -(ad * bn) else ad * bn
      have hD : 0 < D := by
        show 0 < (if bn < 0 then -(ad * bn) else ad * bn)
        split
        · have := Int.mul_neg_of_pos_of_neg az (by assumption : bn < 0)
          omega
        · exact Int.mul_pos az (by omega)
      have eN : (if bn < 0 then (-1 : Int) else 1) * an * bd = N := by
        show _ = (if bn < 0 then -(an * bd) else an * bd)
        split
        · rw [Int.neg_one_mul, Int.neg_mul]
        · rw [Int.one_mul]
      have eD : ad * (if bn < 0 then -bn else bn) = D := by
        show _ = (if bn < 0 then -(ad * bn) else ad * bn)
        split
        · rw [Int.mul_neg]
        · rfl
      have uN : N.natAbs < 2 ^ 280 := by
        show (if bn < 0 then -(an * bd) else an * bd).natAbs < 2 ^ 280
        split
        · rw [Int.natAbs_neg]
          exact u1
        · exact u1
      have uD : D.natAbs < 2 ^ 280 := by
        show (if bn < 0 then -(ad * bn) else ad * bn).natAbs < 2 ^ 280
        split
        · rw [Int.natAbs_neg]
          exact u5
        · exact u5
      have tb : Ti (if bn < 0 then -bn else bn) := by
        unfold Ti
        split
        · rw [Int.natAbs_neg]
          exact t3
        · exact t3
      have ts : Ti ((if bn < 0 then (-1 : Int) else 1) * an) := by
        unfold Ti
        rw [Int.natAbs_mul]
        split
        · rw [show (-1 : Int).natAbs = 1 from rfl, Nat.one_mul]
          exact t1
        · rw [show (1 : Int).natAbs = 1 from rfl, Nat.one_mul]
          exact t1
      refine ⟨_, rfl, _, rfl, _, _, rfl, .inr (.inr ⟨p, q, an, ad, bn, bd, rfl, rfl, hp, hq, ra, rb, s1, s2, s3, s4, fun z => absurd z zb, fun _ r1 hr1 => ?_⟩)⟩
      have z1 := Same.upd (o := .tup [.int (lowN N D), .int (lowD N D)]) hr1
      have hp1 := z1 _ _ hp
      have hq1 := z1 _ _ hq
      refine ⟨_, rfl, _, rfl, p, _, _, _, rfl, rfl, SqT.of hp1, rfl, _, _, rfl, rfl, .inl ⟨by split <;> decide, by split <;> decide⟩, _, rfl, q, _, _, _, rfl, rfl, SqT.of hq1, rfl, _, _, rfl, rfl, mw ts.sm s4,
        _, rfl, p, _, _, _, rfl, rfl, SqT.of hp1, rfl, _, rfl, q, _, _, _, rfl, rfl, SqT.of hq1, rfl, _, rfl, _, _, rfl, rfl, mw s2 tb.sm, _, _, rfl, by rw [eD]; exact hD, by rw [eD]; exact big_of uD, fun r2 hr2 => ?_⟩
      rw [eN, eD]
      have z2 := Same.upd (o := .tup [.int (lowN N D), .int (lowD N D)]) hr2
      refine ⟨_, _, dp2 (z2 _ _ upd_same), dp2 upd_same, rfl, rfl, _, rfl, ?_⟩
      rw [ev2]
      refine iteT ?_
      have hp2 := z2 _ _ hp1
      have hq2 := z2 _ _ hq1
      refine ⟨_, rfl, _, rfl, _, _, rfl, .inr (.inr ⟨p, q, an, ad, bn, bd, rfl, rfl, hp2, hq2, ra, rb, s1, s2, s3, s4, fun z => absurd z zb, fun _ r3 hr3 => ?_⟩)⟩
      have z3 := Same.upd (o := .tup [.int (lowN N D), .int (lowD N D)]) hr3
      have le := low_le (n := N) (d := D) (by omega)
      have r3t : Rt (lowN N D) (lowD N D) := low_rt hD
      have qp := r3t.pos
      refine ⟨_, rfl, _, _, rfl, .inr (.inr ⟨r3, q, _, _, bn, bd, rfl, rfl, upd_same, z3 _ _ hq2, r3t, rb, Nat.lt_of_le_of_lt le.1 (sm280 uN), Nat.lt_of_le_of_lt le.2 (sm280 uD), s3, s4, fun r4 hr4 => ?_⟩)⟩
      have cr : lowN N D * (ad * bn) = (an * bd) * lowD N D := by
        have c0 := low_cross (n := N) hD
        by_cases l : bn < 0
        · have e1 : N = -(an * bd) := if_pos l
          have e2 : D = -(ad * bn) := if_pos l
          have c1 : lowN N D * D = -(an * bd) * lowD N D := by rw [c0, e1]
          have c2 : lowN N D * D = -(lowN N D * (ad * bn)) := by rw [← Int.mul_neg, ← e2]
          rw [c2, Int.neg_mul] at c1
          omega
        · have e1 : N = an * bd := if_neg l
          have e2 : D = ad * bn := if_neg l
          have c1 : lowN N D * D = (an * bd) * lowD N D := by rw [c0, e1]
          have c2 : lowN N D * D = lowN N D * (ad * bn) := by rw [← e2]
          rw [c2] at c1
          exact c1
      have is := low_is (n := lowN N D * bn) (d := lowD N D * bd) (a := an) (b := ad) (Int.mul_pos qp rb.pos) ra (mul_div cr zb)
      rw [is.1, is.2]
      have z4 := Same.upd (o := .tup [.int an, .int ad]) hr4
      refine ⟨_, rfl, _, _, dp2 upd_same, dp2 (z4 _ _ (z3 _ _ hp2)), rfl, rfl, ?_⟩
      rw [ev2]
      exact k _ (e5.trans (z1.trans (z2.trans (z3.trans z4))))
theorem scKinds : FnScope ["_law_number", "_law_part"] ["_law_number"] (defScope sKinds) := ⟨rfl, rfl, rfl, by decide +kernel, rfl, by decide +kernel, by decide +kernel⟩
theorem ok_kinds (F : Fun K "_law_kinds_right" "_law_kinds_right" sKinds f fd) (T : Bt mg) : FnOk P w K mg base CX0 1 f fd ["_law_number"] spKinds := by
  refine F.ok scKinds (fun vs H Q E h => ?_) (fun cdv A outer s H vs Q E hr h => ?_)
  · obtain ⟨p, n, d, rfl, _⟩ := h
    rfl
  · obtain ⟨p, n, d, rfl, hp, k⟩ := h
    refine ⟨_, pss_one (ps_ret (pe_and (pe_callB call_isi (by rfl) T.isi boot_isinstance (pa_cons (pv 0) (pa_cons (pe_bltn (v := .ty "tuple") (by rfl) T.tuple boot_tuple rfl) pa_nil)))
      (pe_one (pe_cmpR (op_eqD hr.units) (pe_lc (own := [("_law_part", 1)]) (g := gName 1) (tt := tB (tCB (rIsi K) (tCons (tVar 1) (tCons (tC (.ty "bool")) tNil)))) (te := tVar 1) (by rfl) scKinds.nd (pi_tup (pv 0)) (blkOk_by (own := [("_law_part", 1)]) (N := ["_law_number", "_law_part"]) (sc := defScope sKinds) (by decide +kernel)) (fun _ _ _ _ _ => pg_name (i := 1) scKinds.nd rfl (Or.inl rfl))
        (fun _ _ _ _ _ => pts_one (pt_val (pe_callB call_isi (by rfl) T.isi boot_isinstance (pa_cons (pv 1) (pa_cons (pe_bltn (v := .ty "bool") (by rfl) T.bool boot_bool rfl) pa_nil))))) (fun _ _ _ _ _ => pv 1)) (pe_lst pa_nil) (nomark _))))), ?_⟩
    refine ⟨_, rfl, .ref p, .ty "tuple", _, _, _, rfl, .ty "tuple", (TyN.tup hp).x, kit_tuple (by decide), _, rfl, iteT ?_⟩
    refine ⟨_, rfl, p, rfl, ⟨_, SqT.of hp⟩, fun D hD => ?_⟩
    have z1 := Same.upd (o := .lst []) hD
    refine lc_tup (xs := [.int n, .int d]) (fun i H' => H' = upd H D (.lst [])) rfl (fun i H' _ e => by rw [e]; exact SqT.of (z1 _ _ hp)) ?_ ?_
    · rintro i x H' hi rfl
      refine ⟨rfl, ?_⟩
      have hx : ∃ j, x = .int j := by
        match i, hi with
        | 0, hi => exact ⟨n, (Option.some.inj hi).symm⟩
        | 1, hi => exact ⟨d, (Option.some.inj hi).symm⟩
      obtain ⟨j, rfl⟩ := hx
      exact ⟨_, rfl, _, .ty "bool", _, _, _, rfl, .ty "bool", (TyN.int (H := upd H D (.lst [])) j).x, kit_bool (t := "int") (by decide), _, rfl, iteF rfl⟩
    · rintro H' rfl
      refine ⟨Nat.zero_le _, fun r hr => ?_⟩
      have z2 := Same.upd (o := .lst []) hr
      refine ⟨_, _, .lst (SqL.of (z2 _ _ upd_same)) .nil, .lst (SqL.of upd_same) .nil, rfl, rfl, ?_⟩
      exact k _ (z1.trans z2)
end
end K01
set_option Elab.async false
set_option linter.all false
set_option maxRecDepth 100000
set_option maxHeartbeats 4000000
namespace K01
open PySem PySem.Spec PyProof.Rows L2 Lc
abbrev sLaw : Stmt := top 22
/-- v is none of the rationals, whatever is done to the tape at t; its repr is z -/
def OddS (K : PySem.W.Frag) (t : Addr) (H : Hp) (v : V) : Prop := ∃ z : Str, PyData.strOk z = true ∧ ∀ H', SameB t H H' → Rk H' v false ∧ Shw K H' v z
theorem odd_flat {K : PySem.W.Frag} {t : Addr} {H : Hp} {v : V} {s : String} {d : PyData} (h : ∀ H', TyN H' v s) (n : s ≠ "tuple") (g : ∀ H', Dp K H' v d) (h1 : d.showable = true) (h2 : d.hasDict = false) (h3 : d.depth ≤ 60) (h4 : d.shown.length ≤ sizeLine) (h5 : PyData.strOk d.shown = true) : OddS K t H v :=
  ⟨_, h5, fun H' _ => ⟨.other (h H') n, .data (g H') h1 h2 h3 h4⟩⟩
theorem odd_pair {K : PySem.W.Frag} {t a : Addr} {H : Hp} {x y : V} {s u : String} {d e : PyData} (hn : a ≠ t) (ha : H a = some (.tup [x, y])) (hx : ∀ H', TyN H' x s) (hy : ∀ H', TyN H' y u) (r : ratB x y = false) (gx : ∀ H', Dp K H' x d) (gy : ∀ H', Dp K H' y e)
    (h1 : (PyData.tuple [d, e]).showable = true) (h2 : (PyData.tuple [d, e]).hasDict = false) (h3 : (PyData.tuple [d, e]).depth ≤ 60) (h4 : (PyData.tuple [d, e]).shown.length ≤ sizeLine) (h5 : PyData.strOk (PyData.tuple [d, e]).shown = true) : OddS K t H (.ref a) :=
  ⟨_, h5, fun H' s' => ⟨by rw [← r]; exact .pair (s' _ _ hn ha) (hx H') (hy H'), .data (.tup (SqT.of (s' _ _ hn ha)) (.cons (gx H') (.cons (gy H') .nil))) h1 h2 h3 h4⟩⟩
def spLaw (K : PySem.W.Frag) : Sp := fun vs H Q _ => ∃ (a : Addr) (ns : List Int), vs = [.ref a] ∧ SqL K H a (ns.map V.int) ∧ ∀ H', Q (.bl true) H'
inductive Five (fA fS fM fV fP Z : Addr) : Addr → OkF → Prop
  | a : Five fA fS fM fV fP Z fA okAdd
  | s : Five fA fS fM fV fP Z fS okSub
  | m : Five fA fS fM fV fP Z fM okMul
  | v : Five fA fS fM fV fP Z fV (okDiv Z)
  | p : Five fA fS fM fV fP Z fP okCmp
theorem five_at {fA fS fM fV fP Z : Addr} {i : Nat} {x : V} (h : ([.ref fA, .ref fS, .ref fM, .ref fV, .ref fP] : List V)[i]? = some x) : ∃ g ok, x = .ref g ∧ Five fA fS fM fV fP Z g ok := by
  match i, h with
  | 0, h => exact ⟨_, _, (Option.some.inj h).symm, .a⟩
  | 1, h => exact ⟨_, _, (Option.some.inj h).symm, .s⟩
  | 2, h => exact ⟨_, _, (Option.some.inj h).symm, .m⟩
  | 3, h => exact ⟨_, _, (Option.some.inj h).symm, .v⟩
  | 4, h => exact ⟨_, _, (Option.some.inj h).symm, .p⟩
  | n + 5, h => simp at h
section
variable {P : Program} {w : World} {K : PySem.W.Frag} {mg : Str → Option Value} {base : Heap} {f C fI Z fA fS fM fV fP fT fD fQ fR fX fY : Addr} {fd : FuncData}
theorem scLaw : FnScope ["_law_script", "_law_tape_here", "_law_turn", "_law_a", "_law_b", "_law_odd", "_law_bad", "_law_call"] ["_law_script"] (defScope sLaw) := ⟨rfl, rfl, rfl, by decide +kernel, rfl, by decide +kernel, by decide +kernel⟩
theorem ok_law (F : Fun K "law" "law" sLaw f fd) (T : Bt mg) (A1 : FnB P w K mg base C "add" fA okAdd) (A2 : FnB P w K mg base C "subtract" fS okSub) (A3 : FnB P w K mg base C "multiply" fM okMul) (A4 : FnB P w K mg base C "divide" fV (okDiv Z))
    (A5 : FnB P w K mg base C "compare" fP okCmp) (A7 : FnM P w K mg base 5 "_law_refused" fR ["_law_call", "_law_a", "_law_b"] (spRef K Z (Five fA fS fM fV fP Z)))
    (B1 : FnL P w K mg base 1 "_law_tape" fT ["_law_script"] (spTape K)) (B2 : FnL P w K mg base 1 "_law_draw" fD ["_law_tape_here", "_law_many"] spDraw) (B3 : FnL P w K mg base 2 "_law_rational" fQ ["_law_tape_here", "_law_wide"] spRational)
    (B4 : FnM P w K mg base 6 "_law_pair_right" fX ["_law_a", "_law_b"] spPair) (B5 : FnL P w K mg base 1 "_law_kinds_right" fY ["_law_number"] spKinds) : FnG P w K mg base 7 f fd ["_law_script"] (spLaw K) := by
  refine Lc.Fun.okG F scLaw (fun vs H Q E h => ?_) (fun cdv A outer s H vs Q E hg hr h => ?_)
  · obtain ⟨a, ns, rfl, _⟩ := h
    rfl
  · obtain ⟨a0, ns, rfl, hS, k⟩ := h
    obtain ⟨fd1, G1, k1, b1⟩ := A1.g
    obtain ⟨fd7, G7, k7, b7⟩ := A7.g
    obtain ⟨fe1, J1, q1, c1⟩ := B1.g
    obtain ⟨fe2, J2, q2, c2⟩ := B2.g
    obtain ⟨fe3, J3, q3, c3⟩ := B3.g
    obtain ⟨fe4, J4, q4, c4⟩ := B4.g
    obtain ⟨fe5, J5, q5, c5⟩ := B5.g
    have hr1 : Room 1 _ := hr.mono (by decide)
    have hr2 : Room 2 _ := hr.mono (by decide)
    have hr4 : Room 4 _ := hr.mono (by decide)
    have hr5 : Room 5 _ := hr.mono (by decide)
    refine ⟨_, pss_cons (ps_set (i := 1) scLaw.nd rfl (Or.inl rfl) (pe_call J1 hr1 (by rfl) B1.m q1 c1 .nil pass0 (pa_cons (pv 0) pa_nil)))
      (pss_cons (ps_for PassesOwn.never rfl (pi_range1 (by rfl) T.range (pa_cons pe_int pa_nil)) (pg_name (i := 2) scLaw.nd rfl (Or.inl rfl))
        (pss_cons (ps_par (i := 3) (j := 4) (by rfl) scLaw.nd rfl rfl (by decide) rfl rfl (pa_cons (pe_call J3 hr2 (by rfl) B3.m q3 c3 .nil pass0 (pa_cons (pv 1) (pa_cons pe_bl pa_nil))) (pa_cons (pe_call J3 hr2 (by rfl) B3.m q3 c3 .nil pass0 (pa_cons (pv 1) (pa_cons pe_bl pa_nil))) pa_nil)) (by rfl))
        (Evl.pss_cut (ps_if (PW.pt (pw_or (pt_not (pt_val (pe_callG J4 hg hr (by rfl) B4.m q4 c4 (pa_cons (pv 3) (pa_cons (pv 4) pa_nil))))) (pw_or (pt_not (pt_val (pe_callG J4 hg hr (by rfl) B4.m q4 c4 (pa_cons (pv 3) (pa_cons (pv 3) pa_nil)))))
          (pw_or1 (pt_not (pt_val (pe_callG J4 hg hr (by rfl) B4.m q4 c4 (pa_cons (pe_tup (pa_cons pe_int (pa_cons pe_int pa_nil))) (pa_cons (pv 4) pa_nil))))))))) (pss_one (ps_ret pe_bl)) pss_nil)
        (Evl.pss_cut (ps_if (PW.pt (pw_or (pt_not (pt_val (pe_callG J4 hg hr (by rfl) B4.m q4 c4 (pa_cons (pv 4) (pa_cons (pe_tup (pa_cons pe_int (pa_cons pe_int pa_nil))) pa_nil)))))
          (pw_or1 (pt_not (pt_val (pe_call J5 hr1 (by rfl) B5.m q5 c5 .nil pass0 (pa_cons (pe_call G1 hr4 (by rfl) A1.m k1 b1 .nil passL (pa_cons (pv 3) (pa_cons (pv 4) pa_nil))) pa_nil))))))) (pss_one (ps_ret pe_bl)) pss_nil)
        (Evl.pss_cut (ps_set (i := 5) scLaw.nd rfl (Or.inl rfl) (pe_lst (pa_cons pe_non (pa_cons pe_int (pa_cons pe_bl (pa_cons (pe_tup (pa_cons pe_int (pa_cons pe_int pa_nil))) (pa_cons (pe_tup (pa_cons pe_int (pa_cons pe_int pa_nil))) (pa_cons (pe_tup (pa_cons pe_int (pa_cons (pe_un un_neg pe_int) pa_nil)))
          (pa_cons (pe_tup (pa_cons pe_bl (pa_cons pe_int pa_nil))) (pa_cons (pe_tup (pa_cons pe_int (pa_cons pe_bl pa_nil))) (pa_cons (pe_lst (pa_cons pe_int (pa_cons pe_int pa_nil))) (pa_cons (pe_tup (pa_cons pe_int pa_nil)) pa_nil))))))))))))
        (Evl.pss_cut (ps_set (i := 5) scLaw.nd rfl (Or.inl rfl) (pe_op op_cat (pv 5) (pe_lst (pa_cons (pe_tup (pa_cons pe_int (pa_cons pe_int (pa_cons pe_int pa_nil)))) (pa_cons pe_str (pa_cons (pe_tup (pa_cons pe_int (pa_cons pe_int pa_nil))) (pa_cons pe_dnewK pa_nil)))))))
        (Evl.pss_cut (ps_set (i := 6) scLaw.nd rfl (Or.inl rfl) (pe_ix ix_list (pv 5) (pe_call J2 hr1 (by rfl) B2.m q2 c2 .nil pass0 (pa_cons (pv 1) (pa_cons pe_int pa_nil))) (fun _ _ => rfl)))
        (pss_one (ps_for PassesOwn.never rfl (pi_list (pe_lst (pa_cons (pe_glob (v := .ref fA) (by rfl) A1.m rfl) (pa_cons (pe_glob (v := .ref fS) (by rfl) A2.m rfl) (pa_cons (pe_glob (v := .ref fM) (by rfl) A3.m rfl) (pa_cons (pe_glob (v := .ref fV) (by rfl) A4.m rfl) (pa_cons (pe_glob (v := .ref fP) (by rfl) A5.m rfl) pa_nil)))))))
            (pg_name (i := 7) scLaw.nd rfl (Or.inl rfl))
          (Evl.pss_cut (ps_if (pt_cmpR (op_neD hr.units) (pe_callG G7 hg hr5 (by rfl) A7.m k7 b7 (pa_cons (pv 7) (pa_cons (pv 6) (pa_cons pe_non pa_nil)))) (pe_lst (pa_cons pe_str (pa_cons (pe_callB (call_reprV hg hr.units) (by rfl) T.repr boot_repr (pa_cons (pv 6) pa_nil)) (pa_cons pe_bl pa_nil)))) (nomark _)) (pss_one (ps_ret pe_bl)) pss_nil)
          (pss_one (ps_if (pt_cmpR (op_neD hr.units) (pe_callG G7 hg hr5 (by rfl) A7.m k7 b7 (pa_cons (pv 7) (pa_cons (pv 3) (pa_cons (pv 6) pa_nil)))) (pe_lst (pa_cons pe_str (pa_cons (pe_callB (call_reprV hg hr.units) (by rfl) T.repr boot_repr (pa_cons (pv 6) pa_nil)) (pa_cons pe_bl pa_nil)))) (nomark _)) (pss_one (ps_ret pe_bl)) pss_nil))))))))))))
      (pss_one (ps_ret pe_bl))), ?_⟩
    refine ⟨_, rfl, a0, ns, rfl, hS, fun t H0 e0 ht hT0 => ?_⟩
    refine ⟨12, rfl, by decide, by decide, for_range (n := 12) (fun i σ H' => (∃ v2 v3 v4 v5 v6 v7 : Option V, σ = [some (.ref a0), some (.ref t), v2, v3, v4, v5, v6, v7]) ∧ Tape H' t) ⟨⟨_, _, _, _, _, _, rfl⟩, hT0⟩ ?_ (fun σ H' _ => k H')⟩
    rintro i σ H1 hi ⟨⟨v2, v3, v4, v5, v6, v7, rfl⟩, T1⟩
    refine ⟨_, rfl, t, true, rfl, T1, fun pa an ad H2 ra t1 t2 hp _ T2 S2 => ⟨_, rfl, t, true, rfl, T2, fun pb bn bd H3 rb t3 t4 hq _ T3 S3 => ⟨_, _, rfl, ?_⟩⟩⟩
    replace hp := S3 _ _ (T2.neT hp) hp
    have na : pa ≠ t := T3.neT hp
    have nb : pb ≠ t := T3.neT hq
    have r01 : Rt 0 1 := rt_one 0
    have ti0 : Ti 0 := by unfold Ti; decide
    have ti1 : Ti 1 := by unfold Ti; decide
    -- what holds between the statements of a turn
    let M : Option V → Option V → L2.St → Hp → Prop := fun o5 o6 σ H' => (∃ v7 : Option V, σ = [some (.ref a0), some (.ref t), some (.int (0 + (i : Int))), some (.ref pa), some (.ref pb), o5, o6, v7]) ∧ Tape H' t ∧ H' pa = some (.tup [.int an, .int ad]) ∧ H' pb = some (.tup [.int bn, .int bd])
    refine ⟨M v5 v6, ?_, ?_⟩
    · refine ⟨_, rfl, _, rfl, pa, pb, an, ad, bn, bd, rfl, hp, hq, ra, rb, t1, t2, t3, t4, fun H4 e4 => ⟨_, rfl, iteF ?_⟩⟩
      refine ⟨_, rfl, _, rfl, pa, pa, an, ad, an, ad, rfl, e4 _ _ hp, e4 _ _ hp, ra, ra, t1, t2, t1, t2, fun H5 e5 => ⟨_, rfl, iteF ?_⟩⟩
      refine ⟨by show 2 ≤ sizeLine; decide, fun r hr => ?_⟩
      have z := Same.upd (o := .tup [.int 0, .int 1]) hr
      have e45 := e4.trans (e5.trans z)
      refine ⟨_, rfl, r, pb, 0, 1, bn, bd, rfl, upd_same, e45 _ _ hq, r01, rb, ti0, ti1, t3, t4, fun H6 e6 => ⟨_, rfl, iteF ?_⟩⟩
      have ee := e45.trans e6
      exact ⟨⟨_, rfl⟩, T3.same ee, ee _ _ hp, ee _ _ hq⟩
    clear T1 T2 S2 S3 hp hq T3
    rintro σ H4 ⟨⟨w7, rfl⟩, T4, hp, hq⟩
    refine ⟨M v5 v6, ?_, ?_⟩
    · refine ⟨_, rfl, by show 2 ≤ sizeLine; decide, fun r hr => ?_⟩
      have z := Same.upd (o := .tup [.int 0, .int 1]) hr
      refine ⟨pb, r, bn, bd, 0, 1, rfl, z _ _ hq, upd_same, rb, r01, t3, t4, ti0, ti1, fun H5 e5 => ⟨_, rfl, iteF ?_⟩⟩
      have e1 := z.trans e5
      refine ⟨_, rfl, _, rfl, _, _, rfl, .inr (.inr ⟨pa, pb, an, ad, bn, bd, rfl, rfl, e1 _ _ hp, e1 _ _ hq, ra, rb, Ti.sm t1, Ti.sm t2, Ti.sm t3, Ti.sm t4, fun r1 hr1 => ?_⟩)⟩
      have z1 := Same.upd (o := .tup [.int (lowN (an * bd + bn * ad) (ad * bd)), .int (lowD (an * bd + bn * ad) (ad * bd))]) hr1
      refine ⟨r1, _, _, rfl, upd_same, fun H6 e6 => ⟨_, rfl, iteF ?_⟩⟩
      have ee := e1.trans (z1.trans e6)
      exact ⟨⟨_, rfl⟩, T4.same ee, ee _ _ hp, ee _ _ hq⟩
    clear T4 hp hq w7
    rintro σ H5 ⟨⟨w7, rfl⟩, T5, hp, hq⟩
    refine ⟨fun σ H' => ∃ L : Addr, M (some (.ref L)) v6 σ H' ∧ L ≠ t ∧ ∃ vs : List V, H' L = some (.lst vs) ∧ vs.length = 10 ∧ ∀ v ∈ vs, OddS K t H' v, ?_, ?_⟩
    · have two : 2 ≤ sizeLine := by decide
      refine ⟨two, fun c1 h1 => ⟨two, fun c2 h2 => ⟨_, rfl, two, fun c3 h3 => ⟨two, fun c4 h4 => ⟨two, fun c5 h5 => ⟨two, fun c6 h6 => ⟨by show 1 ≤ sizeLine; decide, fun c7 h7 => ⟨by show 10 ≤ sizeLine; decide, fun L hL => ?_⟩⟩⟩⟩⟩⟩⟩⟩
      have y1 := Same.upd (o := .tup [.int 1, .int 0]) h1
      have y2 := Same.upd (o := .tup [.int 2, .int 4]) h2
      have y3 := Same.upd (o := .tup [.int 1, .int (-1)]) h3
      have y4 := Same.upd (o := .tup [.bl true, .int 1]) h4
      have y5 := Same.upd (o := .tup [.int 1, .bl true]) h5
      have y6 := Same.upd (o := .lst [.int 1, .int 1]) h6
      have y7 := Same.upd (o := .tup [.int 1]) h7
      have y8 := Same.upd (o := .lst [.non, .int 5, .bl true, .ref c1, .ref c2, .ref c3, .ref c4, .ref c5, .ref c6, .ref c7]) hL
      have x7 := y7.trans y8
      have x6 := y6.trans x7
      have x5 := y5.trans x6
      have x4 := y4.trans x5
      have x3 := y3.trans x4
      have x2 := y2.trans x3
      have x1 := y1.trans x2
      have n1 := T5.ne h1
      have n2 := (T5.same y1).ne h2
      have n3 := (T5.same (y1.trans y2)).ne h3
      have n4 := (T5.same (y1.trans (y2.trans y3))).ne h4
      have n5 := (T5.same (y1.trans (y2.trans (y3.trans y4)))).ne h5
      have n6 := (T5.same (y1.trans (y2.trans (y3.trans (y4.trans y5))))).ne h6
      have n7 := (T5.same (y1.trans (y2.trans (y3.trans (y4.trans (y5.trans y6)))))).ne h7
      have n8 := (T5.same (y1.trans (y2.trans (y3.trans (y4.trans (y5.trans (y6.trans y7))))))).ne hL
      refine ⟨L, ⟨⟨_, rfl⟩, T5.same x1, x1 _ _ hp, x1 _ _ hq⟩, n8, _, upd_same, rfl, ?_⟩
      intro v hv
      simp only [List.mem_cons, List.not_mem_nil, or_false] at hv
      rcases hv with rfl | rfl | rfl | rfl | rfl | rfl | rfl | rfl | rfl | rfl
      · exact odd_flat (d := .none) (fun _ => .non) (by decide) (fun _ => .non) rfl rfl (by decide +kernel) (by decide +kernel) (by decide +kernel)
      · exact odd_flat (d := .int 5) (fun _ => .int 5) (by decide) (fun _ => .int 5) (by decide +kernel) rfl (by decide +kernel) (by decide +kernel) (by decide +kernel)
      · exact odd_flat (d := .bool true) (fun _ => .bl true) (by decide) (fun _ => .bl true) rfl rfl (by decide +kernel) (by decide +kernel) (by decide +kernel)
      · exact odd_pair n1 (x2 _ _ upd_same) (fun _ => .int 1) (fun _ => .int 0) (by decide +kernel) (fun _ => .int 1) (fun _ => .int 0) (by decide +kernel) (by decide +kernel) (by decide +kernel) (by decide +kernel) (by decide +kernel)
      · exact odd_pair n2 (x3 _ _ upd_same) (fun _ => .int 2) (fun _ => .int 4) (by decide +kernel) (fun _ => .int 2) (fun _ => .int 4) (by decide +kernel) (by decide +kernel) (by decide +kernel) (by decide +kernel) (by decide +kernel)
      · exact odd_pair n3 (x4 _ _ upd_same) (fun _ => .int 1) (fun _ => .int (-1)) (by decide +kernel) (fun _ => .int 1) (fun _ => .int (-1)) (by decide +kernel) (by decide +kernel) (by decide +kernel) (by decide +kernel) (by decide +kernel)
      · exact odd_pair n4 (x5 _ _ upd_same) (fun _ => .bl true) (fun _ => .int 1) (by decide +kernel) (fun _ => .bl true) (fun _ => .int 1) (by decide +kernel) (by decide +kernel) (by decide +kernel) (by decide +kernel) (by decide +kernel)
      · exact odd_pair n5 (x6 _ _ upd_same) (fun _ => .int 1) (fun _ => .bl true) (by decide +kernel) (fun _ => .int 1) (fun _ => .bl true) (by decide +kernel) (by decide +kernel) (by decide +kernel) (by decide +kernel) (by decide +kernel)
      · have e6 := x7 _ _ (upd_same (a := c6) (o := .lst [.int 1, .int 1]))
        exact ⟨(PyData.list [.int 1, .int 1]).shown, by decide +kernel, fun H' s' => ⟨.other (.lst (s' _ _ n6 e6)) (by decide), .data (.lst (SqL.of (s' _ _ n6 e6)) (.cons (.int 1) (.cons (.int 1) .nil))) (by decide +kernel) (by decide +kernel) (by decide +kernel) (by decide +kernel)⟩⟩
      · have e7 := y8 _ _ (upd_same (a := c7) (o := .tup [.int 1]))
        exact ⟨(PyData.tuple [.int 1]).shown, by decide +kernel, fun H' s' => ⟨.len (s' _ _ n7 e7) (by decide), .data (.tup (SqT.of (s' _ _ n7 e7)) (.cons (.int 1) .nil)) (by decide +kernel) (by decide +kernel) (by decide +kernel) (by decide +kernel)⟩⟩
    clear T5 hp hq w7
    rintro σ H6 ⟨L, ⟨⟨w7, rfl⟩, T6, hp, hq⟩, nL, vs, hL, ll, od⟩
    refine ⟨fun σ H' => ∃ L : Addr, M (some (.ref L)) v6 σ H' ∧ L ≠ t ∧ ∃ vs : List V, H' L = some (.lst vs) ∧ vs.length = 14 ∧ ∀ v ∈ vs, OddS K t H' v, ?_, ?_⟩
    · refine ⟨_, rfl, by show 3 ≤ sizeLine; decide, fun c1 h1 => ⟨by show 2 ≤ sizeLine; decide, fun c2 h2 c3 h3 => ⟨by show 4 ≤ sizeLine; decide, fun L2 hL2 => ?_⟩⟩⟩
      have y1 := Same.upd (o := .tup [.int 1, .int 1, .int 1]) h1
      have y2 := Same.upd (o := .tup [.int 0, .int 2]) h2
      have y3 := Same.upd (o := .dK []) h3
      have y4 := Same.upd (o := .lst [.ref c1, .str "1", .ref c2, .ref c3]) hL2
      have x4 := y3.trans y4
      have x3 := y2.trans x4
      have x2 := y1.trans x3
      refine ⟨L, L2, vs, _, rfl, rfl, x2 _ _ hL, upd_same, by rw [ll]; show 10 + 4 ≤ sizeLine; decide, fun L3 hL3 => ?_⟩
      have y5 := Same.upd (o := .lst (vs ++ [.ref c1, .str "1", .ref c2, .ref c3])) hL3
      have x1 := x2.trans y5
      have n1 := T6.ne h1
      have n2 := (T6.same y1).ne h2
      have n3 := (T6.same (y1.trans y2)).ne h3
      have n5 := (T6.same x2).ne hL3
      refine ⟨L3, ⟨⟨_, rfl⟩, T6.same x1, x1 _ _ hp, x1 _ _ hq⟩, n5, _, upd_same, by rw [List.length_append, ll]; rfl, ?_⟩
      intro v hv
      rcases List.mem_append.mp hv with hv | hv
      · obtain ⟨z, z1, z2⟩ := od v hv
        exact ⟨z, z1, fun H' s' => z2 H' ((Same.b t x1).trans s')⟩
      · simp only [List.mem_cons, List.not_mem_nil, or_false] at hv
        rcases hv with rfl | rfl | rfl | rfl
        · have e1 := (x3.trans y5) _ _ (upd_same (a := c1) (o := .tup [.int 1, .int 1, .int 1]))
          exact ⟨(PyData.tuple [.int 1, .int 1, .int 1]).shown, by decide +kernel, fun H' s' => ⟨.len (s' _ _ n1 e1) (by decide), .data (.tup (SqT.of (s' _ _ n1 e1)) (.cons (.int 1) (.cons (.int 1) (.cons (.int 1) .nil)))) (by decide +kernel) (by decide +kernel) (by decide +kernel) (by decide +kernel)⟩⟩
        · exact odd_flat (d := .str "1") (fun _ => .str "1") (by decide) (fun _ => .str "1") rfl rfl (by decide +kernel) (by decide +kernel) (by decide +kernel)
        · exact odd_pair n2 ((x4.trans y5) _ _ upd_same) (fun _ => .int 0) (fun _ => .int 2) (by decide +kernel) (fun _ => .int 0) (fun _ => .int 2) (by decide +kernel) (by decide +kernel) (by decide +kernel) (by decide +kernel) (by decide +kernel)
        · have e3 := (y4.trans y5) _ _ (upd_same (a := c3) (o := .dK []))
          exact ⟨_, by decide +kernel, fun H' s' => ⟨.other (.dct (s' _ _ n3 e3)) (by decide), .empty (s' _ _ n3 e3)⟩⟩
    clear T6 hp hq w7 hL nL ll od vs L
    rintro σ H7 ⟨L, ⟨⟨w7, rfl⟩, T7, hp, hq⟩, nL, vs, hL, ll, od⟩
    refine ⟨fun σ H' => ∃ (v : V) (z : Str), M (some (.ref L)) (some v) σ H' ∧ Rk H' v false ∧ Shw K H' v z ∧ PyData.strOk z = true, ?_, ?_⟩
    · refine ⟨_, rfl, _, rfl, t, _, rfl, T7, by decide, Nat.lt_of_lt_of_le (by decide : (14 : Int).natAbs < 2 ^ 10) (Nat.pow_le_pow_right (by decide) (by decide)), fun k1 H8 u1 u2 T8 S8 => ?_⟩
      have hk : k1.toNat < vs.length := by omega
      obtain ⟨z, z1, z2⟩ := od _ (List.getElem_mem hk)
      obtain ⟨z3, z4⟩ := z2 H8 S8
      refine ⟨L, vs, _, vs[k1.toNat], rfl, rfl, SqL.of (S8 _ _ nL hL), at_of (j := k1.toNat) (by omega) (List.getElem?_eq_getElem hk), ?_⟩
      exact ⟨_, z, ⟨⟨_, rfl⟩, T8, S8 _ _ na hp, S8 _ _ nb hq⟩, z3, z4, z1⟩
    clear T7 hp hq w7 hL nL ll od vs
    rintro σ H8 ⟨v, z, ⟨⟨w7, rfl⟩, T8, hp, hq⟩, hk, hz, zo⟩
    refine ⟨by show 5 ≤ sizeLine; decide, fun l hl => ⟨l, rfl, ⟨_, SqL.of upd_same⟩, ?_⟩⟩
    have zl := Same.upd (o := .lst [.ref fA, .ref fS, .ref fM, .ref fV, .ref fP]) hl
    refine for_list (K := K) (a := l) (xs := [.ref fA, .ref fS, .ref fM, .ref fV, .ref fP]) (fun j σ H' => (∃ w7 : Option V, σ = [some (.ref a0), some (.ref t), some (.int (0 + (i : Int))), some (.ref pa), some (.ref pb), some (.ref L), some v, w7]) ∧ Same (upd H8 l (.lst [.ref fA, .ref fS, .ref fM, .ref fV, .ref fP])) H')
      ⟨⟨_, rfl⟩, Same.refl _⟩ (fun j σ H' _ ⟨_, e⟩ => SqL.of (e _ _ upd_same)) ?_ ?_
    · rintro j x σ H9 hj ⟨⟨x7, rfl⟩, e9⟩
      obtain ⟨g, ok, rfl, five⟩ := five_at (Z := Z) hj
      have e8 := zl.trans e9
      have dpl : ∀ (H : Hp) (r : Addr), H r = some (.lst [.str "number", .str z, .bl true]) → Dp K H (.ref r) (.list [.str "number", .str z, .bool true]) := fun H r h => .lst (SqL.of h) (.cons (.str _) (.cons (.str _) (.cons (.bl _) .nil)))
      have shp : SeqAt.shaped (.list [.str "number", .str z, .bool true]) = true := by
        have s0 : PyData.strOk (PySem.Str.ofString "number") = true := by decide +kernel
        show (PyData.canLay0 (.list [.str "number", .str z, .bool true]) && decide ((PyData.list [.str "number", .str z, .bool true]).depth ≤ 64)) = true
        simp [PyData.canLay0, PyData.canLayAll0, PyData.depth, PyData.depthAll, zo, s0]
      have eqv : PyData.eqv (.list [.str "number", .str z, .bool true]) (.list [.str "number", .str z, .bool true]) = true := by simp [PyData.eqv, PyData.eqvAll]
      refine ⟨fun σ H' => σ = [some (.ref a0), some (.ref t), some (.int (0 + (i : Int))), some (.ref pa), some (.ref pb), some (.ref L), some v, some (.ref g)] ∧ Same H9 H', ?_, ?_⟩
      · refine ⟨_, rfl, _, rfl, g, ok, v, .non, rfl, five, .inl ⟨z, hk.same e8, hz.same e8, fun r H10 e10 h10 => ?_⟩⟩
        refine ⟨_, rfl, v, z, rfl, hz.same (e8.trans e10), by show 3 ≤ sizeLine; decide, fun r2 hr2 => ?_⟩
        have y := Same.upd (o := .lst [.str "number", .str z, .bl true]) hr2
        refine ⟨_, _, dpl _ _ (y _ _ h10), dpl _ _ upd_same, shp, shp, _, rfl, ?_⟩
        rw [eqv]
        exact iteF ⟨rfl, e10.trans y⟩
      · rintro σ H10 ⟨rfl, e10⟩
        have e8' := e8.trans e10
        refine ⟨_, rfl, _, rfl, _, rfl, g, ok, .ref pa, v, rfl, five, .inr (.inl ⟨z, .of (e8' _ _ hp) ra, hk.same e8', hz.same e8', fun r H11 e11 h11 => ?_⟩)⟩
        refine ⟨_, rfl, v, z, rfl, hz.same (e8'.trans e11), by show 3 ≤ sizeLine; decide, fun r2 hr2 => ?_⟩
        have y := Same.upd (o := .lst [.str "number", .str z, .bl true]) hr2
        refine ⟨_, _, dpl _ _ (y _ _ h11), dpl _ _ upd_same, shp, shp, _, rfl, ?_⟩
        rw [eqv]
        exact iteF ⟨⟨_, rfl⟩, (e9.trans e10).trans (e11.trans y)⟩
    · rintro σ H9 ⟨⟨x7, rfl⟩, e9⟩
      exact ⟨⟨_, _, _, _, _, _, rfl⟩, T8.same (zl.trans e9)⟩
end
end K01
set_option Elab.async false
set_option linter.all false
set_option maxRecDepth 100000
set_option maxHeartbeats 4000000
namespace Lc
open PySem PySem.Spec PyProof.Rows L2 He
/-! ## The head's facts, with one more Bool -/
abbrev AlE : Type := AlD × Bool
def obsE (n : Nat) (fa : List Fa) (fn : List DefD) (ex : PySem.W.Frag → Bool) (g : Addr → Option Obj) : AlE := (obsD fa fn (frG g (asD g n)), ex (frG g (asD g n)))
def hookE (n : Nat) (fa : List Fa) (fn : List DefD) (ex : PySem.W.Frag → Bool) : PySem.W.Hook where
  α := AlE
  obs := fun s => obsE n fa fn ex s.heap.get?
  val := fun _ => (valD fn, true)
  says := fun _ h => ∃ K : PySem.W.Frag, K.In h ∧ SaysD fa fn K ∧ ex K = true
  of := fun _ _ e => ⟨_, frG_in, congrArg (fun z : AlE => z.1) e, congrArg (fun z : AlE => z.2) e⟩
  keeps := fun _ _ _ ⟨K, hK, c⟩ k => ⟨K, PySem.W.Frag.In.keeps hK k, c⟩
theorem obsE_eq {n : Nat} {fa : List Fa} {fn : List DefD} {ex : PySem.W.Frag → Bool} {g : Addr → Option Obj} {s : Shared} (h : ∀ a, g a = s.heap.get? a) : obsE n fa fn ex g = (hookE n fa fn ex).obs s := by
  have e : g = s.heap.get? := funext h
  rw [e] <;> rfl
/-! ## What is asked of the error classes -/
def optB (a b : Option Bool) : Bool := decide (a = b)
def optV (a b : Option Value) : Bool := decide (a = b)
def oexB (K : PySem.W.Frag) (C : Addr) : Bool := (match K.lookup C with
  | some ⟨.type "type", _, .cls cd, sl⟩ => (match cd.mro, sl.toList with
    | .ref C' :: bm, [_, _, _, _, some (.builtin n), _] => C' == C && n == "ValueError.__new__" && !cd.hasDel && cd.hasDict && PySem.HandSPX.refsVE bm
    | _, _ => false)
  | _ => false) && (eqO (PySem.W.findIn K (.ref C) "__setattr__") (some (some (.builtin "object.__setattr__"))) && (optB (PySem.W.subIn K (.ref C) (.type "BaseException")) (some true) && (optV (PySem.W.typeIn K (.ref C)) (some (.type "type")) && PySem.W.keepIn K (.ref C))))
theorem oexB_ok {K : PySem.W.Frag} {C : Addr} (h : oexB K C = true) : OexC K C := by
  obtain ⟨q, h⟩ := ba h
  obtain ⟨h1, h⟩ := ba h
  obtain ⟨h2, h⟩ := ba h
  obtain ⟨h3, h4⟩ := ba h
  refine ⟨?_, eqO_ok h1, of_decide_eq_true h2, of_decide_eq_true h3, h4⟩
  split at q
  · rename_i dd cd sl ho
    split at q
    · rename_i C' bm k0 k1 k2 k3 n k5 hm hs
      simp only [Bool.and_eq_true, beq_iff_eq, Bool.not_eq_true'] at q
      obtain ⟨⟨⟨⟨rfl, rfl⟩, hdel⟩, hdi⟩, ht⟩ := q
      obtain ⟨nm, bs, mro, ns, qn, hd, sn, sub, ab, col, del⟩ := cd
      dsimp only at hm hdel hdi
      subst hm hdel hdi
      have hsl : sl = #[k0, k1, k2, k3, some (.builtin "ValueError.__new__"), k5] := by
        obtain ⟨l⟩ := sl
        simp only at hs
        rw [hs]
      subst hsl
      exact ⟨nm, qn, ns, bs, bm, sn, sub, ab, col, dd, k0, k1, k2, k3, k5, ho, ht⟩
    · cases q
  · cases q
def xisB (K : PySem.W.Frag) (C : Addr) : Bool := (PySem.W.clsIn K C).isSome && (eqO (PySem.W.findIn K (.ref C) "__getattribute__") (some (some (.builtin "BaseException.__getattribute__"))) && (eqO (PySem.W.findIn K (.ref C) "__getattr__") (some none) &&
  (optB (PySem.W.subIn K (.ref C) (.type "BaseException")) (some true) && (eqO (PySem.W.findIn K (.ref C) "__class__") (some (some (.builtin "object.__class__"))) && (eqO (PySem.W.specialIn K (.builtin "object.__class__") "__get__") (some (some (.builtin "getset_descriptor.__get__"))) &&
  (optB (PySem.W.takesIn K (.builtin "object.__class__")) (some true) && optB (PySem.W.mroIn K C (.type "object")) (some true)))))))
theorem xisB_ok {K : PySem.W.Frag} {C : Addr} (h : xisB K C = true) : XisC K C := by
  obtain ⟨h1, h⟩ := ba h
  obtain ⟨h2, h⟩ := ba h
  obtain ⟨h3, h⟩ := ba h
  obtain ⟨h4, h⟩ := ba h
  obtain ⟨h5, h⟩ := ba h
  obtain ⟨h6, h⟩ := ba h
  obtain ⟨h7, h8⟩ := ba h
  exact ⟨h1, eqO_ok h2, eqO_ok h3, of_decide_eq_true h4, eqO_ok h5, eqO_ok h6, of_decide_eq_true h7, of_decide_eq_true h8⟩
/-- a def without defaults -/
theorem fun_of {K : PySem.W.Frag} {x qual : Str} {st : Stmt} {f : Addr} {fd : FuncData} (F : FunD K x qual (defArgs st) (defBody st) (defScope st) [] [] f fd) : Fun K x qual st f fd := by
  obtain ⟨oc, od, dV, kV, doc, pm, an, cdv, ct, osl, rfl, lk, hcd, hD, hK⟩ := F.ex
  rcases hD with ⟨_, rfl⟩ | ⟨e, _⟩
  · exact ⟨⟨oc, od, kV, doc, pm, an, cdv, ct, osl, rfl, lk, hcd⟩, F.kp⟩
  · exact absurd rfl e
/-! ## The end of a law whose defs are promised where no repr is under way -/
theorem walk_GE {l : PySem.W.OpenLaw} {n k : Nat} {q : Program} {loose : List Str} {XP : (Str → Option Value) → Heap → Prop} {YP : World → Heap → Prop} {d : DefRec} {x : Str}
    (hn : l.most = some n) (hn2 : n ≤ sizeLine) (hdf : d.params.defaults = []) (hr : Room k callerA)
    (F : ∀ (w : World) (mg : Str → Option Value) (fa : Addr) (h : Heap), YP w h → h.Ns mainGlobals mg → mg d.name = some (.ref fa) →
      ∃ (K : PySem.W.Frag) (fd : FuncData) (sp : Sp), K.In h ∧ (∀ (s : Shared) (u : Value), BindsTo s fd ⟨[u], []⟩ [(x, u)]) ∧
        (∀ (H : Hp) (a : Addr) (ns : List Int), ns.length ≤ n → SqL K H a (ns.map V.int) → sp [.ref a] H (fun v _ => v = .bl true) fun _ _ _ => False) ∧
        ∀ base : Heap, K.In base → base.Ns mainGlobals mg → FnG l.prog w K mg base k fa fd [x] sp) :
    PySem.W.WalkO q loose XP YP l.row.toRowW d [] (fun f vs => PySem.call f vs) := by
  refine Att.attach_call hn hdf fun w _ s mg mb fa _ _ _ _ a vs ns G Y _ _ _ hmg hobj hints hlen hg => ?_
  obtain ⟨K, fd, sp, KX, hb, hsp, hF⟩ := F w mg fa _ Y G.T.g hmg
  exact law_callG KX G.T.g G.T.b G.T.builtins G.T.nolimit hg hobj hints (Nat.le_trans hlen hn2) hr hF hb fun H hS => hsp H a ns hlen hS
end Lc
namespace Lc
theorem all_at {l : List Bool} (h : l.all id = true) (i : Nat) {b : Bool} (e : l[i]? = some b := by rfl) : b = true := List.all_eq_true.mp h b (List.mem_of_getElem? e)
end Lc
set_option Elab.async false
set_option linter.all false
set_option maxRecDepth 100000
set_option maxHeartbeats 8000000
namespace K01
open PySem PySem.Spec PyProof.Rows L2 Lc He
/-! ## the head -/
def dOf (x : Str) (st : Stmt) : DefD := ⟨(x, none), x, x, defArgs st, defBody st, defScope st, [], []⟩
def dInit : DefD := ⟨("BadNumber", some "__init__"), "__init__", "BadNumber.__init__", defArgs sInit, defBody sInit, defScope sInit, [], []⟩
def fn : List DefD := [dInit, dOf "is_whole" sWhole, dOf "common_divisor" sCd, dOf "is_rational" sIsR, dOf "check_rational" sChk, dOf "lowest_terms" sLow, dOf "add" sAdd, dOf "subtract" sSub, dOf "multiply" sMul, dOf "divide" sDiv, dOf "compare" sCmp,
  dOf "_law_tape" sTape, dOf "_law_draw" sDraw, dOf "_law_lowest" sLst, dOf "_law_rational" sRat, dOf "_law_refused" sRef, dOf "_law_pair_right" sPair, dOf "_law_kinds_right" sKinds, dOf "law" sLaw]
def gl : List Str := ["BadNumber", "DivisionByZero", "is_whole", "common_divisor", "is_rational", "check_rational", "lowest_terms", "add", "subtract", "multiply", "divide", "compare", "_law_tape", "_law_draw", "_law_lowest", "_law_rational", "_law_refused", "_law_pair_right", "_law_kinds_right"]
def fr : List Str := ["isinstance", "int", "bool", "tuple", "list", "len", "abs", "repr", "range", "ValueError", "ZeroDivisionError"]
def fa : List Fa := (.glo "law") :: gl.map Fa.glo ++ fr.map Fa.free
def exL (K : PySem.W.Frag) : List Bool := [
  oexB K (ga K "BadNumber"),
  eqO (PySem.W.findIn K (.ref (ga K "BadNumber")) "__init__") (some (some (.ref (ma K (ga K "BadNumber") "__init__")))),
  optV (PySem.W.typeIn K (.ref (ma K (ga K "BadNumber") "__init__"))) (some (.type "function")),
  eqO (PySem.W.findIn K (.ref (ga K "BadNumber")) "given") (some none),
  PySem.W.excIn K (ga K "DivisionByZero") [.type "ZeroDivisionError", .type "ArithmeticError", .type "Exception", .type "BaseException", .type "object"] "ZeroDivisionError.__new__",
  PySem.W.keepIn K (.ref (ga K "DivisionByZero")),
  optB (PySem.W.subIn K (.ref (ga K "DivisionByZero")) (.type "BaseException")) (some true),
  optV (PySem.W.typeIn K (.ref (ga K "DivisionByZero"))) (some (.type "type")),
  xfB K (ga K "BadNumber"), xisB K (ga K "BadNumber"), xisB K (ga K "DivisionByZero"),
  optB (PySem.W.exmOne K (.ref (ga K "BadNumber")) (.ref (ga K "BadNumber"))) (some true),
  optB (PySem.W.exmOne K (.ref (ga K "DivisionByZero")) (.ref (ga K "BadNumber"))) (some false),
  optB (PySem.W.exmOne K (.ref (ga K "DivisionByZero")) (.ref (ga K "DivisionByZero"))) (some true),
  optB (PySem.W.kitOne K (.ref (ga K "BadNumber")) (.type "ValueError")) (some true),
  optB (PySem.W.kitOne K (.ref (ga K "DivisionByZero")) (.type "ValueError")) (some false),
  optB (PySem.W.kitOne K (.ref (ga K "DivisionByZero")) (.type "ZeroDivisionError")) (some true)]
def ex (K : PySem.W.Frag) : Bool := (exL K).all id
abbrev R : PySem.W.OpenRow := PySem.W.OpenLaw.row PySem.Challenge.rw_liveclaims_k01_exact_arithmetic
abbrev hk : PySem.W.Hook := hookE 5 fa fn ex
def ob (s : PySem.W.SharedT) : AlE := obsE 5 fa fn ex (HandSHeadRun.getT s)
theorem ob_eq (s : PySem.W.SharedT) : ob s = hk.obs s.abs := obsE_eq (HandSHeadRun.getT_eq s)
theorem run (w : World) : HandSHeadRun.RunEq R (PySem.W.view R.prog [22]) hk ob 4000 gl w := by
  intro os
  kernel_rfl
theorem facts {P : Program} {w : World} {K : PySem.W.Frag} {h : Heap} {mg : Str → Option Value} {f : Addr} (X : K.In h) (G : h.Ns mainGlobals mg) (hfa : mg ("law" : Str) = some (.ref f)) (c : SaysD fa fn K) (e : ex K = true) :
    ∃ fd : FuncData, (∀ (s : Shared) (v : Value), BindsTo s fd ⟨[v], []⟩ [("_law_script", v)]) ∧ ∀ base : Heap, K.In base → base.Ns mainGlobals mg → FnG P w K mg base 7 f fd ["_law_script"] (spLaw K) := by
  obtain ⟨fdI, DI⟩ := c.def_ 0 (d := dInit) rfl
  obtain ⟨fd1, D1⟩ := c.def_ 1 (d := dOf "is_whole" sWhole) rfl
  obtain ⟨fd2, D2⟩ := c.def_ 2 (d := dOf "common_divisor" sCd) rfl
  obtain ⟨fd3, D3⟩ := c.def_ 3 (d := dOf "is_rational" sIsR) rfl
  obtain ⟨fd4, D4⟩ := c.def_ 4 (d := dOf "check_rational" sChk) rfl
  obtain ⟨fd5, D5⟩ := c.def_ 5 (d := dOf "lowest_terms" sLow) rfl
  obtain ⟨fd6, D6⟩ := c.def_ 6 (d := dOf "add" sAdd) rfl
  obtain ⟨fd7, D7⟩ := c.def_ 7 (d := dOf "subtract" sSub) rfl
  obtain ⟨fd8, D8⟩ := c.def_ 8 (d := dOf "multiply" sMul) rfl
  obtain ⟨fd9, D9⟩ := c.def_ 9 (d := dOf "divide" sDiv) rfl
  obtain ⟨fd10, D10⟩ := c.def_ 10 (d := dOf "compare" sCmp) rfl
  obtain ⟨fd11, D11⟩ := c.def_ 11 (d := dOf "_law_tape" sTape) rfl
  obtain ⟨fd12, D12⟩ := c.def_ 12 (d := dOf "_law_draw" sDraw) rfl
  obtain ⟨fd13, D13⟩ := c.def_ 13 (d := dOf "_law_lowest" sLst) rfl
  obtain ⟨fd14, D14⟩ := c.def_ 14 (d := dOf "_law_rational" sRat) rfl
  obtain ⟨fd15, D15⟩ := c.def_ 15 (d := dOf "_law_refused" sRef) rfl
  obtain ⟨fd16, D16⟩ := c.def_ 16 (d := dOf "_law_pair_right" sPair) rfl
  obtain ⟨fd17, D17⟩ := c.def_ 17 (d := dOf "_law_kinds_right" sKinds) rfl
  obtain ⟨fd18, D18⟩ := c.def_ 18 (d := dOf "law" sLaw) rfl
  have ef := hfa.symm.trans (glo_ok X G (c.fact 0 (f := .glo "law") rfl))
  cases ef
  have g : ∀ (i : Nat) (x : Str), fa[i]? = some (.glo x) → mg x = some (.ref (ga K x)) := fun i x z => glo_ok X G (c.fact i (f := .glo x) z)
  have z : ∀ (i : Nat) (x : Str), fa[i]? = some (.free x) → mg x = none := fun i x z => free_ok X G (c.fact i (f := .free x) z)
  have T : Bt mg := ⟨z 20 _ rfl, z 21 _ rfl, z 22 _ rfl, z 23 _ rfl, z 24 _ rfl, z 25 _ rfl, z 26 _ rfl, z 27 _ rfl, z 28 _ rfl, z 29 _ rfl, z 30 _ rfl⟩
  have a : ∀ (i : Nat) {b : Bool}, (exL K)[i]? = some b → b = true := fun i _ z => all_at e i z
  have Re : Er K mg (ga K "BadNumber") (ma K (ga K "BadNumber") "__init__") (ga K "DivisionByZero") := ⟨oexB_ok (a 0 rfl), eqO_ok (a 1 rfl), of_decide_eq_true (a 2 rfl), eqO_ok (a 3 rfl), g 1 _ rfl, g 2 _ rfl, a 4 rfl, a 5 rfl, of_decide_eq_true (a 6 rfl), of_decide_eq_true (a 7 rfl)⟩
  have Xe : Ex K (ga K "BadNumber") (ga K "DivisionByZero") := ⟨xfB_ok (a 8 rfl), xisB_ok (a 9 rfl), xisB_ok (a 10 rfl), of_decide_eq_true (a 11 rfl), of_decide_eq_true (a 12 rfl), of_decide_eq_true (a 13 rfl), of_decide_eq_true (a 14 rfl), of_decide_eq_true (a 15 rfl), of_decide_eq_true (a 16 rfl)⟩
  have bI : Binds K fdI ["self", "given"] [] := DI.bindsN fun _ _ _ _ _ _ us hl => match us, hl with | [_, _], _ => rfl
  have b1 : Binds K fd1 ["value"] [] := D1.bindsN fun _ _ _ _ _ _ us hl => match us, hl with | [_], _ => rfl
  have b2 : Binds K fd2 ["a", "b"] [] := D2.bindsN fun _ _ _ _ _ _ us hl => match us, hl with | [_, _], _ => rfl
  have b3 : Binds K fd3 ["value"] [] := D3.bindsN fun _ _ _ _ _ _ us hl => match us, hl with | [_], _ => rfl
  have b4 : Binds K fd4 ["value"] [] := D4.bindsN fun _ _ _ _ _ _ us hl => match us, hl with | [_], _ => rfl
  have b5 : Binds K fd5 ["n", "d"] [] := D5.bindsN fun _ _ _ _ _ _ us hl => match us, hl with | [_, _], _ => rfl
  have b6 : Binds K fd6 ["a", "b"] [] := D6.bindsN fun _ _ _ _ _ _ us hl => match us, hl with | [_, _], _ => rfl
  have b7 : Binds K fd7 ["a", "b"] [] := D7.bindsN fun _ _ _ _ _ _ us hl => match us, hl with | [_, _], _ => rfl
  have b8 : Binds K fd8 ["a", "b"] [] := D8.bindsN fun _ _ _ _ _ _ us hl => match us, hl with | [_, _], _ => rfl
  have b9 : Binds K fd9 ["a", "b"] [] := D9.bindsN fun _ _ _ _ _ _ us hl => match us, hl with | [_, _], _ => rfl
  have b10 : Binds K fd10 ["a", "b"] [] := D10.bindsN fun _ _ _ _ _ _ us hl => match us, hl with | [_, _], _ => rfl
  have b11 : Binds K fd11 ["_law_script"] [] := D11.bindsN fun _ _ _ _ _ _ us hl => match us, hl with | [_], _ => rfl
  have b12 : Binds K fd12 ["_law_tape_here", "_law_many"] [] := D12.bindsN fun _ _ _ _ _ _ us hl => match us, hl with | [_, _], _ => rfl
  have b13 : Binds K fd13 ["_law_n", "_law_d"] [] := D13.bindsN fun _ _ _ _ _ _ us hl => match us, hl with | [_, _], _ => rfl
  have b14 : Binds K fd14 ["_law_tape_here", "_law_wide"] [] := D14.bindsN fun _ _ _ _ _ _ us hl => match us, hl with | [_, _], _ => rfl
  have b15 : Binds K fd15 ["_law_call", "_law_a", "_law_b"] [] := D15.bindsN fun _ _ _ _ _ _ us hl => match us, hl with | [_, _, _], _ => rfl
  have b16 : Binds K fd16 ["_law_a", "_law_b"] [] := D16.bindsN fun _ _ _ _ _ _ us hl => match us, hl with | [_, _], _ => rfl
  have b17 : Binds K fd17 ["_law_number"] [] := D17.bindsN fun _ _ _ _ _ _ us hl => match us, hl with | [_], _ => rfl
  have bl := FunD.bindsA (ps := ["_law_script"]) D18 fun _ _ _ _ _ _ us hl => match us, hl with | [_], _ => rfl
  refine ⟨fd18, fun s v => bl s [v] rfl, fun base _ _ => ?_⟩
  have GI : FnOk P w K mg base CX0 1 _ fdI ["self", "given"] (spInit (ga K "BadNumber")) := ok_init (fun_of DI) Re
  have G1 : FnOk P w K mg base CX0 1 _ fd1 ["value"] spWhole := ok_whole (fun_of D1) T
  have G2 : FnOk P w K mg base CX0 1 _ fd2 ["a", "b"] spCd := ok_cd (fun_of D2)
  have G3 : FnOk P w K mg base CX0 2 _ fd3 ["value"] spIsR := ok_isr (fun_of D3) T G1 (g 3 _ rfl) D1.kp b1 G2 (g 4 _ rfl) D2.kp b2
  have G4 : FnOk P w K mg base (L2.CX P w) 3 _ fd4 ["value"] (spChk (ga K "BadNumber")) := ok_chk (fun_of D4) Re GI bI G3 (g 5 _ rfl) D3.kp b3
  have G5 : FnOk P w K mg base CX0 2 _ fd5 ["n", "d"] spLow := ok_low (fun_of D5) T G2 (g 4 _ rfl) D2.kp b2
  have Ra : Ar P w K mg base (ga K "BadNumber") _ _ fd4 fd5 := ⟨G4, g 6 _ rfl, D4.kp, b4, G5, g 7 _ rfl, D5.kp, b5⟩
  have A1 : FnB P w K mg base (ga K "BadNumber") "add" (ga K "add") okAdd := ⟨⟨fd6, ok_add (fun_of D6) Ra, D6.kp, b6⟩, g 8 _ rfl⟩
  have A2 : FnB P w K mg base (ga K "BadNumber") "subtract" (ga K "subtract") okSub := ⟨⟨fd7, ok_sub (fun_of D7) Ra, D7.kp, b7⟩, g 9 _ rfl⟩
  have A3 : FnB P w K mg base (ga K "BadNumber") "multiply" (ga K "multiply") okMul := ⟨⟨fd8, ok_mul (fun_of D8) Ra, D8.kp, b8⟩, g 10 _ rfl⟩
  have A4 : FnB P w K mg base (ga K "BadNumber") "divide" (ga K "divide") (okDiv (ga K "DivisionByZero")) := ⟨⟨fd9, ok_div (fun_of D9) Ra Re, D9.kp, b9⟩, g 11 _ rfl⟩
  have A5 : FnB P w K mg base (ga K "BadNumber") "compare" (ga K "compare") okCmp := ⟨⟨fd10, ok_cmp (fun_of D10) Ra, D10.kp, b10⟩, g 12 _ rfl⟩
  have B1 : FnL P w K mg base 1 "_law_tape" (ga K "_law_tape") ["_law_script"] (spTape K) := ⟨⟨fd11, ok_tape (fun_of D11) T, D11.kp, b11⟩, g 13 _ rfl⟩
  have G12 : FnOk P w K mg base CX0 1 _ fd12 ["_law_tape_here", "_law_many"] spDraw := ok_draw (fun_of D12) T
  have G13 : FnOk P w K mg base CX0 1 _ fd13 ["_law_n", "_law_d"] spLowest := ok_lst (fun_of D13) T
  have B2 : FnL P w K mg base 1 "_law_draw" (ga K "_law_draw") ["_law_tape_here", "_law_many"] spDraw := ⟨⟨fd12, G12, D12.kp, b12⟩, g 14 _ rfl⟩
  have A6 : FnL P w K mg base 1 "_law_lowest" (ga K "_law_lowest") ["_law_n", "_law_d"] spLowest := ⟨⟨fd13, G13, D13.kp, b13⟩, g 15 _ rfl⟩
  have B3 : FnL P w K mg base 2 "_law_rational" (ga K "_law_rational") ["_law_tape_here", "_law_wide"] spRational := ⟨⟨fd14, ok_rat (fun_of D14) T G12 (g 14 _ rfl) D12.kp b12 G13 (g 15 _ rfl) D13.kp b13, D14.kp, b14⟩, g 16 _ rfl⟩
  have A7 : FnM P w K mg base 5 "_law_refused" (ga K "_law_refused") ["_law_call", "_law_a", "_law_b"] (spRef K (ga K "DivisionByZero") (Five (ga K "add") (ga K "subtract") (ga K "multiply") (ga K "divide") (ga K "compare") (ga K "DivisionByZero"))) := by
    refine ⟨⟨fd15, ok_ref (fun_of D15) T Re Xe ?_, D15.kp, b15⟩, g 17 _ rfl⟩
    intro f ok h
    cases h with
    | a => exact A1.g
    | s => exact A2.g
    | m => exact A3.g
    | v => exact A4.g
    | p => exact A5.g
  have B4 : FnM P w K mg base 6 "_law_pair_right" (ga K "_law_pair_right") ["_law_a", "_law_b"] spPair := ⟨⟨fd16, ok_pair (fun_of D16) T A1 A2 A3 A4 A5 A6 A7 .v, D16.kp, b16⟩, g 18 _ rfl⟩
  have B5 : FnL P w K mg base 1 "_law_kinds_right" (ga K "_law_kinds_right") ["_law_number"] spKinds := ⟨⟨fd17, ok_kinds (fun_of D17) T, D17.kp, b17⟩, g 19 _ rfl⟩
  exact ok_law (fun_of D18) T A1 A2 A3 A4 A5 A7 B1 B2 B3 B4 B5
end K01
open PySem PySem.W PySem.Calls PyProof.Rows
theorem PySem.Challenge.cw_liveclaims_k01_exact_arithmetic_holds : PySem.Challenge.rw_liveclaims_k01_exact_arithmetic.Holds := by
  w_on; o_law
  refine HandSHeadRun.head_any (r := OpenLaw.row PySem.Challenge.rw_liveclaims_k01_exact_arithmetic) (q := view (OpenLaw.row PySem.Challenge.rw_liveclaims_k01_exact_arithmetic).prog [22]) (H := K01.hk) (ob := K01.ob) (M := 4000) (loose := K01.gl) (d := HandSHeadRun.topDef (OpenLaw.row PySem.Challenge.rw_liveclaims_k01_exact_arithmetic).prog 22) (kwd := []) K01.ob_eq
    (by kernel_rfl) (fun s => by kernel_rfl) K01.run (by kernel_rfl) (by kernel_rfl) (by kernel_rfl) (by rfl) (by first | assumption | decide +kernel) (by decide +kernel) ⟨rfl, rfl, rfl, rfl, rfl, by decide +kernel⟩ ?hw ?hc
  case hw => w_witness2
  case hc =>
    refine Lc.walk_GE (l := PySem.Challenge.rw_liveclaims_k01_exact_arithmetic) (n := 63) (k := 7) (x := "_law_script") rfl (by decide) (by kernel_rfl) ⟨rfl, by decide, by decide⟩ ?F
    intro w mg fa h Y G hmg0
    obtain ⟨K, KX, c, e⟩ := Y
    have hmg : mg ("law" : PySem.Str) = some (.ref fa) := by
      have e : (HandSHeadRun.topDef (OpenLaw.row PySem.Challenge.rw_liveclaims_k01_exact_arithmetic).prog 22).name = ("law" : PySem.Str) := by kernel_rfl
      rw [← e]
      exact hmg0
    obtain ⟨fd, hb, hF⟩ := K01.facts (P := (PySem.Challenge.rw_liveclaims_k01_exact_arithmetic).prog) (w := w) KX G hmg c e
    exact ⟨K, fd, K01.spLaw K, KX, hb, fun H a ns hl hS => ⟨a, ns, rfl, hS, fun _ => rfl⟩, hF⟩
