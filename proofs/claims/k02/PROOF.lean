import PyProof.Rows.All
import Wide.All
import OpenK.AllK
import Wide.FinOn
import HandS.ForMost
import HandS.ForExc
import HandS.Wide
import HandS.Flow
import HandS.IsInst
import HandS.ExcInit
import HandS.ExcField
import HandS.ExcIs
import HandS.TryMany
import HandS.CallLocal
import HandS.RaiseMore
import HandS.CallSlots
import KE.KExcIs
import PyProof.ReprRoads
import PyProof.ReprText
import HandS.Evl
import HandS.Walk
import HandS.Style
import PyProof.StrBlock2
import PyProof.StrLawsRepr
import PyProof.ReprLen
import KE.KIntText
import PyProof.StrLawsTight
import PyProof.StrLawsChain
import HandS.StrMore
import HandS.Replace
import HandS.Defaults
import HandS.MakeKwOnly
import HandS.Head0
import HandS.Head1
import HandS.Head2
import HandS.HeadHook1
import HandS.HeadHook2
import KE.KStateDown
import PySem.Challenge.RW_liveclaims_k02_rounding_and_decimals
set_option maxRecDepth 100000
set_option maxHeartbeats 4000000
set_option linter.all false
namespace Lc
/-! ## Greatest common divisors and lowest terms -/
def gd (a b : Int) : Int := (Int.gcd a b : Int)
theorem gd_nonneg (a b : Int) : 0 ≤ gd a b := Int.natCast_nonneg _
theorem gd_pos {a b : Int} (h : b ≠ 0) : 0 < gd a b := by
  have : 0 < Int.gcd a b := Int.gcd_pos_of_ne_zero_right a h
  unfold gd
  omega
theorem gd_zero {a : Int} (h : 0 ≤ a) : gd a 0 = a := by
  unfold gd
  rw [Int.gcd_zero_right]
  omega
theorem gd_step {a b : Int} (ha : 0 ≤ a) (hb : 0 < b) : gd b (a % b) = gd a b := by
  unfold gd Int.gcd
  have e1 : (a % b).natAbs = a.natAbs % b.natAbs := by
    have h0 : 0 ≤ a % b := Int.emod_nonneg a (by omega)
    have : ((a % b).natAbs : Int) = ((a.natAbs % b.natAbs : Nat) : Int) := by
      rw [Int.natCast_emod, Int.natAbs_of_nonneg h0, Int.natAbs_of_nonneg ha, Int.natAbs_of_nonneg (by omega : 0 ≤ b)]
    exact Int.ofNat.inj this
  rw [e1, Nat.gcd_comm b.natAbs, ← Nat.gcd_rec, Nat.gcd_comm]
theorem gd_abs (a b : Int) : gd (if a < 0 then -a else a) b = gd a b := by
  unfold gd
  split
  · rw [Int.neg_gcd]
  · rfl
theorem gd_abs2 (a b : Int) : gd a (if b < 0 then -b else b) = gd a b := by
  unfold gd
  split
  · rw [Int.gcd_neg]
  · rfl
theorem gd_dvd1 (a b : Int) : gd a b ∣ a := Int.gcd_dvd_left a b
theorem gd_dvd2 (a b : Int) : gd a b ∣ b := Int.gcd_dvd_right a b
theorem gd_natAbs_le {a b : Int} (h : b ≠ 0) : (gd a b).natAbs ≤ b.natAbs := by
  have h1 : Int.gcd a b ≤ b.natAbs := Nat.le_of_dvd (by omega) (Int.gcd_dvd_natAbs_right a b)
  unfold gd
  rw [Int.natAbs_natCast]
  exact h1
def lowN (n d : Int) : Int := n / gd n d
def lowD (n d : Int) : Int := d / gd n d
structure Rt (n d : Int) : Prop where
  pos : 0 < d
  cop : gd n d = 1
theorem low_mul {n d : Int} (h : d ≠ 0) : lowN n d * gd n d = n ∧ lowD n d * gd n d = d := ⟨Int.ediv_mul_cancel (gd_dvd1 n d), Int.ediv_mul_cancel (gd_dvd2 n d)⟩
theorem lowD_pos {n d : Int} (h : 0 < d) : 0 < lowD n d := Int.ediv_pos_of_pos_of_dvd h (gd_nonneg n d) (gd_dvd2 n d)
theorem low_rt {n d : Int} (h : 0 < d) : Rt (lowN n d) (lowD n d) := by
  refine ⟨lowD_pos h, ?_⟩
  have hg : 0 < Int.gcd n d := Int.gcd_pos_of_ne_zero_right n (by omega)
  unfold lowN lowD gd
  rw [Int.gcd_ediv_gcd_ediv_gcd hg]
  rfl
theorem dvd_cop {k m n : Int} (h : k ∣ n * m) (g : Int.gcd m k = 1) : k ∣ n := by
  have h1 : k.natAbs ∣ m.natAbs * n.natAbs := by
    rw [← Int.natAbs_mul, Int.mul_comm]
    exact Int.natAbs_dvd_natAbs.mpr h
  have c : Nat.Coprime k.natAbs m.natAbs := by
    show Nat.gcd k.natAbs m.natAbs = 1
    rw [Nat.gcd_comm]
    exact g
  exact Int.natAbs_dvd_natAbs.mp (c.dvd_of_dvd_mul_left h1)
/-- lowest terms are one pair alone -/
theorem rt_unique {a b c d : Int} (h1 : Rt a b) (h2 : Rt c d) (e : a * d = c * b) : a = c ∧ b = d := by
  have g1 : Int.gcd a b = 1 := by have := h1.cop; unfold gd at this; omega
  have g2 : Int.gcd c d = 1 := by have := h2.cop; unfold gd at this; omega
  have db : b ∣ d := by
    have : b ∣ d * a := ⟨c, by rw [Int.mul_comm d a, e, Int.mul_comm]⟩
    exact dvd_cop this g1
  have dd : d ∣ b := by
    have : d ∣ b * c := ⟨a, by rw [Int.mul_comm b c, ← e, Int.mul_comm]⟩
    exact dvd_cop this g2
  have hb := h1.pos
  have hd := h2.pos
  have ebd : b = d := Int.le_antisymm (Int.le_of_dvd hd db) (Int.le_of_dvd hb dd)
  subst ebd
  exact ⟨Int.eq_of_mul_eq_mul_right (by omega) e, rfl⟩
theorem low_is {n d a b : Int} (hd : 0 < d) (h : Rt a b) (e : n * b = a * d) : lowN n d = a ∧ lowD n d = b := by
  have m := low_mul (n := n) (d := d) (by omega)
  have g := gd_pos (a := n) (b := d) (by omega)
  refine rt_unique (low_rt hd) h ?_
  have e2 : (lowN n d * b) * gd n d = (a * lowD n d) * gd n d := by
    rw [Int.mul_right_comm, m.1, Int.mul_assoc, m.2, e]
  exact Int.eq_of_mul_eq_mul_right (by omega) e2
theorem fdiv_neg_dvd {a g : Int} (hg : 0 < g) (h : g ∣ a) : a.fdiv (-g) = (-a) / g := by
  obtain ⟨m, rfl⟩ := h
  have e1 : g * m = (-g) * (-m) := by rw [Int.neg_mul_neg]
  have e2 : -(g * m) = g * (-m) := by rw [Int.mul_neg]
  rw [e2, Int.mul_ediv_cancel_left _ (by omega), e1, Int.mul_fdiv_cancel_left _ (by omega)]
/-- the sums and products of the law -/
theorem sub_add {an ad bn bd p q : Int} (had : 0 < ad) (hbd : 0 < bd) (hq : 0 < q) (h : p * (ad * bd) = (an * bd + bn * ad) * q) : (p * bd - bn * q) * ad = an * (q * bd) := by
  have e1 : (p * bd - bn * q) * ad = p * (ad * bd) - bn * q * ad := by
    rw [Int.sub_mul, Int.mul_assoc p bd ad, Int.mul_comm bd ad]
  have e2 : (an * bd + bn * ad) * q = an * (q * bd) + bn * q * ad := by
    rw [Int.add_mul, Int.mul_assoc an bd q, Int.mul_comm bd q, Int.mul_assoc bn ad q, Int.mul_comm ad q, Int.mul_assoc bn q ad]
  rw [e1, h, e2]
  omega
theorem mul_div {an ad bn bd p q : Int} (h : p * (ad * bn) = (an * bd) * q) (hbn : bn ≠ 0) : (p * bn) * ad = an * (q * bd) := by
  rw [Int.mul_assoc p bn ad, Int.mul_comm bn ad, h, Int.mul_assoc an bd q, Int.mul_comm bd q]
end Lc
namespace Lc
theorem low_le {n d : Int} (h : d ≠ 0) : (lowN n d).natAbs ≤ n.natAbs ∧ (lowD n d).natAbs ≤ d.natAbs := by
  have m := low_mul (n := n) (d := d) h
  have g := gd_pos (a := n) (b := d) h
  have e1 : n.natAbs = (lowN n d).natAbs * (gd n d).natAbs := by rw [← Int.natAbs_mul, m.1]
  have e2 : d.natAbs = (lowD n d).natAbs * (gd n d).natAbs := by rw [← Int.natAbs_mul, m.2]
  have gp : 0 < (gd n d).natAbs := by omega
  exact ⟨by rw [e1]; exact Nat.le_mul_of_pos_right _ gp, by rw [e2]; exact Nat.le_mul_of_pos_right _ gp⟩
theorem rt_one (n : Int) : Rt n 1 := ⟨by decide, by unfold gd; rw [Int.gcd_one]; rfl⟩
theorem rt_inv {d : Int} (h : 0 < d) : Rt 1 d := ⟨h, by unfold gd; rw [Int.one_gcd]; rfl⟩
theorem rt_ninv {d : Int} (h : 0 < d) : Rt (-1) d := ⟨h, by unfold gd; rw [Int.neg_gcd, Int.one_gcd]; rfl⟩
end Lc
set_option Elab.async false
set_option linter.all false
set_option maxRecDepth 100000
set_option maxHeartbeats 4000000
namespace Lc
open PySem PySem.Spec PyProof.Rows L2
/-! ## A try with clauses of both forms, «except X:» and «except X as n:» -/
structure Cl where
  c : Value
  slot : Option Nat
  ts : Addr → Value → Option Addr → TS
def putS : Option Nat → Option V → L2.St → L2.St
  | none, _, σ => σ
  | some i, v, σ => σ.set i v
def endS (q : Option Nat) (D : Ends) : Ends := ⟨fun σ H => D.nx (putS q none σ) H, D.rt, fun σ H => D.bk (putS q none σ) H, fun σ H => D.ct (putS q none σ) H⟩
def wCl (K : PySem.W.Frag) (Wout : WX) (D : Ends) : List Cl → WX
  | [] => Wout
  | q :: r => fun cls d σ H => ∃ b, PySem.W.exmOne K cls q.c = some b ∧ (b = true → ∀ a, H a = none → q.ts a cls d (endS q.slot D) (putS q.slot (some (.ref a)) σ) H) ∧
      (b = false → wCl K Wout D r cls d σ H)
abbrev SuiteOk (X : Cx) (st : List Stmt) (ts : Addr → Value → Option Addr → TS) : Prop :=
  ∀ (a : Addr) (ob : Obj) (cls : Value) (d : Option Addr) (pn : List (Addr × Obj)), Zc cls d ob → (∃ vs, ob.data = .fields vs) → PSs (X.suite a ((a, ob) :: pn)) st (ts a cls d)
inductive ClsOk (X : Cx) : List ExceptHandler → List Cl → Prop
  | nil : ClsOk X [] []
  | bare {x : Str} {q : Cl} {st : Stmt} {sts : List Stmt} {p1 p2 : Pos} {hds : List ExceptHandler} {l : List Cl} (hc : Names X x q.c) (hq : q.slot = none) (su : SuiteOk X (st :: sts) q.ts) (r : ClsOk X hds l) :
      ClsOk X (.ExceptHandler (some (.Name x p1)) none (st :: sts) p2 :: hds) (q :: l)
  | named {x n : Str} {q : Cl} {i : Nat} {st : Stmt} {sts : List Stmt} {p1 p2 : Pos} {hds : List ExceptHandler} {l : List Cl} (hc : Names X x q.c) (hq : q.slot = some i) (hN : X.N.Nodup) (hi : X.N[i]? = some n) (hn : X.env.kindOf n = some .local)
      (su : SuiteOk X (st :: sts) q.ts) (r : ClsOk X hds l) : ClsOk X (.ExceptHandler (some (.Name x p1)) (some n) (st :: sts) p2 :: hds) (q :: l)
section
variable {X : Cx}
theorem clauses_go {Wout : WX} {D : Ends} {pins : List (Addr × Obj)} {σ : L2.St} {H : Hp} {cls : Value} {d : Option Addr} {a : Addr} {B : Heap} {sI s' : Shared} {h3 : Heap}
    (hs : X.stack = X.env :: X.outer) (hf : X.env.frame = some X.env.locals) (tk : Takes X Wout) (J : Inv X pins σ H sI)
    (nb : ∀ b o, sI.heap.get? b = some o → b ∉ frs X.stack → B.get? b = some o) (na : H a = none) (os : s'.os = sI.os) (ag : AllBare s'.gens)
    (up : sI.heap.UpToSlots h3) (fl : HandSPX.FlyingZ B (X.env :: X.outer) a (Zc cls d) h3) :
    ∀ {hds : List ExceptHandler} {l : List Cl}, ClsOk X hds l → wCl X.K Wout D l cls d σ H → wpAny (model X.prog X.w) X.A (handleBy (.ref a) X.env hds) (SP X pins D) X.xe { s' with heap := h3 } := by
  have ok := J.ok
  have land : ∀ {h4 : Heap}, HandSPX.FlyingZ B (X.env :: X.outer) a (Zc cls d) h4 → sI.heap.UpToSlots h4 → Inv X pins σ H { s' with heap := h4 } ∧ ∃ ob vs, Zc cls d ob ∧ ob.data = .fields vs ∧ h4.get? a = some ob ∧
      Inv (X.suite a ((a, ob) :: (X.pn ++ pins))) [] σ H { s' with heap := h4 } := by
    intro h4 f4 u4
    have J4 : Inv X pins σ H { s' with heap := h4 } := J.landed nb f4.1 u4 os ag
    obtain ⟨ob, vs, hob, hz, hd⟩ := f4.there
    have nfr : a ∉ frs (X.env :: X.outer) := fun hm => by
      obtain ⟨_, ox, ex, nf⟩ := f4.2.2.1.mem hm
      rw [hob] at ex
      cases ex
      exact nf _ hd
    have nL : a ≠ X.env.locals := fun z => nfr (List.mem_filterMap.mpr ⟨X.env, List.mem_cons_self, by rw [hf, z]⟩)
    have nF : a ∉ X.fs := fun hm => by
      obtain ⟨en, hen, qq⟩ := List.mem_filterMap.mp hm
      exact nfr (List.mem_filterMap.mpr ⟨en, List.mem_cons_of_mem _ hen, qq⟩)
    exact ⟨J4, ob, vs, hz, hd, hob, J4.suite hob hd na nL nF⟩
  obtain ⟨J3, o3, vs3, hz3, hd3, ho3, S3⟩ := land fl up
  have ty : PySem.W.Looks (model X.prog X.w) h3 (typeOf (.ref a)) cls := fun _ _ _ _ kk qq => wpAny_typeOf_ref (kk _ _ ho3) (by rw [hz3.1]; exact qq)
  have tst : ∀ {x : Str} {c : Value} {p1 : Pos} {Q : Value → Shared → Prop} {E : Value → Shared → Prop}, Names X x c → Q c { s' with heap := h3 } →
      wpAny (model X.prog X.w) (X.A.mark (some (.ref a))) (eval (.Name x p1) X.env) Q E { s' with heap := h3 } := by
    intro x c p1 Q E hc hq
    rcases hc with ⟨hg, hdb, hm | ⟨hm, hv, hne⟩⟩
    · exact ld_glob (X := X.suite a ((a, o3) :: (X.pn ++ pins))) S3 hg hm hq hdb
    · exact ld_blt (X := X.suite a ((a, o3) :: (X.pn ++ pins))) S3 hg hm hv hq hne hdb
  intro hds l hk
  induction hk with
  | nil =>
    intro wi
    refine wpAny_handleBy_nil ?_
    obtain ⟨_, _, _, ox, vx, T, _, _, hox, _, hdx, h1, _⟩ := id fl
    have out : wpAny (model X.prog X.w) X.A (setFlight (.ref a) X.env.frame) (fun _ s4 => wpAny (model X.prog X.w) X.A (throw (.ref a) : Sem Flow) (SP X pins D) X.xe s4) X.xe { s' with heap := h3 } := by
      rw [hf]
      exact HandSPX.setFlight_upZ fl fun h4 f4 u4 => wpAny_throw (tk _ _ ⟨a, B, sI, pins, σ, H, cls, d, rfl, J, nb, up.trans u4, .inr (.inr (by rw [hs]; exact f4)), na, os, ag, wi⟩)
    unfold PySem.passOn
    refine wpAny_bind (wpAny_field hox hdx h1 ?_)
    rw [if_neg (by simp : ¬ ((Value.ref T == Value.none) = true))]
    first
      | exact wpAny_bind out
      | exact wpAny_bind (wpAny_pure (wpAny_bind out))
  | @bare x q st sts p1 p2 hds2 l2 hc hq su r ih =>
    intro wi
    obtain ⟨b, hb, yes, no⟩ := wi
    refine wpAny_handleBy_cons (codeAny_handlers_test (tst hc ((PySem.W.exm_one (M := model X.prog X.w) J3.kIn ty hb).here ?_))) (by intro z; cases z)
    cases b with
    | false => exact ih (no rfl)
    | true =>
      refine codeAny_handlers_suite (HandSPX.lands_againZ fl fun h4 f4 u4 => ?_)
      obtain ⟨J4, o4, vs4, hz4, hd4, ho4, S4⟩ := land f4 (up.trans u4)
      have yy := yes rfl a na
      rw [hq] at yy
      refine wpAny_mono ((su a o4 cls d (X.pn ++ pins) hz4 ⟨_, hd4⟩).run [] _ _ H _ S4 yy) (fun f s6 hsp => ?_) (fun _ _ z => z.elim)
      cases f with
      | ret u =>
        obtain ⟨v6, σ6, H6, S6, r6, q6⟩ := hsp
        exact ⟨v6, σ6, H6, S6.unsuite ok, r6, q6⟩
      | next => obtain ⟨σ6, H6, S6, q6⟩ := hsp; exact ⟨σ6, H6, S6.unsuite ok, q6⟩
      | brk => obtain ⟨σ6, H6, S6, q6⟩ := hsp; exact ⟨σ6, H6, S6.unsuite ok, q6⟩
      | cont => obtain ⟨σ6, H6, S6, q6⟩ := hsp; exact ⟨σ6, H6, S6.unsuite ok, q6⟩
  | @named x n q i st sts p1 p2 hds2 l2 hc hq hN hi hn su r ih =>
    intro wi
    obtain ⟨b, hb, yes, no⟩ := wi
    refine wpAny_handleBy_cons (codeAny_handlers_test (tst hc ((PySem.W.exm_one (M := model X.prog X.w) J3.kIn ty hb).here ?_))) (by intro z; cases z)
    cases b with
    | false => exact ih (no rfl)
    | true =>
      refine codeAny_handlers_suite_as (HandSPX.lands_againZ fl fun h4 f4 u4 => ?_)
      obtain ⟨J4, o4, vs4, hz4, hd4, ho4, S4⟩ := land f4 (up.trans u4)
      have yy := yes rfl a na
      rw [hq] at yy
      refine store_ok (X := X.suite a ((a, o4) :: (X.pn ++ pins))) (v := .ref a) S4 hN hi (.inl hn) rfl (fun s5 S5 => ?_) (.inr hn)
      refine wpAny_mono ((su a o4 cls d (X.pn ++ pins) hz4 ⟨_, hd4⟩).run [] s5 _ H _ S5 yy) (fun f s6 hsp => ?_) (fun _ _ z => z.elim)
      have fin : ∀ {σ6 : L2.St} {H6 : Hp} {Q : Shared → Prop}, Inv (X.suite a ((a, o4) :: (X.pn ++ pins))) [] σ6 H6 s6 → (∀ s7, Inv X pins (σ6.set i none) H6 s7 → Q s7) →
          wpAny (model X.prog X.w) X.A (do bindName X.env n .none; unbindBehindTheSuite X.env n p2) (fun _ s7 => Q s7) X.xe s6 := fun S6 k => gone_ok (S6.unsuite ok) hN hi hn k
      cases f with
      | ret u =>
        obtain ⟨v6, σ6, H6, S6, r6, q6⟩ := hsp
        exact fin S6 fun s7 J7 => ⟨_, _, _, J7, r6, q6⟩
      | next => obtain ⟨σ6, H6, S6, q6⟩ := hsp; exact fin S6 fun s7 J7 => ⟨_, _, J7, q6⟩
      | brk => obtain ⟨σ6, H6, S6, q6⟩ := hsp; exact fin S6 fun s7 J7 => ⟨_, _, J7, q6⟩
      | cont => obtain ⟨σ6, H6, S6, q6⟩ := hsp; exact fin S6 fun s7 J7 => ⟨_, _, J7, q6⟩
theorem ps_tryL {body : List Stmt} {h₀ : ExceptHandler} {hds : List ExceptHandler} {l : List Cl} {pos : Pos} {tb : WX → TS} {Wout : WX} (hs : X.stack = X.env :: X.outer) (hf : X.env.frame = some X.env.locals) (tk : Takes X Wout)
    (hb : ∀ (W : WX) (pn : List (Addr × Obj)) (xe : Value → Shared → Prop), Takes (X.tr pn xe) W → PassesOwn (model X.prog X.w) X.A X.env xe → PSs (X.tr pn xe) body (tb W)) (hh : ClsOk X (h₀ :: hds) l) :
    PS X (.Try body (h₀ :: hds) [] [] pos) (fun D σ H => tb (wCl X.K Wout D l) D σ H) := by
  refine ⟨fun pins s σ H D I h => ?_⟩
  have ok := I.ok
  have fr : X.A.frames = some (X.env :: X.outer) := ok.frames.trans (congrArg some hs)
  refine wpAny_Try_except (wpAny_mono ((hb (wCl X.K Wout D l) (X.pn ++ pins) (fun e s₁ => wpAny (model X.prog X.w) X.A (noteFrame e X.env) (fun _ s₂ => wpAny (model X.prog X.w) X.A (setFlight e none)
    (fun _ s₃ => wpAny (model X.prog X.w) X.A (handleBy e X.env (h₀ :: hds)) (SP X pins D) X.xe s₃) X.xe s₂) X.xe s₁) (fun u s' xx => ?_) PassesOwn.looking).run [] s σ H D (I.toTry _) h) (fun f s1 hsp => ?_) (fun _ _ he => he))
  · obtain ⟨a, B, sI, _, σ1, H1, cls, d, rfl, J', nb, up, sky, na, os, ag, wi⟩ := xx
    rw [hs] at sky
    exact Sky.land Zc.steady fr hf sky fun h3 f3 u3 => clauses_go hs hf tk (J'.ofTry ok) nb na os ag (up.trans u3) f3 hh wi
  · cases f with
    | ret u =>
      obtain ⟨v1, σ1, H1, J1, r1, q1⟩ := hsp
      exact ⟨v1, σ1, H1, J1.ofTry ok, r1, q1⟩
    | next => obtain ⟨σ1, H1, J1, q1⟩ := hsp; exact wpAny_execs_nil ⟨σ1, H1, J1.ofTry ok, q1⟩
    | brk => obtain ⟨σ1, H1, J1, q1⟩ := hsp; exact ⟨σ1, H1, J1.ofTry ok, q1⟩
    | cont => obtain ⟨σ1, H1, J1, q1⟩ := hsp; exact ⟨σ1, H1, J1.ofTry ok, q1⟩
end
/-! ## isinstance of the caught error, whether it has a dict or not -/
structure XisC (K : PySem.W.Frag) (C : Addr) : Prop where
  hc : (PySem.W.clsIn K C).isSome = true
  ga : PySem.W.findIn K (.ref C) "__getattribute__" = some (some (.builtin "BaseException.__getattribute__"))
  gt : PySem.W.findIn K (.ref C) "__getattr__" = some none
  sb : PySem.W.subIn K (.ref C) (.type "BaseException") = some true
  cl : PySem.W.findIn K (.ref C) "__class__" = some (some (.builtin "object.__class__"))
  sp : PySem.W.specialIn K (.builtin "object.__class__") "__get__" = some (some (.builtin "getset_descriptor.__get__"))
  tk : PySem.W.takesIn K (.builtin "object.__class__") = some true
  mo : PySem.W.mroIn K C (.type "object") = some true
def rIsX (K : PySem.W.Frag) (cls : Value) (d : Option Addr) (C a : Addr) : List V → Hp → VK → Prop := fun xs H Q => cls = .ref C ∧ ∃ (c : V) (cv : Value) (b : Bool), xs = [.ref a, c] ∧ ClsV c cv ∧ (∀ dd, d = some dd → ∃ fs, H dd = some (.xd fs)) ∧
  PySem.W.kitOne K (.ref C) cv = some b ∧ Q (.bl b) H
section
variable {X : Cx}
theorem call_isX {a C : Addr} {ob : Obj} {cls : Value} {d : Option Addr} {pn : List (Addr × Obj)} (T : XisC X.K C) (hz : Zc cls d ob) (hf : ∃ vs, ob.data = .fields vs) : CallR (X.suite a ((a, ob) :: pn)) (.builtin "isinstance") (rIsX X.K cls d C a) := by
  intro pins s σ H xs us Q I r h
  obtain ⟨ec, c, cv, b, rfl, hcv, hd, e, q⟩ := h
  obtain ⟨u1, u2, rfl, r1, r2⟩ := vals2 r
  have e2 := hcv.eq r2
  subst e2 ec
  obtain rfl : u1 = Value.ref a := r1
  obtain ⟨vs, hv⟩ := hf
  obtain ⟨hget, _⟩ := I.pin (a, ob) (List.mem_append_left _ List.mem_cons_self)
  have nc : PySem.W.notCls ob = true := by unfold PySem.W.notCls; rw [hv]
  have key : ∃ od, PySem.W.InstAt s.heap a ob C od := by
    cases d with
    | none => exact ⟨none, hget, hz.1, nc, by rw [hz.2]; trivial⟩
    | some dd =>
      obtain ⟨fs, hfs⟩ := hd dd rfl
      obtain ⟨mA, ⟨o, _, _, ho, _⟩, _⟩ := (show ObjOk X.prog X.w H s.heap dd (.xd fs) from I.hok dd _ hfs)
      exact ⟨some o, hget, hz.1, nc, by rw [hz.2]; exact ho⟩
  obtain ⟨od, J⟩ := key
  exact PySem.W.kia_one (PySem.W.kitx_exc T.hc T.ga T.gt T.sb T.cl T.sp T.tk T.mo) I.kIn J e (fun z => nomatch z) fun tk => ⟨.bl b, H, I.kept (t' := tk) fun _ _ z => z, rfl, q⟩
/-! ## f(e, ..), f a local name that holds a def which may raise -/
def tCallLS (i : Nat) (f : Addr) (sp : Sp) (E : L2.St → XK) (t : TA) : TE := fun σ H Q => σ[i]? = some (some (.ref f)) ∧ t σ H fun vs H1 => sp vs H1 Q (E σ)
theorem pe_callLS {CX : CXT} {k i : Nat} {f : Addr} {fd : FuncData} {ps : List Str} {sp : Sp} {E : L2.St → XK} {x : Str} {p pos : Pos} {e : Expr} {es : List Expr} {t : TA}
    (F : FnOk X.prog X.w X.K X.mg X.base CX k f fd ps sp) (hr : Room k X.A) (hN : X.N[i]? = some x) (hv : Vis X.env.scope x) (hk : PySem.W.keepIn X.K (.ref f) = true) (hb : Binds X.K fd ps []) (hx : ∀ σ, PassesAt CX X σ (E σ)) (ha : PA X (e :: es) t)
    (hdb : (x == ("__debug__" : Str)) = false := by decide) (hcd : (x == ("__classdict__" : Str)) = false := by decide)
    (he : starEach (e :: es) X.env = (false, eval e X.env) :: starEach es X.env := by rfl) (hpl : (backTo pos (starEach es X.env)).any (·.1) = false := by rfl) : PE X (.Call (.Name x p) (e :: es) [] pos) (tCallLS i f sp E t) := by
  refine ⟨fun pins s σ H Q I ⟨hs, ht⟩ => wpAny_Call_Name_kw (thn ((pe_var (pos := p) hN hv hdb hcd).run pins s σ H (fun v H1 => v = .ref f ∧ H1 = H) I ⟨.ref f, hs, rfl, rfl⟩) fun u s1 ⟨v, H1, I1, r1, e1, e2⟩ => ?_)⟩
  subst e1 e2
  obtain rfl : u = Value.ref f := r1
  exact PySem.W.callWith_K (h₀ := X.base) I.ok.mod.kin hk (thn (ha.run pos pins s1 σ _ _ I1 ht) fun us s2 ⟨vs, H2, I2, r, q⟩ => ⟨I2.kIn, run_fnS F hr hb (hx σ) I2 r q⟩) he hpl
/-! ## C(), an own error class without an __init__ -/
theorem pmk_own0 {C : Addr} {bmB : List Value} {B newId initId : String} {x : Str} {p pos : Pos} (F : ExcBaseFacts B newId initId bmB) (q : PySem.W.excIn X.K C bmB newId = true) (gC : X.mg x = some (.ref C)) (kC : PySem.W.keepIn X.K (.ref C) = true)
    (r : Raises X (.ref C)) (hg : Gl X x) (hdb : (x == ("__debug__" : Str)) = false := by decide) : PMk X (.Call (.Name x p) [] [] pos) (fun _ H Q => Q (.ref C) none H) := by
  intro pins s σ H Q I h
  refine wpAny_Call_Name_kw (ld_glob I hg gC (PySem.W.callWith_K0 I.kIn kC ?_) hdb)
  obtain ⟨_, _, _, _, _, _, _, _, _, _, _, _, _, _, _, _, _, hC, hN, hni, T⟩ := exc_obj I.kIn q
  exact wpAny_call_exc_subT F T hC hN hni (fun h' e hm => mk_of I hm r h (I.hok.gone hm.new)) (by show 0 ≤ sizeLine; omega)
/-! ## // by any great number but 0 -/
theorem op_fdivZ : OpR X (binaryOp .FloorDiv) (rI (fun _ j => j ≠ 0 ∧ j.natAbs.log2 < 9000) fun i j => .int (i.fdiv j)) := opI fun _ _ _ _ _ _ _ hc q => floordiv_int hc.1 q (.inl (PyProof.noPylong_of_log2 hc.2))
/-! ## repr of data -/
def rReprD (K : PySem.W.Frag) : List V → Hp → VK → Prop := fun xs H Q => ∃ (a : Addr) (d : PyData), xs = [.ref a] ∧ Dp K H (.ref a) d ∧ d.showable = true ∧ d.hasDict = false ∧ d.depth ≤ 60 ∧ d.shown.length ≤ sizeLine ∧ Q (.str d.shown) H
theorem call_reprD (hu : X.A.units + 64 < cLine) (hg : X.A.guards = some []) : CallR X (.builtin "repr") (rReprD X.K) := by
  intro pins s σ H xs us Q I r h
  obtain ⟨a, d, rfl, hd, hs, hn, hde, hl, q⟩ := h
  obtain ⟨u, rfl, ru⟩ := vals1 r
  obtain rfl : u = Value.ref a := ru
  obtain ⟨as, rd⟩ := Dp.reads I d _ _ hd rfl
  exact repr_of_reads' rd hs (fun z => by rw [hn] at z; cases z) hg (by omega) (fun _ _ e => e) (fun h' u tk hk => ⟨.str d.shown, H, I.kept (t' := tk) hk, ⟨u, rfl⟩, q⟩) hl
end
end Lc
set_option Elab.async false
set_option linter.all false
set_option maxRecDepth 100000
set_option maxHeartbeats 4000000
namespace Lc
open PySem PySem.Spec PyProof.Rows L2
/-! ## Promises of defs that are called where no repr is under way -/
structure FnG (P : Program) (w : World) (K : PySem.W.Frag) (mg : Str → Option Value) (base : Heap) (k : Nat) (f : Addr) (fd : FuncData) (ps : List Str) (sp : Sp) : Prop where
  len : ∀ vs H Q E, sp vs H Q E → vs.length = ps.length
  run : ∀ (A : Around) (outer : List Env) (s : Shared) (H : Hp) (args : Args) (us : List Value) (vs : List V) (Q : VK) (E : XK), A.guards = some [] → Room k A → Env0 P w K mg base A outer s H → BindsTo s fd args (ps.zip us) → Vals vs us → sp vs H Q E →
    codeAny (model P w) A (.call (.ref f) args) (CR CX0 outer P w H s Q E) s
section
variable {P : Program} {w : World} {K : PySem.W.Frag} {mg : Str → Option Value} {base : Heap}
theorem Fun.okG {x qual : Str} {st : Stmt} {f : Addr} {fd : FuncData} {N ps : List Str} {k : Nat} {sp : Sp} (F : Fun K x qual st f fd) (S : FnScope N ps (defScope st)) (len : ∀ vs H Q E, sp vs H Q E → vs.length = ps.length)
    (go : ∀ (cdv : Value) (A : Around) (outer : List Env) (s : Shared) (H : Hp) (vs : List V) (Q : VK) (E : XK), A.guards = some [] → Room k (A.deeper (envOfC qual (defScope st) s.heap.objs.size f cdv)) → sp vs H Q E →
      ∃ t, PSs (cxOf CX0 P w K mg base N qual (defScope st) f cdv A outer s H E).nox (defBody st) t ∧ t { nx := fun _ H' => Q .non H', rt := Q } (start N vs) H) : FnG P w K mg base (k + 1) f fd ps sp := by
  obtain ⟨oc, od, kV, doc, pm, an, cdv, ct, osl, rfl, lk, hcd⟩ := F.ex
  refine ⟨len, fun A outer s H args us vs Q E hg hr e0 hb r hsp => ?_⟩
  have up : ∀ b o, base.get? b = some o → s.heap.get? b = some o := fun b o z => (e0.bs b o z).1
  have KX := e0.mod.kin.keeps up
  refine codeAny_call_function hr.depth (KX _ _ lk) rfl S.co S.gen rfl (PySem.W.codeRec_of KX hcd) (hb _ _ _ _ ?_)
  refine wpAny_newFunctionEnv_cells S.kind (fun y hy => ?_) fun env he s1 x => ?_
  · rcases S.par y.1 (List.of_mem_zip (a := y.1) (b := y.2) hy).1 with z | z
    · exact .inl z
    · exact .inr ⟨z, PySem.W.cellsFrom_some _ _ _ (.inl z)⟩
  subst he
  obtain ⟨t, ht, hq⟩ := go cdv A outer s H vs Q E hg (hr.deeper _) hsp
  have I : Inv (cxOf CX0 P w K mg base N qual (defScope st) f cdv A outer s H E) [] (start N vs) H s1 := inv_start S hr.hd e0 (len _ _ _ _ hsp) r x
  refine ⟨(e0.mod.nolimit.keeps up).keeps x.toInCall.keep, codeAny_func (wpAny_mono (ht.nox.run [] s1 (start N vs) H _ I hq) (fun fl s' hs => ?_) fun _ _ z => z)⟩
  cases fl with
  | ret u => obtain ⟨v, _, H', J, rv, q⟩ := hs; exact ⟨v, H', J.os, J.bare, J.base, J.hok, rv, q⟩
  | next => obtain ⟨_, H', J, q⟩ := hs; exact ⟨V.non, H', J.os, J.bare, J.base, J.hok, rfl, q⟩
  | brk => obtain ⟨_, _, _, q⟩ := hs; exact q.elim
  | cont => obtain ⟨_, _, _, q⟩ := hs; exact q.elim
end
section
variable {X : Cx} {k : Nat} {f : Addr} {fd : FuncData} {ps : List Str} {sp : Sp} {x : Str} {p pos : Pos} {e : Expr} {es : List Expr} {t : TA}
/-- f(e, ..), f kept under FnG -/
theorem pe_callG (F : FnG X.prog X.w X.K X.mg X.base k f fd ps sp) (gg : X.A.guards = some []) (hr : Room k X.A) (hg : Gl X x) (hm : X.mg x = some (.ref f)) (hk : PySem.W.keepIn X.K (.ref f) = true) (hb : Binds X.K fd ps [])
    (ha : PA X (e :: es) t) (hdb : (x == ("__debug__" : Str)) = false := by decide) (he : starEach (e :: es) X.env = (false, eval e X.env) :: starEach es X.env := by rfl) (hpl : (backTo pos (starEach es X.env)).any (·.1) = false := by rfl) :
    PE X (.Call (.Name x p) (e :: es) [] pos) (tCall sp [] E0 t) := by
  refine ⟨fun pins s σ H Q I h => wpAny_Call_Name_kw (ld_glob I hg hm ?_ hdb)⟩
  refine PySem.W.callWith_K (h₀ := X.base) I.ok.mod.kin hk (thn (ha.run pos pins s σ H _ I h) fun us s1 ⟨vs, H1, I1, r, q⟩ => ⟨I1.kIn, ?_⟩) he hpl
  replace q : sp vs H1 Q E0 := by
    have z : sp (vs ++ []) H1 Q E0 := q
    rw [List.append_nil] at z
    exact z
  have hl : us.length = ps.length := by rw [← r.length]; exact F.len _ _ _ _ q
  have b := hb s1 us I1.kIn (by rw [List.append_nil]; exact hl)
  rw [List.append_nil] at b
  refine wpAny_call (codeAny_mono (F.run X.A X.stack s1 H1 ⟨us, []⟩ us vs Q E0 gg hr I1.env0 b r q) fun rr s' hq => ?_)
  cases rr with
  | error er => exact False.elim hq
  | ok fl =>
    cases fl with
    | ret u => exact I1.after hq
    | next => exact False.elim hq
    | brk => exact False.elim hq
    | cont => exact False.elim hq
end
/-! ## The law itself -/
section
variable {P : Program} {w : World} {K : PySem.W.Frag} {mg mb : Str → Option Value} {k : Nat} {fa a : Addr} {fd : FuncData} {x : Str} {sp : Sp} {s : Shared} {vs : List Value} {ns : List Int}
theorem env_of {H : Hp} (KX : K.In s.heap) (hns : s.heap.Ns mainGlobals mg) (hb : s.heap.Ns builtinsNs mb) (hbb : ∀ x : Str, x ≠ "__name__" → mb x = bootBuiltins x) (hlim : s.heap.NoLimit) (hg : s.gens = #[])
    (ha : s.heap.get? a = some { cls := .type "list", data := .seq vs.toArray }) (hok : HOk P w H s.heap) (one : ∀ b, b ≠ a → H b = none) (nk : H a = none ∨ K.lookup a = none) :
    K.In (hidT s.heap H) ∧ (hidT s.heap H).Ns mainGlobals mg ∧ Env0 P w K mg (hidT s.heap H) callerA [] s H := by
  have keepN : ∀ {b : Addr} {m : Str → Option Value}, s.heap.Ns b m → (hidT s.heap H).Ns b m := by
    rintro b m ⟨o, es, ep, e, d, r⟩
    have nb : b ≠ a := fun z => by
      rw [z, ha] at e
      cases e
      exact nomatch (show Data.seq vs.toArray _ = Data.dict es ep from d)
    exact ⟨o, es, ep, hidT_get e (one b nb), d, r⟩
  have kin : K.In (hidT s.heap H) := fun b o e => hidT_get (KX b o e) (by
    by_cases z : b = a
    · rcases nk with q | q
      · rw [z]; exact q
      · rw [z, q] at e; cases e
    · exact one b z)
  obtain ⟨mc, l1, l2⟩ := hlim
  exact ⟨kin, keepN hns, rfl, ⟨kin, keepN hns, ⟨mb, keepN hb, hbb⟩, ⟨mc, keepN l1, l2⟩⟩, fun b o e => of_hidT e, Nat.le_of_eq (hidT_size _ _), trivial, fun b z => absurd (show b ∈ ([] : List Addr) from z) (by simp), hok, .of_eq hg⟩
theorem law_callG (KX : K.In s.heap) (hns : s.heap.Ns mainGlobals mg) (hb : s.heap.Ns builtinsNs mb) (hbb : ∀ x : Str, x ≠ "__name__" → mb x = bootBuiltins x) (hlim : s.heap.NoLimit) (hg : s.gens = #[])
    (ha : s.heap.get? a = some { cls := .type "list", data := .seq vs.toArray }) (hi : IntsAre vs ns) (hl : ns.length ≤ sizeLine) (hr : Room k callerA)
    (F : ∀ base : Heap, K.In base → base.Ns mainGlobals mg → FnG P w K mg base k fa fd [x] sp) (hbind : ∀ (s : Shared) (u : Value), BindsTo s fd ⟨[u], []⟩ [(x, u)])
    (hsp : ∀ H : Hp, SqL K H a (ns.map V.int) → sp [.ref a] H (fun v _ => v = .bl true) fun _ _ _ => False) :
    codeAny (model P w) callerA (.call (.ref fa) ⟨[.ref a], []⟩) (fun r s' => r = .ok (.ret (.bool true)) ∧ OldK s.heap s'.heap ∧ s'.os = s.os ∧ AllBare s'.gens) s := by
  have rv := vals_ints hi
  have go : ∀ H : Hp, SqL K H a (ns.map V.int) → HOk P w H s.heap → (∀ b, b ≠ a → H b = none) → (H a = none ∨ K.lookup a = none) → (∀ o, H a = some o → ∃ ob u, o = .frz ob u) →
      codeAny (model P w) callerA (.call (.ref fa) ⟨[.ref a], []⟩) (fun r s' => r = .ok (.ret (.bool true)) ∧ OldK s.heap s'.heap ∧ s'.os = s.os ∧ AllBare s'.gens) s := by
    intro H hS hok one nk fz
    obtain ⟨k1, k2, e0⟩ := env_of KX hns hb hbb hlim hg ha hok one nk
    refine codeAny_mono ((F _ k1 k2).run callerA [] s H ⟨[.ref a], []⟩ [.ref a] [.ref a] _ _ rfl hr e0 (hbind s (.ref a)) (.cons rfl .nil) (hsp H hS)) fun r s' h => ?_
    cases r with
    | error _ => exact False.elim h
    | ok fl =>
      cases fl with
      | next => exact False.elim h
      | brk => exact False.elim h
      | cont => exact False.elim h
      | ret u =>
        obtain ⟨v, H', os, bare, un, hok', ru, ev⟩ := h
        subst ev
        obtain rfl : u = Value.bool true := ru
        refine ⟨rfl, OldK.of_keep fun b o e => ?_, os, bare⟩
        cases q : H b with
        | none => exact un.keep b o e q (fun z => absurd (show b ∈ ([] : List Addr) from z) (by simp)) (by simp)
        | some oo =>
          have zb : b = a := Classical.byContradiction fun z => by rw [one b z] at q; cases q
          subst zb
          obtain ⟨ob, u, rfl⟩ := fz oo q
          obtain ⟨e1, _⟩ := hok b _ q
          obtain ⟨e2, _⟩ := hok' b _ (un.frzs b ob u q)
          rw [e] at e1
          cases e1
          exact e2
  cases hk : K.lookup a with
  | some o =>
    have e := KX a o hk
    rw [ha] at e
    cases e
    exact go (fun _ => none) (.inr ⟨_, vs.toArray, _, hk, rfl, rfl, rfl, by rw [List.size_toArray, hi.length]; exact hl, by simpa using rv⟩) (fun b u z => nomatch z) (fun _ _ => rfl) (.inl rfl) (fun o z => nomatch z)
  | none =>
    let ob : Obj := { cls := .type "list", data := .seq vs.toArray }
    refine go (upd (fun _ => none) a (.frz ob (.lst (ns.map V.int)))) (.inl (.inr ⟨ob, upd_same⟩)) (fun b u z => ?_) (fun b z => upd_ne z) (.inr hk) (fun o z => ?_)
    · by_cases q : b = a
      · subst q
        rw [upd_same] at z
        cases z
        exact ⟨ha, by rw [List.length_map]; exact hl, vs, _, rv, ha⟩
      · rw [upd_ne q] at z
        cases z
    · rw [upd_same] at z
      cases z
      exact ⟨_, _, rfl⟩
end
theorem walk_G {l : PySem.W.OpenLaw} {n k : Nat} {q : Program} {loose : List Str} {XP : (Str → Option Value) → Heap → Prop} {YP : World → Heap → Prop} {d : DefRec} {K : Params → PySem.W.Frag} {sp : PySem.W.Frag → Sp} {x : Str}
    (hn : l.most = some n) (hn2 : n ≤ sizeLine) (hdf : d.params.defaults = []) (hr : Room k callerA) (hY : ∀ (w : World) (h : Heap), YP w h → (K w.params).In h)
    (F : ∀ (w : World) (mg : Str → Option Value) (fa : Addr) (h : Heap), (K w.params).In h → h.Ns mainGlobals mg → mg d.name = some (.ref fa) →
      ∃ fd : FuncData, (∀ (s : Shared) (u : Value), BindsTo s fd ⟨[u], []⟩ [(x, u)]) ∧ ∀ base : Heap, (K w.params).In base → base.Ns mainGlobals mg → FnG l.prog w (K w.params) mg base k fa fd [x] (sp (K w.params)))
    (hsp : ∀ (K : PySem.W.Frag) (H : Hp) (a : Addr) (ns : List Int), ns.length ≤ n → SqL K H a (ns.map V.int) → sp K [.ref a] H (fun v _ => v = .bl true) fun _ _ _ => False) :
    PySem.W.WalkO q loose XP YP l.row.toRowW d [] (fun f vs => PySem.call f vs) := by
  refine Att.attach_call hn hdf fun w _ s mg mb fa _ _ _ _ a vs ns G Y _ _ _ hmg hobj hints hlen hg => ?_
  obtain ⟨fd, hb, hF⟩ := F w mg fa _ (hY w _ Y) G.T.g hmg
  exact law_callG (hY w _ Y) G.T.g G.T.b G.T.builtins G.T.nolimit hg hobj hints (Nat.le_trans hlen hn2) hr hF hb fun H hS => hsp _ H a ns hlen hS
end Lc
set_option Elab.async false
set_option linter.all false
set_option maxRecDepth 100000
set_option maxHeartbeats 4000000
namespace Lc
open PySem PySem.Spec PyProof.Rows L2
/-! ## Kinds of values -/
inductive TyN (H : Hp) : V → String → Prop
  | non : TyN H .non "NoneType"
  | bl (b : Bool) : TyN H (.bl b) "bool"
  | int (i : Int) : TyN H (.int i) "int"
  | str (x : Str) : TyN H (.str x) "str"
  | tup {a : Addr} {xs : List V} (e : H a = some (.tup xs)) : TyN H (.ref a) "tuple"
  | lst {a : Addr} {xs : List V} (e : H a = some (.lst xs)) : TyN H (.ref a) "list"
  | dct {a : Addr} {kvs : List (Key × V)} (e : H a = some (.dK kvs)) : TyN H (.ref a) "dict"
theorem TyN.x {K : PySem.W.Frag} {H : Hp} {v : V} {t : String} (h : TyN H v t) : TyX K H v (.type t) := by
  cases h with
  | non => exact .base .non
  | bl b => exact .base (.bl b)
  | int i => exact .base (.int i)
  | str x => exact .base (.str x)
  | tup e => exact .base (.tup e)
  | lst e => exact .base (.lst e)
  | dct e => exact .base (.dK e)
theorem TyN.same {H H' : Hp} {v : V} {t : String} (h : TyN H v t) (s : Same H H') : TyN H' v t := by
  cases h with
  | non => exact .non
  | bl b => exact .bl b
  | int i => exact .int i
  | str x => exact .str x
  | tup e => exact .tup (s _ _ e)
  | lst e => exact .lst (s _ _ e)
  | dct e => exact .dct (s _ _ e)
theorem TyN.isInt {H : Hp} {v : V} {t : String} (h : TyN H v t) (e : t = "int") : ∃ i, v = .int i := by
  cases h <;> first | exact ⟨_, rfl⟩ | exact absurd e (by decide)
theorem TyN.isStr {H : Hp} {v : V} {t : String} (h : TyN H v t) (e : t = "str") : ∃ x, v = .str x := by
  cases h <;> first | exact ⟨_, rfl⟩ | exact absurd e (by decide)
theorem TyN.isTup {H : Hp} {v : V} {t : String} (h : TyN H v t) (e : t = "tuple") : ∃ a xs, v = .ref a ∧ H a = some (.tup xs) := by
  cases h <;> first | exact ⟨_, _, rfl, by assumption⟩ | exact absurd e (by decide)
def tyNames : List String := ["NoneType", "bool", "int", "str", "tuple", "list", "dict"]
theorem TyN.mem {H : Hp} {v : V} {t : String} (h : TyN H v t) : t ∈ tyNames := by
  cases h <;> simp [tyNames]
theorem kit_int {K : PySem.W.Frag} {t : String} (h : t ∈ tyNames) : PySem.W.kitOne K (.type t) (.type "int") = some (t == "int" || t == "bool") := by
  have : ∀ t ∈ tyNames, kitB t "int" = some (t == "int" || t == "bool") := by decide +kernel
  exact kit_ty (this t h)
theorem kit_bool {K : PySem.W.Frag} {t : String} (h : t ∈ tyNames) : PySem.W.kitOne K (.type t) (.type "bool") = some (t == "bool") := by
  have : ∀ t ∈ tyNames, kitB t "bool" = some (t == "bool") := by decide +kernel
  exact kit_ty (this t h)
theorem kit_tuple {K : PySem.W.Frag} {t : String} (h : t ∈ tyNames) : PySem.W.kitOne K (.type t) (.type "tuple") = some (t == "tuple") := by
  have : ∀ t ∈ tyNames, kitB t "tuple" = some (t == "tuple") := by decide +kernel
  exact kit_ty (this t h)
theorem kit_str {K : PySem.W.Frag} {t : String} (h : t ∈ tyNames) : PySem.W.kitOne K (.type t) (.type "str") = some (t == "str") := by
  have : ∀ t ∈ tyNames, kitB t "str" = some (t == "str") := by decide +kernel
  exact kit_ty (this t h)
/-! ## What is a rational -/
def ratB : V → V → Bool
  | .int n, .int d => decide (0 < d) && decide (gd n d = 1)
  | _, _ => false
inductive Rk (H : Hp) : V → Bool → Prop
  | other {v : V} {t : String} (h : TyN H v t) (n : t ≠ "tuple") : Rk H v false
  | len {a : Addr} {xs : List V} (e : H a = some (.tup xs)) (n : xs.length ≠ 2) : Rk H (.ref a) false
  | pair {a : Addr} {x y : V} {tx ty : String} (e : H a = some (.tup [x, y])) (hx : TyN H x tx) (hy : TyN H y ty) : Rk H (.ref a) (ratB x y)
theorem Rk.same {H H' : Hp} {v : V} {b : Bool} (h : Rk H v b) (s : Same H H') : Rk H' v b := by
  cases h with
  | other h n => exact .other (h.same s) n
  | len e n => exact .len (s _ _ e) n
  | pair e hx hy => exact .pair (s _ _ e) (hx.same s) (hy.same s)
theorem Rk.of {H : Hp} {a : Addr} {n d : Int} (e : H a = some (.tup [.int n, .int d])) (r : Rt n d) : Rk H (.ref a) true := by
  have z : ratB (.int n) (.int d) = true := by
    show (decide (0 < d) && decide (gd n d = 1)) = true
    rw [decide_eq_true r.pos, decide_eq_true r.cop]
    rfl
  rw [← z]
  exact .pair e (.int n) (.int d)
/-! ## repr -/
inductive Shw (K : PySem.W.Frag) (H : Hp) : V → Str → Prop
  | data {v : V} {d : PyData} (h : Dp K H v d) (h1 : d.showable = true) (h2 : d.hasDict = false) (h3 : d.depth ≤ 60) (h4 : d.shown.length ≤ sizeLine) : Shw K H v d.shown
  | empty {a : Addr} (e : H a = some (.dK [])) : Shw K H (.ref a) (PyData.dict []).shown
def rReprV (K : PySem.W.Frag) : List V → Hp → VK → Prop := fun xs H Q => ∃ (v : V) (z : Str), xs = [v] ∧ Shw K H v z ∧ Q (.str z) H
theorem call_reprV {X : Cx} (hg : X.A.guards = some []) (hu : X.A.units + 64 < cLine) : CallR X (.builtin "repr") (rReprV X.K) := by
  intro pins s σ H xs us Q I r h
  obtain ⟨v, z, rfl, hd, q⟩ := h
  obtain ⟨u, rfl, ru⟩ := vals1 r
  cases hd with
  | @data _ d hd h1 h2 h3 h4 =>
    obtain ⟨as, rd⟩ := Dp.reads I d _ _ hd ru
    cases hd with
    | non =>
      obtain rfl : u = Value.none := ru
      exact P.repr_of_none ⟨.str _, H, I.tok _, ⟨_, rfl⟩, q⟩
    | bl b =>
      obtain rfl : u = Value.bool b := ru
      exact P.repr_of_bool ⟨.str _, H, I.tok _, ⟨_, rfl⟩, q⟩
    | int i =>
      obtain ⟨t, rfl⟩ := (show ∃ t, u = Value.int i t from ru)
      exact P.repr_of_int (of_decide_eq_true (by simpa [PyData.showable] using h1)) ⟨.str _, H, I.tok _, ⟨_, rfl⟩, q⟩
    | str x =>
      obtain ⟨t, rfl⟩ := (show ∃ t, u = Value.str x t from ru)
      exact P.repr_of_str ⟨.str _, H, I.tok _, ⟨_, rfl⟩, q⟩ h4
    | @lst a xs ds e1 e2 =>
      obtain rfl : u = Value.ref a := ru
      exact repr_of_reads' rd h1 (PyData.noDict_hsm h2) hg (by omega) (fun _ _ e => e) (fun h' u tk hk => ⟨.str _, H, I.kept (t' := tk) hk, ⟨u, rfl⟩, q⟩) h4
    | @tup a xs ds e1 e2 =>
      obtain rfl : u = Value.ref a := ru
      exact repr_of_reads' rd h1 (PyData.noDict_hsm h2) hg (by omega) (fun _ _ e => e) (fun h' u tk hk => ⟨.str _, H, I.kept (t' := tk) hk, ⟨u, rfl⟩, q⟩) h4
  | @empty a e =>
    obtain rfl : u = Value.ref a := ru
    obtain ⟨_, ns, vs, kv, o, es, ep, h1, h2, h3, h4⟩ := (show ObjOk X.prog X.w H s.heap a (.dK []) from I.hok a _ e)
    cases kv
    have es0 : es.toList = [] := by
      obtain ⟨_, hp, _⟩ := h4
      generalize es.toList = l at hp
      cases hp
      rfl
    have rd : Reads s.heap (.ref a) (.dict []) (a :: [] ++ []) := Reads.dict h1 h2.1 h3 (by rw [es0]; exact .nil) (by rw [es0]; exact .nil)
    exact repr_of_reads' rd (by decide) (fun _ hm => by
      have : sysModules = a := by simpa using hm
      rw [this] at ns
      simp at ns) hg (by show X.A.units + (PyData.depth (.dict []) + 1) < cLine; have : PyData.depth (.dict []) ≤ 60 := by decide +kernel
                         omega) (fun _ _ e => e) (fun h' u tk hk => ⟨.str _, H, I.kept (t' := tk) hk, ⟨u, rfl⟩, q⟩) (by decide +kernel)
theorem dp_same {K : PySem.W.Frag} {H H' : Hp} (s : Same H H') : ∀ {v : V} {d : PyData}, Dp K H v d → Dp K H' v d := by
  have sq : ∀ {a xs}, SqT K H a xs → SqT K H' a xs := by
    intro a xs h
    rcases h with (h | ⟨o, h⟩) | h
    · exact .inl (.inl (s _ _ h))
    · exact .inl (.inr ⟨o, s _ _ h⟩)
    · exact .inr h
  intro v d h
  induction h using Dp.rec (motive_2 := fun vs ds _ => DpAll K H' vs ds) with
  | non => exact .non
  | bl b => exact .bl b
  | int i => exact .int i
  | str x => exact .str x
  | lst h1 _ ih => exact .lst (s.seq h1) ih
  | tup h1 _ ih => exact .tup (sq h1) ih
  | nil => exact .nil
  | cons _ _ i1 i2 => exact .cons i1 i2
theorem Shw.same {K : PySem.W.Frag} {H H' : Hp} (s : Same H H') {v : V} {z : Str} (h : Shw K H v z) : Shw K H' v z := by
  cases h with
  | data h h1 h2 h3 h4 => exact .data (dp_same s h) h1 h2 h3 h4
  | empty e => exact .empty (s _ _ e)
theorem Same.upd {H : Hp} {p : Addr} {o : HO} (h : H p = none) : Same H (upd H p o) := fun b u e => by rw [upd_ne (ne_of_none e h)]; exact e
end Lc
set_option Elab.async false
set_option linter.all false
set_option maxRecDepth 100000
set_option maxHeartbeats 4000000
namespace Lc
open PySem PySem.Spec PyProof.Rows L2
/-! ## The law's tape -/
def Tape (H : Hp) (t : Addr) : Prop := ∃ (l : Addr) (ns : List Int) (pos rest mix : Int), H t = some (.lst [.ref l, .int pos, .int rest, .int mix]) ∧ H l = some (.lst (ns.map V.int)) ∧ 0 ≤ pos ∧ 0 ≤ rest ∧ 0 ≤ mix ∧ mix < 2147483647
/-- all but what stands at t is as it was -/
def SameB (t : Addr) (H H' : Hp) : Prop := ∀ b o, b ≠ t → H b = some o → H' b = some o
theorem SameB.refl (t : Addr) (H : Hp) : SameB t H H := fun _ _ _ e => e
theorem SameB.trans {t : Addr} {H H1 H2 : Hp} (a : SameB t H H1) (b : SameB t H1 H2) : SameB t H H2 := fun c o n e => b c o n (a c o n e)
theorem Same.b {H H' : Hp} (t : Addr) (s : Same H H') : SameB t H H' := fun b o _ e => s b o e
theorem SameB.upd {t : Addr} {H : Hp} {o : HO} : SameB t H (upd H t o) := fun b u n e => by rw [upd_ne n]; exact e
theorem tape_ne {l t : Addr} {H : Hp} {ns : List Int} {vs : List V} (h1 : H t = some (.lst (.ref l :: vs))) (h2 : H l = some (.lst (ns.map V.int))) : l ≠ t := by
  refine ne_of h2 h1 fun z => ?_
  cases ns with
  | nil => injection z with z; cases z
  | cons n ns => injection z with z; injection z with z; cases z
theorem Tape.same {H H' : Hp} {t : Addr} (h : Tape H t) (s : Same H H') : Tape H' t := by
  obtain ⟨l, ns, pos, rest, mix, h1, h2, h3⟩ := h
  exact ⟨l, ns, pos, rest, mix, s _ _ h1, s _ _ h2, h3⟩
theorem cut_ints (ns : List Int) (lo hi : Option Int) : ∃ ms : List Int, cutV (ns.map V.int) lo hi = ms.map V.int := by
  unfold cutV
  rw [← List.map_drop, ← List.map_take]
  exact ⟨_, rfl⟩
def spTape (K : PySem.W.Frag) : Sp := fun vs H Q _ => ∃ (a : Addr) (ns : List Int), vs = [.ref a] ∧ SqL K H a (ns.map V.int) ∧ ∀ (t : Addr) (H' : Hp), Same H H' → H t = none → Tape H' t → Q (.ref t) H'
def spDraw : Sp := fun vs H Q _ => ∃ (t : Addr) (many : Int), vs = [.ref t, .int many] ∧ Tape H t ∧ 0 < many ∧ many.natAbs < 2 ^ 4000 ∧ ∀ (k : Int) (H' : Hp), 0 ≤ k → k < many → Tape H' t → SameB t H H' → Q (.int k) H'
def New2' (H : Hp) (Q : VK) (n d : Int) : Prop := ∀ p, H p = none → Q (.ref p) (upd H p (.tup [.int n, .int d]))
def spLowest : Sp := fun vs H Q _ => ∃ n d : Int, vs = [.int n, .int d] ∧ 0 < d ∧ d.natAbs < 2 ^ 4000 ∧ New2' H Q (lowN n d) (lowD n d)
def spRational : Sp := fun vs H Q _ => ∃ (t : Addr) (b : Bool), vs = [.ref t, .bl b] ∧ Tape H t ∧ ∀ (p : Addr) (n d : Int) (H' : Hp), Rt n d → n.natAbs < 2 ^ 140 → d.natAbs < 2 ^ 140 → H' p = some (.tup [.int n, .int d]) → H p = none → Tape H' t → SameB t H H' → Q (.ref p) H'
theorem log_lt' {n : Int} (h : n.natAbs < 2 ^ 4000) : n.natAbs.log2 < 9000 := by
  by_cases z : n.natAbs = 0
  · rw [z]
    decide
  · exact Nat.lt_of_lt_of_le ((Nat.log2_lt z).mpr h) (by decide)
end Lc
namespace Lc
open PySem PySem.Spec PyProof.Rows L2
theorem SameB.free {t p : Addr} {H H' : Hp} (s : SameB t H H') (h : Tape H' t) (e : H' p = none) : H p = none := by
  cases q : H p with
  | none => rfl
  | some o =>
    by_cases z : p = t
    · subst z
      obtain ⟨_, _, _, _, _, h1, _⟩ := h
      rw [h1] at e
      cases e
    · rw [s p o z q] at e
      cases e
theorem Tape.ne {t p : Addr} {H : Hp} (h : Tape H t) (e : H p = none) : p ≠ t := by
  intro z
  subst z
  obtain ⟨_, _, _, _, _, h1, _⟩ := h
  rw [h1] at e
  cases e
theorem Tape.neT {t p : Addr} {H : Hp} {xs : List V} (h : Tape H t) (e : H p = some (.tup xs)) : p ≠ t := by
  intro z
  subst z
  obtain ⟨_, _, _, _, _, h1, _⟩ := h
  rw [h1] at e
  cases e
theorem p18 : (10 : Int) ^ (18 : Int).toNat = 1000000000000000000 := by decide
theorem p40 : (10 : Int) ^ (40 : Int).toNat = 10000000000000000000000000000000000000000 := by decide
end Lc
namespace Lc
open PySem PySem.Spec PyProof.Rows L2
/-- the tape, its list at l -/
def TapeL (l : Addr) (H : Hp) (t : Addr) : Prop := ∃ (ns : List Int) (pos rest mix : Int), H t = some (.lst [.ref l, .int pos, .int rest, .int mix]) ∧ H l = some (.lst (ns.map V.int)) ∧ 0 ≤ pos ∧ 0 ≤ rest ∧ 0 ≤ mix ∧ mix < 2147483647
theorem TapeL.tape {l : Addr} {H : Hp} {t : Addr} (h : TapeL l H t) : Tape H t := ⟨l, h⟩
theorem TapeL.same {l : Addr} {H H' : Hp} {t : Addr} (h : TapeL l H t) (s : Same H H') : TapeL l H' t := by
  obtain ⟨ns, pos, rest, mix, h1, h2, h3⟩ := h
  exact ⟨ns, pos, rest, mix, s _ _ h1, s _ _ h2, h3⟩
theorem TapeL.list {l : Addr} {H : Hp} {t : Addr} (h : TapeL l H t) : ∃ xs, H l = some (.lst xs) := by
  obtain ⟨ns, pos, rest, mix, h1, h2, h3⟩ := h
  exact ⟨_, h2⟩
/-- another object is written -/
theorem TapeL.upd {l : Addr} {H : Hp} {t a : Addr} {o : HO} (h : TapeL l H t) (n1 : a ≠ t) (n2 : a ≠ l) : TapeL l (upd H a o) t := by
  obtain ⟨ns, pos, rest, mix, h1, h2, h3⟩ := h
  exact ⟨ns, pos, rest, mix, by rw [upd_ne (Ne.symm n1)]; exact h1, by rw [upd_ne (Ne.symm n2)]; exact h2, h3⟩
def spDrawL : Sp := fun vs H Q _ => ∃ (t l : Addr) (many : Int), vs = [.ref t, .int many] ∧ TapeL l H t ∧ 0 < many ∧ many.natAbs < 2 ^ 4000 ∧ ∀ (k : Int) (H' : Hp), 0 ≤ k → k < many → TapeL l H' t → SameB t H H' → Q (.int k) H'
theorem fn_weak {P : Program} {w : World} {K : PySem.W.Frag} {mg : Str → Option Value} {base : Heap} {CX : CXT} {k : Nat} {f : Addr} {fd : FuncData} {ps : List Str} {sp sp' : Sp} (h : ∀ vs H Q E, sp vs H Q E → sp' vs H Q E) (F : FnOk P w K mg base CX k f fd ps sp') : FnOk P w K mg base CX k f fd ps sp :=
  ⟨fun vs H Q E z => F.len vs H Q E (h vs H Q E z), fun A outer s H args us vs Q E a b c d z => F.run A outer s H args us vs Q E a b c d (h vs H Q E z)⟩
theorem draw_weak {vs : List V} {H : Hp} {Q : VK} {E : XK} (h : spDraw vs H Q E) : spDrawL vs H Q E := by
  obtain ⟨t, m, e, ⟨l, hT⟩, h1, h2, k⟩ := h
  exact ⟨t, l, m, e, hT, h1, h2, fun k1 H' a b c d => k k1 H' a b c.tape d⟩
end Lc
set_option Elab.async false
set_option linter.all false
set_option maxRecDepth 100000
set_option maxHeartbeats 4000000
namespace Lc
open PySem PySem.Spec PyProof.Rows L2
/-- names of built-ins that no text binds -/
structure Bt (mg : Str → Option Value) : Prop where
  isi : mg "isinstance" = none
  int : mg "int" = none
  bool : mg "bool" = none
  str : mg "str" = none
  tuple : mg "tuple" = none
  list : mg "list" = none
  dict : mg "dict" = none
  len : mg "len" = none
  abs : mg "abs" = none
  min : mg "min" = none
  all : mg "all" = none
  repr : mg "repr" = none
  range : mg "range" = none
  enum : mg "enumerate" = none
  ve : mg "ValueError" = none
  zd : mg "ZeroDivisionError" = none
  ie : mg "IndexError" = none
  oe : mg "OverflowError" = none
def btNames : List Str := ["isinstance", "int", "bool", "str", "tuple", "list", "dict", "len", "abs", "min", "all", "repr", "range", "enumerate", "ValueError", "ZeroDivisionError", "IndexError", "OverflowError"]
/-! ## x is True, x any value -/
def rIsBA : R2 := fun x y H Q => ∃ b : Bool, y = .bl b ∧ Q (.bl (decide (x = .bl b))) H
theorem op_isBA {X : Cx} : OpR X (compareOp .Is) rIsBA := by
  intro pins s σ H x y v u Q I rx ry h
  obtain ⟨b, rfl, q⟩ := h
  cases (show u = Value.bool b from ry)
  have key : plainIs v (.bool b) = true ∧ (v == Value.bool b) = decide (x = .bl b) := by
    cases x with
    | non => cases (show v = Value.none from rx); exact ⟨rfl, by cases b <;> rfl⟩
    | bl c => cases (show v = Value.bool c from rx); exact ⟨rfl, by cases b <;> cases c <;> rfl⟩
    | int i => obtain ⟨t, rfl⟩ := (show ∃ t, v = Value.int i t from rx); exact ⟨rfl, by cases b <;> rfl⟩
    | str i => obtain ⟨t, rfl⟩ := (show ∃ t, v = Value.str i t from rx); exact ⟨rfl, by cases b <;> rfl⟩
    | byt i => obtain ⟨t, rfl⟩ := (show ∃ t, v = Value.bytes i t from rx); exact ⟨rfl, by cases b <;> rfl⟩
    | flt i => obtain ⟨t, rfl⟩ := (show ∃ t, v = Value.float i t from rx); exact ⟨rfl, by cases b <;> rfl⟩
    | ref a => cases (show v = Value.ref a from rx); exact ⟨rfl, by cases b <;> rfl⟩
    | ty n => cases (show v = Value.type n from rx); exact ⟨rfl, by cases b <;> rfl⟩
  refine wpAny_is_plain key.1 ?_
  rw [key.2]
  exact ⟨.bl _, H, I, rfl, q⟩
/-! ## Texts of few signs -/
structure Sh (n : Nat) (x : Str) : Prop where
  len : x.cps.toList.length ≤ n
  ok : ∀ c ∈ x.cps.toList, c < 1114112
theorem Sh.mono {n m : Nat} {x : Str} (h : Sh n x) (l : n ≤ m) : Sh m x := ⟨Nat.le_trans h.len l, h.ok⟩
theorem Sh.line {n : Nat} {x : Str} (h : Sh n x) (l : n ≤ 1000) : x.length ≤ sizeLine := by
  have : x.length = x.cps.toList.length := by show x.cps.size = _; simp
  rw [this]
  exact Nat.le_trans h.len (Nat.le_trans l (by decide))
theorem sh_app {n m : Nat} {x y : Str} (h : Sh n x) (g : Sh m y) : Sh (n + m) (x ++ y) := by
  have e : (x ++ y).cps.toList = x.cps.toList ++ y.cps.toList := by
    show (x.cps ++ y.cps).toList = _
    simp
  refine ⟨?_, fun c hc => ?_⟩
  · rw [e, List.length_append]
    exact Nat.add_le_add h.len g.len
  · rw [e] at hc
    rcases List.mem_append.mp hc with hc | hc
    · exact h.ok c hc
    · exact g.ok c hc
theorem sh_one {c : Nat} (h : c < 1114112) : Sh 1 ⟨#[c]⟩ := ⟨Nat.le_refl _, fun d hd => by
  have : d = c := by simpa using hd
  rw [this]
  exact h⟩
theorem sh_sub {n : Nat} {x : Str} {l : List Nat} (h : Sh n x) (s : l.Sublist x.cps.toList) : Sh n ⟨l.toArray⟩ := by
  refine ⟨?_, fun c hc => ?_⟩
  · show l.toArray.toList.length ≤ n
    exact Nat.le_trans s.length_le h.len
  · exact h.ok c (s.subset (by simpa using hc))
theorem sh_cut {n : Nat} {x : Str} (lo hi : Option Int) (h : Sh n x) : Sh n (cutS x lo hi) := sh_sub h ((List.take_sublist _ _).trans (List.drop_sublist _ _))
theorem foldl_app : ∀ (l : List (Array Nat)) (a : Array Nat), (l.foldl (· ++ ·) a).toList = a.toList ++ (l.map Array.toList).flatten
  | [], a => by simp
  | b :: l, a => by
    show ((l.foldl (· ++ ·) (a ++ b))).toList = _
    rw [foldl_app l (a ++ b)]
    simp [List.append_assoc]
theorem sh_mul {x : Str} {n k : Nat} {i : Int} (h : Sh n x) (hi : i.toNat ≤ k) (hn : n ≤ 1) : Sh k (Txt.mul x i) := by
  unfold Txt.mul
  by_cases h1 : i < 1
  · rw [if_pos h1]
    exact ⟨Nat.zero_le _, fun c hc => by cases (by simpa [Str.empty] using hc : c ∈ ([] : List Nat))⟩
  · rw [if_neg h1]
    by_cases h2 : (i == 1 || x.length == 0) = true
    · rw [if_pos h2]
      exact h.mono (by omega)
    · rw [if_neg h2]
      have e : ((List.replicate i.toNat x.cps).foldl (· ++ ·) #[]).toList = (List.replicate i.toNat x.cps.toList).flatten := by
        rw [foldl_app]
        simp
      refine ⟨?_, fun c hc => ?_⟩
      · show ((List.replicate i.toNat x.cps).foldl (· ++ ·) #[]).toList.length ≤ k
        rw [e, List.length_flatten]
        have : ((List.replicate i.toNat x.cps.toList).map List.length).sum ≤ i.toNat * 1 := by
          have key : ∀ m : Nat, ((List.replicate m x.cps.toList).map List.length).sum ≤ m * 1 := by
            intro m
            induction m with
            | zero => simp
            | succ m ih =>
              rw [List.replicate_succ, List.map_cons, List.sum_cons]
              have := Nat.le_trans h.len hn
              omega
          exact key _
        omega
      · have hc : c ∈ ((List.replicate i.toNat x.cps).foldl (· ++ ·) #[]).toList := hc
        rw [e] at hc
        obtain ⟨l, hl, hcl⟩ := List.mem_flatten.mp hc
        rw [List.eq_of_mem_replicate hl] at hcl
        exact h.ok c hcl
theorem mul_ok {x : Str} {i : Int} (h : x.cps.size ≤ 1) (h2 : i < 1000) (h3 : -1000 < i) : MulOk x i := by
  have hx : x.length ≤ 1 := h
  refine ⟨by simp; omega, fun h1 _ => ?_, fun h1 _ => ?_⟩
  · have : (2 ^ 63 - 1 : Int) / i ≥ 1 := by
      have : (1 : Int) * i ≤ 2 ^ 63 - 1 := by omega
      exact (Int.le_ediv_iff_mul_le (by omega)).mpr this
    omega
  · unfold Builtin.Str.tooLong
    have : x.length * i.toNat ≤ 1000 := by
      have : x.length * i.toNat ≤ 1 * i.toNat := Nat.mul_le_mul_right _ hx
      omega
    have : ¬ (x.length * i.toNat > sizeLine) := by
      have : (1000 : Nat) ≤ sizeLine := by decide
      omega
    simpa using this
def rMulS : R2 := fun x y H Q => ∃ (z : Str) (i : Int), x = .str z ∧ y = .int i ∧ MulOk z i ∧ Q (.str (Txt.mul z i)) H
theorem op_mulS {X : Cx} : OpR X (binaryOp .Mult) rMulS := by
  intro pins s σ H x y v u Q I rx ry h
  obtain ⟨z, i, rfl, rfl, ok, q⟩ := h
  obtain ⟨t, rfl⟩ := (show ∃ t, v = Value.str z t from rx)
  obtain ⟨t2, rfl⟩ := (show ∃ t, u = Value.int i t from ry)
  exact SB.mul ok fun t' k => ⟨.str _, H, I.tok _, ⟨_, rfl⟩, q⟩
theorem glued_sh : ∀ (ys : List Str), (∀ y ∈ ys, Sh 1 y) → Sh ys.length (Str.join Str.empty ys)
  | [], _ => ⟨Nat.le_refl _, fun c hc => by cases (by simpa [Str.join, Str.empty] using hc : c ∈ ([] : List Nat))⟩
  | [x], h => h x List.mem_cons_self
  | x :: y :: r, h => by
    have ih := glued_sh (y :: r) fun z hz => h z (List.mem_cons_of_mem _ hz)
    have e : Str.join Str.empty (x :: y :: r) = x ++ Str.empty ++ Str.join Str.empty (y :: r) := rfl
    rw [e]
    have s0 : Sh 0 Str.empty := ⟨Nat.le_refl _, fun c hc => by cases (by simpa [Str.empty] using hc : c ∈ ([] : List Nat))⟩
    exact (sh_app (sh_app (h x List.mem_cons_self) s0) ih).mono (by simp; omega)
/-! ## repr of a short text, of a bounded number -/
theorem shw_text {K : PySem.W.Frag} {H : Hp} {n : Nat} {x : Str} (h : Sh n x) (l : n ≤ 1000) : Shw K H (.str x) (PyData.str x).shown := by
  refine .data (.str x) rfl rfl (by simp [PyData.depth]) ?_
  show (reprText x).length ≤ sizeLine
  have := StrLaws.reprText_len x (fun c hc => Nat.lt_trans (h.ok c hc) (by decide))
  have e : x.length = x.cps.toList.length := by show x.cps.size = _; simp
  have := h.len
  have : (10002 : Nat) ≤ sizeLine := by decide
  omega
theorem num_len {i : Int} (h : i.natAbs < 2 ^ 1000) : (PyData.int i).showable = true ∧ (PyData.int i).shown.length ≤ 1921 := by
  have l : i.natAbs.log2 < 1920 := by
    by_cases z : i.natAbs = 0
    · rw [z]
      decide
    · exact Nat.lt_of_lt_of_le ((Nat.log2_lt z).mpr h) (by decide)
  exact ⟨decide_eq_true l, int_text_len_1921 l⟩
end Lc
namespace Lc
open PySem PySem.Spec PyProof.Rows L2
/-! ## Names -/
def letters : Str := "abcdefghijklmnopqrstuvwxyz"
def signs : Str := "abcdefghijklmnopqrstuvwxyz0123456789"
def inS (c : Nat) : Bool := decide (c ∈ signs.cps.toList)
def inL (c : Nat) : Bool := decide (c ∈ letters.cps.toList)
def nameL : List Nat → Bool
  | [] => false
  | c :: r => decide ((c :: r).length ≤ 12) && (inL c && (c :: r).all inS)
def nameB : V → Bool
  | .str x => nameL x.cps.toList
  | _ => false
abbrev rInS : R2 := fun x y H Q => ∃ (c : Nat) (z : Str), x = .str ⟨#[c]⟩ ∧ y = .str z ∧ Q (.bl (decide (c ∈ z.cps.toList))) H
def spName : Sp := fun vs H Q _ => ∃ (v : V) (t : String), vs = [v] ∧ TyN H v t ∧ (∀ x, v = .str x → x.length ≤ sizeLine) ∧ ∀ H', Same H H' → Q (.bl (nameB v)) H'
def spLName : Sp := fun vs H Q _ => ∃ t : Addr, vs = [.ref t] ∧ Tape H t ∧ ∀ (x : Str) (H' : Hp), Sh 12 x → Tape H' t → SameB t H H' → Q (.str x) H'
theorem lenL (x : Str) : x.length = x.cps.toList.length := by show x.cps.size = _; simp
theorem nil_of {x : Str} (h : x.cps.toList = []) : x = ⟨#[]⟩ := by
  obtain ⟨⟨l⟩⟩ := x
  have : l = [] := h
  rw [this]
theorem dec_empty (x : Str) : decide (V.str x = V.str "") = decide (x.cps.toList = []) := by
  rw [Bool.eq_iff_iff, decide_eq_true_iff, decide_eq_true_iff]
  constructor
  · intro h
    injection h with h
    rw [h]
    rfl
  · intro h
    rw [nil_of h]
    rfl
theorem name_nil {x : Str} (h : x.cps.toList = []) : nameB (.str x) = false := by
  show nameL x.cps.toList = false
  rw [h]
  rfl
theorem name_long {x : Str} (h : ¬ x.cps.toList.length ≤ 12) : nameB (.str x) = false := by
  show nameL x.cps.toList = false
  cases e : x.cps.toList with
  | nil => rfl
  | cons c r =>
    rw [e] at h
    show (decide ((c :: r).length ≤ 12) && _) = false
    rw [decide_eq_false h]
    rfl
theorem name_is {x : Str} {c : Nat} {r : List Nat} (e : x.cps.toList = c :: r) (h : x.cps.toList.length ≤ 12) : nameB (.str x) = (inL c && (c :: r).all inS) := by
  show nameL x.cps.toList = _
  rw [e] at h ⊢
  show (decide ((c :: r).length ≤ 12) && _) = _
  rw [decide_eq_true h]
  rfl
/-- the list of a comprehension over a text's signs, as it grows -/
theorem grow {x : Str} {i : Nat} {c : Nat} (h : x.cps[i]? = some c) (p : Nat → Bool) : (x.cps.toList.take i).map (fun c => V.bl (p c)) ++ [V.bl (p c)] = (x.cps.toList.take (i + 1)).map fun c => V.bl (p c) := by
  have h2 : x.cps.toList[i]? = some c := by rw [Array.getElem?_toList]; exact h
  rw [List.take_succ, h2, List.map_append]
  rfl
end Lc
namespace Lc
open PySem PySem.Spec PyProof.Rows L2
theorem cut26 : cutS signs none (some 26) = letters := by decide +kernel
theorem signs_ok : ∀ c ∈ signs.cps.toList, c < 1114112 := by decide +kernel
theorem signs_len : signs.cps.toList.length = 36 := by decide +kernel
theorem at_text {l : List Nat} {i : Int} (h0 : 0 ≤ i) (h1 : i < (l.length : Int)) : ∃ c, atI l i = some c ∧ c ∈ l := by
  obtain ⟨n, rfl⟩ : ∃ n : Nat, i = (n : Int) := ⟨i.toNat, by omega⟩
  have h : n < l.length := by omega
  exact ⟨l[n], atI_nat (List.getElem?_eq_getElem h), List.getElem_mem h⟩
theorem big1000 {z : Int} (h1 : 0 ≤ z) (h2 : z ≤ 1000) : z.natAbs < 2 ^ 4000 := by
  have e : (2 : Nat) ^ 10 = 1024 := by decide
  exact Nat.lt_of_lt_of_le (show z.natAbs < 2 ^ 10 by omega) (Nat.pow_le_pow_right (by decide) (by decide))
theorem sh_a : Sh 1 (PySem.Str.ofString "a") := ⟨by decide +kernel, by decide +kernel⟩
theorem a_size : (PySem.Str.ofString "a").cps.size ≤ 1 := by decide +kernel
theorem sh_len {n : Nat} {x : Str} (h : Sh n x) : x.length ≤ n := by rw [lenL]; exact h.len
end Lc
namespace Lc
open PySem PySem.Spec PyProof.Rows L2
theorem join_sh (ys : List Str) (h : ∀ y ∈ ys, Sh 1 y) : Sh ys.length (Txt.join (PySem.Str.ofString "") ys) := by
  have e : Txt.join (PySem.Str.ofString "") ys = Str.join Str.empty ys := by
    exact (StrLaws.glued_eq_join (PySem.Str.ofString "") ys).trans rfl
  rw [e]
  exact glued_sh ys h
end Lc
set_option Elab.async false
set_option linter.all false
set_option maxRecDepth 100000
set_option maxHeartbeats 4000000
namespace Lc
open PySem PySem.Spec PyProof.Rows L2
/-! ## Flat values and what they are shown as -/
structure Fl (v : V) (d : PyData) (s : String) : Prop where
  dp : ∀ (K : PySem.W.Frag) (H : Hp), Dp K H v d
  ty : ∀ H : Hp, TyN H v s
  sh : d.showable = true
  nd : d.hasDict = false
  dz : d.depth = 0
  ln : d.shown.length ≤ 20000
theorem fl_non : Fl .non .none "NoneType" := ⟨fun _ _ => .non, fun _ => .non, rfl, rfl, rfl, by decide +kernel⟩
theorem fl_bl (b : Bool) : Fl (.bl b) (.bool b) "bool" := ⟨fun _ _ => .bl b, fun _ => .bl b, rfl, rfl, rfl, by cases b <;> decide +kernel⟩
theorem fl_int {i : Int} (h : i.natAbs < 2 ^ 1000) : Fl (.int i) (.int i) "int" := ⟨fun _ _ => .int i, fun _ => .int i, (num_len h).1, rfl, rfl, Nat.le_trans (num_len h).2 (by decide)⟩
theorem fl_str {x : Str} {n : Nat} (h : Sh n x) (l : n ≤ 1930) : Fl (.str x) (.str x) "str" := by
  refine ⟨fun _ _ => .str x, fun _ => .str x, rfl, rfl, rfl, ?_⟩
  show (reprText x).length ≤ 20000
  have := StrLaws.reprText_len x (fun c hc => Nat.lt_trans (h.ok c hc) (by decide))
  have e := lenL x
  have := h.len
  omega
theorem sh_string (s : String) : ∀ c ∈ (PySem.Str.ofString s).cps.toList, c < 1114112 := by
  intro c hc
  rw [Str.ofString_eq_toList] at hc
  have hc : c ∈ s.toList.map Char.toNat := by simpa using hc
  obtain ⟨ch, _, rfl⟩ := List.mem_map.mp hc
  have := ch.valid
  rcases this with h | ⟨_, h⟩
  · exact Nat.lt_trans h (by decide)
  · exact h
theorem sh_num {i : Int} (h : i.natAbs < 2 ^ 1000) : Sh 1921 (PySem.Str.ofString (toString i)) := ⟨by rw [← lenL]; exact (num_len h).2, sh_string _⟩
/-! ## Things: is it a number within the limit, how is it shown -/
def lim : Int := 10000000000000000000000000000000000000000
def limB : V → V → Bool
  | .int n, .int d => decide ((if n < 0 then -n else n) ≤ lim) && decide (d ≤ lim)
  | _, _ => false
def numB (x y : V) : Bool := ratB x y && limB x y
inductive Thing (H : Hp) : V → Bool → Prop
  | other {v : V} {t : String} (h : TyN H v t) (n : t ≠ "tuple") (l : ∀ x, v = .str x → x.length ≤ sizeLine) : Thing H v false
  | len {a : Addr} {xs : List V} (e : H a = some (.tup xs)) (n : xs.length ≠ 2) : Thing H (.ref a) false
  | pair {a : Addr} {x y : V} {tx ty : String} (e : H a = some (.tup [x, y])) (hx : TyN H x tx) (hy : TyN H y ty) : Thing H (.ref a) (numB x y)
theorem Thing.same {H H' : Hp} {v : V} {b : Bool} (h : Thing H v b) (s : Same H H') : Thing H' v b := by
  cases h with
  | other h n l => exact .other (h.same s) n l
  | len e n => exact .len (s _ _ e) n
  | pair e hx hy => exact .pair (s _ _ e) (hx.same s) (hy.same s)
theorem Thing.ty {H : Hp} {v : V} {b : Bool} (h : Thing H v b) : ∃ t, TyN H v t ∧ ∀ x, v = .str x → x.length ≤ sizeLine := by
  cases h with
  | other h n l => exact ⟨_, h, l⟩
  | len e n => exact ⟨_, .tup e, fun x z => nomatch z⟩
  | pair e hx hy => exact ⟨_, .tup e, fun x z => nomatch z⟩
/-- whatever is done to the tape at t -/
def Thg (K : PySem.W.Frag) (t : Addr) (H : Hp) (v : V) : Prop := ∃ (b : Bool) (z : Str), ∀ H', SameB t H H' → Thing H' v b ∧ Shw K H' v z
theorem thg_flat {K : PySem.W.Frag} {t : Addr} {H : Hp} {v : V} {d : PyData} {s : String} (h : Fl v d s) (n : s ≠ "tuple") (l : ∀ x, v = .str x → x.length ≤ sizeLine) : Thg K t H v :=
  ⟨false, d.shown, fun H' _ => ⟨.other (h.ty H') n l, .data (h.dp K H') h.sh h.nd (by rw [h.dz]; decide) (Nat.le_trans h.ln (by decide))⟩⟩
/-- the items of a display -/
inductive Fls : List V → List PyData → Prop
  | nil : Fls [] []
  | cons {v : V} {d : PyData} {s : String} {vs : List V} {ds : List PyData} (h : Fl v d s) (r : Fls vs ds) : Fls (v :: vs) (d :: ds)
theorem Fls.dps {K : PySem.W.Frag} {H : Hp} : ∀ {vs : List V} {ds : List PyData}, Fls vs ds → DpAll K H vs ds
  | _, _, .nil => .nil
  | _, _, .cons h r => .cons (h.dp K H) r.dps
theorem Fls.facts : ∀ {vs : List V} {ds : List PyData}, Fls vs ds → PyData.showableAll ds = true ∧ PyData.hasDictAll ds = false ∧ PyData.depthAll ds = 0 ∧ ((PyData.shownAll ds).map (·.length)).sum ≤ 20000 * ds.length ∧ (PyData.shownAll ds).length = ds.length ∧ ds.length = vs.length
  | _, _, .nil => ⟨rfl, rfl, rfl, by simp [PyData.shownAll], rfl, rfl⟩
  | _, _, .cons (d := d) (ds := ds) h r => by
    obtain ⟨h1, h2, h3, h4, h5, h6⟩ := r.facts
    refine ⟨?_, ?_, ?_, ?_, ?_, ?_⟩
    · simp [PyData.showableAll, h.sh, h1]
    · simp [PyData.hasDictAll, h.nd, h2]
    · simp [PyData.depthAll, h.dz, h3]
    · simp only [PyData.shownAll, List.map_cons, List.sum_cons, List.length_cons]
      have := h.ln
      omega
    · simp [PyData.shownAll, h5]
    · simp [h6]
theorem shw_tup {K : PySem.W.Frag} {H : Hp} {a : Addr} {vs : List V} {ds : List PyData} (e : H a = some (.tup vs)) (h : Fls vs ds) (l : vs.length ≤ 100) : Shw K H (.ref a) (PyData.tuple ds).shown := by
  obtain ⟨h1, h2, h3, h4, h5, h6⟩ := h.facts
  refine .data (.tup (SqT.of e) h.dps) (by simpa [PyData.showable] using h1) (by simpa [PyData.hasDict] using h2) (by simp [PyData.depth, h3]) ?_
  have := tupleText_len_le (PyData.shownAll ds)
  have s : (3000000 : Nat) ≤ sizeLine := by decide
  simp only [PyData.shown]
  omega
theorem shw_lst {K : PySem.W.Frag} {H : Hp} {a : Addr} {vs : List V} {ds : List PyData} (e : H a = some (.lst vs)) (h : Fls vs ds) (l : vs.length ≤ 100) : Shw K H (.ref a) (PyData.list ds).shown := by
  obtain ⟨h1, h2, h3, h4, h5, h6⟩ := h.facts
  refine .data (.lst (SqL.of e) h.dps) (by simpa [PyData.showable] using h1) (by simpa [PyData.hasDict] using h2) (by simp [PyData.depth, h3]) ?_
  have := listText_len_le (PyData.shownAll ds)
  have s : (3000000 : Nat) ≤ sizeLine := by decide
  simp only [PyData.shown]
  omega
theorem thg_tup {K : PySem.W.Frag} {t a : Addr} {H : Hp} {vs : List V} {ds : List PyData} (n : a ≠ t) (e : H a = some (.tup vs)) (h : Fls vs ds) (l : vs.length ≤ 100) : Thg K t H (.ref a) := by
  by_cases z : vs.length = 2
  · match vs, h, z with
    | [x, y], .cons h1 (.cons h2 .nil), _ => exact ⟨numB x y, _, fun H' s => ⟨.pair (s _ _ n e) (h1.ty H') (h2.ty H'), shw_tup (s _ _ n e) (.cons h1 (.cons h2 .nil)) (by show 2 ≤ 100; decide)⟩⟩
  · exact ⟨false, _, fun H' s => ⟨.len (s _ _ n e) z, shw_tup (s _ _ n e) h l⟩⟩
theorem thg_lst {K : PySem.W.Frag} {t a : Addr} {H : Hp} {vs : List V} {ds : List PyData} (n : a ≠ t) (e : H a = some (.lst vs)) (h : Fls vs ds) (l : vs.length ≤ 100) : Thg K t H (.ref a) :=
  ⟨false, _, fun H' s => ⟨.other (.lst (s _ _ n e)) (by decide) (fun x z => nomatch z), shw_lst (s _ _ n e) h l⟩⟩
theorem thg_dct {K : PySem.W.Frag} {t a : Addr} {H : Hp} (n : a ≠ t) (e : H a = some (.dK [])) : Thg K t H (.ref a) :=
  ⟨false, _, fun H' s => ⟨.other (.dct (s _ _ n e)) (by decide) (fun x z => nomatch z), .empty (s _ _ n e)⟩⟩
theorem Thg.sameB {K : PySem.W.Frag} {t : Addr} {H H' : Hp} {v : V} (h : Thg K t H v) (s : SameB t H H') : Thg K t H' v := by
  obtain ⟨b, z, k⟩ := h
  exact ⟨b, z, fun H2 s2 => k H2 (s.trans s2)⟩
theorem thg_str {K : PySem.W.Frag} {t : Addr} {H : Hp} {n : Nat} {x : Str} (h : Sh n x) (l : n ≤ 1930) : Thg K t H (.str x) :=
  thg_flat (fl_str h l) (by decide) fun y e => by
    injection e with e
    subst e
    rw [lenL]
    exact Nat.le_trans h.len (Nat.le_trans l (by decide))
end Lc
namespace Lc
open PySem PySem.Spec PyProof.Rows L2
theorem ratB_ints {x y : V} (h : ratB x y = true) : ∃ n d : Int, x = .int n ∧ y = .int d ∧ 0 < d ∧ gd n d = 1 := by
  cases x with
  | int n =>
    cases y with
    | int d =>
      have h' : (decide (0 < d) && decide (gd n d = 1)) = true := h
      obtain ⟨h1, h2⟩ := Bool.and_eq_true_iff.mp h'
      exact ⟨n, d, rfl, rfl, of_decide_eq_true h1, of_decide_eq_true h2⟩
    | _ => cases h
  | _ => cases y <;> cases h
end Lc
namespace Lc
open PySem PySem.Spec PyProof.Rows L2
/-! ## A word behind an expression: what follows is shown once -/
def tMid (te : TE) : TE := fun σ H Q => ∃ M : V → Hp → Prop, te σ H M ∧ ∀ v H', M v H' → Q v H'
theorem pe_mid {X : Cx} {e : Expr} {te : TE} (h : PE X e te) : PE X e (tMid te) := by
  refine ⟨fun pins s σ H Q I hq => ?_⟩
  obtain ⟨M, h1, h2⟩ := hq
  exact thn (h.run pins s σ H M I h1) fun u s1 ⟨v, H1, I1, r, q⟩ => ⟨v, H1, I1, r, h2 v H1 q⟩
end Lc
set_option Elab.async false
set_option linter.all false
set_option maxRecDepth 100000
set_option maxHeartbeats 4000000
namespace Lc
open PySem PySem.Spec PyProof.Rows L2 PySem.NumText
/-! ## Digits -/
def digs (m : Nat) : List Nat := (Nat.toDigits 10 m).map Char.toNat
theorem digs_small {m : Nat} (h : m < 10) : digs m = [48 + m] := by
  unfold digs
  rw [Nat.toDigits_of_lt_base h]
  have : ∀ k < 10, (Nat.digitChar k).toNat = 48 + k := by decide
  show [(Nat.digitChar m).toNat] = _
  rw [this m h]
theorem digs_big {m : Nat} (h : 10 ≤ m) : digs m = digs (m / 10) ++ [48 + m % 10] := by
  have hm : m % 10 < 10 := Nat.mod_lt m (by decide)
  have t : Nat.toDigits 10 (m / 10) ++ Nat.toDigits 10 (m % 10) = Nat.toDigits 10 (10 * (m / 10) + m % 10) := Nat.toDigits_append_toDigits (by decide) (by omega) hm
  rw [Nat.div_add_mod] at t
  have e := digs_small hm
  unfold digs at e ⊢
  rw [← t, List.map_append, e]
theorem digs_val (m : Nat) : digitsVal (digs m) = m := W.KIN.val_back m
theorem digs_all : ∀ m, AllDigits (digs m) := by
  intro m
  induction m using Nat.strongRecOn with
  | _ m ih =>
    by_cases h : m < 10
    · rw [digs_small h]
      intro c hc
      have : c = 48 + m := by simpa using hc
      omega
    · rw [digs_big (by omega)]
      intro c hc
      rcases List.mem_append.mp hc with hc | hc
      · exact ih (m / 10) (by omega) c hc
      · have : c = 48 + m % 10 := by simpa using hc
        omega
theorem digs_head : ∀ m, ∃ c r, digs m = c :: r ∧ (c = 48 → r = []) := by
  intro m
  have key : ∀ m, ∃ c r, digs m = c :: r ∧ (0 < m → 49 ≤ c) := by
    intro m
    induction m using Nat.strongRecOn with
    | _ m ih =>
      by_cases h : m < 10
      · exact ⟨48 + m, [], digs_small h, fun _ => by omega⟩
      · obtain ⟨c, r, e, g⟩ := ih (m / 10) (by omega)
        refine ⟨c, r ++ [48 + m % 10], ?_, fun _ => g (by omega)⟩
        rw [digs_big (by omega), e]
        rfl
  by_cases z : m = 0
  · exact ⟨48, [], by rw [z]; exact digs_small (by decide), fun _ => rfl⟩
  · obtain ⟨c, r, e, g⟩ := key m
    exact ⟨c, r, e, fun h => by have := g (by omega); omega⟩
theorem digs_len : ∀ (p m : Nat), 0 < p → m < 10 ^ p → (digs m).length ≤ p := by
  intro p
  induction p with
  | zero => intro m h; omega
  | succ p ih =>
    intro m _ h
    by_cases z : m < 10
    · rw [digs_small z]
      simp
    · rw [digs_big (by omega), List.length_append]
      have hp : 0 < p := by
        cases p with
        | zero => omega
        | succ q => omega
      have : m / 10 < 10 ^ p := by
        rw [Nat.div_lt_iff_lt_mul (by decide)]
        rw [Nat.pow_succ] at h
        exact h
      have := ih (m / 10) hp this
      simp only [List.length_cons, List.length_nil]
      omega
def zf (p r : Nat) : List Nat := List.replicate (p - (digs r).length) 48 ++ digs r
theorem zf_len {p r : Nat} (hp : 0 < p) (h : r < 10 ^ p) : (zf p r).length = p := by
  have := digs_len p r hp h
  unfold zf
  rw [List.length_append, List.length_replicate]
  omega
theorem zf_all (p r : Nat) : AllDigits (zf p r) := by
  intro c hc
  rcases List.mem_append.mp hc with hc | hc
  · have := List.eq_of_mem_replicate hc
    omega
  · exact digs_all r c hc
theorem val_from (l : List Nat) : ∀ a : Nat, l.foldl (fun acc c => acc * 10 + (c - 48)) a = a * 10 ^ l.length + digitsVal l := by
  induction l with
  | nil => intro a; simp [digitsVal]
  | cons c l ih =>
    intro a
    show l.foldl _ (a * 10 + (c - 48)) = _
    have e2 : digitsVal (c :: l) = l.foldl (fun acc c => acc * 10 + (c - 48)) (0 * 10 + (c - 48)) := rfl
    rw [ih, e2, ih, List.length_cons, Nat.pow_succ, Nat.zero_mul, Nat.zero_add, Nat.add_mul, Nat.mul_assoc, Nat.mul_comm 10]
    omega
theorem val_app (a b : List Nat) : digitsVal (a ++ b) = digitsVal a * 10 ^ b.length + digitsVal b := by
  unfold digitsVal
  rw [List.foldl_append]
  exact val_from b _
theorem val_zeros (k : Nat) : digitsVal (List.replicate k 48) = 0 := by
  induction k with
  | zero => rfl
  | succ k ih =>
    rw [List.replicate_succ, digitsVal_zero]
    exact ih
theorem zf_val (p r : Nat) : digitsVal (zf p r) = r := by
  unfold zf
  rw [val_app, val_zeros, digs_val]
  omega
/-! ## A text cut at the point -/
def jl : List (List Nat) → List Nat
  | [] => []
  | [x] => x
  | x :: y :: r => x ++ 46 :: jl (y :: r)
theorem cut_eq : ∀ {a b x y : List Nat}, 46 ∉ a → 46 ∉ b → a ++ 46 :: x = b ++ 46 :: y → a = b ∧ x = y
  | [], [], _, _, _, _, e => ⟨rfl, (List.cons.inj e).2⟩
  | [], c :: b, _, _, _, hb, e => absurd (List.cons.inj e).1 (fun z => hb (by rw [z]; exact List.mem_cons_self))
  | c :: a, [], _, _, ha, _, e => absurd (List.cons.inj e).1.symm (fun z => ha (by rw [z]; exact List.mem_cons_self))
  | c :: a, d :: b, x, y, ha, hb, e => by
    obtain ⟨e1, e2⟩ := List.cons.inj e
    obtain ⟨h1, h2⟩ := cut_eq (fun z => ha (List.mem_cons_of_mem _ z)) (fun z => hb (List.mem_cons_of_mem _ z)) e2
    exact ⟨by rw [e1, h1], h2⟩
theorem jl_one {ps : List (List Nat)} {a : List Nat} (hne : a ≠ []) (ha : 46 ∉ a) (e : jl ps = a) : ps = [a] := by
  match ps, e with
  | [], e => exact absurd e.symm hne
  | [x], e => rw [← show x = a from e]
  | x :: y :: r, e => exact absurd (by rw [← show x ++ 46 :: jl (y :: r) = a from e]; simp) ha
theorem jl_two {ps : List (List Nat)} {a b : List Nat} (hf : ∀ p ∈ ps, 46 ∉ p) (ha : 46 ∉ a) (hb : 46 ∉ b) (hne : b ≠ []) (e : jl ps = a ++ 46 :: b) : ps = [a, b] := by
  match ps, hf, e with
  | [], _, e => exact absurd e (by simp [jl])
  | [x], hf, e => exact absurd (by rw [show x = a ++ 46 :: b from e]; simp) (hf x List.mem_cons_self)
  | x :: y :: r, hf, e =>
    obtain ⟨h1, h2⟩ := cut_eq (hf x List.mem_cons_self) ha (show x ++ 46 :: jl (y :: r) = a ++ 46 :: b from e)
    rw [h1, jl_one hne hb h2]
theorem toL_join : ∀ ps : List Str, (Str.join ⟨#[46]⟩ ps).cps.toList = jl (ps.map fun p => p.cps.toList)
  | [] => rfl
  | [x] => rfl
  | x :: y :: r => by
    have ih := toL_join (y :: r)
    have e : Str.join ⟨#[46]⟩ (x :: y :: r) = x ++ ⟨#[46]⟩ ++ Str.join ⟨#[46]⟩ (y :: r) := rfl
    rw [e]
    show (x.cps ++ #[46] ++ (Str.join ⟨#[46]⟩ (y :: r)).cps).toList = _
    rw [Array.toList_append, Array.toList_append, ih]
    show x.cps.toList ++ [46] ++ jl (y.cps.toList :: r.map fun p => p.cps.toList) = x.cps.toList ++ 46 :: jl (y.cps.toList :: r.map fun p => p.cps.toList)
    rw [List.append_assoc]
    rfl
theorem dot_eq : PySem.Str.ofString "." = ⟨#[46]⟩ := by decide +kernel
theorem map_toL {ps : List Str} {ls : List (List Nat)} (h : ps.map (fun p => p.cps.toList) = ls) : ps = ls.map fun l => (⟨l.toArray⟩ : Str) := by
  rw [← h, List.map_map]
  have : ((fun l => (⟨l.toArray⟩ : Str)) ∘ fun p : Str => p.cps.toList) = id := by
    funext p
    obtain ⟨⟨l⟩⟩ := p
    rfl
  rw [this, List.map_id]
theorem split_jl (x : Str) : jl ((Txt.split x ⟨#[46]⟩).map fun p => p.cps.toList) = x.cps.toList := by
  rw [← toL_join, StrLaws.join_split]
theorem split_one {x : Str} (h : 46 ∉ x.cps.toList) (hne : x.cps.toList ≠ []) : Txt.split x ⟨#[46]⟩ = [x] := by
  have e := map_toL (jl_one hne h (split_jl x))
  rw [e]
  obtain ⟨⟨l⟩⟩ := x
  rfl
theorem split_two {x : Str} {a b : List Nat} (e : x.cps.toList = a ++ 46 :: b) (ha : 46 ∉ a) (hb : 46 ∉ b) (hne : b ≠ []) : Txt.split x ⟨#[46]⟩ = [⟨a.toArray⟩, ⟨b.toArray⟩] := by
  refine map_toL (jl_two (fun p hp => ?_) ha hb hne ((split_jl x).trans e))
  obtain ⟨q, hq, rfl⟩ := List.mem_map.mp hp
  exact StrLaws.split_free x 46 q hq
/-! ## Rounding -/
def ab (n : Int) : Int := if n < 0 then -n else n
def nu (n d s : Int) : Int := if n < 0 then -((2 * ab n * s + d) / (2 * d)) else (2 * ab n * s + d) / (2 * d)
theorem ab_nonneg (n : Int) : 0 ≤ ab n := by unfold ab; split <;> omega
theorem ab_nat (n : Int) : ab n = (n.natAbs : Int) := by unfold ab; split <;> omega
theorem nu_ab {n d s : Int} (hd : 0 < d) (hs : 0 < s) : ab (nu n d s) = (2 * ab n * s + d) / (2 * d) ∧ (nu n d s < 0 → n < 0) := by
  have h0 : 0 ≤ (2 * ab n * s + d) / (2 * d) := Int.ediv_nonneg (by have := Int.mul_nonneg (Int.mul_nonneg (by decide : (0:Int) ≤ 2) (ab_nonneg n)) (Int.le_of_lt hs); omega) (by omega)
  unfold nu
  generalize (2 * ab n * s + d) / (2 * d) = q at h0
  split
  · exact ⟨by unfold ab; split <;> omega, fun _ => by assumption⟩
  · exact ⟨by unfold ab; split <;> omega, fun h => by omega⟩
theorem nu_near {n d s : Int} (hd : 0 < d) (hs : 0 < s) : 2 * (ab (nu n d s) * d) ≤ 2 * (ab n * s) + d ∧ 2 * (ab n * s) < 2 * (ab (nu n d s) * d) + d := by
  rw [(nu_ab hd hs).1]
  have e := Int.mul_ediv_add_emod (2 * ab n * s + d) (2 * d)
  have r0 := Int.emod_nonneg (2 * ab n * s + d) (by omega : 2 * d ≠ 0)
  have r1 := Int.emod_lt_of_pos (2 * ab n * s + d) (by omega : 0 < 2 * d)
  generalize (2 * ab n * s + d) / (2 * d) = q at e
  generalize (2 * ab n * s + d) % (2 * d) = r at e r0 r1
  rw [Int.mul_assoc 2 d q, Int.mul_comm d q, Int.mul_assoc 2 (ab n) s] at e
  omega
/-- the same units again -/
theorem nu_again {u s a b : Int} (hs : 0 < s) (hb : 0 < b) (h : a * s = u * b) (hsg : (a < 0) ↔ (u < 0)) : nu a b s = u := by
  have e1 : ab a * s = ab u * b := by
    unfold ab
    by_cases z : a < 0
    · rw [if_pos z, if_pos (hsg.mp z), Int.neg_mul, Int.neg_mul, h]
    · rw [if_neg z, if_neg (fun q => z (hsg.mpr q)), h]
  have e2 : (2 * ab a * s + b) / (2 * b) = ab u := by
    have : 2 * ab a * s + b = b + 2 * b * ab u := by
      rw [Int.mul_assoc, e1, Int.mul_comm (ab u) b, ← Int.mul_assoc]
      omega
    rw [this, Int.add_mul_ediv_left _ _ (by omega : 2 * b ≠ 0), Int.ediv_eq_zero_of_lt (by omega) (by omega)]
    omega
  unfold nu
  rw [e2]
  unfold ab
  by_cases z : a < 0
  · rw [if_pos z, if_pos (hsg.mp z)]
    omega
  · rw [if_neg z, if_neg (fun q => z (hsg.mpr q))]
/-! ## What a decimal looks like -/
def tenP (p : Nat) : Nat := 10 ^ p
def decB (u : Int) (p : Nat) : List Nat := digs (u.natAbs / 10 ^ p) ++ (if p = 0 then [] else 46 :: zf p (u.natAbs % 10 ^ p))
def decL (u : Int) (p : Nat) : List Nat := (if u < 0 then [45] else []) ++ decB u p
end Lc
namespace Lc
open PySem PySem.Spec PyProof.Rows L2 PySem.NumText
theorem appL (x y : Str) : (x ++ y).cps.toList = x.cps.toList ++ y.cps.toList := by
  show (x.cps ++ y.cps).toList = _
  simp
theorem numL (m : Nat) : (PySem.Str.ofString (toString ((m : Nat) : Int))).cps.toList = digs m := W.KIN.signs_num m
theorem zfillL {a : Str} {k r : Nat} (h : a.cps.toList = digs r) : (Txt.zfill a (k : Int)).cps.toList = zf k r := by
  have ln : a.length = (digs r).length := by rw [lenL, h]
  unfold Txt.zfill
  by_cases z : (k : Int) ≤ a.length
  · rw [if_pos z, h]
    unfold zf
    rw [show k - (digs r).length = 0 by omega]
    rfl
  · rw [if_neg z]
    obtain ⟨c, rr, e, _⟩ := digs_head r
    have c0 : a.cps[0]? = some c := by
      rw [← Array.getElem?_toList, h, e]
      rfl
    have cd := digs_all r c (by rw [e]; exact List.mem_cons_self)
    have e2 : zfilled a ((k : Int).toNat - a.length) = Builtin.Str.padded a ((k : Int).toNat - a.length) 0 48 := by
      unfold zfilled
      rw [c0]
      split
      · rename_i q
        injection q with q
        omega
      · rename_i q
        injection q with q
        omega
      · rfl
    rw [e2]
    unfold Builtin.Str.padded zf
    show (Array.replicate ((k : Int).toNat - a.length) 48 ++ a.cps ++ Array.replicate 0 48).toList = _
    rw [Array.toList_append, Array.toList_append, Array.toList_replicate, Array.toList_replicate, h, ln]
    simp
theorem nu_le {n d s : Int} (hd : 0 < d) (hs : 0 < s) : ab (nu n d s) ≤ ab n * s := by
  have h := (nu_near (n := n) hd hs).1
  have N0 : 0 ≤ ab n * s := Int.mul_nonneg (ab_nonneg n) (Int.le_of_lt hs)
  generalize ab n * s = N at h N0
  generalize ab (nu n d s) = U at h
  rcases (by omega : N < U ∨ U ≤ N) with z | z
  · have a1 : (N + 1) * d ≤ U * d := Int.mul_le_mul_of_nonneg_right (by omega) (by omega)
    have a2 : N * 1 ≤ N * d := Int.mul_le_mul_of_nonneg_left (by omega) N0
    rw [Int.add_mul, Int.one_mul] at a1
    omega
  · exact z
inductive Pk (H : Hp) : V → Prop
  | ty {v : V} {t : String} (h : TyN H v t) (n : t ≠ "int") : Pk H v
  | out {k : Int} (h : k < 0 ∨ 9 < k) : Pk H (.int k)
theorem Pk.same {H H' : Hp} {v : V} (h : Pk H v) (s : Same H H') : Pk H' v := by
  cases h with
  | ty h n => exact .ty (h.same s) n
  | out h => exact .out h
theorem pad9 {k : Nat} (h : k ≤ 9) : PadOk (k : Int) = true := by
  have : ∀ k ≤ 9, PadOk ((k : Nat) : Int) = true := by decide +kernel
  exact this k h
theorem ten_pos (k : Nat) : (0 : Int) < 10 ^ k := Int.pow_pos (by decide)
theorem ten_small {k : Nat} (h : k ≤ 9) : ((10 : Int) ^ k).natAbs < 2 ^ 40 := by
  have : ∀ k ≤ 9, ((10 : Int) ^ k).natAbs < 2 ^ 40 := by decide +kernel
  exact this k h
end Lc
namespace Lc
open PySem PySem.Spec PyProof.Rows L2 PySem.NumText
theorem cut_first (x : Str) : (cutS x none (some 1)).cps.toList = x.cps.toList.take 1 := by
  have e : HT.sIx x.length 0 none = 0 := rfl
  have e2 : HT.sIx x.length x.length (some 1) = min 1 x.length := rfl
  unfold cutS
  rw [e, e2]
  show (x.cps.toList.drop 0).take (min 1 x.length - 0) = _
  rw [List.drop_zero, Nat.sub_zero, lenL]
  cases x.cps.toList with
  | nil => rfl
  | cons c r => simp
theorem cut_rest (x : Str) : (cutS x (some 1) none).cps.toList = x.cps.toList.drop 1 := by
  have e : HT.sIx x.length 0 (some 1) = min 1 x.length := rfl
  have e2 : HT.sIx x.length x.length none = x.length := rfl
  unfold cutS
  rw [e, e2]
  show (x.cps.toList.drop (min 1 x.length)).take (x.length - min 1 x.length) = _
  rw [lenL]
  cases x.cps.toList with
  | nil => rfl
  | cons c r => simp
theorem str_ext {x y : Str} (h : x.cps.toList = y.cps.toList) : x = y := by
  obtain ⟨⟨l⟩⟩ := x
  obtain ⟨⟨m⟩⟩ := y
  have : l = m := h
  rw [this]
theorem dec_head (u : Int) (k : Nat) : ∃ c r, decB u k = c :: r ∧ 48 ≤ c ∧ c ≤ 57 := by
  obtain ⟨c, r, e, _⟩ := digs_head (u.natAbs / 10 ^ k)
  have h := digs_all (u.natAbs / 10 ^ k) c (by rw [e]; exact List.mem_cons_self)
  exact ⟨c, _, by unfold decB; rw [e]; rfl, h.1, h.2⟩
theorem minus_is {x : Str} {u : Int} {k : Nat} (h : x.cps.toList = decL u k) : decide (V.str (cutS x none (some 1)) = V.str "-") = decide (u < 0) := by
  rw [Bool.eq_iff_iff, decide_eq_true_iff, decide_eq_true_iff]
  have e45 : (PySem.Str.ofString "-").cps.toList = [45] := by decide +kernel
  constructor
  · intro q
    injection q with q
    have z := cut_first x
    rw [q, h, e45] at z
    rcases (by omega : u < 0 ∨ ¬ u < 0) with g | g
    · exact g
    · obtain ⟨c, r, e, h1, h2⟩ := dec_head u k
      unfold decL at z
      rw [if_neg g, e] at z
      have : (45 : Nat) = c := by simpa using z
      omega
  · intro q
    have : cutS x none (some 1) = PySem.Str.ofString "-" := by
      apply str_ext
      rw [cut_first, h, e45]
      unfold decL
      rw [if_pos q]
      rfl
    rw [this]
theorem below_is {x : Str} {u : Int} {k : Nat} (h : x.cps.toList = decL u k) (n : u < 0) : (cutS x (some 1) none).cps.toList = decB u k := by
  rw [cut_rest, h]
  unfold decL
  rw [if_pos n]
  rfl
theorem digs_len_le {m : Nat} (h : m < 2 ^ 1100) : (digs m).length ≤ 1921 := by
  rw [← numL, ← lenL]
  refine int_text_len_1921 ?_
  rw [Int.natAbs_natCast]
  by_cases z : m = 0
  · rw [z]
    decide
  · exact Nat.lt_of_lt_of_le ((Nat.log2_lt z).mpr h) (by decide)
theorem decL_len {u : Int} {k : Nat} (h : u.natAbs < 2 ^ 1100) (k9 : k ≤ 9) : (decL u k).length ≤ 1940 ∧ (decB u k).length ≤ 1939 := by
  have h1 := digs_len_le (Nat.lt_of_le_of_lt (Nat.div_le_self u.natAbs (10 ^ k)) h)
  have h2 : (decB u k).length ≤ 1939 := by
    unfold decB
    rw [List.length_append]
    split
    · simp; omega
    · have := zf_len (p := k) (r := u.natAbs % 10 ^ k) (by omega) (Nat.mod_lt _ (Nat.pow_pos (by decide)))
      rw [List.length_cons, this]
      omega
  refine ⟨?_, h2⟩
  unfold decL
  rw [List.length_append]
  split
  · simp only [List.length_cons, List.length_nil]; omega
  · simp only [List.length_nil]; omega
theorem joinL_toL (ys : List Str) : (Txt.join (PySem.Str.ofString "") ys).cps.toList = (ys.map fun y => y.cps.toList).flatten := by
  have e : Txt.join (PySem.Str.ofString "") ys = Str.join Str.empty ys := (StrLaws.glued_eq_join (PySem.Str.ofString "") ys).trans rfl
  rw [e]
  have key : ∀ ys : List Str, (Str.join Str.empty ys).cps.toList = (ys.map fun y => y.cps.toList).flatten := by
    intro ys
    induction ys with
    | nil => rfl
    | cons x r ih =>
      cases r with
      | nil =>
        show x.cps.toList = _
        simp
      | cons y r =>
        have e : Str.join Str.empty (x :: y :: r) = x ++ Str.empty ++ Str.join Str.empty (y :: r) := rfl
        rw [e, appL, appL, ih]
        simp [Str.empty]
  exact key ys
def ten10 : Str := "0123456789"
theorem index_ten {c : Nat} (h : 48 ≤ c ∧ c ≤ 57) : Builtin.Str.occurrences ten10 ⟨#[c]⟩ 0 ten10.length 1 = [c - 48] := by
  have key : ∀ d < 10, Builtin.Str.occurrences ten10 ⟨#[48 + d]⟩ 0 ten10.length 1 = [d] := by decide +kernel
  have := key (c - 48) (by omega)
  rw [show 48 + (c - 48) = c by omega] at this
  exact this
theorem in_ten {c : Nat} (h : 48 ≤ c ∧ c ≤ 57) : decide (c ∈ ten10.cps.toList) = true := by
  have key : ∀ d < 10, decide (48 + d ∈ ten10.cps.toList) = true := by decide +kernel
  have := key (c - 48) (by omega)
  rw [show 48 + (c - 48) = c by omega] at this
  exact this
end Lc
set_option Elab.async false
set_option linter.all false
set_option maxRecDepth 100000
set_option maxHeartbeats 4000000
namespace Lc
open PySem PySem.Spec PyProof.Rows L2
/-! ## f(e, .., k = v, ..), f a local name that holds a def which may raise -/
def tCallLSN (i : Nat) (f : Addr) (n m : Nat) (sp : Sp) (gV : List V → List V → List V) (E : L2.St → XK) (t tk : TA) : TE := fun σ H Q => σ[i]? = some (some (.ref f)) ∧ t σ H fun vs H1 => tk σ H1 fun zs H2 => vs.length = n ∧ zs.length = m ∧ sp (gV vs zs) H2 Q (E σ)
section
variable {X : Cx} {CX : CXT} {k n i : Nat} {f : Addr} {fd : FuncData} {ps ks : List Str} {sp : Sp} {E : L2.St → XK} {x : Str} {p pos : Pos} {e : Expr} {es : List Expr} {kws : List Keyword} {t tk : TA} {g : List Value → List Value → List Value} {gV : List V → List V → List V}
theorem pe_callLSN (F : FnOk X.prog X.w X.K X.mg X.base CX k f fd ps sp) (hr : Room k X.A) (hN : X.N[i]? = some x) (hv : Vis X.env.scope x) (hk : PySem.W.keepIn X.K (.ref f) = true) (hb : KBn X.K fd ps n ks g gV) (hx : ∀ σ, PassesAt CX X σ (E σ)) (ha : PA X (e :: es) t) (hkw : PK X kws tk)
    (hall : (backToKw pos (keywordEach kws X.env)).all (·.1.isSome) = true := by rfl) (hks : (backToKw pos (keywordEach kws X.env)).filterMap (·.1) = ks := by rfl) (hdb : (x == ("__debug__" : Str)) = false := by decide) (hcd : (x == ("__classdict__" : Str)) = false := by decide)
    (he : starEach (e :: es) X.env = (false, eval e X.env) :: starEach es X.env := by rfl) (hpl : ((backTo pos (starEach (e :: es) X.env)).any (·.1) || (backToKw pos (keywordEach kws X.env)).any (·.1.isNone)) = false := by rfl) :
    PE X (.Call (.Name x p) (e :: es) kws pos) (tCallLSN i f n ks.length sp gV E t tk) := by
  refine ⟨fun pins s σ H Q I ⟨hs, ht⟩ => wpAny_Call_Name_kw (thn ((pe_var (pos := p) hN hv hdb hcd).run pins s σ H (fun v H1 => v = .ref f ∧ H1 = H) I ⟨.ref f, hs, rfl, rfl⟩) fun u s1 ⟨v, H1, I1, r1, e1, e2⟩ => ?_)⟩
  subst e1 e2
  obtain rfl : u = Value.ref f := r1
  refine PySem.W.callWith_KW (h₀ := X.base) I.ok.mod.kin hk hall (thn (ha.run pos pins s1 σ _ _ I1 ht) fun us s2 ⟨vs, H2, I2, r, q⟩ => ?_) hpl he
  refine thn (hkw.run pos pins s2 σ H2 _ I2 q) fun ws s3 ⟨zs, H3, I3, rz, l1, l2, q3⟩ => ⟨I3.kIn, ?_⟩
  rw [hks]
  have done := F.run X.A X.stack s3 H3 ⟨us, ks.zip ws⟩ (g us ws) (gV vs zs) Q (E σ) hr I3.env0 (hb.to s3 us ws I3.kIn (r.length.symm.trans l1) (rz.length.symm.trans l2)) (hb.rel r rz) q3
  refine wpAny_call (codeAny_mono done fun rr s' hq => ?_)
  match rr, hq with
  | .error er, hq => exact hx σ pins H3 s3 er s' I3 hq
  | .ok (.ret u), hq => exact I3.after hq
  | .ok .next, hq => exact False.elim hq
  | .ok .brk, hq => exact False.elim hq
  | .ok .cont, hq => exact False.elim hq
end
end Lc
set_option Elab.async false
set_option linter.all false
set_option maxRecDepth 100000
set_option maxHeartbeats 4000000
namespace K02
open PySem PySem.Spec PyProof.Rows L2 Lc
def top (i : Nat) : Stmt := PySem.Challenge.pw_liveclaims_k02_rounding_and_decimals.main.body.getD i (.Pass ⟨0, 0, 0, 0⟩)
/-! ## is_whole, common_divisor, is_rational -/
abbrev sWhole : Stmt := top 4
abbrev sCd : Stmt := top 5
abbrev sIsR : Stmt := top 6
def spWhole : Sp := fun vs H Q _ => ∃ (v : V) (t : String), vs = [v] ∧ TyN H v t ∧ Q (.bl (t == "int")) H
def spCd : Sp := fun vs H Q _ => ∃ a b : Int, vs = [.int a, .int b] ∧ 0 ≤ a ∧ 0 ≤ b ∧ Q (.int (gd a b)) H
def spIsR : Sp := fun vs H Q _ => ∃ (v : V) (b : Bool), vs = [v] ∧ Rk H v b ∧ Q (.bl b) H
section
variable {P : Program} {w : World} {K : PySem.W.Frag} {mg : Str → Option Value} {base : Heap} {f C : Addr} {fd : FuncData}
theorem scWhole : FnScope ["value"] ["value"] (defScope sWhole) := ⟨rfl, rfl, rfl, by decide +kernel, rfl, by decide +kernel, by decide +kernel⟩
theorem ok_whole (F : Fun K "is_whole" "is_whole" sWhole f fd) (T : Bt mg) : FnOk P w K mg base CX0 1 f fd ["value"] spWhole := by
  refine F.ok scWhole (fun vs H Q E h => ?_) (fun cdv A outer s H vs Q E hr h => ?_)
  · obtain ⟨v, t, rfl, _⟩ := h
    rfl
  · obtain ⟨v, t, rfl, ty, k⟩ := h
    refine ⟨_, pss_one (ps_ret (pe_and (pe_callB call_isi (by rfl) T.isi boot_isinstance (pa_cons (pv 0) (pa_cons (pe_bltn (v := .ty "int") (by rfl) T.int boot_int rfl) pa_nil)))
      (pe_one (pe_not (pe_callB call_isi (by rfl) T.isi boot_isinstance (pa_cons (pv 0) (pa_cons (pe_bltn (v := .ty "bool") (by rfl) T.bool boot_bool rfl) pa_nil))))))), ?_⟩
    refine ⟨_, rfl, v, .ty "int", _, _, _, rfl, .ty "int", ty.x, kit_int ty.mem, _, rfl, ?_⟩
    refine ite2 (fun hi => ?_) (fun hi => ?_)
    · refine ⟨_, rfl, v, .ty "bool", _, _, _, rfl, .ty "bool", ty.x, kit_bool ty.mem, _, rfl, ?_⟩
      have e : (!(t == "bool")) = (t == "int") := by cases ty <;> first | rfl | exact absurd hi (by decide)
      show Q (.bl (!(t == "bool"))) H
      rw [e]
      exact k
    · have e : false = (t == "int") := by cases ty <;> first | rfl | exact absurd rfl hi
      show Q (.bl false) H
      rw [e]
      exact k
theorem scCd : FnScope ["a", "b"] ["a", "b"] (defScope sCd) := ⟨rfl, rfl, rfl, by decide +kernel, rfl, by decide +kernel, by decide +kernel⟩
theorem ok_cd (F : Fun K "common_divisor" "common_divisor" sCd f fd) : FnOk P w K mg base CX0 1 f fd ["a", "b"] spCd := by
  refine F.ok scCd (fun vs H Q E h => ?_) (fun cdv A outer s H vs Q E hr h => ?_)
  · obtain ⟨a, b, rfl, _⟩ := h
    rfl
  · obtain ⟨a, b, rfl, ha, hb, k⟩ := h
    refine ⟨_, pss_cons (ps_while PassesOwn.never (pt_cmpR op_ne (pv 1) pe_int (nomark _)) (pss_one (ps_par (i := 0) (j := 1) (by rfl) scCd.nd rfl rfl (by decide) rfl rfl (pa_cons (pv 1) (pa_cons (pe_op op_mod (pv 0) (pv 1)) pa_nil)) (by rfl))))
      (pss_one (ps_ret (pv 0))), ?_⟩
    refine ⟨fun m σ H' => ∃ a' b' : Int, σ = [some (.int a'), some (.int b')] ∧ 0 ≤ a' ∧ 0 ≤ b' ∧ b'.toNat = m ∧ gd a' b' = gd a b ∧ H' = H, ⟨_, a, b, rfl, ha, hb, rfl, rfl, rfl⟩, ?_⟩
    rintro m σ H' ⟨a', b', rfl, ha', hb', rfl, e, rfl⟩
    refine ⟨_, rfl, rfl, _, rfl, ?_⟩
    rw [show (decide (V.int b' = V.int 0)) = decide (b' = 0) from dec_int.trans (by rw [Bool.eq_iff_iff]; simp)]
    by_cases z : b' = 0
    · rw [decide_eq_true z]
      refine iteF ⟨_, rfl, ?_⟩
      rw [← e, z, gd_zero ha'] at k
      exact k
    · rw [decide_eq_false z]
      have pb : 0 < b' := by omega
      refine iteT ⟨fun σ' H'' => ∃ a2 b2 : Int, σ' = [some (.int a2), some (.int b2)] ∧ 0 ≤ a2 ∧ 0 ≤ b2 ∧ b2.toNat < b'.toNat ∧ gd a2 b2 = gd a b ∧ H'' = H', ?_, ?_⟩
      · rintro σ' H'' ⟨a2, b2, h1, h2, h3, h4, h5, h6⟩
        exact ⟨_, h4, a2, b2, h1, h2, h3, rfl, h5, h6⟩
      · refine ⟨_, rfl, _, rfl, _, rfl, _, _, rfl, rfl, pb, _, _, rfl, b', a' % b', rfl, hb', Int.emod_nonneg _ (by omega), ?_, ?_, rfl⟩
        · have := Int.emod_lt_of_pos a' pb
          have := Int.emod_nonneg a' (by omega : b' ≠ 0)
          omega
        · rw [gd_step ha' pb]
          exact e
theorem scIsR : FnScope ["value", "n", "d"] ["value"] (defScope sIsR) := ⟨rfl, rfl, rfl, by decide +kernel, rfl, by decide +kernel, by decide +kernel⟩
theorem ok_isr {fW fC : Addr} {fdW fdC : FuncData} (F : Fun K "is_rational" "is_rational" sIsR f fd) (T : Bt mg) (GW : FnOk P w K mg base CX0 1 fW fdW ["value"] spWhole) (mW : mg "is_whole" = some (.ref fW)) (kW : PySem.W.keepIn K (.ref fW) = true) (bW : Binds K fdW ["value"] [])
    (GC : FnOk P w K mg base CX0 1 fC fdC ["a", "b"] spCd) (mC : mg "common_divisor" = some (.ref fC)) (kC : PySem.W.keepIn K (.ref fC) = true) (bC : Binds K fdC ["a", "b"] []) : FnOk P w K mg base CX0 2 f fd ["value"] spIsR := by
  refine F.ok scIsR (fun vs H Q E h => ?_) (fun cdv A outer s H vs Q E hr h => ?_)
  · obtain ⟨v, b, rfl, _⟩ := h
    rfl
  · obtain ⟨v, b, rfl, hk, k⟩ := h
    refine ⟨_, pss_cons (ps_if (PW.pt (pw_or (pt_not (pt_val (pe_callB call_isi (by rfl) T.isi boot_isinstance (pa_cons (pv 0) (pa_cons (pe_bltn (v := .ty "tuple") (by rfl) T.tuple boot_tuple rfl) pa_nil)))))
        (pw_or1 (pt_cmpR op_ne (pe_callB call_len_seq (by rfl) T.len PySem.boot_len (pa_cons (pv 0) pa_nil)) pe_int (nomark _))))) (pss_one (ps_ret pe_bl)) pss_nil)
      (pss_cons (ps_asg (pv 0) (pg_tup rfl (pgs_cons (pg_name (i := 1) scIsR.nd rfl (.inl rfl)) (pgs_cons (pg_name (i := 2) scIsR.nd rfl (.inl rfl)) pgs_nil))))
      (pss_cons (ps_if (PW.pt (pw_or (pt_not (pt_val (pe_call GW hr (by rfl) mW kW bW .nil pass0 (pa_cons (pv 1) pa_nil)))) (pw_or (pt_not (pt_val (pe_call GW hr (by rfl) mW kW bW .nil pass0 (pa_cons (pv 2) pa_nil))))
        (pw_or1 (pt_cmpR op_lt (pv 2) pe_int (nomark _)))))) (pss_one (ps_ret pe_bl)) pss_nil)
      (pss_one (ps_ret (pe_cmpR op_eq (pe_call GC hr (by rfl) mC kC bC .nil pass0 (pa_cons (pe_callB call_abs (by rfl) T.abs boot_abs (pa_cons (pv 1) pa_nil)) (pa_cons (pv 2) pa_nil))) pe_int (nomark _)))))), ?_⟩
    cases hk with
    | @other _ t ty n =>
      refine ⟨_, rfl, v, .ty "tuple", _, _, _, rfl, .ty "tuple", ty.x, kit_tuple ty.mem, _, rfl, ?_⟩
      have e : (t == "tuple") = false := by simpa using n
      rw [e]
      exact iteT (iteT k)
    | @len a xs e n =>
      refine ⟨_, rfl, .ref a, .ty "tuple", _, _, _, rfl, .ty "tuple", (TyN.tup e).x, kit_tuple (by decide), _, rfl, ?_⟩
      refine iteF ⟨_, rfl, a, xs, rfl, .inr (SqT.of e), rfl, _, rfl, ?_⟩
      have z : decide (V.int (xs.length : Int) = V.int 2) = false := decide_eq_false (fun q => n (by injection q with q; omega))
      rw [z]
      exact iteT k
    | @pair a x y tx ty e hx hy =>
      refine ⟨_, rfl, .ref a, .ty "tuple", _, _, _, rfl, .ty "tuple", (TyN.tup e).x, kit_tuple (by decide), _, rfl, ?_⟩
      refine iteF ⟨_, rfl, a, _, rfl, .inr (SqT.of e), rfl, _, rfl, ?_⟩
      refine iteF ?_
      refine ⟨_, rfl, a, _, rfl, SqT.of e, rfl, _, _, rfl, _, _, rfl, rfl, ?_⟩
      refine ⟨_, rfl, x, tx, rfl, hx, _, rfl, ?_⟩
      by_cases ix : tx = "int"
      · obtain ⟨n, rfl⟩ := hx.isInt ix
        subst ix
        · refine iteF ⟨_, rfl, y, ty, rfl, hy, _, rfl, ?_⟩
          by_cases iy : ty = "int"
          · obtain ⟨d, rfl⟩ := hy.isInt iy
            subst iy
            · refine iteF ⟨_, rfl, _, _, rfl, rfl, _, rfl, ?_⟩
              by_cases hd : d < 1
              · rw [decide_eq_true hd]
                have z : ratB (.int n) (.int d) = false := by
                  show (decide (0 < d) && _) = false
                  rw [decide_eq_false (by omega : ¬ 0 < d)]
                  rfl
                rw [z] at k
                exact iteT k
              · rw [decide_eq_false hd]
                refine iteF ?_
                refine ⟨_, rfl, n, rfl, _, rfl, _, d, rfl, by split <;> omega, by omega, rfl, ?_⟩
                have z : ratB (.int n) (.int d) = decide (V.int (gd (if n < 0 then -n else n) d) = V.int 1) := by
                  show (decide (0 < d) && decide (gd n d = 1)) = _
                  rw [decide_eq_true (by omega : 0 < d), gd_abs]
                  rw [Bool.eq_iff_iff]
                  simp
                rw [z] at k
                exact k
          · have z : (ty == "int") = false := by simpa using iy
            have z2 : ratB (.int n) y = false := by
              cases hy <;> first | rfl | exact absurd rfl iy
            rw [z2] at k
            rw [z]
            exact iteT (iteT k)
      · have z : (tx == "int") = false := by simpa using ix
        have z2 : ratB x y = false := by
          cases hx <;> first | rfl | exact absurd rfl ix
        rw [z2] at k
        rw [z]
        exact iteT (iteT k)
end
abbrev sInit : Stmt := inClass (top 1) 0
abbrev sChk : Stmt := top 7
abbrev sLow : Stmt := top 8
def Small (n : Int) : Prop := n.natAbs < 2 ^ 4000
/-- an error of the class at C that tells v is raised -/
def Tells (C : Addr) (H : Hp) (v : V) (E : XK) : Prop := ∀ (d : Addr) (H' : Hp), Same H H' → H d = none → H' d = some (.xd [(("given" : Str), v)]) → E (.ref C) (some d) H'
def spChk (C : Addr) : Sp := fun vs H Q E => ∃ (v : V) (b : Bool), vs = [v] ∧ Rk H v b ∧ (b = true → Q .non H) ∧ (b = false → Tells C H v E)
def New2 (H : Hp) (Q : VK) (n d : Int) : Prop := ∀ p, H p = none → Q (.ref p) (upd H p (.tup [.int n, .int d]))
def spLow : Sp := fun vs H Q _ => ∃ n d : Int, vs = [.int n, .int d] ∧ d ≠ 0 ∧ Small d ∧ New2 H Q (lowN (if d < 0 then -n else n) (if d < 0 then -d else d)) (lowD (if d < 0 then -n else n) (if d < 0 then -d else d))
/-! ## raising -/
def spInit (C : Addr) : Sp := fun vs H Q _ => ∃ (a : Addr) (v : V), vs = [.ref a, v] ∧ H a = some (exo a C none) ∧ ∀ dx, H dx = none → dx ≠ a → Q .non (upd (upd H dx (exd dx [(("given" : Str), v)])) a (exo a C (some dx)))
/-- what the written part says of BadNumber, at C, its __init__ at fI, and DivisionByZero, at Z -/
structure Er (K : PySem.W.Frag) (mg : Str → Option Value) (C fI : Addr) : Prop where
  oex : OexC K C
  iC : PySem.W.findIn K (.ref C) "__init__" = some (some (.ref fI))
  tI : PySem.W.typeIn K (.ref fI) = some (.type "function")
  nG : PySem.W.findIn K (.ref C) "given" = some none
  gC : mg "BadNumber" = some (.ref C)
section
variable {P : Program} {w : World} {K : PySem.W.Frag} {mg : Str → Option Value} {base : Heap} {f C fI : Addr} {fd fdI : FuncData}
theorem scInit : FnScope ["self", "given"] ["self", "given"] (defScope sInit) := ⟨rfl, rfl, rfl, by decide +kernel, rfl, by decide +kernel, by decide +kernel⟩
theorem ok_init (F : Fun K "__init__" "BadNumber.__init__" sInit fI fdI) (T : Er K mg C fI) : FnOk P w K mg base CX0 1 fI fdI ["self", "given"] (spInit C) := by
  refine F.ok scInit (fun vs H Q E h => ?_) (fun cdv A outer s H vs Q E hr h => ?_)
  · obtain ⟨a, v, rfl, _⟩ := h
    rfl
  · obtain ⟨a, v, rfl, ha, k⟩ := h
    refine ⟨_, pss_one (ps_ost (pv 0) (pv 1)), ?_⟩
    exact ⟨_, rfl, _, rfl, a, C, rfl, T.oex, T.nG, .inl ⟨ha, fun dx h1 h2 => k dx h1 h2⟩⟩
/-- raise BadNumber(v) -/
theorem tells_of {H : Hp} {v : V} {E : XK} (t : Tells C H v E) : ∀ a, H a = none → spInit C (.ref a :: ([v] ++ [])) (upd H a (exo a C none))
    (fun v' H2 => v' = .non ∧ ∃ (d : Addr) (fs : List (Str × V)), H2 a = some (exo a C (some d)) ∧ H2 d = some (exd d fs) ∧ H d = none ∧ E (.ref C) (some d) (upd (del H2 a) d (.xd fs))) (fun _ _ _ => False) := by
  intro a ha
  refine ⟨a, v, rfl, upd_same, fun dx hx hne => ⟨rfl, dx, _, upd_same, by rw [upd_ne hne, upd_same], by rw [upd_ne hne] at hx; exact hx, ?_⟩⟩
  rw [upd_ne hne] at hx
  refine t dx _ (fun b o e => ?_) hx upd_same
  have nb : b ≠ a := ne_of_none e ha
  have nd : b ≠ dx := ne_of_none e hx
  rw [upd_ne nd, del_ne nb, upd_ne nb, upd_ne nd, upd_ne nb]
  exact e
theorem scChk : FnScope ["value"] ["value"] (defScope sChk) := ⟨rfl, rfl, rfl, by decide +kernel, rfl, by decide +kernel, by decide +kernel⟩
theorem ok_chk {fR : Addr} {fdR : FuncData} (F : Fun K "check_rational" "check_rational" sChk f fd) (T : Er K mg C fI) (GI : FnOk P w K mg base CX0 1 fI fdI ["self", "given"] (spInit C)) (bI : Binds K fdI ["self", "given"] [])
    (GR : FnOk P w K mg base CX0 2 fR fdR ["value"] spIsR) (mR : mg "is_rational" = some (.ref fR)) (kR : PySem.W.keepIn K (.ref fR) = true) (bR : Binds K fdR ["value"] []) : FnOk P w K mg base (L2.CX P w) 3 f fd ["value"] (spChk C) := by
  refine F.okX scChk (fun vs H Q E h => ?_) (fun cdv A outer s H vs Q E hr h => ?_)
  · obtain ⟨v, b, rfl, _⟩ := h
    rfl
  · obtain ⟨v, b, rfl, hk, k1, k2⟩ := h
    refine ⟨_, pss_one (ps_if (pt_not (pt_val (pe_call GR hr (by rfl) mR kR bR .nil pass0 (pa_cons (pv 0) pa_nil))))
      (pss_one (ps_raise (W := fun cls d _ H => E cls d H) rfl (takes_of rfl rfl rfl rfl) (pmk_oex T.oex T.iC T.tI GI hr bI .nil pass0 (by rfl) T.gC (pa_cons (pv 0) pa_nil)))) pss_nil), ?_⟩
    refine ⟨_, rfl, v, b, rfl, hk, _, rfl, ?_⟩
    cases b with
    | true => exact iteF (k1 rfl)
    | false => exact iteT ⟨_, rfl, by show 1 ≤ 1000; decide, tells_of (k2 rfl)⟩
/-! ## lowest terms -/
theorem log_lt {n : Int} (h : n.natAbs < 2 ^ 4000) : n.natAbs.log2 < 9000 := by
  by_cases z : n.natAbs = 0
  · rw [z]
    decide
  · exact Nat.lt_of_lt_of_le ((Nat.log2_lt z).mpr h) (by decide)
theorem scLow : FnScope ["n", "d", "shared"] ["n", "d"] (defScope sLow) := ⟨rfl, rfl, rfl, by decide +kernel, rfl, by decide +kernel, by decide +kernel⟩
theorem gd_neg2 (a b : Int) : gd (-a) (-b) = gd a b := by unfold gd; rw [Int.neg_gcd, Int.gcd_neg]
theorem ok_low {fC : Addr} {fdC : FuncData} (F : Fun K "lowest_terms" "lowest_terms" sLow f fd) (T : Bt mg) (GC : FnOk P w K mg base CX0 1 fC fdC ["a", "b"] spCd) (mC : mg "common_divisor" = some (.ref fC)) (kC : PySem.W.keepIn K (.ref fC) = true) (bC : Binds K fdC ["a", "b"] []) :
    FnOk P w K mg base CX0 2 f fd ["n", "d"] spLow := by
  refine F.ok scLow (fun vs H Q E h => ?_) (fun cdv A outer s H vs Q E hr h => ?_)
  · obtain ⟨n, d, rfl, _⟩ := h
    rfl
  · obtain ⟨n, d, rfl, hd, hs, k⟩ := h
    refine ⟨_, pss_cons (ps_set (i := 2) scLow.nd rfl (Or.inl rfl) (pe_call GC hr (by rfl) mC kC bC .nil pass0 (pa_cons (pe_callB call_abs (by rfl) T.abs boot_abs (pa_cons (pv 0) pa_nil)) (pa_cons (pe_callB call_abs (by rfl) T.abs boot_abs (pa_cons (pv 1) pa_nil)) pa_nil))))
      (pss_cons (ps_if (pt_cmpR op_lt (pv 1) pe_int (nomark _)) (pss_one (ps_set (i := 2) scLow.nd rfl (Or.inl rfl) (pe_un un_neg (pv 2)))) pss_nil)
      (pss_one (ps_ret (pe_tup (pa_cons (pe_op op_fdivZ (pv 0) (pv 2)) (pa_cons (pe_op op_fdivZ (pv 1) (pv 2)) pa_nil)))))), ?_⟩
    refine ⟨_, rfl, n, rfl, _, rfl, d, rfl, _, _, rfl, by split <;> omega, by split <;> omega, ?_⟩
    rw [gd_abs, gd_abs2]
    have g0 : 0 < gd n d := gd_pos hd
    have gl : (gd n d).natAbs < 2 ^ 4000 := Nat.lt_of_le_of_lt (gd_natAbs_le hd) hs
    refine ⟨_, rfl, _, _, rfl, rfl, _, rfl, ?_⟩
    by_cases z : d < 0
    · rw [decide_eq_true z]
      rw [if_pos z, if_pos z] at k
      refine iteT ⟨_, rfl, _, rfl, ?_⟩
      have l : (-(gd n d)).natAbs.log2 < 9000 := by rw [Int.natAbs_neg]; exact log_lt gl
      refine ⟨_, rfl, _, rfl, _, _, rfl, rfl, ⟨by omega, l⟩, _, rfl, _, rfl, _, _, rfl, rfl, ⟨by omega, l⟩, by show 2 ≤ sizeLine; decide, ?_⟩
      show New2 H Q (n.fdiv (-(gd n d))) (d.fdiv (-(gd n d)))
      rw [fdiv_neg_dvd g0 (gd_dvd1 n d), fdiv_neg_dvd g0 (gd_dvd2 n d)]
      unfold lowN lowD at k
      rw [gd_neg2] at k
      exact k
    · rw [decide_eq_false z]
      rw [if_neg z, if_neg z] at k
      refine iteF ?_
      refine ⟨_, rfl, _, rfl, _, _, rfl, rfl, ⟨by omega, log_lt gl⟩, _, rfl, _, rfl, _, _, rfl, rfl, ⟨by omega, log_lt gl⟩, by show 2 ≤ sizeLine; decide, ?_⟩
      show New2 H Q (n.fdiv (gd n d)) (d.fdiv (gd n d))
      rw [Int.fdiv_eq_ediv_of_nonneg n (gd_nonneg n d), Int.fdiv_eq_ediv_of_nonneg d (gd_nonneg n d)]
      exact k
end
abbrev sTape : Stmt := top 15
section
variable {P : Program} {w : World} {K : PySem.W.Frag} {mg : Str → Option Value} {base : Heap} {f : Addr} {fd : FuncData}
theorem scTape : FnScope ["_law_script"] ["_law_script"] (defScope sTape) := ⟨rfl, rfl, rfl, by decide +kernel, rfl, by decide +kernel, by decide +kernel⟩
theorem ok_tape (F : Fun K "_law_tape" "_law_tape" sTape f fd) (T : Bt mg) : FnOk P w K mg base CX0 1 f fd ["_law_script"] (spTape K) := by
  refine F.ok scTape (fun vs H Q E h => ?_) (fun cdv A outer s H vs Q E hr h => ?_)
  · obtain ⟨a, ns, rfl, _⟩ := h
    rfl
  · obtain ⟨a, ns, rfl, hS, k⟩ := h
    refine ⟨_, pss_one (ps_ret (pe_lst (pa_cons (pe_callTy call_list_of (by rfl) T.list boot_list (pa_cons (pe_slice sl_list (pv 0) po_none (po_some pe_int)) pa_nil)) (pa_cons pe_int (pa_cons pe_int (pa_cons pe_int pa_nil)))))), ?_⟩
    obtain ⟨ms, e⟩ := cut_ints ns none (some 63)
    refine ⟨_, rfl, _, rfl, a, _, rfl, hS, fun p hp => ⟨p, _, rfl, .inl (SqL.of upd_same), fun l hl => ⟨by show 4 ≤ sizeLine; decide, fun t ht => ?_⟩⟩⟩
    have s1 : Same H (upd H p (.lst (cutV (ns.map V.int) none (some 63)))) := Same.upd hp
    have s2 := Same.upd (o := .lst (cutV (ns.map V.int) none (some 63))) hl
    have s3 := Same.upd (o := .lst [.ref l, .int 0, .int 0, .int 17]) ht
    refine k t _ ((s1.trans s2).trans s3) ((s1.trans s2).free ht) ⟨l, ms, 0, 0, 17, upd_same, ?_, by decide, by decide, by decide, by decide⟩
    rw [← e]
    exact s3 _ _ upd_same
end
abbrev sDraw : Stmt := top 16
section
variable {P : Program} {w : World} {K : PySem.W.Frag} {mg : Str → Option Value} {base : Heap} {f : Addr} {fd : FuncData}
theorem scDraw : FnScope ["_law_tape_here", "_law_many", "_law_digit", "_law_cell", "_law_mixed"] ["_law_tape_here", "_law_many"] (defScope sDraw) := ⟨rfl, rfl, rfl, by decide +kernel, rfl, by decide +kernel, by decide +kernel⟩
theorem ok_draw (F : Fun K "_law_draw" "_law_draw" sDraw f fd) (T : Bt mg) : FnOk P w K mg base CX0 1 f fd ["_law_tape_here", "_law_many"] spDraw := by
  refine F.ok scDraw (fun vs H Q E h => ?_) (fun cdv A outer s H vs Q E hr h => ?_)
  · obtain ⟨t, m, rfl, _⟩ := h
    rfl
  · obtain ⟨t, m, rfl, ⟨l, ns, pos, rest, mix, ht, hl, p0, r0, m0, m1⟩, hm, hm2, k⟩ := h
    refine ⟨_, pss_cons (ps_if (pt_cmpR op_gt (pe_ix ix_list (pv 0) pe_int (fun _ _ => rfl)) pe_int (nomark _))
        (pss_cons (ps_set (i := 2) scDraw.nd rfl (Or.inl rfl) (pe_op op_mod (pe_ix ix_list (pv 0) pe_int (fun _ _ => rfl)) (pv 1)))
        (pss_cons (ps_asg (pe_op op_fdivW (pe_ix ix_list (pv 0) pe_int (fun _ _ => rfl)) (pv 1)) (pg_sub (pv 0) pe_int set_list)) (pss_one (ps_ret (pv 2))))) pss_nil)
      (pss_cons (ps_set (i := 3) scDraw.nd rfl (Or.inl rfl) pe_int)
      (Evl.pss_cut (ps_if (pt_cmpR op_lt (pe_ix ix_list (pv 0) pe_int (fun _ _ => rfl)) (pe_callB call_len_seq (by rfl) T.len PySem.boot_len (pa_cons (pe_ix ix_list (pv 0) pe_int (fun _ _ => rfl)) pa_nil)) (nomark _))
        (pss_one (ps_set (i := 3) scDraw.nd rfl (Or.inl rfl) (pe_ix ix_list (pe_ix ix_list (pv 0) pe_int (fun _ _ => rfl)) (pe_ix ix_list (pv 0) pe_int (fun _ _ => rfl)) (fun _ _ => rfl)))) pss_nil)
      (pss_cons (ps_asg (pe_op op_add (pe_ix ix_list (pv 0) pe_int (fun _ _ => rfl)) pe_int) (pg_sub (pv 0) pe_int set_list))
      (pss_cons (ps_if (pt_cmpR op_ge (pv 3) (pe_op op_pow pe_int pe_int) (nomark _))
        (pss_cons (ps_asg (pe_op op_fdivW (pv 3) (pv 1)) (pg_sub (pv 0) pe_int set_list)) (pss_one (ps_ret (pe_op op_mod (pv 3) (pv 1))))) pss_nil)
      (pss_cons (ps_set (i := 4) scDraw.nd rfl (Or.inl rfl) (pe_op op_add (pe_op op_add (pe_op op_add (pe_op op_mul (pe_ix ix_list (pv 0) pe_int (fun _ _ => rfl)) pe_int) (pe_op op_mod (pv 3) pe_int)) (pe_op op_mul pe_int (pe_ix ix_list (pv 0) pe_int (fun _ _ => rfl)))) pe_int))
      (pss_cons (ps_asg (pe_op op_mod (pv 4) pe_int) (pg_sub (pv 0) pe_int set_list))
      (pss_one (ps_ret (pe_op op_mod (pe_op op_mod (pe_op op_pow (pe_ix ix_list (pv 0) pe_int (fun _ _ => rfl)) pe_int) pe_int) (pv 1)))))))))), ?_⟩
    have nl := tape_ne ht hl
    have dv : ∀ c : Int, CDivW c m := fun c => ⟨hm, log_lt' hm2⟩
    have M0 : (0 : Int) < 2147483647 := by decide
    refine ⟨_, rfl, t, _, _, _, rfl, rfl, SqL.of ht, rfl, _, _, rfl, rfl, _, rfl, ?_⟩
    refine ite2 (fun z => ?_) (fun z => ?_)
    · have z' : 0 < rest := of_decide_eq_true z
      refine ⟨_, rfl, t, _, _, _, rfl, rfl, SqL.of ht, rfl, _, rfl, _, _, rfl, rfl, hm, ?_⟩
      refine ⟨_, rfl, t, _, _, _, rfl, rfl, SqL.of ht, rfl, _, rfl, _, _, rfl, rfl, dv _, _, rfl, t, _, _, 2, rfl, rfl, ht, rfl, ?_⟩
      refine ⟨_, rfl, ?_⟩
      refine k _ _ (Int.emod_nonneg _ (by omega)) (Int.emod_lt_of_pos _ hm) ⟨l, ns, pos, rest / m, mix, upd_same, by rw [upd_ne nl]; exact hl, p0, Int.ediv_nonneg r0 (by omega), m0, m1⟩ SameB.upd
    · refine ⟨fun σ' H' => ∃ c : Int, σ' = [some (.ref t), some (.int m), none, some (.int c), none] ∧ H' = H, ?_, ?_⟩
      · refine ⟨_, rfl, t, _, _, _, rfl, rfl, SqL.of ht, rfl, _, rfl, t, _, _, _, rfl, rfl, SqL.of ht, rfl, l, _, rfl, .inl (SqL.of hl), _, _, rfl, rfl, _, rfl, ?_⟩
        refine ite2 (fun y => ?_) (fun y => ?_)
        · have y' : pos < ((ns.map V.int).length : Int) := of_decide_eq_true y
          rw [List.length_map] at y'
          have g : (ns.map V.int)[pos.toNat]? = some (.int (ns[pos.toNat]'(by omega))) := by
            rw [List.getElem?_map, List.getElem?_eq_getElem (by omega : pos.toNat < ns.length)]
            rfl
          exact ⟨_, rfl, t, _, _, _, rfl, rfl, SqL.of ht, rfl, _, rfl, t, _, _, _, rfl, rfl, SqL.of ht, rfl, l, _, _, _, rfl, rfl, SqL.of hl, at_of (by omega) g, _, rfl, rfl⟩
        · exact ⟨0, rfl, rfl⟩
      · rintro σ' H' ⟨c, rfl, rfl⟩
        refine ⟨_, rfl, t, _, _, _, rfl, rfl, SqL.of ht, rfl, _, _, rfl, rfl, _, rfl, t, _, _, 1, rfl, rfl, ht, rfl, ?_⟩
        refine ⟨_, rfl, _, _, rfl, rfl, ⟨by decide, by decide, by decide⟩, _, _, rfl, rfl, _, rfl, ?_⟩
        refine ite2 (fun y => ?_) (fun y => ?_)
        · have y' : (10 : Int) ^ (18 : Int).toNat ≤ c := of_decide_eq_true y
          have c0 : 0 ≤ c := Int.le_trans (by decide) y'
          refine ⟨_, rfl, _, rfl, _, _, rfl, rfl, dv _, _, rfl, t, _, _, 2, rfl, rfl, upd_same, rfl, ?_⟩
          refine ⟨_, rfl, _, rfl, _, _, rfl, rfl, hm, ?_⟩
          exact k _ _ (Int.emod_nonneg _ (by omega)) (Int.emod_lt_of_pos _ hm) ⟨l, ns, pos + 1, c / m, mix, upd_same, by rw [upd_ne nl, upd_ne nl]; exact hl, by omega, Int.ediv_nonneg c0 (by omega), m0, m1⟩ (SameB.upd.trans SameB.upd)
        · refine ⟨_, rfl, t, _, _, _, rfl, rfl, SqL.of upd_same, rfl, _, _, rfl, rfl, .inl ⟨by omega, by omega⟩, _, rfl, _, _, rfl, rfl, M0, _, _, rfl, rfl, _, rfl, t, _, _, _, rfl, rfl, SqL.of upd_same, rfl, _, _, rfl, rfl, .inl ⟨by decide, by decide⟩, _, _, rfl, rfl, _, _, rfl, rfl, ?_⟩
          refine ⟨_, rfl, _, _, rfl, rfl, M0, _, rfl, t, _, _, 3, rfl, rfl, upd_same, rfl, ?_⟩
          have q0 := Int.emod_nonneg (mix * 48271 + c % 2147483647 + 7919 * (pos + 1) + 11) (by decide : (2147483647 : Int) ≠ 0)
          have q1 := Int.emod_lt_of_pos (mix * 48271 + c % 2147483647 + 7919 * (pos + 1) + 11) M0
          refine ⟨_, rfl, t, _, _, _, rfl, rfl, SqL.of upd_same, rfl, _, _, rfl, rfl, ⟨by decide, by decide, ?_⟩, _, _, rfl, rfl, M0, _, rfl, _, _, rfl, rfl, hm, ?_⟩
          · omega
          · exact k _ _ (Int.emod_nonneg _ (by omega)) (Int.emod_lt_of_pos _ hm) ⟨l, ns, pos + 1, rest, _, upd_same, by rw [upd_ne nl, upd_ne nl]; exact hl, by omega, r0, q0, q1⟩ (SameB.upd.trans SameB.upd)
end
abbrev sLst : Stmt := top 17
section
variable {P : Program} {w : World} {K : PySem.W.Frag} {mg : Str → Option Value} {base : Heap} {f : Addr} {fd : FuncData}
theorem scLst : FnScope ["_law_n", "_law_d", "_law_a", "_law_b", "_law_rest"] ["_law_n", "_law_d"] (defScope sLst) := ⟨rfl, rfl, rfl, by decide +kernel, rfl, by decide +kernel, by decide +kernel⟩
theorem ok_lst (F : Fun K "_law_lowest" "_law_lowest" sLst f fd) (T : Bt mg) : FnOk P w K mg base CX0 1 f fd ["_law_n", "_law_d"] spLowest := by
  refine F.ok scLst (fun vs H Q E h => ?_) (fun cdv A outer s H vs Q E hr h => ?_)
  · obtain ⟨n, d, rfl, _⟩ := h
    rfl
  · obtain ⟨n, d, rfl, hd, hd2, k⟩ := h
    refine ⟨_, pss_cons (ps_set (i := 2) scLst.nd rfl (Or.inl rfl) (pe_callB call_abs (by rfl) T.abs boot_abs (pa_cons (pv 0) pa_nil)))
      (pss_cons (ps_set (i := 3) scLst.nd rfl (Or.inl rfl) (pv 1))
      (pss_cons (ps_while PassesOwn.never (pt_cmpR op_gt (pv 3) pe_int (nomark _))
        (pss_cons (ps_set (i := 4) scLst.nd rfl (Or.inl rfl) (pe_op op_mod (pv 2) (pv 3))) (pss_cons (ps_set (i := 2) scLst.nd rfl (Or.inl rfl) (pv 3)) (pss_one (ps_set (i := 3) scLst.nd rfl (Or.inl rfl) (pv 4))))))
      (pss_one (ps_ret (pe_tup (pa_cons (pe_op op_fdivW (pv 0) (pv 2)) (pa_cons (pe_op op_fdivW (pv 1) (pv 2)) pa_nil))))))), ?_⟩
    refine ⟨_, rfl, n, rfl, _, rfl, ?_⟩
    refine ⟨fun m σ H' => ∃ (a' b' : Int) (r : Option V), σ = [some (.int n), some (.int d), some (.int a'), some (.int b'), r] ∧ 0 ≤ a' ∧ 0 ≤ b' ∧ b'.toNat = m ∧ gd a' b' = gd n d ∧ H' = H, ⟨_, _, d, none, rfl, by split <;> omega, by omega, rfl, gd_abs n d, rfl⟩, ?_⟩
    rintro m σ H' ⟨a', b', r, rfl, ha', hb', rfl, e, rfl⟩
    refine ⟨_, rfl, _, _, rfl, rfl, _, rfl, ?_⟩
    refine ite2 (fun z => ?_) (fun z => ?_)
    · have pb : 0 < b' := of_decide_eq_true z
      refine ⟨fun σ' H'' => ∃ (a2 b2 : Int) (r : Option V), σ' = [some (.int n), some (.int d), some (.int a2), some (.int b2), r] ∧ 0 ≤ a2 ∧ 0 ≤ b2 ∧ b2.toNat < b'.toNat ∧ gd a2 b2 = gd n d ∧ H'' = H', ?_, ?_⟩
      · rintro σ' H'' ⟨a2, b2, r2, h1, h2, h3, h4, h5, h6⟩
        exact ⟨_, h4, a2, b2, r2, h1, h2, h3, rfl, h5, h6⟩
      · refine ⟨_, rfl, _, rfl, _, _, rfl, rfl, pb, _, rfl, _, rfl, b', a' % b', _, rfl, hb', Int.emod_nonneg _ (by omega), ?_, ?_, rfl⟩
        · have := Int.emod_lt_of_pos a' pb
          have := Int.emod_nonneg a' (by omega : b' ≠ 0)
          omega
        · rw [gd_step ha' pb]
          exact e
    · have zb : ¬ 0 < b' := fun q => z (decide_eq_true q)
      have z0 : b' = 0 := by omega
      rw [z0, gd_zero ha'] at e
      subst e
      have g0 : 0 < gd n d := gd_pos (by omega)
      have gl : (gd n d).natAbs < 2 ^ 4000 := Nat.lt_of_le_of_lt (gd_natAbs_le (by omega)) hd2
      exact ⟨_, rfl, _, rfl, _, _, rfl, rfl, ⟨g0, log_lt' gl⟩, _, rfl, _, rfl, _, _, rfl, rfl, ⟨g0, log_lt' gl⟩, by show 2 ≤ sizeLine; decide, k⟩
end
abbrev sRat : Stmt := top 18
section
variable {P : Program} {w : World} {K : PySem.W.Frag} {mg : Str → Option Value} {base : Heap} {f : Addr} {fd : FuncData}
theorem scRat : FnScope ["_law_tape_here", "_law_wide", "_law_size", "_law_edge"] ["_law_tape_here", "_law_wide"] (defScope sRat) := ⟨rfl, rfl, rfl, by decide +kernel, rfl, by decide +kernel, by decide +kernel⟩
theorem ok_rat {fD fL : Addr} {fdD fdL : FuncData} (F : Fun K "_law_rational" "_law_rational" sRat f fd) (T : Bt mg) (GD : FnOk P w K mg base CX0 1 fD fdD ["_law_tape_here", "_law_many"] spDraw) (mD : mg "_law_draw" = some (.ref fD)) (kD : PySem.W.keepIn K (.ref fD) = true) (bD : Binds K fdD ["_law_tape_here", "_law_many"] [])
    (GL : FnOk P w K mg base CX0 1 fL fdL ["_law_n", "_law_d"] spLowest) (mL : mg "_law_lowest" = some (.ref fL)) (kL : PySem.W.keepIn K (.ref fL) = true) (bL : Binds K fdL ["_law_n", "_law_d"] []) : FnOk P w K mg base CX0 2 f fd ["_law_tape_here", "_law_wide"] spRational := by
  refine F.ok scRat (fun vs H Q E h => ?_) (fun cdv A outer s H vs Q E hr h => ?_)
  · obtain ⟨t, b, rfl, _⟩ := h
    rfl
  · obtain ⟨t, b, rfl, hT, k⟩ := h
    refine ⟨_, pss_cons (ps_set (i := 2) scRat.nd rfl (Or.inl rfl) (pe_call GD hr (by rfl) mD kD bD .nil pass0 (pa_cons (pv 0) (pa_cons (pe_op op_add pe_int (pe_op op_mul pe_int (pe_callTy call_int1 (by rfl) T.int boot_int (pa_cons (pv 1) pa_nil)))) pa_nil))))
      (pss_cons (ps_if (pt_cmpR op_lt (pv 2) pe_int (nomark _)) (pss_one (ps_ret (pe_tup (pa_cons (pe_op op_sub (pe_call GD hr (by rfl) mD kD bD .nil pass0 (pa_cons (pv 0) (pa_cons pe_int pa_nil))) pe_int) (pa_cons pe_int pa_nil))))) pss_nil)
      (pss_cons (ps_if (pt_cmpR op_lt (pv 2) pe_int (nomark _)) (pss_one (ps_ret (pe_call GL hr (by rfl) mL kL bL .nil pass0 (pa_cons (pe_op op_sub (pe_call GD hr (by rfl) mD kD bD .nil pass0 (pa_cons (pv 0) (pa_cons pe_int pa_nil))) pe_int) (pa_cons (pe_op op_add pe_int (pe_call GD hr (by rfl) mD kD bD .nil pass0 (pa_cons (pv 0) (pa_cons pe_int pa_nil)))) pa_nil))))) pss_nil)
      (pss_cons (ps_if (pt_cmpR op_eq (pv 2) pe_int (nomark _)) (pss_one (ps_ret (pe_call GL hr (by rfl) mL kL bL .nil pass0 (pa_cons (pe_op op_sub (pe_call GD hr (by rfl) mD kD bD .nil pass0 (pa_cons (pv 0) (pa_cons (pe_op op_add (pe_op op_mul pe_int (pe_op op_pow pe_int pe_int)) pe_int) pa_nil))) (pe_op op_pow pe_int pe_int)) (pa_cons (pe_op op_add pe_int (pe_call GD hr (by rfl) mD kD bD .nil pass0 (pa_cons (pv 0) (pa_cons (pe_op op_pow pe_int pe_int) pa_nil)))) pa_nil))))) pss_nil)
      (pss_cons (ps_set (i := 3) scRat.nd rfl (Or.inl rfl) (pe_op op_sub (pe_op op_pow pe_int pe_int) (pe_call GD hr (by rfl) mD kD bD .nil pass0 (pa_cons (pv 0) (pa_cons pe_int pa_nil)))))
      (pss_one (ps_ret (pe_ix ix_list (pe_lst (pa_cons (pe_tup (pa_cons (pv 3) (pa_cons pe_int pa_nil))) (pa_cons (pe_tup (pa_cons (pe_op op_sub pe_int (pv 3)) (pa_cons pe_int pa_nil))) (pa_cons (pe_tup (pa_cons pe_int (pa_cons (pv 3) pa_nil))) (pa_cons (pe_tup (pa_cons (pe_un un_neg pe_int) (pa_cons (pv 3) pa_nil))) pa_nil)))))
        (pe_call GD hr (by rfl) mD kD bD .nil pass0 (pa_cons (pv 0) (pa_cons pe_int pa_nil))) (fun _ _ => rfl)))))))), ?_⟩
    have two : 2 ≤ sizeLine := by decide
    have pw18 : CPow 10 18 := ⟨by decide, by decide, by decide⟩
    have pw40 : CPow 10 40 := ⟨by decide, by decide, by decide⟩
    have b140 : ∀ z : Int, -100000000000000000000000000000000000000000 ≤ z → z ≤ 100000000000000000000000000000000000000000 → z.natAbs < 2 ^ 140 := by
      intro z h1 h2
      have : (2 : Nat) ^ 140 = 1393796574908163946345982392040522594123776 := by decide
      omega
    have big : ∀ z : Int, -100000000000000000000000000000000000000000 ≤ z → z ≤ 100000000000000000000000000000000000000000 → z.natAbs < 2 ^ 4000 := fun z h1 h2 => Nat.lt_of_lt_of_le (b140 z h1 h2) (Nat.pow_le_pow_right (by decide) (by decide))
    refine ⟨_, rfl, _, rfl, .inr ⟨b, rfl, _, _, rfl, rfl, .inl ⟨by decide, by decide⟩, _, _, rfl, rfl, t, _, rfl, hT, by cases b <;> decide, by cases b <;> exact big _ (by decide) (by decide), fun k1 H1 u1 v1 T1 S1 => ?_⟩⟩
    refine ⟨_, rfl, _, _, rfl, rfl, _, rfl, ?_⟩
    refine ite2 (fun _ => ?_) (fun _ => ?_)
    · refine ⟨_, rfl, t, _, rfl, T1, by decide, big _ (by decide) (by decide), fun k2 H2 u2 v2 T2 S2 => ?_⟩
      refine ⟨_, _, rfl, rfl, two, fun p hp => ?_⟩
      exact k p (k2 - 7) 1 _ (rt_one _) (b140 _ (by omega) (by omega)) (b140 _ (by decide) (by decide)) upd_same ((S1.trans S2).free T2 hp) (T2.same (Same.upd hp)) ((S1.trans S2).trans (Same.b t (Same.upd hp)))
    · refine ⟨_, rfl, _, _, rfl, rfl, _, rfl, ?_⟩
      refine ite2 (fun _ => ?_) (fun _ => ?_)
      · refine ⟨_, rfl, t, _, rfl, T1, by decide, big _ (by decide) (by decide), fun k2 H2 u2 v2 T2 S2 => ?_⟩
        refine ⟨_, _, rfl, rfl, _, rfl, t, _, rfl, T2, by decide, big _ (by decide) (by decide), fun k3 H3 u3 v3 T3 S3 => ?_⟩
        refine ⟨_, _, rfl, rfl, _, _, rfl, by omega, big _ (by omega) (by omega), fun p hp => ?_⟩
        have le := low_le (n := k2 - 200) (d := 1 + k3) (by omega)
        exact k p _ _ _ (low_rt (by omega)) (Nat.lt_of_le_of_lt le.1 (b140 _ (by omega) (by omega))) (Nat.lt_of_le_of_lt le.2 (b140 _ (by omega) (by omega))) upd_same (((S1.trans S2).trans S3).free T3 hp) (T3.same (Same.upd hp)) (((S1.trans S2).trans S3).trans (Same.b t (Same.upd hp)))
      · refine ⟨_, rfl, rfl, _, rfl, ?_⟩
        refine ite2 (fun _ => ?_) (fun _ => ?_)
        · refine ⟨_, rfl, _, _, rfl, rfl, pw18, _, _, rfl, rfl, .inl ⟨by decide, by decide⟩, _, _, rfl, rfl, t, _, rfl, T1, ?_, ?_, fun k2 H2 u2 v2 T2 S2 => ?_⟩
          · rw [p18]
            decide
          · rw [p18]
            exact big _ (by decide) (by decide)
          rw [p18] at v2
          refine ⟨_, _, rfl, rfl, pw18, _, _, rfl, rfl, _, rfl, _, _, rfl, rfl, pw18, t, _, rfl, T2, ?_, ?_, fun k3 H3 u3 v3 T3 S3 => ?_⟩
          · rw [p18]
            decide
          · rw [p18]
            exact big _ (by decide) (by decide)
          rw [p18] at v3
          refine ⟨_, _, rfl, rfl, _, _, rfl, by omega, big _ (by omega) (by omega), fun p hp => ?_⟩
          have le := low_le (n := k2 - 10 ^ (18 : Int).toNat) (d := 1 + k3) (by omega)
          rw [p18] at le
          refine k p _ _ _ (low_rt (by omega)) ?_ (Nat.lt_of_le_of_lt le.2 (b140 _ (by omega) (by omega))) upd_same (((S1.trans S2).trans S3).free T3 hp) (T3.same (Same.upd hp)) (((S1.trans S2).trans S3).trans (Same.b t (Same.upd hp)))
          exact Nat.lt_of_le_of_lt le.1 (b140 _ (by omega) (by omega))
        · refine ⟨_, _, rfl, rfl, pw40, _, rfl, t, _, rfl, T1, by decide, big _ (by decide) (by decide), fun k2 H2 u2 v2 T2 S2 => ?_⟩
          refine ⟨_, _, rfl, rfl, ?_⟩
          rw [p40]
          obtain ⟨ed, he⟩ : ∃ ed : Int, ed = 10000000000000000000000000000000000000000 - k2 := ⟨_, rfl⟩
          rw [show (fun i j : Int => V.int (i - j)) 10000000000000000000000000000000000000000 k2 = V.int ed by rw [he]]
          refine ⟨_, rfl, two, fun a1 ha1 => ⟨_, rfl, _, _, rfl, rfl, two, fun a2 ha2 => ⟨_, rfl, two, fun a3 ha3 => ⟨_, rfl, _, rfl, two, fun a4 ha4 => ⟨by show 4 ≤ sizeLine; decide, fun a5 ha5 => ?_⟩⟩⟩⟩⟩
          have z1 := Same.upd (o := .tup [.int ed, .int 1]) ha1
          have z2 := Same.upd (o := .tup [.int (0 - ed), .int 1]) ha2
          have z3 := Same.upd (o := .tup [.int 1, .int ed]) ha3
          have z4 := Same.upd (o := .tup [.int (-1), .int ed]) ha4
          have z5 := Same.upd (o := .lst [.ref a1, .ref a2, .ref a3, .ref a4]) ha5
          have zz := z1.trans (z2.trans (z3.trans (z4.trans z5)))
          have T5 := T2.same zz
          refine ⟨_, rfl, t, _, rfl, T5, by decide, big _ (by decide) (by decide), fun k3 H3 u3 v3 T3 S3 => ?_⟩
          have n5 : a5 ≠ t := (T2.same (z1.trans (z2.trans (z3.trans z4)))).ne ha5
          have n1 : a1 ≠ t := T2.ne ha1
          have n2 : a2 ≠ t := (T2.same z1).ne ha2
          have n3 : a3 ≠ t := (T2.same (z1.trans z2)).ne ha3
          have n4 : a4 ≠ t := (T2.same (z1.trans (z2.trans z3))).ne ha4
          have f0 := S1.trans S2
          have g1 : H a1 = none := f0.free T2 ha1
          have g2 : H a2 = none := f0.free T2 (z1.free ha2)
          have g3 : H a3 = none := f0.free T2 ((z1.trans z2).free ha3)
          have g4 : H a4 = none := f0.free T2 ((z1.trans (z2.trans z3)).free ha4)
          have sb := (f0.trans (Same.b t zz)).trans S3
          have e1 := S3 _ _ n1 ((z2.trans (z3.trans (z4.trans z5))) _ _ upd_same)
          have e2 := S3 _ _ n2 ((z3.trans (z4.trans z5)) _ _ upd_same)
          have e3 := S3 _ _ n3 ((z4.trans z5) _ _ upd_same)
          have e4 := S3 _ _ n4 (z5 _ _ upd_same)
          have hL := S3 _ _ n5 (upd_same)
          rcases (by omega : k3 = 0 ∨ k3 = 1 ∨ k3 = 2 ∨ k3 = 3) with rfl | rfl | rfl | rfl
          · exact ⟨a5, _, _, _, rfl, rfl, SqL.of hL, rfl, k a1 _ _ _ (rt_one _) (b140 _ (by omega) (by omega)) (b140 _ (by omega) (by omega)) e1 g1 T3 sb⟩
          · exact ⟨a5, _, _, _, rfl, rfl, SqL.of hL, rfl, k a2 _ _ _ (rt_one _) (b140 _ (by omega) (by omega)) (b140 _ (by omega) (by omega)) e2 g2 T3 sb⟩
          · exact ⟨a5, _, _, _, rfl, rfl, SqL.of hL, rfl, k a3 _ _ _ (rt_inv (by omega)) (b140 _ (by omega) (by omega)) (b140 _ (by omega) (by omega)) e3 g3 T3 sb⟩
          · exact ⟨a5, _, _, _, rfl, rfl, SqL.of hL, rfl, k a4 _ _ _ (rt_ninv (by omega)) (b140 _ (by omega) (by omega)) (b140 _ (by omega) (by omega)) e4 g4 T3 sb⟩
end
end K02
set_option Elab.async false
set_option linter.all false
set_option maxRecDepth 100000
set_option maxHeartbeats 4000000
namespace K02
open PySem PySem.Spec PyProof.Rows L2 Lc
abbrev sCr : Stmt := top 9
abbrev sPow : Stmt := top 10
abbrev sNu : Stmt := top 11
abbrev sRd : Stmt := top 12
abbrev sDec : Stmt := top 13
def Sm (n : Int) : Prop := n.natAbs < 2 ^ 1000
abbrev OkF := Int → Int → Nat → Hp → VK → Prop
def spCr (C : Addr) : Sp := fun vs H Q E => ∃ v p : V, vs = [v, p] ∧ ((Rk H v false ∧ Tells C H v E) ∨ (Rk H v true ∧ Pk H p ∧ Tells C H p E) ∨ (Rk H v true ∧ ∃ k : Nat, p = .int k ∧ k ≤ 9 ∧ Q .non H))
def spPow : Sp := fun vs H Q _ => ∃ k : Nat, vs = [.int k] ∧ k ≤ 9 ∧ Q (.int (10 ^ k)) H
def spNu : Sp := fun vs H Q _ => ∃ (a : Addr) (n d s : Int), vs = [.ref a, .int s] ∧ H a = some (.tup [.int n, .int d]) ∧ 0 < d ∧ 0 < s ∧ Sm n ∧ Sm d ∧ s.natAbs < 2 ^ 40 ∧ Q (.int (nu n d s)) H
def spKw (C : Addr) (ok : OkF) : Sp := fun vs H Q E => ∃ v p : V, vs = [v, p] ∧ ((Rk H v false ∧ Tells C H v E) ∨ (Rk H v true ∧ Pk H p ∧ Tells C H p E) ∨
  ∃ (a : Addr) (n d : Int) (k : Nat), v = .ref a ∧ p = .int k ∧ H a = some (.tup [.int n, .int d]) ∧ Rt n d ∧ Sm n ∧ Sm d ∧ k ≤ 9 ∧ ok n d k H Q)
def okRd : OkF := fun n d k H Q => New2 H Q (lowN (nu n d (10 ^ k)) (10 ^ k)) (lowD (nu n d (10 ^ k)) (10 ^ k))
def okDec : OkF := fun n d k H Q => ∀ x : Str, x.cps.toList = decL (nu n d (10 ^ k)) k → Q (.str x) H
section
variable {P : Program} {w : World} {K : PySem.W.Frag} {mg : Str → Option Value} {base : Heap} {f C fI fK fW fP fN fL fQ : Addr} {fd fdI fdK fdW fdP fdN fdL fdQ : FuncData} {u1 : Tok}
theorem scCr : FnScope ["value", "places"] ["value", "places"] (defScope sCr) := ⟨rfl, rfl, rfl, by decide +kernel, rfl, by decide +kernel, by decide +kernel⟩
theorem ok_cr (F : Fun K "check_rounding" "check_rounding" sCr f fd) (T : Er K mg C fI) (m1 : mg "MOST_PLACES" = some (.int 9 u1)) (GI : FnOk P w K mg base CX0 1 fI fdI ["self", "given"] (spInit C)) (bI : Binds K fdI ["self", "given"] [])
    (GK : FnOk P w K mg base (L2.CX P w) 3 fK fdK ["value"] (spChk C)) (mK : mg "check_rational" = some (.ref fK)) (kK : PySem.W.keepIn K (.ref fK) = true) (bK : Binds K fdK ["value"] [])
    (GW : FnOk P w K mg base CX0 1 fW fdW ["value"] spWhole) (mW : mg "is_whole" = some (.ref fW)) (kW : PySem.W.keepIn K (.ref fW) = true) (bW : Binds K fdW ["value"] []) : FnOk P w K mg base (L2.CX P w) 4 f fd ["value", "places"] (spCr C) := by
  refine F.okX scCr (fun vs H Q E h => ?_) (fun cdv A outer s H vs Q E hr h => ?_)
  · obtain ⟨v, p, rfl, _⟩ := h
    rfl
  · obtain ⟨v, p, rfl, h⟩ := h
    refine ⟨_, pss_cons (ps_expr (pe_callS GK hr (by rfl) mK kK bK (fun σ => passAt (W := fun cls d _ H => E cls d H) (takes_of rfl rfl rfl rfl) σ) (pa_cons (pv 0) pa_nil)))
      (pss_one (ps_if (PW.pt (pw_or (pt_not (pt_val (pe_call GW (hr.mono (by decide)) (by rfl) mW kW bW .nil pass0 (pa_cons (pv 1) pa_nil)))) (pw_or (pt_cmpR op_lt (pv 1) pe_int (nomark _)) (pw_or1 (pt_cmpR op_gt (pv 1) (pe_glob (v := .int 9) (by rfl) m1 ⟨_, rfl⟩) (nomark _))))))
        (pss_one (ps_raise (W := fun cls d _ H => E cls d H) rfl (takes_of rfl rfl rfl rfl) (pmk_oex T.oex T.iC T.tI GI (hr.mono (by decide)) bI .nil pass0 (by rfl) T.gC (pa_cons (pv 1) pa_nil)))) pss_nil)), ?_⟩
    rcases h with ⟨hv, t⟩ | ⟨hv, hp, t⟩ | ⟨hv, k, rfl, k9, q⟩
    · exact ⟨_, rfl, v, false, rfl, hv, nofun, fun _ => t⟩
    · refine ⟨_, rfl, v, true, rfl, hv, fun _ => ?_, nofun⟩
      have out : ∀ a, H a = none → _ := tells_of t
      cases hp with
      | @ty _ ty' h n =>
        refine ⟨_, rfl, p, ty', rfl, h, _, rfl, ?_⟩
        rw [show (ty' == "int") = false by simpa using n]
        exact iteT (iteT ⟨_, rfl, by show 1 ≤ 1000; decide, tells_of t⟩)
      | @out k h =>
        refine ⟨_, rfl, _, "int", rfl, .int k, _, rfl, iteF ⟨_, rfl, _, _, rfl, rfl, _, rfl, ?_⟩⟩
        by_cases z : k < 0
        · rw [decide_eq_true z]
          exact iteT (iteT ⟨_, rfl, by show 1 ≤ 1000; decide, tells_of t⟩)
        · rw [decide_eq_false z]
          refine iteF ⟨_, rfl, _, _, rfl, rfl, _, rfl, ?_⟩
          rw [decide_eq_true (by omega)]
          exact iteT ⟨_, rfl, by show 1 ≤ 1000; decide, tells_of t⟩
    · refine ⟨_, rfl, v, true, rfl, hv, fun _ => ?_, nofun⟩
      refine ⟨_, rfl, _, "int", rfl, .int _, _, rfl, iteF ⟨_, rfl, _, _, rfl, rfl, _, rfl, ?_⟩⟩
      rw [decide_eq_false (by omega)]
      refine iteF ⟨_, rfl, _, _, rfl, rfl, _, rfl, ?_⟩
      rw [decide_eq_false (by omega)]
      exact iteF q
theorem scPow : FnScope ["places", "scale", "place"] ["places"] (defScope sPow) := ⟨rfl, rfl, rfl, by decide +kernel, rfl, by decide +kernel, by decide +kernel⟩
theorem ok_pow (F : Fun K "power_of_ten" "power_of_ten" sPow f fd) (T : Bt mg) : FnOk P w K mg base CX0 1 f fd ["places"] spPow := by
  refine F.ok scPow (fun vs H Q E h => ?_) (fun cdv A outer s H vs Q E hr h => ?_)
  · obtain ⟨k, rfl, _⟩ := h
    rfl
  · obtain ⟨k, rfl, k9, q⟩ := h
    refine ⟨_, pss_cons (ps_set (i := 1) scPow.nd rfl (Or.inl rfl) pe_int) (pss_cons (ps_for PassesOwn.never rfl (pi_range1 (by rfl) T.range (pa_cons (pv 0) pa_nil)) (pg_name (i := 2) scPow.nd rfl (Or.inl rfl)) (pss_one (ps_set (i := 1) scPow.nd rfl (Or.inl rfl) (pe_op op_mul (pv 1) pe_int))))
      (pss_one (ps_ret (pv 1)))), ?_⟩
    refine ⟨_, rfl, _, rfl, by omega, by omega, for_range (n := k) (fun i σ H' => ∃ v : Option V, σ = [some (.int k), some (.int (10 ^ i)), v] ∧ H' = H) ⟨none, rfl, rfl⟩ ?_ ?_⟩
    · rintro i σ H' hi ⟨v, rfl, rfl⟩
      refine ⟨_, rfl, _, _, rfl, rfl, .inr ⟨by decide, by decide⟩, some (.int (0 + (i : Int))), ?_, rfl⟩
      rw [Int.pow_succ]
      rfl
    · rintro σ H' ⟨v, rfl, rfl⟩
      exact ⟨_, rfl, q⟩
theorem scNu : FnScope ["value", "scale", "n", "d", "units"] ["value", "scale"] (defScope sNu) := ⟨rfl, rfl, rfl, by decide +kernel, rfl, by decide +kernel, by decide +kernel⟩
theorem ok_nu (F : Fun K "nearest_units" "nearest_units" sNu f fd) (T : Bt mg) : FnOk P w K mg base CX0 1 f fd ["value", "scale"] spNu := by
  refine F.ok scNu (fun vs H Q E h => ?_) (fun cdv A outer s H vs Q E hr h => ?_)
  · obtain ⟨a, n, d, s, rfl, _⟩ := h
    rfl
  · obtain ⟨a, n, d, sc, rfl, ha, d0, s0, sn, sd, ss, q⟩ := h
    refine ⟨_, pss_cons (ps_asg (pv 0) (pg_tup rfl (pgs_cons (pg_name (i := 2) scNu.nd rfl (.inl rfl)) (pgs_cons (pg_name (i := 3) scNu.nd rfl (.inl rfl)) pgs_nil))))
      (pss_cons (ps_set (i := 4) scNu.nd rfl (Or.inl rfl) (pe_op op_fdivW (pe_op op_add (pe_op op_mulW (pe_op op_mul pe_int (pe_callB call_abs (by rfl) T.abs boot_abs (pa_cons (pv 2) pa_nil))) (pv 1)) (pv 3)) (pe_op op_mul pe_int (pv 3))))
      (pss_cons (ps_if (pt_cmpR op_lt (pv 2) pe_int (nomark _)) (pss_one (ps_ret (pe_un un_neg (pv 4)))) pss_nil) (pss_one (ps_ret (pv 4))))), ?_⟩
    have b2n : (2 * ab n).natAbs < 2 ^ 1001 := by
      unfold Sm at sn
      rw [ab_nat, show (2 : Nat) ^ 1001 = 2 ^ 1000 * 2 from Nat.pow_succ ..]
      omega
    have b2d : (2 * d).natAbs < 2 ^ 1001 := by
      unfold Sm at sd
      rw [show (2 : Nat) ^ 1001 = 2 ^ 1000 * 2 from Nat.pow_succ ..]
      omega
    refine ⟨_, rfl, a, _, rfl, SqT.of ha, rfl, _, _, rfl, _, _, rfl, rfl, ?_⟩
    refine ⟨_, rfl, n, rfl, _, _, rfl, rfl, .inl ⟨by decide, by decide⟩, _, rfl, _, _, rfl, rfl, wide_mul b2n ss (by decide) (by decide) (by decide), _, rfl, _, _, rfl, rfl, _, rfl, _, _, rfl, rfl, .inl ⟨by decide, by decide⟩, _, _, rfl, rfl, wide_div (by omega) b2d (by decide) (by decide), ?_⟩
    refine ⟨_, rfl, _, _, rfl, rfl, _, rfl, ?_⟩
    unfold nu at q
    by_cases z : n < 0
    · rw [decide_eq_true z]
      rw [if_pos z] at q
      exact iteT ⟨_, rfl, _, rfl, q⟩
    · rw [decide_eq_false z]
      rw [if_neg z] at q
      exact iteF ⟨_, rfl, q⟩
theorem scRd : FnScope ["value", "places", "scale"] ["value", "places"] (defScope sRd) := ⟨rfl, rfl, rfl, by decide +kernel, rfl, by decide +kernel, by decide +kernel⟩
/-- what both call -/
structure Cs (P : Program) (w : World) (K : PySem.W.Frag) (mg : Str → Option Value) (base : Heap) (C fQ fP fN fL : Addr) (fdQ fdP fdN fdL : FuncData) : Prop where
  GQ : FnOk P w K mg base (L2.CX P w) 4 fQ fdQ ["value", "places"] (spCr C)
  mQ : mg "check_rounding" = some (.ref fQ)
  kQ : PySem.W.keepIn K (.ref fQ) = true
  bQ : Binds K fdQ ["value", "places"] []
  GP : FnOk P w K mg base CX0 1 fP fdP ["places"] spPow
  mP : mg "power_of_ten" = some (.ref fP)
  kP : PySem.W.keepIn K (.ref fP) = true
  bP : Binds K fdP ["places"] []
  GN : FnOk P w K mg base CX0 1 fN fdN ["value", "scale"] spNu
  mN : mg "nearest_units" = some (.ref fN)
  kN : PySem.W.keepIn K (.ref fN) = true
  bN : Binds K fdN ["value", "scale"] []
  GL : FnOk P w K mg base CX0 2 fL fdL ["n", "d"] spLow
  mL : mg "lowest_terms" = some (.ref fL)
  kL : PySem.W.keepIn K (.ref fL) = true
  bL : Binds K fdL ["n", "d"] []
theorem ok_rd {dvs : List V} {kws : List (Str × V)} (F : FunD K "rounded" "rounded" (defArgs sRd) (defBody sRd) (defScope sRd) dvs kws f fd) (R : Cs P w K mg base C fQ fP fN fL fdQ fdP fdN fdL) : FnOk P w K mg base (L2.CX P w) 5 f fd ["value", "places"] (spKw C okRd) := by
  refine F.ok scRd (fun vs H Q E h => ?_) (fun cdv A outer s H vs Q E hr h => ?_)
  · obtain ⟨v, p, rfl, _⟩ := h
    rfl
  · obtain ⟨v, p, rfl, h⟩ := h
    have hr1 : Room 1 _ := hr.mono (by decide)
    refine ⟨_, pss_cons (ps_expr (pe_callS R.GQ hr (by rfl) R.mQ R.kQ R.bQ (fun σ => passAt (W := fun cls d _ H => E cls d H) (takes_of rfl rfl rfl rfl) σ) (pa_cons (pv 0) (pa_cons (pv 1) pa_nil))))
      (pss_cons (ps_set (i := 2) scRd.nd rfl (Or.inl rfl) (pe_call R.GP hr1 (by rfl) R.mP R.kP R.bP .nil pass0 (pa_cons (pv 1) pa_nil)))
      (pss_one (ps_ret (pe_call R.GL (hr.mono (by decide)) (by rfl) R.mL R.kL R.bL .nil pass0 (pa_cons (pe_call R.GN hr1 (by rfl) R.mN R.kN R.bN .nil pass0 (pa_cons (pv 0) (pa_cons (pv 2) pa_nil))) (pa_cons (pv 2) pa_nil)))))), ?_⟩
    rcases h with ⟨hv, t⟩ | ⟨hv, hp, t⟩ | ⟨a, n, d, k, rfl, rfl, ha, rt, sn, sd, k9, q⟩
    · exact ⟨_, rfl, _, rfl, v, p, rfl, .inl ⟨hv, t⟩⟩
    · exact ⟨_, rfl, _, rfl, v, p, rfl, .inr (.inl ⟨hv, hp, t⟩)⟩
    · refine ⟨_, rfl, _, rfl, _, _, rfl, .inr (.inr ⟨.of ha rt, k, rfl, k9, ?_⟩)⟩
      have tp := ten_pos k
      refine ⟨_, rfl, k, rfl, k9, ?_⟩
      refine ⟨_, rfl, _, rfl, a, n, d, _, rfl, ha, rt.pos, tp, sn, sd, ten_small k9, _, rfl, _, _, rfl, by omega, Nat.lt_of_lt_of_le (ten_small k9) (Nat.pow_le_pow_right (by decide) (by decide)), ?_⟩
      rw [if_neg (by omega : ¬ (10 : Int) ^ k < 0), if_neg (by omega : ¬ (10 : Int) ^ k < 0)]
      exact q
theorem scDec : FnScope ["value", "places", "scale", "units", "sign", "whole"] ["value", "places"] (defScope sDec) := ⟨rfl, rfl, rfl, by decide +kernel, rfl, by decide +kernel, by decide +kernel⟩
theorem ok_dec {dvs : List V} {kws : List (Str × V)} (F : FunD K "decimal" "decimal" (defArgs sDec) (defBody sDec) (defScope sDec) dvs kws f fd) (T : Bt mg) (R : Cs P w K mg base C fQ fP fN fL fdQ fdP fdN fdL) : FnOk P w K mg base (L2.CX P w) 5 f fd ["value", "places"] (spKw C okDec) := by
  refine F.ok scDec (fun vs H Q E h => ?_) (fun cdv A outer s H vs Q E hr h => ?_)
  · obtain ⟨v, p, rfl, _⟩ := h
    rfl
  · obtain ⟨v, p, rfl, h⟩ := h
    have hr1 : Room 1 _ := hr.mono (by decide)
    refine ⟨_, pss_cons (ps_expr (pe_callS R.GQ hr (by rfl) R.mQ R.kQ R.bQ (fun σ => passAt (W := fun cls d _ H => E cls d H) (takes_of rfl rfl rfl rfl) σ) (pa_cons (pv 0) (pa_cons (pv 1) pa_nil))))
      (pss_cons (ps_set (i := 2) scDec.nd rfl (Or.inl rfl) (pe_call R.GP hr1 (by rfl) R.mP R.kP R.bP .nil pass0 (pa_cons (pv 1) pa_nil)))
      (pss_cons (ps_set (i := 3) scDec.nd rfl (Or.inl rfl) (pe_call R.GN hr1 (by rfl) R.mN R.kN R.bN .nil pass0 (pa_cons (pv 0) (pa_cons (pv 2) pa_nil))))
      (pss_cons (ps_set (i := 4) scDec.nd rfl (Or.inl rfl) (pe_mid (pe_ifExp (pt_cmpR op_lt (pv 3) pe_int (nomark _)) pe_str pe_str)))
      (pss_cons (ps_set (i := 5) scDec.nd rfl (Or.inl rfl) (pe_callTy call_str_int (by rfl) T.str boot_str (pa_cons (pe_op op_fdivW (pe_callB call_abs (by rfl) T.abs boot_abs (pa_cons (pv 3) pa_nil)) (pv 2)) pa_nil)))
      (pss_cons (ps_if (pt_cmpR op_eq (pv 1) pe_int (nomark _)) (pss_one (ps_ret (pe_op op_add_str (pv 4) (pv 5)))) pss_nil)
      (pss_one (ps_ret (pe_op op_add_str (pe_op op_add_str (pe_op op_add_str (pv 4) (pv 5)) pe_str) (pe_m1 PySem.F.slot_str_zfill PySem.F.type_str_zfill mt_zfill (pe_callTy call_str_int (by rfl) T.str boot_str (pa_cons (pe_op op_mod (pe_callB call_abs (by rfl) T.abs boot_abs (pa_cons (pv 3) pa_nil)) (pv 2)) pa_nil)) (pv 1)))))))))), ?_⟩
    rcases h with ⟨hv, t⟩ | ⟨hv, hp, t⟩ | ⟨a, n, d, k, rfl, rfl, ha, rt, sn, sd, k9, q⟩
    · exact ⟨_, rfl, _, rfl, v, p, rfl, .inl ⟨hv, t⟩⟩
    · exact ⟨_, rfl, _, rfl, v, p, rfl, .inr (.inl ⟨hv, hp, t⟩)⟩
    · refine ⟨_, rfl, _, rfl, _, _, rfl, .inr (.inr ⟨.of ha rt, k, rfl, k9, ?_⟩)⟩
      have tp := ten_pos k
      have ts := ten_small k9
      refine ⟨_, rfl, k, rfl, k9, ?_⟩
      refine ⟨_, rfl, _, rfl, a, n, d, _, rfl, ha, rt.pos, tp, sn, sd, ts, ?_⟩
      obtain ⟨u, hu⟩ : ∃ u, u = nu n d (10 ^ k) := ⟨_, rfl⟩
      have ul : u.natAbs < 2 ^ 1100 := by
        have := nu_le (n := n) (s := 10 ^ k) rt.pos tp
        rw [← hu, ab_nat, ab_nat] at this
        have e1 : ((n.natAbs : Int) * 10 ^ k).natAbs < 2 ^ 1100 := by
          rw [Int.natAbs_mul]
          have h1 : ((n.natAbs : Int)).natAbs < 2 ^ 1000 := by rw [Int.natAbs_natCast]; exact sn
          exact Nat.lt_of_lt_of_le (Nat.mul_lt_mul'' h1 ts) (by rw [← Nat.pow_add]; exact Nat.pow_le_pow_right (by decide) (by decide))
        omega
      rw [← hu]
      unfold okDec at q
      rw [← hu] at q
      clear hu
      -- the numbers
      have eab : (if u < 0 then -u else u) = (u.natAbs : Int) := by split <;> omega
      have et : (10 : Int) ^ k = ((10 ^ k : Nat) : Int) := by rw [Int.natCast_pow]; rfl
      have lg : ∀ m : Nat, m ≤ u.natAbs → ((m : Nat) : Int).natAbs.log2 < 1920 := by
        intro m hm
        rw [Int.natAbs_natCast]
        by_cases z : m = 0
        · rw [z]
          decide
        · exact Nat.lt_of_lt_of_le ((Nat.log2_lt z).mpr (Nat.lt_of_le_of_lt hm ul)) (by decide)
      have dlen : ∀ m : Nat, m ≤ u.natAbs → (PySem.Str.ofString (toString ((m : Nat) : Int))).length ≤ 1921 := fun m hm => int_text_len_1921 (lg m hm)
      have sgl : ∀ x : Str, x.cps.toList = (if u < 0 then [45] else []) → x.length ≤ 1 := by
        intro x hx
        rw [lenL, hx]
        split <;> decide
      refine ⟨fun v H' => H' = H ∧ ∃ x : Str, v = .str x ∧ x.cps.toList = (if u < 0 then [45] else []), ?_, ?_⟩
      · refine ⟨_, rfl, _, _, rfl, rfl, _, rfl, ?_⟩
        by_cases z : u < 0
        · rw [decide_eq_true z]
          exact iteT ⟨rfl, _, rfl, by rw [if_pos z]; decide +kernel⟩
        · rw [decide_eq_false z]
          exact iteF ⟨rfl, _, rfl, by rw [if_neg z]; decide +kernel⟩
      rintro v H' ⟨rfl, sg, rfl, hsg⟩
      have hq : ((u.natAbs : Int)) / 10 ^ k = ((u.natAbs / 10 ^ k : Nat) : Int) := by rw [et]; rfl
      have hm : ((u.natAbs : Int)) % 10 ^ k = ((u.natAbs % 10 ^ k : Nat) : Int) := by rw [et]; rfl
      have big : ((10 : Int) ^ k).natAbs < 2 ^ 40 := ts
      refine ⟨_, rfl, u, rfl, _, rfl, _, _, rfl, rfl, wide_div tp big (by decide) (by decide), (u.natAbs / 10 ^ k : Nat), ?_, lg _ (Nat.div_le_self _ _), ?_⟩
      · show [V.int ((if u < 0 then -u else u) / 10 ^ k)] = _
        rw [eab, hq]
      have wl := numL (u.natAbs / 10 ^ k)
      have w1 := dlen _ (Nat.div_le_self u.natAbs (10 ^ k))
      have s1 := sgl sg hsg
      have sz : (20000 : Nat) ≤ sizeLine := by decide
      refine ⟨_, rfl, rfl, _, rfl, ?_⟩
      by_cases kz : k = 0
      · rw [decide_eq_true (show V.int (k : Int) = V.int 0 by rw [kz]; rfl)]
        refine iteT ⟨_, rfl, _, rfl, _, _, rfl, rfl, by omega, q _ ?_⟩
        rw [appL, hsg, wl]
        unfold decL decB
        rw [if_pos kz, List.append_nil]
      · rw [decide_eq_false (show ¬ V.int (k : Int) = V.int 0 from fun e => kz (by injection e with e; omega))]
        refine iteF ⟨_, rfl, _, rfl, _, _, rfl, rfl, by omega, _, _, rfl, rfl, ?_, _, rfl, u, rfl, _, rfl, _, _, rfl, rfl, tp, (u.natAbs % 10 ^ k : Nat), ?_, lg _ (Nat.mod_le _ _), ⟨_, rfl⟩, _, rfl, _, k, rfl, rfl, pad9 k9, _, _, rfl, rfl, ?_, q _ ?_⟩
        · rw [lenL, appL, List.length_append, ← lenL, ← lenL]
          have : (PySem.Str.ofString ".").length = 1 := by decide +kernel
          omega
        · show [V.int ((if u < 0 then -u else u) % 10 ^ k)] = _
          rw [eab, hm]
        · have zl := zfillL (k := k) (numL (u.natAbs % 10 ^ k))
          have zn : (zf k (u.natAbs % 10 ^ k)).length = k := zf_len (by omega) (Nat.mod_lt _ (Nat.pow_pos (by decide)))
          rw [lenL (Txt.zfill _ _), zl, zn, lenL, appL, appL, List.length_append, List.length_append, ← lenL, ← lenL, ← lenL]
          have : (PySem.Str.ofString ".").length = 1 := by decide +kernel
          omega
        · have zl := zfillL (k := k) (numL (u.natAbs % 10 ^ k))
          rw [appL, appL, appL, hsg, wl, zl]
          unfold decL decB
          rw [if_neg kz, show (PySem.Str.ofString ".").cps.toList = [46] by decide +kernel, List.append_assoc, List.append_assoc]
          rfl
end
end K02
set_option Elab.async false
set_option linter.all false
set_option maxRecDepth 100000
set_option maxHeartbeats 4000000
namespace K02
open PySem PySem.Spec PyProof.Rows L2 Lc PySem.NumText
abbrev sRead : Stmt := top 19
abbrev sScale : Stmt := top 20
abbrev sNear : Stmt := top 21
def spRead : Sp := fun vs H Q _ => ∃ (x : Str) (u : Int) (k : Nat), vs = [.str x, .int k] ∧ x.cps.toList = decL u k ∧ k ≤ 9 ∧ u.natAbs < 2 ^ 1100 ∧ ∀ H', Same H H' → Q (.int u) H'
def spNear : Sp := fun vs H Q _ => ∃ (a : Addr) (n d s : Int), vs = [.int (nu n d s), .ref a, .int s] ∧ H a = some (.tup [.int n, .int d]) ∧ 0 < d ∧ 0 < s ∧ Sm n ∧ Sm d ∧ s.natAbs < 2 ^ 40 ∧ Q (.bl true) H
abbrev rNotInS : R2 := fun x y H Q => ∃ (c : Nat) (z : Str), x = .str ⟨#[c]⟩ ∧ y = .str z ∧ Q (.bl (!decide (c ∈ z.cps.toList))) H
section
variable {P : Program} {w : World} {K : PySem.W.Frag} {mg : Str → Option Value} {base : Heap} {f : Addr} {fd : FuncData}
theorem scScale : FnScope ["_law_many", "_law_found", "_law_place"] ["_law_many"] (defScope sScale) := ⟨rfl, rfl, rfl, by decide +kernel, rfl, by decide +kernel, by decide +kernel⟩
theorem ok_scale (F : Fun K "_law_scale" "_law_scale" sScale f fd) (T : Bt mg) : FnOk P w K mg base CX0 1 f fd ["_law_many"] spPow := by
  refine F.ok scScale (fun vs H Q E h => ?_) (fun cdv A outer s H vs Q E hr h => ?_)
  · obtain ⟨k, rfl, _⟩ := h
    rfl
  · obtain ⟨k, rfl, k9, q⟩ := h
    refine ⟨_, pss_cons (ps_set (i := 1) scScale.nd rfl (Or.inl rfl) pe_int) (pss_cons (ps_for PassesOwn.never rfl (pi_range1 (by rfl) T.range (pa_cons (pv 0) pa_nil)) (pg_name (i := 2) scScale.nd rfl (Or.inl rfl)) (pss_one (ps_set (i := 1) scScale.nd rfl (Or.inl rfl) (pe_op op_mul (pv 1) pe_int))))
      (pss_one (ps_ret (pv 1)))), ?_⟩
    refine ⟨_, rfl, _, rfl, by omega, by omega, for_range (n := k) (fun i σ H' => ∃ v : Option V, σ = [some (.int k), some (.int (10 ^ i)), v] ∧ H' = H) ⟨none, rfl, rfl⟩ ?_ ?_⟩
    · rintro i σ H' hi ⟨v, rfl, rfl⟩
      refine ⟨_, rfl, _, _, rfl, rfl, .inr ⟨by decide, by decide⟩, some (.int (0 + (i : Int))), ?_, rfl⟩
      rw [Int.pow_succ]
      rfl
    · rintro σ H' ⟨v, rfl, rfl⟩
      exact ⟨_, rfl, q⟩
theorem scNear : FnScope ["_law_number", "_law_given", "_law_scale_here", "_law_above"] ["_law_number", "_law_given", "_law_scale_here"] (defScope sNear) := ⟨rfl, rfl, rfl, by decide +kernel, rfl, by decide +kernel, by decide +kernel⟩
theorem ok_near (F : Fun K "_law_is_nearest" "_law_is_nearest" sNear f fd) (T : Bt mg) : FnOk P w K mg base CX0 1 f fd ["_law_number", "_law_given", "_law_scale_here"] spNear := by
  refine F.ok scNear (fun vs H Q E h => ?_) (fun cdv A outer s H vs Q E hr h => ?_)
  · obtain ⟨a, n, d, s, rfl, _⟩ := h
    rfl
  · obtain ⟨a, n, d, sc, rfl, ha, d0, s0, sn, sd, ss, q⟩ := h
    refine ⟨_, pss_cons (ps_set (i := 3) scNear.nd rfl (Or.inl rfl) (pe_op op_mul pe_int (pe_op op_sub (pe_op op_mulW (pv 0) (pe_ix ix_tup (pv 1) pe_int (fun _ _ => rfl))) (pe_op op_mulW (pe_ix ix_tup (pv 1) pe_int (fun _ _ => rfl)) (pv 2)))))
      (pss_cons (ps_if (pt_cmpR op_lt (pe_callB call_abs (by rfl) T.abs boot_abs (pa_cons (pv 3) pa_nil)) (pe_ix ix_tup (pv 1) pe_int (fun _ _ => rfl)) (nomark _)) (pss_one (ps_ret pe_bl)) pss_nil)
      (pss_one (ps_ret (pe_and (pe_cmpR op_eq (pe_callB call_abs (by rfl) T.abs boot_abs (pa_cons (pv 3) pa_nil)) (pe_ix ix_tup (pv 1) pe_int (fun _ _ => rfl)) (nomark _))
        (pe_one (pe_cmpR op_gt (pe_op op_mulW (pe_callB call_abs (by rfl) T.abs boot_abs (pa_cons (pv 0) pa_nil)) (pe_ix ix_tup (pv 1) pe_int (fun _ _ => rfl))) (pe_op op_mulW (pe_callB call_abs (by rfl) T.abs boot_abs (pa_cons (pe_ix ix_tup (pv 1) pe_int (fun _ _ => rfl)) pa_nil)) (pv 2)) (nomark _))))))), ?_⟩
    obtain ⟨u, hu⟩ : ∃ u, u = nu n d sc := ⟨_, rfl⟩
    have near := nu_near (n := n) d0 s0
    have sgn := (nu_ab (n := n) d0 s0).2
    have le := nu_le (n := n) d0 s0
    rw [← hu] at near sgn le ⊢
    have ul : u.natAbs < 2 ^ 1100 := by
      rw [ab_nat, ab_nat] at le
      have e1 : ((n.natAbs : Int) * sc).natAbs < 2 ^ 1100 := by
        rw [Int.natAbs_mul]
        have h1 : ((n.natAbs : Int)).natAbs < 2 ^ 1000 := by rw [Int.natAbs_natCast]; exact sn
        exact Nat.lt_of_lt_of_le (Nat.mul_lt_mul'' h1 ss) (by rw [← Nat.pow_add]; exact Nat.pow_le_pow_right (by decide) (by decide))
      omega
    have c1 : CMulW u d := wide_mul ul sd (by decide) (by decide) (by decide)
    have c2 : CMulW n sc := wide_mul sn ss (by decide) (by decide) (by decide)
    have au : (if u < 0 then -u else u) = ab u := rfl
    have an : (if n < 0 then -n else n) = ab n := rfl
    have c3 : CMulW (ab u) d := wide_mul (a := 1100) (by rw [ab_nat, Int.natAbs_natCast]; exact ul) sd (by decide) (by decide) (by decide)
    have c4 : CMulW (ab n) sc := wide_mul (a := 1000) (by rw [ab_nat, Int.natAbs_natCast]; exact sn) ss (by decide) (by decide) (by decide)
    -- the distance, by sizes
    have dist : ∃ e : Int, (u * d - n * sc = e ∨ u * d - n * sc = -e) ∧ ab u * d - ab n * sc = e := by
      refine ⟨_, ?_, rfl⟩
      by_cases nn : n < 0
      · right
        have un : u ≤ 0 := by
          rw [hu]
          unfold nu
          rw [if_pos nn]
          have := Int.ediv_nonneg (a := 2 * ab n * sc + d) (b := 2 * d) (by have := Int.mul_nonneg (Int.mul_nonneg (by decide : (0:Int) ≤ 2) (ab_nonneg n)) (Int.le_of_lt s0); omega) (by omega)
          omega
        have e1 : ab u = -u := by unfold ab; split <;> omega
        have e2 : ab n = -n := by unfold ab; rw [if_pos nn]
        rw [e1, e2, Int.neg_mul, Int.neg_mul]
        omega
      · left
        have un : ¬ u < 0 := fun z => nn (sgn z)
        rw [show ab u = u by unfold ab; rw [if_neg un], show ab n = n by unfold ab; rw [if_neg nn]]
    obtain ⟨e, he, hx⟩ := dist
    refine ⟨_, rfl, _, rfl, a, _, _, _, rfl, rfl, SqT.of ha, rfl, _, _, rfl, rfl, c1, _, rfl, a, _, _, _, rfl, rfl, SqT.of ha, rfl, _, rfl, _, _, rfl, rfl, c2, _, _, rfl, rfl, _, _, rfl, rfl, .inl ⟨by decide, by decide⟩, ?_⟩
    refine ⟨_, rfl, _, rfl, _, rfl, a, _, _, _, rfl, rfl, SqT.of ha, rfl, _, _, rfl, rfl, _, rfl, ?_⟩
    refine ite2 (fun _ => q) (fun z => ?_)
    have z' : ¬ (if 2 * (u * d - n * sc) < 0 then -(2 * (u * d - n * sc)) else 2 * (u * d - n * sc)) < d := fun y => z (decide_eq_true y)
    have key : (if 2 * (u * d - n * sc) < 0 then -(2 * (u * d - n * sc)) else 2 * (u * d - n * sc)) = d ∧ ab n * sc < ab u * d := by
      generalize u * d - n * sc = g at he z'
      constructor
      · split at z' <;> split <;> omega
      · split at z' <;> omega
    refine ⟨_, rfl, _, rfl, _, rfl, a, _, _, _, rfl, rfl, SqT.of ha, rfl, rfl, _, rfl, ?_⟩
    rw [decide_eq_true (show V.int (if 2 * (u * d - n * sc) < 0 then -(2 * (u * d - n * sc)) else 2 * (u * d - n * sc)) = V.int d by rw [key.1])]
    refine iteT ⟨_, rfl, _, rfl, _, rfl, a, _, _, _, rfl, rfl, SqT.of ha, rfl, _, _, rfl, rfl, c3, _, rfl, a, _, _, _, rfl, rfl, SqT.of ha, rfl, _, rfl, _, rfl, _, _, rfl, rfl, c4, _, _, rfl, rfl, ?_⟩
    show Q (.bl (decide (ab n * sc < ab u * d))) H
    rw [decide_eq_true key.2]
    exact q
theorem scRead : FnScope ["_law_text", "_law_digits_many", "_law_below", "_law_parts", "_law_digits", "_law_sign", "_law_number"] ["_law_text", "_law_digits_many"] (defScope sRead) := ⟨rfl, rfl, rfl, by decide +kernel, rfl, by decide +kernel, by decide +kernel⟩
theorem ok_read (F : Fun K "_law_read" "_law_read" sRead f fd) (T : Bt mg) : FnOk P w K mg base CX0 1 f fd ["_law_text", "_law_digits_many"] spRead := by
  refine F.ok scRead (fun vs H Q E h => ?_) (fun cdv A outer s H vs Q E hr h => ?_)
  · obtain ⟨x, u, k, rfl, _⟩ := h
    rfl
  · obtain ⟨x, u, k, rfl, hx, k9, ul, q⟩ := h
    refine ⟨_, pss_cons (ps_set (i := 2) scRead.nd rfl (Or.inl rfl) (pe_mid (pe_ifExp (pt_cmpR op_eq (pe_slice sl_str (pv 0) po_none (po_some pe_int)) pe_str (nomark _)) (pe_slice sl_str (pv 0) (po_some pe_int) po_none) (pv 0))))
      (pss_cons (ps_set (i := 3) scRead.nd rfl (Or.inl rfl) (pe_split (pv 2) pe_str))
      (Evl.pss_cut (ps_if (PW.pt (pw_or (pt_cmpR op_ne (pe_callB call_len_seq (by rfl) T.len PySem.boot_len (pa_cons (pv 3) pa_nil)) (pe_op op_add pe_int (pe_callTy call_int1 (by rfl) T.int boot_int (pa_cons (pe_cmpR op_gt (pv 1) pe_int (nomark _)) pa_nil))) (nomark _))
        (pw_or (PW.pt (pw_and (pt_cmpR op_ne (pe_callB call_len_str (by rfl) T.len PySem.boot_len (pa_cons (pe_ix ix_list (pv 3) (pe_un un_neg pe_int) (fun _ _ => rfl)) pa_nil)) (pv 1) (nomark _)) (pw_and1 (pt_cmpR op_gt (pv 1) pe_int (nomark _)))))
        (pw_or1 (pt_cmpR op_eq (pe_ix ix_list (pv 3) pe_int (fun _ _ => rfl)) pe_str (nomark _)))))) (pss_one (ps_ret pe_non)) pss_nil)
      (pss_cons (ps_set (i := 4) scRead.nd rfl (Or.inl rfl) (pe_join pe_str (pv 3)))
      (Evl.pss_cut (ps_if (PW.pt (pw_or (pt_cmpR (op_neD hr.units) (pe_lc (own := [("_law_sign", 5)]) (g := gName 5) (tt := tTest (tOp rNotInS (tVar 5) (tC (.str ten10)))) (te := tVar 5) (by rfl) scRead.nd (pi_str (pv 4)) (blkOk_by (own := [("_law_sign", 5)]) (N := ["_law_text", "_law_digits_many", "_law_below", "_law_parts", "_law_digits", "_law_sign", "_law_number"]) (sc := defScope sRead) (by decide +kernel))
          (fun _ _ _ _ _ => pg_name (i := 5) scRead.nd rfl (Or.inl rfl)) (fun _ _ _ _ _ => pts_one (pt_cmpR op_notIn_sign (pv 5) pe_str (by rfl))) (fun _ _ _ _ _ => pv 5)) (pe_lst pa_nil) (nomark _))
        (pw_or1 (PW.pt (pw_and (pt_cmpR op_gt (pe_callB call_len_str (by rfl) T.len PySem.boot_len (pa_cons (pe_ix ix_list (pv 3) pe_int (fun _ _ => rfl)) pa_nil)) pe_int (nomark _)) (pw_and1 (pt_cmpR op_eq (pe_ix ix_str (pe_ix ix_list (pv 3) pe_int (fun _ _ => rfl)) pe_int (fun _ _ => rfl)) pe_str (nomark _)))))))) (pss_one (ps_ret pe_non)) pss_nil)
      (pss_cons (ps_set (i := 6) scRead.nd rfl (Or.inl rfl) pe_int)
      (Evl.pss_cut (ps_for PassesOwn.never rfl (pi_str (pv 4)) (pg_name (i := 5) scRead.nd rfl (Or.inl rfl)) (pss_one (ps_set (i := 6) scRead.nd rfl (Or.inl rfl) (pe_op op_add (pe_op op_mul (pv 6) pe_int) (pe_m1 PySem.F.slot_str_index PySem.F.type_str_index mt_sindex pe_str (pv 5))))))
      (pss_cons (ps_if (PW.pt (pw_and (pt_cmpR op_eq (pe_slice sl_str (pv 0) po_none (po_some pe_int)) pe_str (nomark _)) (pw_and1 (pt_cmpR op_eq (pv 6) pe_int (nomark _))))) (pss_one (ps_ret pe_non)) pss_nil)
      (pss_one (ps_ret (pe_ifExp (pt_cmpR op_eq (pe_slice sl_str (pv 0) po_none (po_some pe_int)) pe_str (nomark _)) (pe_op op_sub pe_int (pv 6)) (pv 6))))))))))), ?_⟩
    have ll := decL_len ul k9
    have sz : (5000 : Nat) ≤ sizeLine := by decide
    have xl : x.length ≤ sizeLine := by rw [lenL, hx]; omega
    have mi := minus_is hx
    obtain ⟨A', hA⟩ : ∃ A', A' = digs (u.natAbs / 10 ^ k) := ⟨_, rfl⟩
    obtain ⟨F', hF⟩ : ∃ F', F' = (if k = 0 then [] else zf k (u.natAbs % 10 ^ k)) := ⟨_, rfl⟩
    have aD : AllDigits A' := by rw [hA]; exact digs_all _
    have fD : AllDigits F' := by
      rw [hF]
      split
      · intro c hc; cases hc
      · exact zf_all _ _
    have val : (digitsVal (A' ++ F') : Int) = u.natAbs := by
      rw [val_app, hA, hF, digs_val]
      by_cases kz : k = 0
      · rw [if_pos kz, kz]
        simp [digitsVal]
      · rw [if_neg kz, zf_len (by omega) (Nat.mod_lt _ (Nat.pow_pos (by decide))), zf_val]
        rw [Nat.mul_comm, Nat.div_add_mod]
    have no46 : ∀ l : List Nat, AllDigits l → 46 ∉ l := fun l h z => by have := h 46 z; omega
    have ane : A' ≠ [] := by
      obtain ⟨c, r, e, _⟩ := digs_head (u.natAbs / 10 ^ k)
      rw [hA, e]
      simp
    have lenA : A'.length ≤ 1921 := by rw [hA]; exact digs_len_le (Nat.lt_of_le_of_lt (Nat.div_le_self _ _) ul)
    have lenF : F'.length = k := by
      rw [hF]
      by_cases kz : k = 0
      · rw [if_pos kz, kz]
        rfl
      · rw [if_neg kz]
        exact zf_len (by omega) (Nat.mod_lt _ (Nat.pow_pos (by decide)))
    -- below
    refine ⟨fun v H' => H' = H ∧ ∃ y : Str, v = .str y ∧ y.cps.toList = decB u k, ?_, ?_⟩
    · refine ⟨_, rfl, _, rfl, x, rfl, xl, rfl, _, rfl, ?_⟩
      rw [mi]
      by_cases n : u < 0
      · rw [decide_eq_true n]
        exact iteT ⟨_, rfl, _, rfl, x, rfl, xl, rfl, _, rfl, below_is hx n⟩
      · rw [decide_eq_false n]
        refine iteF ⟨_, rfl, rfl, _, rfl, ?_⟩
        rw [hx]
        unfold decL
        rw [if_neg n]
        rfl
    rintro v H' ⟨rfl, y, rfl, hy⟩
    -- parts
    obtain ⟨rest, hs, hfl, hln, hlast⟩ : ∃ rest : List Str, Txt.split y (PySem.Str.ofString ".") = ⟨A'.toArray⟩ :: rest ∧ (rest.map fun z => z.cps.toList).flatten = F' ∧ rest.length = (if k = 0 then 0 else 1) ∧ (k ≠ 0 → rest = [⟨F'.toArray⟩]) := by
      rw [dot_eq]
      by_cases kz : k = 0
      · refine ⟨[], ?_, by rw [hF, if_pos kz]; rfl, by rw [if_pos kz]; rfl, fun z => absurd kz z⟩
        have e : y.cps.toList = A' := by rw [hy, hA]; unfold decB; rw [if_pos kz, List.append_nil]
        rw [split_one (by rw [e]; exact no46 _ aD) (by rw [e]; exact ane)]
        congr 1
        exact str_ext e
      · refine ⟨[⟨F'.toArray⟩], ?_, by simp, by rw [if_neg kz]; rfl, fun _ => rfl⟩
        have e : y.cps.toList = A' ++ 46 :: F' := by rw [hy, hA, hF]; unfold decB; rw [if_neg kz, if_neg kz]
        have fne : F' ≠ [] := fun z => by rw [z] at lenF; exact kz lenF.symm
        exact split_two e (no46 _ aD) (no46 _ fD) fne
    have yl : y.length ≤ 1939 := by rw [lenL, hy]; exact ll.2
    refine ⟨_, rfl, ⟨_, rfl⟩, y, _, rfl, rfl, by decide +kernel, by omega, fun L hL => ?_⟩
    rw [hs]
    have zL := Same.upd (o := .lst ((⟨A'.toArray⟩ :: rest).map V.str)) hL
    have hLa : ∀ H2, Same (upd H' L (.lst ((⟨A'.toArray⟩ :: rest).map V.str))) H2 → H2 L = some (.lst ((⟨A'.toArray⟩ :: rest).map V.str)) := fun H2 e => e _ _ upd_same
    have aline : (⟨A'.toArray⟩ : Str).length ≤ sizeLine := by rw [lenL]; show A'.length ≤ sizeLine; omega
    let M : Option V → Option V → L2.St → Hp → Prop := fun d n σ H2 => (∃ s5 : Option V, σ = [some (.str x), some (.int k), some (.str y), some (.ref L), d, s5, n]) ∧ Same (upd H' L (.lst ((⟨A'.toArray⟩ :: rest).map V.str))) H2
    refine ⟨M none none, ?_, ?_⟩
    · refine ⟨_, rfl, L, _, rfl, .inl (SqL.of upd_same), _, rfl, _, _, rfl, rfl, .inr ⟨_, rfl, _, _, rfl, rfl, rfl, _, rfl, ?_⟩⟩
      have e1 : ((((⟨A'.toArray⟩ :: rest).map V.str).length : Nat) : Int) = 1 + (if decide (0 < (k : Int)) = true then 1 else 0) := by
        rw [List.length_map, List.length_cons, hln]
        by_cases kz : k = 0
        · rw [if_pos kz, if_neg (by simp [kz])]
          rfl
        · rw [if_neg kz, if_pos (decide_eq_true (by omega))]
          rfl
      rw [decide_eq_true (by rw [e1])]
      refine iteF ?_
      by_cases kz : k = 0
      · have er : rest = [] := List.eq_nil_of_length_eq_zero (by rw [hln, if_pos kz])
        subst er
        refine ⟨_, rfl, _, rfl, L, _, _, _, rfl, rfl, SqL.of upd_same, rfl, _, rfl, aline, _, rfl, rfl, _, rfl, ?_⟩
        refine ite2 (fun _ => ?_) (fun _ => ?_)
        · refine ⟨_, rfl, _, _, rfl, rfl, _, rfl, ?_⟩
          rw [decide_eq_false (by omega)]
          refine iteF ⟨_, rfl, L, _, _, _, rfl, rfl, SqL.of upd_same, rfl, rfl, _, rfl, ?_⟩
          rw [dec_empty, decide_eq_false (show ¬ A' = [] from ane)]
          exact iteF ⟨⟨_, rfl⟩, Same.refl _⟩
        · refine iteF ⟨_, rfl, L, _, _, _, rfl, rfl, SqL.of upd_same, rfl, rfl, _, rfl, ?_⟩
          rw [dec_empty, decide_eq_false (show ¬ A' = [] from ane)]
          exact iteF ⟨⟨_, rfl⟩, Same.refl _⟩
      · have er := hlast kz
        subst er
        refine ⟨_, rfl, _, rfl, L, _, _, _, rfl, rfl, SqL.of upd_same, rfl, _, rfl, by rw [lenL]; show F'.length ≤ sizeLine; omega, _, rfl, rfl, _, rfl, ?_⟩
        rw [decide_eq_true (show V.int (((⟨F'.toArray⟩ : Str).length : Nat) : Int) = V.int k by rw [lenL]; show V.int ((F'.length : Nat) : Int) = _; rw [lenF])]
        refine iteF ?_
        refine iteF ⟨_, rfl, L, _, _, _, rfl, rfl, SqL.of upd_same, rfl, rfl, _, rfl, ?_⟩
        rw [dec_empty, decide_eq_false (show ¬ A' = [] from ane)]
        exact iteF ⟨⟨_, rfl⟩, Same.refl _⟩
    rintro σ H2 ⟨⟨s5, rfl⟩, e2⟩
    have h2 := hLa H2 e2
    have jn := joinL_toL (⟨A'.toArray⟩ :: rest)
    rw [List.map_cons, List.flatten_cons, hfl] at jn
    replace jn : (Txt.join (PySem.Str.ofString "") (⟨A'.toArray⟩ :: rest)).cps.toList = A' ++ F' := jn
    have sumL : (((⟨A'.toArray⟩ :: rest).map (fun z : Str => z.length)).sum) ≤ 4000 := by
      by_cases kz : k = 0
      · have er : rest = [] := List.eq_nil_of_length_eq_zero (by rw [hln, if_pos kz])
        subst er
        simp only [List.map_cons, List.map_nil, List.sum_cons, List.sum_nil, lenL]
        show A'.length + 0 ≤ 4000
        omega
      · rw [hlast kz]
        simp only [List.map_cons, List.map_nil, List.sum_cons, List.sum_nil, lenL]
        show A'.length + (F'.length + 0) ≤ 4000
        omega
    refine ⟨⟨_, rfl⟩, _, rfl, _, L, _, rfl, rfl, .inl (SqL.of h2), ?_, ?_⟩
    · show _ + _ * 0 ≤ _
      omega
    obtain ⟨z, hz⟩ : ∃ z, z = Txt.join (PySem.Str.ofString "") (⟨A'.toArray⟩ :: rest) := ⟨_, rfl⟩
    rw [← hz] at jn ⊢
    have zD : AllDigits z.cps.toList := by
      rw [jn]
      intro c hc
      rcases List.mem_append.mp hc with hc | hc
      · exact aD c hc
      · exact fD c hc
    refine ⟨M (some (.str z)) none, ?_, ?_⟩
    · refine ⟨_, rfl, z, rfl, fun D hD => ?_⟩
      have zD1 := Same.upd (o := .lst []) hD
      refine lc_it walk_str (fun i H3 => H3 = upd H2 D (.lst [])) rfl (fun _ _ _ _ => True.intro) ?_ ?_
      · rintro i c H3 H4 hi rfl ⟨rfl, c', hc', rfl⟩
        refine ⟨rfl, ?_⟩
        have cd : 48 ≤ c' ∧ c' ≤ 57 := zD c' (by rw [← Array.getElem?_toList] at hc'; exact List.mem_of_getElem? hc')
        refine ⟨_, rfl, c', ten10, rfl, rfl, _, rfl, ?_⟩
        rw [in_ten cd]
        exact iteF rfl
      · rintro H3 rfl
        refine ⟨Nat.zero_le _, fun r hr => ?_⟩
        have zr := Same.upd (o := .lst []) hr
        refine ⟨_, _, .lst (SqL.of (zr _ _ upd_same)) .nil, .lst (SqL.of upd_same) .nil, rfl, rfl, _, rfl, iteF ?_⟩
        have e5 := zD1.trans zr
        have h5 := e5 _ _ h2
        refine ⟨_, rfl, L, _, _, _, rfl, rfl, SqL.of h5, at_of (j := 0) rfl rfl, _, rfl, aline, _, _, rfl, rfl, _, rfl, ?_⟩
        refine ite2 (fun g => ?_) (fun _ => ?_)
        · have g' : (1 : Int) < (((⟨A'.toArray⟩ : Str).length : Nat) : Int) := of_decide_eq_true g
          rw [lenL] at g'
          replace g' : (1 : Int) < ((A'.length : Nat) : Int) := g'
          obtain ⟨c, r, e, hc⟩ := digs_head (u.natAbs / 10 ^ k)
          rw [← hA] at e
          have c48 : c ≠ 48 := fun q => by
            have := hc q
            rw [e, this] at g'
            simp at g'
          refine ⟨_, rfl, L, _, _, _, rfl, rfl, SqL.of h5, at_of (j := 0) rfl rfl, _, 0, c, rfl, rfl, aline, (show atI A' ((0 : Nat) : Int) = some c from atI_nat (by rw [e]; rfl)), rfl, _, rfl, ?_⟩
          have ne : ¬ V.str (⟨#[c]⟩ : Str) = V.str (PySem.Str.ofString "0") := fun q => by
            injection q with q
            have q2 := congrArg (fun t : Str => t.cps.toList) q
            have : ([c] : List Nat) = [48] := q2.trans (by decide +kernel)
            exact c48 (by simpa using this)
          rw [decide_eq_false ne]
          exact iteF ⟨⟨_, rfl⟩, e2.trans e5⟩
        · exact iteF ⟨⟨_, rfl⟩, e2.trans e5⟩
    rintro σ H5 ⟨⟨s5, rfl⟩, e5⟩
    refine ⟨M (some (.str z)) (some (.int (u.natAbs : Int))), ?_, ?_⟩
    · refine ⟨_, rfl, z, rfl, for_it walk_str (fun i σ H6 => H6 = H5 ∧ ∃ v5 : Option V, σ = [some (.str x), some (.int k), some (.str y), some (.ref L), some (.str z), v5, some (.int (digitsVal (z.cps.toList.take i) : Nat))]) ⟨rfl, _, rfl⟩ (fun _ _ _ _ _ => True.intro) ?_ ?_⟩
      · rintro i c σ H6 H7 hi ⟨rfl, v5, rfl⟩ ⟨rfl, c', hc', rfl⟩
        have hc2 : z.cps.toList[i]? = some c' := by rw [Array.getElem?_toList]; exact hc'
        have cd : 48 ≤ c' ∧ c' ≤ 57 := zD c' (List.mem_of_getElem? hc2)
        refine ⟨_, rfl, _, _, rfl, rfl, .inr ⟨by decide, by decide⟩, ⟨_, rfl⟩, _, rfl, ten10, _, _, _, rfl, rfl, index_ten cd, _, _, rfl, rfl, rfl, some (.str ⟨#[c']⟩), ?_⟩
        have et : z.cps.toList.take (i + 1) = z.cps.toList.take i ++ [c'] := by rw [List.take_succ, hc2]; rfl
        rw [et, digitsVal_snoc]
        rfl
      · rintro σ H6 ⟨rfl, v5, rfl⟩
        have ez : z.cps.size = z.cps.toList.length := by simp
        rw [ez, List.take_length, jn, val]
        exact ⟨⟨_, rfl⟩, e5⟩
    rintro σ H6 ⟨⟨s6, rfl⟩, e6⟩
    have qq := q H6 (zL.trans e6)
    refine ⟨_, rfl, _, rfl, x, rfl, xl, rfl, _, rfl, ?_⟩
    rw [mi]
    by_cases n : u < 0
    · rw [decide_eq_true n]
      refine iteT ⟨_, rfl, rfl, _, rfl, ?_⟩
      rw [decide_eq_false (show ¬ V.int (u.natAbs : Int) = V.int 0 from fun e => by injection e with e; omega)]
      refine iteF ⟨_, rfl, _, rfl, x, rfl, xl, rfl, _, rfl, ?_⟩
      rw [mi, decide_eq_true n]
      refine iteT ⟨_, rfl, _, _, rfl, rfl, ?_⟩
      show Q (.int (0 - (u.natAbs : Int))) H6
      rw [show (0 : Int) - u.natAbs = u by omega]
      exact qq
    · rw [decide_eq_false n]
      refine iteF ?_
      refine iteF ⟨_, rfl, _, rfl, x, rfl, xl, rfl, _, rfl, ?_⟩
      rw [mi, decide_eq_false n]
      refine iteF ⟨_, rfl, ?_⟩
      show Q (.int (u.natAbs : Int)) H6
      rw [show ((u.natAbs : Nat) : Int) = u by omega]
      exact qq
end
end K02
set_option Elab.async false
set_option linter.all false
set_option maxRecDepth 100000
set_option maxHeartbeats 4000000
namespace K02
open PySem PySem.Spec PyProof.Rows L2 Lc PySem.NumText
abbrev sRef : Stmt := top 22
abbrev sRight : Stmt := top 23
def Ti (n : Int) : Prop := n.natAbs < 2 ^ 140
theorem Ti.sm {n : Int} (h : Ti n) : Sm n := Nat.lt_of_lt_of_le h (Nat.pow_le_pow_right (by decide) (by decide))
def two (n d : Int) : PyData := .tuple [.int n, .int d]
theorem dp2 {K : PySem.W.Frag} {H : Hp} {p : Addr} {n d : Int} (h : H p = some (.tup [.int n, .int d])) : Dp K H (.ref p) (two n d) := .tup (SqT.of h) (.cons (.int n) (.cons (.int d) .nil))
theorem ev2 (n d : Int) : PyData.eqv (two n d) (two n d) = true := by simp [two, PyData.eqv, PyData.eqvAll]
/-- what the written part says of BadNumber where it is caught -/
structure Ex (K : PySem.W.Frag) (C : Addr) : Prop where
  xf : XfC K C
  cc : PySem.W.exmOne K (.ref C) (.ref C) = some true
def Out (H : Hp) (z : Str) (Q : VK) : Prop := ∀ H' : Hp, Same H H' → Q (.str z) H'
def spRef (K : PySem.W.Frag) (S : Addr → OkF → Prop) : Sp := fun vs H Q _ => ∃ (f : Addr) (ok : OkF) (v p : V), vs = [.ref f, v, p] ∧ S f ok ∧
  ((∃ z, Rk H v false ∧ Shw K H v z ∧ Out H z Q) ∨ (∃ z, Rk H v true ∧ Pk H p ∧ Shw K H p z ∧ Out H z Q))
def tsN (K : PySem.W.Frag) (C : Addr) : Addr → Value → Option Addr → TS := fun a cls d => tRet (tCB (rReprV K) (tCons (tXf a cls d C "given" (tVar 3)) tNil))
def gKw : {α : Type} → List α → List α → List α → List α := fun a _ c => a ++ c
/-- a def of keyword-only places, as it is called -/
structure FnK (P : Program) (w : World) (K : PySem.W.Frag) (mg : Str → Option Value) (base : Heap) (C : Addr) (f : Addr) (ok : OkF) : Prop where
  g : ∃ (fd : FuncData) (mv ds : List Value), FnOk P w K mg base (L2.CX P w) 5 f fd ["value", "places"] (spKw C ok) ∧ PySem.W.keepIn K (.ref f) = true ∧ KBn K fd ["value", "places"] 1 ["places"] (fun us ws => gKw us mv ws) (fun vs zs => gKw vs [] zs) ∧ Binds K fd ["value", "places"] ds ∧ Vals [.int 0] ds
section
variable {P : Program} {w : World} {K : PySem.W.Frag} {mg : Str → Option Value} {base : Heap} {f C fI fA fB fS fR fN fL : Addr} {fd fdS fdR fdN fdL : FuncData} {S : Addr → OkF → Prop}
theorem scRef : FnScope ["_law_call", "_law_value", "_law_digits", "e"] ["_law_call", "_law_value", "_law_digits"] (defScope sRef) := ⟨rfl, rfl, rfl, by decide +kernel, rfl, by decide +kernel, by decide +kernel⟩
theorem ok_ref (F : Fun K "_law_refused" "_law_refused" sRef f fd) (T : Bt mg) (R : Er K mg C fI) (X : Ex K C) (hS : ∀ f ok, S f ok → FnK P w K mg base C f ok) : FnG P w K mg base 6 f fd ["_law_call", "_law_value", "_law_digits"] (spRef K S) := by
  refine Lc.Fun.okG F scRef (fun vs H Q E h => ?_) (fun cdv A outer s H vs Q E hg hr h => ?_)
  · obtain ⟨f, ok, v, p, rfl, _⟩ := h
    rfl
  · obtain ⟨g, ok, v, p, rfl, sg, h⟩ := h
    obtain ⟨fdg, mv, ds, G, kg, kb, _, _⟩ := (hS g ok sg).g
    refine ⟨_, pss_cons (ps_tryL (Wout := fun _ _ _ _ => False) (tb := fun W => tDrop (tCallLSN 0 g 1 1 (spKw C ok) (fun vs zs => gKw vs [] zs) (WE W) (tCons (tVar 1) tNil) (tCons (tVar 2) tNil))) (l := [⟨.ref C, some 3, tsN K C⟩]) rfl rfl takes0
        (fun W pn xe tk _ => pss_one (ps_expr (pe_callLSN (i := 0) G hr rfl (Or.inl rfl) kg kb (fun σ => passAt tk σ) (pa_cons (pv 1) pa_nil) (pk_cons (pv 2) pk_nil))))
        (.named (i := 3) ⟨rfl, by decide, Or.inl R.gC⟩ rfl scRef.nd rfl rfl (fun a ob cls d pn hz hf => pss_one (ps_ret (pe_callB (call_reprV hg hr.units) (by rfl) T.repr boot_repr (pa_cons (pe_xf X.xf R.nG hz hf (pv 3)) pa_nil)))) .nil))
      (pss_one (ps_ret pe_str)), ?_⟩
    have num : ∀ (t : V) (z : Str) (D : Ends), D.rt = Q → Shw K H t z → Out H z Q → Tells C H t (WE (wCl K (fun _ _ _ _ => False) D [⟨.ref C, some 3, tsN K C⟩]) [some (.ref g), some v, some p, none]) := by
      intro t z D hD hz hk d H' hs hd hx
      refine ⟨true, X.cc, fun _ a ha => ?_, nofun⟩
      refine ⟨_, rfl, rfl, rfl, d, _, t, rfl, hx, by simp [List.lookup], t, z, rfl, hz.same hs, ?_⟩
      show D.rt _ _
      rw [hD]
      exact hk _ hs
    rcases h with ⟨z, hx, hz, hk⟩ | ⟨z, hx, hy, hz, hk⟩
    · exact ⟨rfl, _, rfl, _, rfl, rfl, rfl, v, p, rfl, .inl ⟨hx, num v z _ rfl hz hk⟩⟩
    · exact ⟨rfl, _, rfl, _, rfl, rfl, rfl, v, p, rfl, .inr (.inl ⟨hx, hy, num p z _ rfl hz hk⟩)⟩
def spRight : Sp := fun vs H Q _ => ∃ (a : Addr) (n d : Int) (k : Nat), vs = [.ref a, .int k] ∧ H a = some (.tup [.int n, .int d]) ∧ Rt n d ∧ Ti n ∧ Ti d ∧ k ≤ 9 ∧ ∀ H', Same H H' → Q (.bl true) H'
theorem scRight : FnScope ["_law_value", "_law_digits", "_law_scale_here", "_law_number"] ["_law_value", "_law_digits"] (defScope sRight) := ⟨rfl, rfl, rfl, by decide +kernel, rfl, by decide +kernel, by decide +kernel⟩
theorem ok_right (F : Fun K "_law_right" "_law_right" sRight f fd) (T : Bt mg) (KA : FnK P w K mg base C fA okRd) (mA : mg "rounded" = some (.ref fA)) (KB : FnK P w K mg base C fB okDec) (mB : mg "decimal" = some (.ref fB))
    (GS : FnOk P w K mg base CX0 1 fS fdS ["_law_many"] spPow) (mS : mg "_law_scale" = some (.ref fS)) (kS : PySem.W.keepIn K (.ref fS) = true) (bS : Binds K fdS ["_law_many"] [])
    (GR : FnOk P w K mg base CX0 1 fR fdR ["_law_text", "_law_digits_many"] spRead) (mR : mg "_law_read" = some (.ref fR)) (kR : PySem.W.keepIn K (.ref fR) = true) (bR : Binds K fdR ["_law_text", "_law_digits_many"] [])
    (GN : FnOk P w K mg base CX0 1 fN fdN ["_law_number", "_law_given", "_law_scale_here"] spNear) (mN : mg "_law_is_nearest" = some (.ref fN)) (kN : PySem.W.keepIn K (.ref fN) = true) (bN : Binds K fdN ["_law_number", "_law_given", "_law_scale_here"] [])
    (GL : FnOk P w K mg base CX0 1 fL fdL ["_law_n", "_law_d"] spLowest) (mL : mg "_law_lowest" = some (.ref fL)) (kL : PySem.W.keepIn K (.ref fL) = true) (bL : Binds K fdL ["_law_n", "_law_d"] []) : FnOk P w K mg base CX0 6 f fd ["_law_value", "_law_digits"] spRight := by
  refine F.ok scRight (fun vs H Q E h => ?_) (fun cdv A outer s H vs Q E hr h => ?_)
  · obtain ⟨a, n, d, k, rfl, _⟩ := h
    rfl
  · obtain ⟨a, n, d, k, rfl, ha, rt, t1, t2, k9, q⟩ := h
    obtain ⟨fdA, mvA, dsA, GA, kA, kbA, bA, vA⟩ := KA.g
    obtain ⟨fdB, mvB, dsB, GB, kB, kbB, bB, vB⟩ := KB.g
    have hr1 : Room 1 _ := hr.mono (by decide)
    refine ⟨_, pss_cons (ps_set (i := 2) scRight.nd rfl (Or.inl rfl) (pe_call GS hr1 (by rfl) mS kS bS .nil pass0 (pa_cons (pv 1) pa_nil)))
      (pss_cons (ps_set (i := 3) scRight.nd rfl (Or.inl rfl) (pe_call GR hr1 (by rfl) mR kR bR .nil pass0 (pa_cons (pe_callN GB hr (by rfl) mB kB kbB passL (pa_cons (pv 0) pa_nil) (pk_cons (pv 1) pk_nil)) (pa_cons (pv 1) pa_nil))))
      (pss_cons (ps_if (PW.pt (pw_or (pt_cmpR op_isN (pv 3) pe_non (nomark _)) (pw_or1 (pt_not (pt_val (pe_call GN hr1 (by rfl) mN kN bN .nil pass0 (pa_cons (pv 3) (pa_cons (pv 0) (pa_cons (pv 2) pa_nil))))))))) (pss_one (ps_ret pe_bl)) pss_nil)
      (Evl.pss_cut (ps_if (pt_cmpR (op_neD hr.units) (pe_callN GA hr (by rfl) mA kA kbA passL (pa_cons (pv 0) pa_nil) (pk_cons (pv 1) pk_nil)) (pe_call GL hr1 (by rfl) mL kL bL .nil pass0 (pa_cons (pv 3) (pa_cons (pv 2) pa_nil))) (nomark _)) (pss_one (ps_ret pe_bl)) pss_nil)
      (Evl.pss_cut (ps_if (PW.pt (pw_and (pt_cmpR op_eq (pv 1) pe_int (nomark _)) (pw_and1 (pt_cmpR op_ne (pe_call GB hr (by rfl) mB kB bB vB passL (pa_cons (pv 0) pa_nil)) (pe_callN GB hr (by rfl) mB kB kbB passL (pa_cons (pv 0) pa_nil) (pk_cons pe_int pk_nil)) (nomark _))))) (pss_one (ps_ret pe_bl)) pss_nil)
      (Evl.pss_cut (ps_if (PW.pt (pw_and (pt_cmpR op_eq (pv 1) pe_int (nomark _)) (pw_and1 (pt_cmpR (op_neD hr.units) (pe_call GA hr (by rfl) mA kA bA vA passL (pa_cons (pv 0) pa_nil)) (pe_callN GA hr (by rfl) mA kA kbA passL (pa_cons (pv 0) pa_nil) (pk_cons pe_int pk_nil)) (nomark _))))) (pss_one (ps_ret pe_bl)) pss_nil)
      (pss_one (ps_ret (pe_cmpR op_eq (pe_callN GB hr (by rfl) mB kB kbB passL (pa_cons (pe_callN GA hr (by rfl) mA kA kbA passL (pa_cons (pv 0) pa_nil) (pk_cons (pv 1) pk_nil)) pa_nil) (pk_cons (pv 1) pk_nil)) (pe_callN GB hr (by rfl) mB kB kbB passL (pa_cons (pv 0) pa_nil) (pk_cons (pv 1) pk_nil)) (nomark _))))))))), ?_⟩
    have tp := ten_pos k
    have ts := ten_small k9
    have s1 := t1.sm
    have s2 := t2.sm
    obtain ⟨u, hu⟩ : ∃ u, u = nu n d (10 ^ k) := ⟨_, rfl⟩
    have ub : u.natAbs < 2 ^ 180 := by
      have le := nu_le (n := n) (s := 10 ^ k) rt.pos tp
      rw [← hu, ab_nat, ab_nat] at le
      have e1 : ((n.natAbs : Int) * 10 ^ k).natAbs < 2 ^ 180 := by
        rw [Int.natAbs_mul]
        have h1 : ((n.natAbs : Int)).natAbs < 2 ^ 140 := by rw [Int.natAbs_natCast]; exact t1
        exact Nat.lt_of_lt_of_le (Nat.mul_lt_mul'' h1 ts) (by rw [← Nat.pow_add]; exact Nat.le_refl _)
      omega
    refine ⟨_, rfl, k, rfl, k9, ?_⟩
    refine ⟨_, rfl, _, rfl, rfl, rfl, _, _, rfl, .inr (.inr ⟨a, n, d, k, rfl, rfl, ha, rt, s1, s2, k9, fun x hx => ?_⟩)⟩
    rw [← hu] at hx
    refine ⟨_, rfl, x, u, k, rfl, hx, k9, Nat.lt_of_lt_of_le ub (Nat.pow_le_pow_right (by decide) (by decide)), fun H1 e1 => ?_⟩
    have ha1 := e1 _ _ ha
    refine ⟨_, rfl, rfl, _, rfl, iteF ?_⟩
    refine ⟨_, rfl, _, rfl, _, rfl, a, n, d, 10 ^ k, by rw [← hu]; rfl, ha1, rt.pos, tp, s1, s2, ts, _, rfl, iteF ?_⟩
    let M : L2.St → Hp → Prop := fun σ H' => σ = [some (.ref a), some (.int k), some (.int (10 ^ k)), some (.int u)] ∧ Same H H'
    have big : ((10 : Int) ^ k).natAbs < 2 ^ 4000 := Nat.lt_of_lt_of_le ts (Nat.pow_le_pow_right (by decide) (by decide))
    have same : ∀ x y : Str, x.cps.toList = y.cps.toList → decide (V.str x = V.str y) = true := fun x y h => decide_eq_true (by rw [str_ext h])
    refine ⟨M, ?_, ?_⟩
    · refine ⟨_, rfl, _, rfl, rfl, rfl, _, _, rfl, .inr (.inr ⟨a, n, d, k, rfl, rfl, ha1, rt, s1, s2, k9, fun r1 hr1 => ?_⟩)⟩
      rw [← hu]
      have z1 := Same.upd (o := .tup [.int (lowN u (10 ^ k)), .int (lowD u (10 ^ k))]) hr1
      refine ⟨_, rfl, _, rfl, u, 10 ^ k, rfl, tp, big, fun r2 hr2 => ?_⟩
      have z2 := Same.upd (o := .tup [.int (lowN u (10 ^ k)), .int (lowD u (10 ^ k))]) hr2
      refine ⟨_, _, dp2 (z2 _ _ upd_same), dp2 upd_same, rfl, rfl, _, rfl, ?_⟩
      rw [ev2]
      exact iteF ⟨rfl, e1.trans (z1.trans z2)⟩
    rintro σ H2 ⟨rfl, e2⟩
    have ha2 := e2 _ _ ha
    refine ⟨M, ?_, ?_⟩
    · refine ⟨_, rfl, rfl, _, rfl, ite2 (fun kz => ?_) (fun _ => iteF ⟨rfl, e2⟩)⟩
      have k0 : k = 0 := by
        have z := of_decide_eq_true kz
        injection z with z
        omega
      subst k0
      refine ⟨_, rfl, _, _, rfl, .inr (.inr ⟨a, n, d, 0, rfl, rfl, ha2, rt, s1, s2, k9, fun x1 hx1 => ?_⟩)⟩
      refine ⟨_, rfl, rfl, rfl, _, _, rfl, .inr (.inr ⟨a, n, d, 0, rfl, rfl, ha2, rt, s1, s2, k9, fun x2 hx2 => ?_⟩)⟩
      refine ⟨rfl, _, rfl, ?_⟩
      rw [same x1 x2 (hx1.trans hx2.symm)]
      exact iteF ⟨rfl, e2⟩
    clear e2 ha2 H2
    rintro σ H2 ⟨rfl, e2⟩
    have ha2 := e2 _ _ ha
    refine ⟨M, ?_, ?_⟩
    · refine ⟨_, rfl, rfl, _, rfl, ite2 (fun kz => ?_) (fun _ => iteF ⟨rfl, e2⟩)⟩
      have k0 : k = 0 := by
        have z := of_decide_eq_true kz
        injection z with z
        omega
      subst k0
      refine ⟨_, rfl, _, _, rfl, .inr (.inr ⟨a, n, d, 0, rfl, rfl, ha2, rt, s1, s2, k9, fun r1 hr1 => ?_⟩)⟩
      have z1 := Same.upd (o := .tup [.int (lowN (nu n d (10 ^ 0)) (10 ^ 0)), .int (lowD (nu n d (10 ^ 0)) (10 ^ 0))]) hr1
      refine ⟨_, rfl, rfl, rfl, _, _, rfl, .inr (.inr ⟨a, n, d, 0, rfl, rfl, z1 _ _ ha2, rt, s1, s2, k9, fun r2 hr2 => ?_⟩)⟩
      have z2 := Same.upd (o := .tup [.int (lowN (nu n d (10 ^ 0)) (10 ^ 0)), .int (lowD (nu n d (10 ^ 0)) (10 ^ 0))]) hr2
      refine ⟨_, _, dp2 (z2 _ _ upd_same), dp2 upd_same, rfl, rfl, _, rfl, ?_⟩
      rw [ev2]
      exact iteF ⟨rfl, e2.trans (z1.trans z2)⟩
    clear e2 ha2 H2
    rintro σ H2 ⟨rfl, e2⟩
    have ha2 := e2 _ _ ha
    refine ⟨_, rfl, _, rfl, rfl, rfl, _, _, rfl, .inr (.inr ⟨a, n, d, k, rfl, rfl, ha2, rt, s1, s2, k9, fun r1 hr1 => ?_⟩)⟩
    rw [← hu]
    have z1 := Same.upd (o := .tup [.int (lowN u (10 ^ k)), .int (lowD u (10 ^ k))]) hr1
    have lr : Rt (lowN u (10 ^ k)) (lowD u (10 ^ k)) := low_rt tp
    have le := low_le (n := u) (d := 10 ^ k) (by omega)
    have again : nu (lowN u (10 ^ k)) (lowD u (10 ^ k)) (10 ^ k) = u := by
      have m := low_mul (n := u) (d := 10 ^ k) (by omega)
      have g := gd_pos (a := u) (b := 10 ^ k) (by omega)
      refine nu_again tp lr.pos ?_ ?_
      · have e : lowN u (10 ^ k) * (lowD u (10 ^ k) * gd u (10 ^ k)) = (lowN u (10 ^ k) * gd u (10 ^ k)) * lowD u (10 ^ k) := by
          rw [Int.mul_assoc, Int.mul_comm (gd u (10 ^ k)) (lowD u (10 ^ k))]
        rw [m.1, m.2] at e
        exact e
      · generalize lowN u (10 ^ k) = L at m
        rw [← m.1]
        constructor
        · intro h
          exact Int.mul_neg_of_neg_of_pos h g
        · intro h
          rcases (by omega : L < 0 ∨ 0 ≤ L) with z | z
          · exact z
          · have := Int.mul_nonneg z (Int.le_of_lt g)
            omega
    refine ⟨_, rfl, rfl, rfl, _, _, rfl, .inr (.inr ⟨r1, _, _, k, rfl, rfl, upd_same, lr, Nat.lt_of_le_of_lt le.1 (Nat.lt_of_lt_of_le ub (Nat.pow_le_pow_right (by decide) (by decide))), Nat.lt_of_le_of_lt le.2 (Nat.lt_of_lt_of_le ts (Nat.pow_le_pow_right (by decide) (by decide))), k9, fun x1 hx1 => ?_⟩)⟩
    rw [again] at hx1
    refine ⟨_, rfl, _, rfl, rfl, rfl, _, _, rfl, .inr (.inr ⟨a, n, d, k, rfl, rfl, z1 _ _ ha2, rt, s1, s2, k9, fun x2 hx2 => ?_⟩)⟩
    rw [← hu] at hx2
    refine ⟨rfl, ?_⟩
    rw [same x1 x2 (hx1.trans hx2.symm)]
    exact q _ (e2.trans z1)
end
end K02
set_option Elab.async false
set_option linter.all false
set_option maxRecDepth 100000
set_option maxHeartbeats 4000000
namespace K02
open PySem PySem.Spec PyProof.Rows L2 Lc PySem.NumText
abbrev sLaw : Stmt := top 24
def spLaw (K : PySem.W.Frag) : Sp := fun vs H Q _ => ∃ (a : Addr) (ns : List Int), vs = [.ref a] ∧ SqL K H a (ns.map V.int) ∧ ∀ H', Q (.bl true) H'
inductive Two (fA fB : Addr) : Addr → OkF → Prop
  | a : Two fA fB fA okRd
  | b : Two fA fB fB okDec
theorem two_at {fA fB : Addr} {i : Nat} {x : V} (h : ([.ref fA, .ref fB] : List V)[i]? = some x) : ∃ g ok, x = .ref g ∧ Two fA fB g ok := by
  match i, h with
  | 0, h => exact ⟨_, _, (Option.some.inj h).symm, .a⟩
  | 1, h => exact ⟨_, _, (Option.some.inj h).symm, .b⟩
  | n + 2, h => simp at h
/-- whatever is done to the tape at t: v is no rational, and is shown as z -/
def OddS (K : PySem.W.Frag) (t : Addr) (H : Hp) (v : V) : Prop := ∃ z : Str, ∀ H', SameB t H H' → Rk H' v false ∧ Shw K H' v z
def WorS (K : PySem.W.Frag) (t : Addr) (H : Hp) (v : V) : Prop := ∃ z : Str, ∀ H', SameB t H H' → Pk H' v ∧ Shw K H' v z
theorem shw_fl {K : PySem.W.Frag} {H : Hp} {v : V} {d : PyData} {s : String} (h : Fl v d s) : Shw K H v d.shown := .data (h.dp K H) h.sh h.nd (by rw [h.dz]; decide) (Nat.le_trans h.ln (by decide))
theorem odd_fl {K : PySem.W.Frag} {t : Addr} {H : Hp} {v : V} {d : PyData} {s : String} (h : Fl v d s) (n : s ≠ "tuple") : OddS K t H v := ⟨_, fun H' _ => ⟨.other (h.ty H') n, shw_fl h⟩⟩
theorem wor_fl {K : PySem.W.Frag} {t : Addr} {H : Hp} {v : V} {d : PyData} {s : String} (h : Fl v d s) (n : s ≠ "int") : WorS K t H v := ⟨_, fun H' _ => ⟨.ty (h.ty H') n, shw_fl h⟩⟩
theorem wor_int {K : PySem.W.Frag} {t : Addr} {H : Hp} {i : Int} (h : i.natAbs < 2 ^ 1000) (o : i < 0 ∨ 9 < i) : WorS K t H (.int i) := ⟨_, fun H' _ => ⟨.out o, shw_fl (fl_int h)⟩⟩
theorem sm_of {i : Int} (h1 : -1000000000000000000000000000000000000000000 ≤ i) (h2 : i ≤ 1000000000000000000000000000000000000000000) : i.natAbs < 2 ^ 1000 := by
  have e : (2 : Nat) ^ 140 = 1393796574908163946345982392040522594123776 := by decide
  exact Nat.lt_of_lt_of_le (show i.natAbs < 2 ^ 140 by omega) (Nat.pow_le_pow_right (by decide) (by decide))
section
variable {P : Program} {w : World} {K : PySem.W.Frag} {mg : Str → Option Value} {base : Heap} {f C fA fB fT fD fQ fL fS fR fX : Addr} {fd fdT fdD fdQ fdL fdS fdR fdX : FuncData}
theorem scLaw : FnScope ["_law_script", "_law_tape_here", "_law_turn", "_law_digits", "_law_value", "_law_half", "_law_odd", "_law_worse", "_law_call"] ["_law_script"] (defScope sLaw) := ⟨rfl, rfl, rfl, by decide +kernel, rfl, by decide +kernel, by decide +kernel⟩
theorem ok_law (F : Fun K "law" "law" sLaw f fd) (T : Bt mg) (mA : mg "rounded" = some (.ref fA)) (KB : FnK P w K mg base C fB okDec) (mB : mg "decimal" = some (.ref fB))
    (GT : FnOk P w K mg base CX0 1 fT fdT ["_law_script"] (spTape K)) (mT : mg "_law_tape" = some (.ref fT)) (kT : PySem.W.keepIn K (.ref fT) = true) (bT : Binds K fdT ["_law_script"] [])
    (GD : FnOk P w K mg base CX0 1 fD fdD ["_law_tape_here", "_law_many"] spDraw) (mD : mg "_law_draw" = some (.ref fD)) (kD : PySem.W.keepIn K (.ref fD) = true) (bD : Binds K fdD ["_law_tape_here", "_law_many"] [])
    (GQ : FnOk P w K mg base CX0 2 fQ fdQ ["_law_tape_here", "_law_wide"] spRational) (mQ : mg "_law_rational" = some (.ref fQ)) (kQ : PySem.W.keepIn K (.ref fQ) = true) (bQ : Binds K fdQ ["_law_tape_here", "_law_wide"] [])
    (GL : FnOk P w K mg base CX0 1 fL fdL ["_law_n", "_law_d"] spLowest) (mL : mg "_law_lowest" = some (.ref fL)) (kL : PySem.W.keepIn K (.ref fL) = true) (bL : Binds K fdL ["_law_n", "_law_d"] [])
    (GS : FnOk P w K mg base CX0 1 fS fdS ["_law_many"] spPow) (mS : mg "_law_scale" = some (.ref fS)) (kS : PySem.W.keepIn K (.ref fS) = true) (bS : Binds K fdS ["_law_many"] [])
    (GR : FnOk P w K mg base CX0 6 fR fdR ["_law_value", "_law_digits"] spRight) (mR : mg "_law_right" = some (.ref fR)) (kR : PySem.W.keepIn K (.ref fR) = true) (bR : Binds K fdR ["_law_value", "_law_digits"] [])
    (GX : FnG P w K mg base 6 fX fdX ["_law_call", "_law_value", "_law_digits"] (spRef K (Two fA fB))) (mX : mg "_law_refused" = some (.ref fX)) (kX : PySem.W.keepIn K (.ref fX) = true) (bX : Binds K fdX ["_law_call", "_law_value", "_law_digits"] []) : FnG P w K mg base 7 f fd ["_law_script"] (spLaw K) := by
  refine Lc.Fun.okG F scLaw (fun vs H Q E h => ?_) (fun cdv A outer s H vs Q E hg hr h => ?_)
  · obtain ⟨a, ns, rfl, _⟩ := h
    rfl
  · obtain ⟨a0, ns, rfl, hS, k⟩ := h
    obtain ⟨fdB, mvB, dsB, GB, kB, kbB, bB, vB⟩ := KB.g
    have hr1 : Room 1 _ := hr.mono (by decide)
    have hr2 : Room 2 _ := hr.mono (by decide)
    have hr5 : Room 5 _ := hr.mono (by decide)
    refine ⟨_, pss_cons (ps_set (i := 1) scLaw.nd rfl (Or.inl rfl) (pe_call GT hr1 (by rfl) mT kT bT .nil pass0 (pa_cons (pv 0) pa_nil)))
      (Evl.pss_cut (ps_for PassesOwn.never rfl (pi_range1 (by rfl) T.range (pa_cons pe_int pa_nil)) (pg_name (i := 2) scLaw.nd rfl (Or.inl rfl))
        (pss_cons (ps_set (i := 3) scLaw.nd rfl (Or.inl rfl) (pe_call GD hr1 (by rfl) mD kD bD .nil pass0 (pa_cons (pv 1) (pa_cons pe_int pa_nil))))
        (pss_cons (ps_set (i := 4) scLaw.nd rfl (Or.inl rfl) (pe_call GQ hr2 (by rfl) mQ kQ bQ .nil pass0 (pa_cons (pv 1) (pa_cons pe_bl pa_nil))))
        (pss_cons (ps_set (i := 5) scLaw.nd rfl (Or.inl rfl) (pe_call GL hr1 (by rfl) mL kL bL .nil pass0 (pa_cons (pe_op op_sub (pe_op op_mul pe_int (pe_call GD hr1 (by rfl) mD kD bD .nil pass0 (pa_cons (pv 1) (pa_cons pe_int pa_nil)))) pe_int) (pa_cons (pe_op op_mul pe_int (pe_call GS hr1 (by rfl) mS kS bS .nil pass0 (pa_cons (pv 3) pa_nil))) pa_nil))))
        (pss_cons (ps_if (pt_not (pt_val (pe_call GR hr (by rfl) mR kR bR .nil pass0 (pa_cons (pv 4) (pa_cons (pv 3) pa_nil))))) (pss_one (ps_ret pe_bl)) pss_nil)
        (pss_cons (ps_if (PW.pt (pw_or (pt_not (pt_val (pe_call GR hr (by rfl) mR kR bR .nil pass0 (pa_cons (pv 5) (pa_cons (pv 3) pa_nil))))) (pw_or1 (pt_not (pt_val (pe_call GR hr (by rfl) mR kR bR .nil pass0 (pa_cons (pv 5) (pa_cons (pe_op op_sub pe_int (pv 3)) pa_nil)))))))) (pss_one (ps_ret pe_bl)) pss_nil)
        (Evl.pss_cut (ps_set (i := 6) scLaw.nd rfl (Or.inl rfl) (pe_ix ix_list (pe_lst (pa_cons pe_non (pa_cons pe_int (pa_cons (pe_tup (pa_cons pe_int (pa_cons pe_int pa_nil))) (pa_cons (pe_tup (pa_cons pe_int (pa_cons pe_int pa_nil))) (pa_cons pe_str (pa_cons (pe_lst (pa_cons pe_int (pa_cons pe_int pa_nil))) pa_nil))))))) (pe_call GD hr1 (by rfl) mD kD bD .nil pass0 (pa_cons (pv 1) (pa_cons pe_int pa_nil))) (fun _ _ => rfl)))
        (Evl.pss_cut (ps_set (i := 7) scLaw.nd rfl (Or.inl rfl) (pe_ix ix_list (pe_lst (pa_cons pe_non (pa_cons (pe_un un_neg pe_int) (pa_cons pe_int (pa_cons pe_bl (pa_cons pe_str (pa_cons (pe_tup (pa_cons pe_int (pa_cons pe_int pa_nil))) (pa_cons (pe_op op_pow pe_int pe_int) pa_nil)))))))) (pe_call GD hr1 (by rfl) mD kD bD .nil pass0 (pa_cons (pv 1) (pa_cons pe_int pa_nil))) (fun _ _ => rfl)))
        (pss_one (ps_for PassesOwn.never rfl (pi_list (pe_lst (pa_cons (pe_glob (v := .ref fA) (by rfl) mA rfl) (pa_cons (pe_glob (v := .ref fB) (by rfl) mB rfl) pa_nil)))) (pg_name (i := 8) scLaw.nd rfl (Or.inl rfl))
          (pss_one (ps_if (PW.pt (pw_or (pt_cmpR op_ne (pe_callG GX hg hr (by rfl) mX kX bX (pa_cons (pv 8) (pa_cons (pv 6) (pa_cons (pv 7) pa_nil)))) (pe_callB (call_reprV hg hr.units) (by rfl) T.repr boot_repr (pa_cons (pv 6) pa_nil)) (nomark _))
            (pw_or1 (pt_cmpR op_ne (pe_callG GX hg hr (by rfl) mX kX bX (pa_cons (pv 8) (pa_cons (pv 4) (pa_cons (pv 7) pa_nil)))) (pe_callB (call_reprV hg hr.units) (by rfl) T.repr boot_repr (pa_cons (pv 7) pa_nil)) (nomark _))))) (pss_one (ps_ret pe_bl)) pss_nil))))))))))))
      (pss_one (ps_ret (pe_and (pe_cmpR op_eq (pe_callN GB hr5 (by rfl) mB kB kbB passL (pa_cons (pe_tup (pa_cons (pe_un un_neg pe_int) (pa_cons pe_int pa_nil))) pa_nil) (pk_cons pe_int pk_nil)) pe_str (nomark _)) (pe_one (pe_cmpR op_eq (pe_callN GB hr5 (by rfl) mB kB kbB passL (pa_cons (pe_tup (pa_cons (pe_un un_neg pe_int) (pa_cons pe_int pa_nil))) pa_nil) (pk_cons pe_int pk_nil)) pe_str (nomark _))))))), ?_⟩
    refine ⟨_, rfl, a0, ns, rfl, hS, fun t H0 e0 ht hT0 => ?_⟩
    have twoL : 2 ≤ sizeLine := by decide
    refine ⟨fun _ _ => True, ?_, ?_⟩
    · refine ⟨14, rfl, by decide, by decide, for_range (n := 14) (fun i σ H' => (∃ v2 v3 v4 v5 v6 v7 v8 : Option V, σ = [some (.ref a0), some (.ref t), v2, v3, v4, v5, v6, v7, v8]) ∧ Tape H' t) ⟨⟨_, _, _, _, _, _, _, rfl⟩, hT0⟩ ?_ (fun σ H' _ => True.intro)⟩
      rintro i σ H1 hi ⟨⟨v2, v3, v4, v5, v6, v7, v8, rfl⟩, T1⟩
      refine ⟨_, rfl, t, _, rfl, T1, by decide, big1000 (by decide) (by decide), fun dg H2 d0 d1 T2 S2 => ?_⟩
      obtain ⟨k9, rfl⟩ : ∃ m : Nat, dg = (m : Int) := ⟨dg.toNat, by omega⟩
      refine ⟨_, rfl, t, true, rfl, T2, fun pa an ad H3 ra t1 t2 hp _ T3 S3 => ?_⟩
      refine ⟨_, rfl, t, _, rfl, T3, by decide, Nat.lt_of_lt_of_le (show (4001 : Int).natAbs < 2 ^ 20 by decide) (Nat.pow_le_pow_right (by decide) (by decide)), fun kk H4 u4 w4 T4 S4 => ?_⟩
      have tp := ten_pos k9
      have ts := ten_small (k := k9) (by omega)
      have tsx : (2 * (10 : Int) ^ k9).natAbs < 2 ^ 41 := by
        rw [Int.natAbs_mul, show (2 : Nat) ^ 41 = 2 * 2 ^ 40 by decide]
        exact Nat.mul_lt_mul_of_pos_left ts (by decide)
      refine ⟨_, _, rfl, rfl, .inl ⟨by decide, by decide⟩, _, _, rfl, rfl, _, rfl, k9, rfl, by omega, _, _, rfl, rfl, .inl ⟨by decide, by decide⟩, 2 * kk - 4001, 2 * 10 ^ k9, rfl, by omega, Nat.lt_of_lt_of_le tsx (Nat.pow_le_pow_right (by decide) (by decide)), fun ph hph => ?_⟩
      have zh := Same.upd (o := .tup [.int (lowN (2 * kk - 4001) (2 * 10 ^ k9)), .int (lowD (2 * kk - 4001) (2 * 10 ^ k9))]) hph
      have na : pa ≠ t := T3.neT hp
      have hp4 := zh _ _ (S4 _ _ na hp)
      have T5 := T4.same zh
      have hl := low_le (n := 2 * kk - 4001) (d := 2 * 10 ^ k9) (by omega)
      have hr3 : Rt (lowN (2 * kk - 4001) (2 * 10 ^ k9)) (lowD (2 * kk - 4001) (2 * 10 ^ k9)) := low_rt (by omega)
      have hn : Ti (lowN (2 * kk - 4001) (2 * 10 ^ k9)) := by
        have : (2 * kk - 4001).natAbs < 2 ^ 20 := by
          have : (2 : Nat) ^ 20 = 1048576 := by decide
          omega
        exact Nat.lt_of_le_of_lt hl.1 (Nat.lt_of_lt_of_le this (Nat.pow_le_pow_right (by decide) (by decide)))
      have hd : Ti (lowD (2 * kk - 4001) (2 * 10 ^ k9)) := Nat.lt_of_le_of_lt hl.2 (Nat.lt_of_lt_of_le tsx (Nat.pow_le_pow_right (by decide) (by decide)))
      -- right
      refine ⟨_, rfl, _, rfl, pa, an, ad, k9, rfl, hp4, ra, t1, t2, by omega, fun H6 e6 => ⟨_, rfl, iteF ?_⟩⟩
      refine ⟨_, rfl, _, rfl, ph, _, _, k9, rfl, e6 _ _ upd_same, hr3, hn, hd, by omega, fun H7 e7 => ⟨_, rfl, iteF ?_⟩⟩
      refine ⟨_, rfl, _, rfl, _, _, rfl, rfl, ph, _, _, 9 - k9, ?_, (e6.trans e7) _ _ upd_same, hr3, hn, hd, by omega, fun H8 e8 => ⟨_, rfl, iteF ?_⟩⟩
      · show [V.ref ph, V.int (9 - (k9 : Int))] = [V.ref ph, V.int ((9 - k9 : Nat) : Int)]
        rw [show ((9 - k9 : Nat) : Int) = 9 - (k9 : Int) by omega]
      have ee := e6.trans (e7.trans e8)
      have hp8 := ee _ _ hp4
      have T8 := T5.same ee
      -- odd
      let M : Option V → Option V → L2.St → Hp → Prop := fun o w σ H' => (∃ s8 : Option V, σ = [some (.ref a0), some (.ref t), some (.int (0 + (i : Int))), some (.int (k9 : Int)), some (.ref pa), some (.ref ph), o, w, s8]) ∧ Tape H' t ∧ H' pa = some (.tup [.int an, .int ad])
      refine ⟨fun σ H' => ∃ v : V, M (some v) v7 σ H' ∧ OddS K t H' v, ?_, ?_⟩
      · refine ⟨twoL, fun c1 h1 => ⟨twoL, fun c2 h2 => ⟨twoL, fun c3 h3 => ⟨by show 6 ≤ sizeLine; decide, fun L hL => ?_⟩⟩⟩⟩
        have y1 := Same.upd (o := .tup [.int 2, .int 4]) h1
        have y2 := Same.upd (o := .tup [.int 1, .int 0]) h2
        have y3 := Same.upd (o := .lst [.int 1, .int 1]) h3
        have y4 := Same.upd (o := .lst [.non, .int 1, .ref c1, .ref c2, .str "1", .ref c3]) hL
        have x3 := y3.trans y4
        have x2 := y2.trans x3
        have x1 := y1.trans x2
        have n1 := T8.ne h1
        have n2 := (T8.same y1).ne h2
        have n3 := (T8.same (y1.trans y2)).ne h3
        have n4 := (T8.same (y1.trans (y2.trans y3))).ne hL
        have f1 : Fl (.int 1) (.int 1) "int" := fl_int (sm_of (by decide) (by decide))
        refine ⟨_, rfl, t, _, rfl, T8.same x1, by decide, big1000 (by decide) (by decide), fun k2 H9 u2 w2 T9 S9 => ?_⟩
        have pr : ∀ (c : Addr) (x y : Int), c ≠ t → H9 c = some (.tup [.int x, .int y]) → ratB (.int x) (.int y) = false → x.natAbs < 2 ^ 1000 → y.natAbs < 2 ^ 1000 → OddS K t H9 (.ref c) := fun c x y nc hc hf hx hy =>
          ⟨_, fun H' s' => ⟨by rw [← hf]; exact .pair (s' _ _ nc hc) (.int x) (.int y), shw_tup (s' _ _ nc hc) (.cons (fl_int hx) (.cons (fl_int hy) .nil)) (by show 2 ≤ 100; decide)⟩⟩
        have all : ∀ v ∈ ([.non, .int 1, .ref c1, .ref c2, .str "1", .ref c3] : List V), OddS K t H9 v := by
          intro v hv
          simp only [List.mem_cons, List.not_mem_nil, or_false] at hv
          rcases hv with rfl | rfl | rfl | rfl | rfl | rfl
          · exact odd_fl fl_non (by decide)
          · exact odd_fl f1 (by decide)
          · exact pr c1 2 4 n1 (S9 _ _ n1 (x2 _ _ upd_same)) (by decide +kernel) (sm_of (by decide) (by decide)) (sm_of (by decide) (by decide))
          · exact pr c2 1 0 n2 (S9 _ _ n2 (x3 _ _ upd_same)) (by decide +kernel) (sm_of (by decide) (by decide)) (sm_of (by decide) (by decide))
          · exact odd_fl (fl_str (n := 1) ⟨by decide +kernel, by decide +kernel⟩ (by decide)) (by decide)
          · have e3 := S9 _ _ n3 (y4 _ _ (upd_same (a := c3) (o := .lst [.int 1, .int 1])))
            exact ⟨_, fun H' s' => ⟨.other (.lst (s' _ _ n3 e3)) (by decide), shw_lst (s' _ _ n3 e3) (.cons f1 (.cons f1 .nil)) (by show 2 ≤ 100; decide)⟩⟩
        have hk : k2.toNat < ([.non, .int 1, .ref c1, .ref c2, .str "1", .ref c3] : List V).length := by show k2.toNat < 6; omega
        refine ⟨L, _, _, _, rfl, rfl, SqL.of (S9 _ _ n4 upd_same), at_of (j := k2.toNat) (by omega) (List.getElem?_eq_getElem hk), ?_⟩
        exact ⟨_, ⟨⟨_, rfl⟩, T9, S9 _ _ na (x1 _ _ hp8)⟩, all _ (List.getElem_mem hk)⟩
      clear T8 hp8
      rintro σ H8 ⟨ov, ⟨⟨s8, rfl⟩, T8, hp8⟩, zo, hzo⟩
      refine ⟨fun σ H' => ∃ v : V, M (some ov) (some v) σ H' ∧ WorS K t H' v ∧ Rk H' ov false ∧ Shw K H' ov zo, ?_, ?_⟩
      · refine ⟨_, rfl, twoL, fun c1 h1 => ⟨_, _, rfl, rfl, ⟨by decide, by decide, by decide⟩, by show 7 ≤ sizeLine; decide, fun L hL => ?_⟩⟩
        have y1 := Same.upd (o := .tup [.int 1, .int 1]) h1
        have p30 : (10 : Int) ^ (30 : Int).toNat = 1000000000000000000000000000000 := by decide
        have y2 := Same.upd (o := .lst [.non, .int (-1), .int 10, .bl true, .str "1", .ref c1, .int (10 ^ (30 : Int).toNat)]) hL
        have x1 := y1.trans y2
        have n1 := T8.ne h1
        have n2 := (T8.same y1).ne hL
        have f1 : Fl (.int 1) (.int 1) "int" := fl_int (sm_of (by decide) (by decide))
        refine ⟨_, rfl, t, _, rfl, T8.same x1, by decide, big1000 (by decide) (by decide), fun k2 H9 u2 w2 T9 S9 => ?_⟩
        have all : ∀ v ∈ ([.non, .int (-1), .int 10, .bl true, .str "1", .ref c1, .int (10 ^ (30 : Int).toNat)] : List V), WorS K t H9 v := by
          intro v hv
          simp only [List.mem_cons, List.not_mem_nil, or_false] at hv
          rcases hv with rfl | rfl | rfl | rfl | rfl | rfl | rfl
          · exact wor_fl fl_non (by decide)
          · exact wor_int (sm_of (by decide) (by decide)) (.inl (by decide))
          · exact wor_int (sm_of (by decide) (by decide)) (.inr (by decide))
          · exact wor_fl (fl_bl true) (by decide)
          · exact wor_fl (fl_str (n := 1) ⟨by decide +kernel, by decide +kernel⟩ (by decide)) (by decide)
          · have e3 := S9 _ _ n1 (y2 _ _ (upd_same (a := c1) (o := .tup [.int 1, .int 1])))
            exact ⟨_, fun H' s' => ⟨.ty (.tup (s' _ _ n1 e3)) (by decide), shw_tup (s' _ _ n1 e3) (.cons f1 (.cons f1 .nil)) (by show 2 ≤ 100; decide)⟩⟩
          · rw [p30]
            exact wor_int (sm_of (by decide) (by decide)) (.inr (by decide))
        have hk : k2.toNat < ([.non, .int (-1), .int 10, .bl true, .str "1", .ref c1, .int (10 ^ (30 : Int).toNat)] : List V).length := by show k2.toNat < 7; omega
        refine ⟨L, _, _, _, rfl, rfl, SqL.of (S9 _ _ n2 upd_same), at_of (j := k2.toNat) (by omega) (List.getElem?_eq_getElem hk), ?_⟩
        have oo := hzo H9 ((Same.b t x1).trans S9)
        exact ⟨_, ⟨⟨_, rfl⟩, T9, S9 _ _ na (x1 _ _ hp8)⟩, all _ (List.getElem_mem hk), oo.1, oo.2⟩
      clear T8 hp8 s8 hzo
      rintro σ H8 ⟨wv, ⟨⟨s8, rfl⟩, T8, hp8⟩, ⟨zw, hzw⟩, ro, so⟩
      obtain ⟨pw, sw⟩ := hzw H8 (SameB.refl t H8)
      refine ⟨twoL, fun l hl => ⟨l, rfl, ⟨_, SqL.of upd_same⟩, ?_⟩⟩
      have zl := Same.upd (o := .lst [.ref fA, .ref fB]) hl
      refine for_list (K := K) (a := l) (xs := [.ref fA, .ref fB]) (fun j σ H' => (∃ s8 : Option V, σ = [some (.ref a0), some (.ref t), some (.int (0 + (i : Int))), some (.int (k9 : Int)), some (.ref pa), some (.ref ph), some ov, some wv, s8]) ∧ Same (upd H8 l (.lst [.ref fA, .ref fB])) H')
        ⟨⟨_, rfl⟩, Same.refl _⟩ (fun j σ H' _ ⟨_, e⟩ => SqL.of (e _ _ upd_same)) ?_ ?_
      · rintro j x σ H9 hj ⟨⟨s9, rfl⟩, e9⟩
        obtain ⟨g, ok, rfl, hg2⟩ := two_at hj
        have e8' := zl.trans e9
        refine ⟨_, rfl, _, rfl, _, rfl, g, ok, ov, wv, rfl, hg2, .inl ⟨zo, ro.same e8', so.same e8', fun H10 e10 => ?_⟩⟩
        refine ⟨_, rfl, ov, zo, rfl, so.same (e8'.trans e10), rfl, _, rfl, ?_⟩
        rw [decide_eq_true rfl]
        refine iteF ?_
        have e11 := e8'.trans e10
        refine ⟨_, rfl, _, rfl, _, rfl, g, ok, .ref pa, wv, rfl, hg2, .inr ⟨zw, .of (e11 _ _ hp8) ra, pw.same e11, sw.same e11, fun H12 e12 => ?_⟩⟩
        refine ⟨_, rfl, wv, zw, rfl, sw.same (e11.trans e12), rfl, _, rfl, ?_⟩
        rw [decide_eq_true rfl]
        exact iteF ⟨⟨_, rfl⟩, (e9.trans e10).trans e12⟩
      · rintro σ H9 ⟨⟨s9, rfl⟩, e9⟩
        exact ⟨⟨_, _, _, _, _, _, _, rfl⟩, T8.same (zl.trans e9)⟩
    · intro σ H1 _
      have r1 : Rt (-1) 900 := ⟨by decide, by decide +kernel⟩
      have r2 : Rt (-1) 8 := ⟨by decide, by decide +kernel⟩
      refine ⟨_, rfl, twoL, fun p1 h1 => ⟨rfl, rfl, _, _, rfl, .inr (.inr ⟨p1, -1, 900, 2, rfl, rfl, upd_same, r1, sm_of (by decide) (by decide), sm_of (by decide) (by decide), by decide, fun x1 hx1 => ?_⟩)⟩⟩
      have q1 : x1 = PySem.Str.ofString "0.00" := str_ext (hx1.trans (by decide +kernel))
      refine ⟨rfl, _, rfl, ?_⟩
      rw [decide_eq_true (show V.str x1 = V.str (PySem.Str.ofString "0.00") by rw [q1])]
      refine iteT ⟨_, rfl, twoL, fun p2 h2 => ⟨rfl, rfl, _, _, rfl, .inr (.inr ⟨p2, -1, 8, 2, rfl, rfl, upd_same, r2, sm_of (by decide) (by decide), sm_of (by decide) (by decide), by decide, fun x2 hx2 => ?_⟩)⟩⟩
      have q2 : x2 = PySem.Str.ofString "-0.13" := str_ext (hx2.trans (by decide +kernel))
      refine ⟨rfl, ?_⟩
      rw [decide_eq_true (show V.str x2 = V.str (PySem.Str.ofString "-0.13") by rw [q2])]
      exact k _
end
end K02
set_option Elab.async false
set_option linter.all false
set_option maxRecDepth 100000
set_option maxHeartbeats 4000000
namespace Lc
open PySem PySem.Spec PyProof.Rows L2 He
/-! ## The head's facts, with one more Bool -/
abbrev AlE : Type := AlD × Bool
def obsE (n : Nat) (fa : List Fa) (fn : List DefD) (ex : PySem.W.Frag → Bool) (g : Addr → Option Obj) : AlE := (obsD fa fn (frG g (asD g n)), ex (frG g (asD g n)))
def hookE (n : Nat) (fa : List Fa) (fn : List DefD) (ex : PySem.W.Frag → Bool) : PySem.W.Hook where
  α := AlE
  obs := fun s => obsE n fa fn ex s.heap.get?
  val := fun _ => (valD fn, true)
  says := fun _ h => ∃ K : PySem.W.Frag, K.In h ∧ SaysD fa fn K ∧ ex K = true
  of := fun _ _ e => ⟨_, frG_in, congrArg (fun z : AlE => z.1) e, congrArg (fun z : AlE => z.2) e⟩
  keeps := fun _ _ _ ⟨K, hK, c⟩ k => ⟨K, PySem.W.Frag.In.keeps hK k, c⟩
theorem obsE_eq {n : Nat} {fa : List Fa} {fn : List DefD} {ex : PySem.W.Frag → Bool} {g : Addr → Option Obj} {s : Shared} (h : ∀ a, g a = s.heap.get? a) : obsE n fa fn ex g = (hookE n fa fn ex).obs s := by
  have e : g = s.heap.get? := funext h
  rw [e] <;> rfl
/-! ## What is asked of the error classes -/
def optB (a b : Option Bool) : Bool := decide (a = b)
def optV (a b : Option Value) : Bool := decide (a = b)
def oexB (K : PySem.W.Frag) (C : Addr) : Bool := (match K.lookup C with
  | some ⟨.type "type", _, .cls cd, sl⟩ => (match cd.mro, sl.toList with
    | .ref C' :: bm, [_, _, _, _, some (.builtin n), _] => C' == C && n == "ValueError.__new__" && !cd.hasDel && cd.hasDict && PySem.HandSPX.refsVE bm
    | _, _ => false)
  | _ => false) && (eqO (PySem.W.findIn K (.ref C) "__setattr__") (some (some (.builtin "object.__setattr__"))) && (optB (PySem.W.subIn K (.ref C) (.type "BaseException")) (some true) && (optV (PySem.W.typeIn K (.ref C)) (some (.type "type")) && PySem.W.keepIn K (.ref C))))
theorem oexB_ok {K : PySem.W.Frag} {C : Addr} (h : oexB K C = true) : OexC K C := by
  obtain ⟨q, h⟩ := ba h
  obtain ⟨h1, h⟩ := ba h
  obtain ⟨h2, h⟩ := ba h
  obtain ⟨h3, h4⟩ := ba h
  refine ⟨?_, eqO_ok h1, of_decide_eq_true h2, of_decide_eq_true h3, h4⟩
  split at q
  · rename_i dd cd sl ho
    split at q
    · rename_i C' bm k0 k1 k2 k3 n k5 hm hs
      simp only [Bool.and_eq_true, beq_iff_eq, Bool.not_eq_true'] at q
      obtain ⟨⟨⟨⟨rfl, rfl⟩, hdel⟩, hdi⟩, ht⟩ := q
      obtain ⟨nm, bs, mro, ns, qn, hd, sn, sub, ab, col, del⟩ := cd
      dsimp only at hm hdel hdi
      subst hm hdel hdi
      have hsl : sl = #[k0, k1, k2, k3, some (.builtin "ValueError.__new__"), k5] := by
        obtain ⟨l⟩ := sl
        simp only at hs
        rw [hs]
      subst hsl
      exact ⟨nm, qn, ns, bs, bm, sn, sub, ab, col, dd, k0, k1, k2, k3, k5, ho, ht⟩
    · cases q
  · cases q
def xisB (K : PySem.W.Frag) (C : Addr) : Bool := (PySem.W.clsIn K C).isSome && (eqO (PySem.W.findIn K (.ref C) "__getattribute__") (some (some (.builtin "BaseException.__getattribute__"))) && (eqO (PySem.W.findIn K (.ref C) "__getattr__") (some none) &&
  (optB (PySem.W.subIn K (.ref C) (.type "BaseException")) (some true) && (eqO (PySem.W.findIn K (.ref C) "__class__") (some (some (.builtin "object.__class__"))) && (eqO (PySem.W.specialIn K (.builtin "object.__class__") "__get__") (some (some (.builtin "getset_descriptor.__get__"))) &&
  (optB (PySem.W.takesIn K (.builtin "object.__class__")) (some true) && optB (PySem.W.mroIn K C (.type "object")) (some true)))))))
theorem xisB_ok {K : PySem.W.Frag} {C : Addr} (h : xisB K C = true) : XisC K C := by
  obtain ⟨h1, h⟩ := ba h
  obtain ⟨h2, h⟩ := ba h
  obtain ⟨h3, h⟩ := ba h
  obtain ⟨h4, h⟩ := ba h
  obtain ⟨h5, h⟩ := ba h
  obtain ⟨h6, h⟩ := ba h
  obtain ⟨h7, h8⟩ := ba h
  exact ⟨h1, eqO_ok h2, eqO_ok h3, of_decide_eq_true h4, eqO_ok h5, eqO_ok h6, of_decide_eq_true h7, of_decide_eq_true h8⟩
/-- a def without defaults -/
theorem fun_of {K : PySem.W.Frag} {x qual : Str} {st : Stmt} {f : Addr} {fd : FuncData} (F : FunD K x qual (defArgs st) (defBody st) (defScope st) [] [] f fd) : Fun K x qual st f fd := by
  obtain ⟨oc, od, dV, kV, doc, pm, an, cdv, ct, osl, rfl, lk, hcd, hD, hK⟩ := F.ex
  rcases hD with ⟨_, rfl⟩ | ⟨e, _⟩
  · exact ⟨⟨oc, od, kV, doc, pm, an, cdv, ct, osl, rfl, lk, hcd⟩, F.kp⟩
  · exact absurd rfl e
/-! ## The end of a law whose defs are promised where no repr is under way -/
theorem walk_GE {l : PySem.W.OpenLaw} {n k : Nat} {q : Program} {loose : List Str} {XP : (Str → Option Value) → Heap → Prop} {YP : World → Heap → Prop} {d : DefRec} {x : Str}
    (hn : l.most = some n) (hn2 : n ≤ sizeLine) (hdf : d.params.defaults = []) (hr : Room k callerA)
    (F : ∀ (w : World) (mg : Str → Option Value) (fa : Addr) (h : Heap), YP w h → h.Ns mainGlobals mg → mg d.name = some (.ref fa) →
      ∃ (K : PySem.W.Frag) (fd : FuncData) (sp : Sp), K.In h ∧ (∀ (s : Shared) (u : Value), BindsTo s fd ⟨[u], []⟩ [(x, u)]) ∧
        (∀ (H : Hp) (a : Addr) (ns : List Int), ns.length ≤ n → SqL K H a (ns.map V.int) → sp [.ref a] H (fun v _ => v = .bl true) fun _ _ _ => False) ∧
        ∀ base : Heap, K.In base → base.Ns mainGlobals mg → FnG l.prog w K mg base k fa fd [x] sp) :
    PySem.W.WalkO q loose XP YP l.row.toRowW d [] (fun f vs => PySem.call f vs) := by
  refine Att.attach_call hn hdf fun w _ s mg mb fa _ _ _ _ a vs ns G Y _ _ _ hmg hobj hints hlen hg => ?_
  obtain ⟨K, fd, sp, KX, hb, hsp, hF⟩ := F w mg fa _ Y G.T.g hmg
  exact law_callG KX G.T.g G.T.b G.T.builtins G.T.nolimit hg hobj hints (Nat.le_trans hlen hn2) hr hF hb fun H hS => hsp H a ns hlen hS
end Lc
namespace Lc
theorem all_at {l : List Bool} (h : l.all id = true) (i : Nat) {b : Bool} (e : l[i]? = some b := by rfl) : b = true := List.all_eq_true.mp h b (List.mem_of_getElem? e)
end Lc
set_option Elab.async false
set_option linter.all false
set_option maxRecDepth 100000
set_option maxHeartbeats 8000000
namespace K02
open PySem PySem.Spec PyProof.Rows L2 Lc He
/-! ## the head -/
def dOf (x : Str) (st : Stmt) : DefD := ⟨(x, none), x, x, defArgs st, defBody st, defScope st, [], []⟩
def dMt (c m q : Str) (st : Stmt) : DefD := ⟨(c, some m), m, q, defArgs st, defBody st, defScope st, [], []⟩
def dKw (x : Str) (st : Stmt) (kw : List (Str × Dv)) : DefD := ⟨(x, none), x, x, defArgs st, defBody st, defScope st, [], kw⟩
def fn : List DefD := [dMt "BadNumber" "__init__" "BadNumber.__init__" sInit, dOf "is_whole" sWhole, dOf "common_divisor" sCd, dOf "is_rational" sIsR, dOf "check_rational" sChk, dOf "lowest_terms" sLow, dOf "check_rounding" sCr, dOf "power_of_ten" sPow, dOf "nearest_units" sNu, dKw "rounded" sRd [("places", .int 0)], dKw "decimal" sDec [("places", .int 0)], dOf "_law_tape" sTape, dOf "_law_draw" sDraw, dOf "_law_lowest" sLst, dOf "_law_rational" sRat, dOf "_law_read" sRead, dOf "_law_scale" sScale, dOf "_law_is_nearest" sNear, dOf "_law_refused" sRef, dOf "_law_right" sRight, dOf "law" sLaw]
def gl : List Str := ["BadNumber", "is_whole", "common_divisor", "is_rational", "check_rational", "lowest_terms", "check_rounding", "power_of_ten", "nearest_units", "rounded", "decimal", "_law_tape", "_law_draw", "_law_lowest", "_law_rational", "_law_read", "_law_scale", "_law_is_nearest", "_law_refused", "_law_right"]
def loose : List Str := gl ++ (["MOST_PLACES"] : List Str)
def fa : List Fa := (.glo "law") :: gl.map Fa.glo ++ (btNames ++ ([] : List Str)).map Fa.free ++ [.int "MOST_PLACES" 9]
def exL (K : PySem.W.Frag) : List Bool := [oexB K (ga K "BadNumber"), eqO (PySem.W.findIn K (.ref (ga K "BadNumber")) "__init__") (some (some (.ref (ma K (ga K "BadNumber") "__init__")))), optV (PySem.W.typeIn K (.ref (ma K (ga K "BadNumber") "__init__"))) (some (.type "function")), eqO (PySem.W.findIn K (.ref (ga K "BadNumber")) "given") (some none), xfB K (ga K "BadNumber"), optB (PySem.W.exmOne K (.ref (ga K "BadNumber")) (.ref (ga K "BadNumber"))) (some true)]
def ex (K : PySem.W.Frag) : Bool := (exL K).all id
abbrev R : PySem.W.OpenRow := PySem.W.OpenLaw.row PySem.Challenge.rw_liveclaims_k02_rounding_and_decimals
abbrev hk : PySem.W.Hook := hookE 5 fa fn ex
def ob (s : PySem.W.SharedT) : AlE := obsE 5 fa fn ex (HandSHeadRun.getT s)
theorem ob_eq (s : PySem.W.SharedT) : ob s = hk.obs s.abs := obsE_eq (HandSHeadRun.getT_eq s)
theorem run (w : World) : HandSHeadRun.RunEq R (PySem.W.view R.prog [24]) hk ob 4000 loose w := by
  intro os
  kernel_rfl
theorem facts {P : Program} {w : World} {K : PySem.W.Frag} {h : Heap} {mg : Str → Option Value} {f : Addr} (X : K.In h) (G : h.Ns mainGlobals mg) (hfa : mg ("law" : Str) = some (.ref f)) (c : SaysD fa fn K) (e : ex K = true) :
    ∃ fd : FuncData, (∀ (s : Shared) (v : Value), BindsTo s fd ⟨[v], []⟩ [("_law_script", v)]) ∧ ∀ base : Heap, K.In base → base.Ns mainGlobals mg → FnG P w K mg base 7 f fd ["_law_script"] (spLaw K) := by
  obtain ⟨fd0, D0⟩ := c.def_ 0 (d := dMt "BadNumber" "__init__" "BadNumber.__init__" sInit) rfl
  obtain ⟨fd1, D1⟩ := c.def_ 1 (d := dOf "is_whole" sWhole) rfl
  obtain ⟨fd2, D2⟩ := c.def_ 2 (d := dOf "common_divisor" sCd) rfl
  obtain ⟨fd3, D3⟩ := c.def_ 3 (d := dOf "is_rational" sIsR) rfl
  obtain ⟨fd4, D4⟩ := c.def_ 4 (d := dOf "check_rational" sChk) rfl
  obtain ⟨fd5, D5⟩ := c.def_ 5 (d := dOf "lowest_terms" sLow) rfl
  obtain ⟨fd6, D6⟩ := c.def_ 6 (d := dOf "check_rounding" sCr) rfl
  obtain ⟨fd7, D7⟩ := c.def_ 7 (d := dOf "power_of_ten" sPow) rfl
  obtain ⟨fd8, D8⟩ := c.def_ 8 (d := dOf "nearest_units" sNu) rfl
  obtain ⟨fd9, D9⟩ := c.def_ 9 (d := dKw "rounded" sRd [("places", .int 0)]) rfl
  obtain ⟨fd10, D10⟩ := c.def_ 10 (d := dKw "decimal" sDec [("places", .int 0)]) rfl
  obtain ⟨fd11, D11⟩ := c.def_ 11 (d := dOf "_law_tape" sTape) rfl
  obtain ⟨fd12, D12⟩ := c.def_ 12 (d := dOf "_law_draw" sDraw) rfl
  obtain ⟨fd13, D13⟩ := c.def_ 13 (d := dOf "_law_lowest" sLst) rfl
  obtain ⟨fd14, D14⟩ := c.def_ 14 (d := dOf "_law_rational" sRat) rfl
  obtain ⟨fd15, D15⟩ := c.def_ 15 (d := dOf "_law_read" sRead) rfl
  obtain ⟨fd16, D16⟩ := c.def_ 16 (d := dOf "_law_scale" sScale) rfl
  obtain ⟨fd17, D17⟩ := c.def_ 17 (d := dOf "_law_is_nearest" sNear) rfl
  obtain ⟨fd18, D18⟩ := c.def_ 18 (d := dOf "_law_refused" sRef) rfl
  obtain ⟨fd19, D19⟩ := c.def_ 19 (d := dOf "_law_right" sRight) rfl
  obtain ⟨fd20, D20⟩ := c.def_ 20 (d := dOf "law" sLaw) rfl
  have ef := hfa.symm.trans (glo_ok X G (c.fact 0 (f := .glo "law") rfl))
  cases ef
  have g : ∀ (i : Nat) (x : Str), fa[i]? = some (.glo x) → mg x = some (.ref (ga K x)) := fun i x z => glo_ok X G (c.fact i (f := .glo x) z)
  have z : ∀ (i : Nat) (x : Str), fa[i]? = some (.free x) → mg x = none := fun i x z => free_ok X G (c.fact i (f := .free x) z)
  have T : Bt mg := ⟨z 21 _ rfl, z 22 _ rfl, z 23 _ rfl, z 24 _ rfl, z 25 _ rfl, z 26 _ rfl, z 27 _ rfl, z 28 _ rfl, z 29 _ rfl, z 30 _ rfl, z 31 _ rfl, z 32 _ rfl, z 33 _ rfl, z 34 _ rfl, z 35 _ rfl, z 36 _ rfl, z 37 _ rfl, z 38 _ rfl⟩
  obtain ⟨uc0, mc0⟩ := int_ok X G (c.fact 39 (f := .int "MOST_PLACES" 9) rfl)
  have a : ∀ (i : Nat) {b : Bool}, (exL K)[i]? = some b → b = true := fun i _ z => all_at e i z
  have b0 : Binds K fd0 ["self", "given"] [] := D0.bindsN fun _ _ _ _ _ _ us hl => match us, hl with | [_, _], _ => rfl
  have b1 : Binds K fd1 ["value"] [] := D1.bindsN fun _ _ _ _ _ _ us hl => match us, hl with | [_], _ => rfl
  have b2 : Binds K fd2 ["a", "b"] [] := D2.bindsN fun _ _ _ _ _ _ us hl => match us, hl with | [_, _], _ => rfl
  have b3 : Binds K fd3 ["value"] [] := D3.bindsN fun _ _ _ _ _ _ us hl => match us, hl with | [_], _ => rfl
  have b4 : Binds K fd4 ["value"] [] := D4.bindsN fun _ _ _ _ _ _ us hl => match us, hl with | [_], _ => rfl
  have b5 : Binds K fd5 ["n", "d"] [] := D5.bindsN fun _ _ _ _ _ _ us hl => match us, hl with | [_, _], _ => rfl
  have b6 : Binds K fd6 ["value", "places"] [] := D6.bindsN fun _ _ _ _ _ _ us hl => match us, hl with | [_, _], _ => rfl
  have b7 : Binds K fd7 ["places"] [] := D7.bindsN fun _ _ _ _ _ _ us hl => match us, hl with | [_], _ => rfl
  have b8 : Binds K fd8 ["value", "scale"] [] := D8.bindsN fun _ _ _ _ _ _ us hl => match us, hl with | [_, _], _ => rfl
  obtain ⟨ds9, v9, b9⟩ := FunD.binds0 (ps := ["value", "places"]) D9 1 (List.cons_ne_nil _ _) rfl (fun D doc pm an cdv ct us ks hl hk => match us, ks, hl, hk with | [_], [_], _, _ => ⟨_, _, _, _, _, _, rfl, rfl, rfl⟩)
  obtain ⟨mv9, kb9⟩ := FunD.kbinds0 (ps := ["value", "places"]) D9 1 ["places"] [] gKw (List.cons_ne_nil _ _) nofun (fun r1 _ r3 => Vals.append r1 r3) (fun D doc pm an cdv ct us mv ws h1 h2 h3 => match us, mv, ws, h1, h2, h3 with | [_], [], [_], _, _, _ => rfl)
  obtain ⟨ds10, v10, b10⟩ := FunD.binds0 (ps := ["value", "places"]) D10 1 (List.cons_ne_nil _ _) rfl (fun D doc pm an cdv ct us ks hl hk => match us, ks, hl, hk with | [_], [_], _, _ => ⟨_, _, _, _, _, _, rfl, rfl, rfl⟩)
  obtain ⟨mv10, kb10⟩ := FunD.kbinds0 (ps := ["value", "places"]) D10 1 ["places"] [] gKw (List.cons_ne_nil _ _) nofun (fun r1 _ r3 => Vals.append r1 r3) (fun D doc pm an cdv ct us mv ws h1 h2 h3 => match us, mv, ws, h1, h2, h3 with | [_], [], [_], _, _, _ => rfl)
  have b11 : Binds K fd11 ["_law_script"] [] := D11.bindsN fun _ _ _ _ _ _ us hl => match us, hl with | [_], _ => rfl
  have b12 : Binds K fd12 ["_law_tape_here", "_law_many"] [] := D12.bindsN fun _ _ _ _ _ _ us hl => match us, hl with | [_, _], _ => rfl
  have b13 : Binds K fd13 ["_law_n", "_law_d"] [] := D13.bindsN fun _ _ _ _ _ _ us hl => match us, hl with | [_, _], _ => rfl
  have b14 : Binds K fd14 ["_law_tape_here", "_law_wide"] [] := D14.bindsN fun _ _ _ _ _ _ us hl => match us, hl with | [_, _], _ => rfl
  have b15 : Binds K fd15 ["_law_text", "_law_digits_many"] [] := D15.bindsN fun _ _ _ _ _ _ us hl => match us, hl with | [_, _], _ => rfl
  have b16 : Binds K fd16 ["_law_many"] [] := D16.bindsN fun _ _ _ _ _ _ us hl => match us, hl with | [_], _ => rfl
  have b17 : Binds K fd17 ["_law_number", "_law_given", "_law_scale_here"] [] := D17.bindsN fun _ _ _ _ _ _ us hl => match us, hl with | [_, _, _], _ => rfl
  have b18 : Binds K fd18 ["_law_call", "_law_value", "_law_digits"] [] := D18.bindsN fun _ _ _ _ _ _ us hl => match us, hl with | [_, _, _], _ => rfl
  have b19 : Binds K fd19 ["_law_value", "_law_digits"] [] := D19.bindsN fun _ _ _ _ _ _ us hl => match us, hl with | [_, _], _ => rfl
  have bl := FunD.bindsA (ps := ["_law_script"]) D20 fun _ _ _ _ _ _ us hl => match us, hl with | [_], _ => rfl
  refine ⟨fd20, fun s v => bl s [v] rfl, fun base _ _ => ?_⟩
  have m_BadNumber : mg "BadNumber" = some (.ref (ga K "BadNumber")) := g 1 _ rfl
  have m_is_whole : mg "is_whole" = some (.ref (ga K "is_whole")) := g 2 _ rfl
  have m_common_divisor : mg "common_divisor" = some (.ref (ga K "common_divisor")) := g 3 _ rfl
  have m_is_rational : mg "is_rational" = some (.ref (ga K "is_rational")) := g 4 _ rfl
  have m_check_rational : mg "check_rational" = some (.ref (ga K "check_rational")) := g 5 _ rfl
  have m_lowest_terms : mg "lowest_terms" = some (.ref (ga K "lowest_terms")) := g 6 _ rfl
  have m_check_rounding : mg "check_rounding" = some (.ref (ga K "check_rounding")) := g 7 _ rfl
  have m_power_of_ten : mg "power_of_ten" = some (.ref (ga K "power_of_ten")) := g 8 _ rfl
  have m_nearest_units : mg "nearest_units" = some (.ref (ga K "nearest_units")) := g 9 _ rfl
  have m_rounded : mg "rounded" = some (.ref (ga K "rounded")) := g 10 _ rfl
  have m_decimal : mg "decimal" = some (.ref (ga K "decimal")) := g 11 _ rfl
  have m__law_tape : mg "_law_tape" = some (.ref (ga K "_law_tape")) := g 12 _ rfl
  have m__law_draw : mg "_law_draw" = some (.ref (ga K "_law_draw")) := g 13 _ rfl
  have m__law_lowest : mg "_law_lowest" = some (.ref (ga K "_law_lowest")) := g 14 _ rfl
  have m__law_rational : mg "_law_rational" = some (.ref (ga K "_law_rational")) := g 15 _ rfl
  have m__law_read : mg "_law_read" = some (.ref (ga K "_law_read")) := g 16 _ rfl
  have m__law_scale : mg "_law_scale" = some (.ref (ga K "_law_scale")) := g 17 _ rfl
  have m__law_is_nearest : mg "_law_is_nearest" = some (.ref (ga K "_law_is_nearest")) := g 18 _ rfl
  have m__law_refused : mg "_law_refused" = some (.ref (ga K "_law_refused")) := g 19 _ rfl
  have m__law_right : mg "_law_right" = some (.ref (ga K "_law_right")) := g 20 _ rfl
  have Re : Er K mg (ga K "BadNumber") (ma K (ga K "BadNumber") "__init__") := ⟨oexB_ok (a 0 rfl), eqO_ok (a 1 rfl), of_decide_eq_true (a 2 rfl), eqO_ok (a 3 rfl), m_BadNumber⟩
  have Xe : Ex K (ga K "BadNumber") := ⟨xfB_ok (a 4 rfl), of_decide_eq_true (a 5 rfl)⟩
  have G0 : FnOk P w K mg base CX0 1 _ fd0 ["self", "given"] (spInit (ga K "BadNumber")) := ok_init (fun_of D0) Re
  have G1 : FnOk P w K mg base CX0 1 _ fd1 ["value"] spWhole := ok_whole (fun_of D1) T
  have G2 : FnOk P w K mg base CX0 1 _ fd2 ["a", "b"] spCd := ok_cd (fun_of D2)
  have G3 : FnOk P w K mg base CX0 2 _ fd3 ["value"] spIsR := ok_isr (fun_of D3) T G1 m_is_whole D1.kp b1 G2 m_common_divisor D2.kp b2
  have G4 : FnOk P w K mg base (L2.CX P w) 3 _ fd4 ["value"] (spChk (ga K "BadNumber")) := ok_chk (fun_of D4) Re G0 b0 G3 m_is_rational D3.kp b3
  have G5 : FnOk P w K mg base CX0 2 _ fd5 ["n", "d"] spLow := ok_low (fun_of D5) T G2 m_common_divisor D2.kp b2
  have G6 : FnOk P w K mg base (L2.CX P w) 4 _ fd6 ["value", "places"] (spCr (ga K "BadNumber")) := ok_cr (fun_of D6) Re mc0 G0 b0 G4 m_check_rational D4.kp b4 G1 m_is_whole D1.kp b1
  have G7 : FnOk P w K mg base CX0 1 _ fd7 ["places"] spPow := ok_pow (fun_of D7) T
  have G8 : FnOk P w K mg base CX0 1 _ fd8 ["value", "scale"] spNu := ok_nu (fun_of D8) T
  have Cc : Cs P w K mg base (ga K "BadNumber") _ _ _ _ fd6 fd7 fd8 fd5 := ⟨G6, m_check_rounding, D6.kp, b6, G7, m_power_of_ten, D7.kp, b7, G8, m_nearest_units, D8.kp, b8, G5, m_lowest_terms, D5.kp, b5⟩
  have KA : FnK P w K mg base (ga K "BadNumber") (ga K "rounded") okRd := ⟨fd9, mv9, ds9, ok_rd D9 Cc, D9.kp, kb9, b9, v9⟩
  have KB : FnK P w K mg base (ga K "BadNumber") (ga K "decimal") okDec := ⟨fd10, mv10, ds10, ok_dec D10 T Cc, D10.kp, kb10, b10, v10⟩
  have G11 : FnOk P w K mg base CX0 1 _ fd11 ["_law_script"] (spTape K) := ok_tape (fun_of D11) T
  have G12 : FnOk P w K mg base CX0 1 _ fd12 ["_law_tape_here", "_law_many"] spDraw := ok_draw (fun_of D12) T
  have G13 : FnOk P w K mg base CX0 1 _ fd13 ["_law_n", "_law_d"] spLowest := ok_lst (fun_of D13) T
  have G14 : FnOk P w K mg base CX0 2 _ fd14 ["_law_tape_here", "_law_wide"] spRational := ok_rat (fun_of D14) T G12 m__law_draw D12.kp b12 G13 m__law_lowest D13.kp b13
  have G15 : FnOk P w K mg base CX0 1 _ fd15 ["_law_text", "_law_digits_many"] spRead := ok_read (fun_of D15) T
  have G16 : FnOk P w K mg base CX0 1 _ fd16 ["_law_many"] spPow := ok_scale (fun_of D16) T
  have G17 : FnOk P w K mg base CX0 1 _ fd17 ["_law_number", "_law_given", "_law_scale_here"] spNear := ok_near (fun_of D17) T
  have G18 : FnG P w K mg base 6 (ga K "_law_refused") fd18 ["_law_call", "_law_value", "_law_digits"] (spRef K (Two (ga K "rounded") (ga K "decimal"))) := by
    refine ok_ref (fun_of D18) T Re Xe ?_
    intro f ok h
    cases h with
    | a => exact KA
    | b => exact KB
  have G19 : FnOk P w K mg base CX0 6 _ fd19 ["_law_value", "_law_digits"] spRight := ok_right (fun_of D19) T KA m_rounded KB m_decimal G16 m__law_scale D16.kp b16 G15 m__law_read D15.kp b15 G17 m__law_is_nearest D17.kp b17 G13 m__law_lowest D13.kp b13
  exact ok_law (fun_of D20) T m_rounded KB m_decimal G11 m__law_tape D11.kp b11 G12 m__law_draw D12.kp b12 G14 m__law_rational D14.kp b14 G13 m__law_lowest D13.kp b13 G16 m__law_scale D16.kp b16 G19 m__law_right D19.kp b19 G18 m__law_refused D18.kp b18
end K02
open PySem PySem.W PySem.Calls PyProof.Rows
theorem PySem.Challenge.cw_liveclaims_k02_rounding_and_decimals_holds : PySem.Challenge.rw_liveclaims_k02_rounding_and_decimals.Holds := by
  w_on; o_law
  refine HandSHeadRun.head_any (r := OpenLaw.row PySem.Challenge.rw_liveclaims_k02_rounding_and_decimals) (q := view (OpenLaw.row PySem.Challenge.rw_liveclaims_k02_rounding_and_decimals).prog [24]) (H := K02.hk) (ob := K02.ob) (M := 4000) (loose := K02.loose) (d := HandSHeadRun.topDef (OpenLaw.row PySem.Challenge.rw_liveclaims_k02_rounding_and_decimals).prog 24) (kwd := []) K02.ob_eq
    (by kernel_rfl) (fun s => by kernel_rfl) K02.run (by kernel_rfl) (by kernel_rfl) (by kernel_rfl) (by rfl) (by first | assumption | decide +kernel) (by decide +kernel) ⟨rfl, rfl, rfl, rfl, rfl, by decide +kernel⟩ ?hw ?hc
  case hw => w_witness2
  case hc =>
    refine Lc.walk_GE (l := PySem.Challenge.rw_liveclaims_k02_rounding_and_decimals) (n := 63) (k := 7) (x := "_law_script") rfl (by decide) (by kernel_rfl) ⟨rfl, by decide, by decide⟩ ?F
    intro w mg fa h Y G hmg0
    obtain ⟨K, KX, c, e⟩ := Y
    have hmg : mg ("law" : PySem.Str) = some (.ref fa) := by
      have e : (HandSHeadRun.topDef (OpenLaw.row PySem.Challenge.rw_liveclaims_k02_rounding_and_decimals).prog 24).name = ("law" : PySem.Str) := by kernel_rfl
      rw [← e]
      exact hmg0
    obtain ⟨fd, hb, hF⟩ := K02.facts (P := (PySem.Challenge.rw_liveclaims_k02_rounding_and_decimals).prog) (w := w) KX G hmg c e
    exact ⟨K, fd, K02.spLaw K, KX, hb, fun H a ns hl hS => ⟨a, ns, rfl, hS, fun _ => rfl⟩, hF⟩
