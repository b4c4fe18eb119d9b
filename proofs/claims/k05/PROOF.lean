import PyProof.Rows.All
import Wide.All
import OpenK.AllK
import Wide.FinOn
import HandS.ForMost
import HandS.ForExc
import HandS.Wide
import HandS.Flow
import HandS.IsInst
import HandS.ExcInit
import HandS.ExcField
import HandS.ExcIs
import HandS.TryMany
import HandS.CallLocal
import HandS.RaiseMore
import HandS.CallSlots
import KE.KExcIs
import PyProof.ReprRoads
import PyProof.ReprText
import HandS.Evl
import HandS.Walk
import HandS.Style
import PyProof.StrBlock2
import PyProof.StrLawsRepr
import PyProof.ReprLen
import KE.GoesEnum
import HandS.Iter
import HandS.TupMul
import HandS.ListItems
import HandS.OwnIter
import HandS.More
import PyProof.InstSpecial
import HandS.Defaults
import HandS.Head0
import HandS.Head1
import HandS.Head2
import HandS.HeadHook1
import HandS.HeadHook2
import KE.KStateDown
import PySem.Challenge.RW_liveclaims_k05_columns_are_checked
set_option maxRecDepth 100000
set_option maxHeartbeats 4000000
set_option linter.all false
namespace Lc
/-! ## Greatest common divisors and lowest terms -/
def gd (a b : Int) : Int := (Int.gcd a b : Int)
theorem gd_nonneg (a b : Int) : 0 ≤ gd a b := Int.natCast_nonneg _
theorem gd_pos {a b : Int} (h : b ≠ 0) : 0 < gd a b := by
  have : 0 < Int.gcd a b := Int.gcd_pos_of_ne_zero_right a h
  unfold gd
  omega
theorem gd_zero {a : Int} (h : 0 ≤ a) : gd a 0 = a := by
  unfold gd
  rw [Int.gcd_zero_right]
  omega
theorem gd_step {a b : Int} (ha : 0 ≤ a) (hb : 0 < b) : gd b (a % b) = gd a b := by
  unfold gd Int.gcd
  have e1 : (a % b).natAbs = a.natAbs % b.natAbs := by
    have h0 : 0 ≤ a % b := Int.emod_nonneg a (by omega)
    have : ((a % b).natAbs : Int) = ((a.natAbs % b.natAbs : Nat) : Int) := by
      rw [Int.natCast_emod, Int.natAbs_of_nonneg h0, Int.natAbs_of_nonneg ha, Int.natAbs_of_nonneg (by omega : 0 ≤ b)]
    exact Int.ofNat.inj this
  rw [e1, Nat.gcd_comm b.natAbs, ← Nat.gcd_rec, Nat.gcd_comm]
theorem gd_abs (a b : Int) : gd (if a < 0 then -a else a) b = gd a b := by
  unfold gd
  split
  · rw [Int.neg_gcd]
  · rfl
theorem gd_abs2 (a b : Int) : gd a (if b < 0 then -b else b) = gd a b := by
  unfold gd
  split
  · rw [Int.gcd_neg]
  · rfl
theorem gd_dvd1 (a b : Int) : gd a b ∣ a := Int.gcd_dvd_left a b
theorem gd_dvd2 (a b : Int) : gd a b ∣ b := Int.gcd_dvd_right a b
theorem gd_natAbs_le {a b : Int} (h : b ≠ 0) : (gd a b).natAbs ≤ b.natAbs := by
  have h1 : Int.gcd a b ≤ b.natAbs := Nat.le_of_dvd (by omega) (Int.gcd_dvd_natAbs_right a b)
  unfold gd
  rw [Int.natAbs_natCast]
  exact h1
def lowN (n d : Int) : Int := n / gd n d
def lowD (n d : Int) : Int := d / gd n d
structure Rt (n d : Int) : Prop where
  pos : 0 < d
  cop : gd n d = 1
theorem low_mul {n d : Int} (h : d ≠ 0) : lowN n d * gd n d = n ∧ lowD n d * gd n d = d := ⟨Int.ediv_mul_cancel (gd_dvd1 n d), Int.ediv_mul_cancel (gd_dvd2 n d)⟩
theorem lowD_pos {n d : Int} (h : 0 < d) : 0 < lowD n d := Int.ediv_pos_of_pos_of_dvd h (gd_nonneg n d) (gd_dvd2 n d)
theorem low_rt {n d : Int} (h : 0 < d) : Rt (lowN n d) (lowD n d) := by
  refine ⟨lowD_pos h, ?_⟩
  have hg : 0 < Int.gcd n d := Int.gcd_pos_of_ne_zero_right n (by omega)
  unfold lowN lowD gd
  rw [Int.gcd_ediv_gcd_ediv_gcd hg]
  rfl
theorem dvd_cop {k m n : Int} (h : k ∣ n * m) (g : Int.gcd m k = 1) : k ∣ n := by
  have h1 : k.natAbs ∣ m.natAbs * n.natAbs := by
    rw [← Int.natAbs_mul, Int.mul_comm]
    exact Int.natAbs_dvd_natAbs.mpr h
  have c : Nat.Coprime k.natAbs m.natAbs := by
    show Nat.gcd k.natAbs m.natAbs = 1
    rw [Nat.gcd_comm]
    exact g
  exact Int.natAbs_dvd_natAbs.mp (c.dvd_of_dvd_mul_left h1)
/-- lowest terms are one pair alone -/
theorem rt_unique {a b c d : Int} (h1 : Rt a b) (h2 : Rt c d) (e : a * d = c * b) : a = c ∧ b = d := by
  have g1 : Int.gcd a b = 1 := by have := h1.cop; unfold gd at this; omega
  have g2 : Int.gcd c d = 1 := by have := h2.cop; unfold gd at this; omega
  have db : b ∣ d := by
    have : b ∣ d * a := ⟨c, by rw [Int.mul_comm d a, e, Int.mul_comm]⟩
    exact dvd_cop this g1
  have dd : d ∣ b := by
    have : d ∣ b * c := ⟨a, by rw [Int.mul_comm b c, ← e, Int.mul_comm]⟩
    exact dvd_cop this g2
  have hb := h1.pos
  have hd := h2.pos
  have ebd : b = d := Int.le_antisymm (Int.le_of_dvd hd db) (Int.le_of_dvd hb dd)
  subst ebd
  exact ⟨Int.eq_of_mul_eq_mul_right (by omega) e, rfl⟩
theorem low_is {n d a b : Int} (hd : 0 < d) (h : Rt a b) (e : n * b = a * d) : lowN n d = a ∧ lowD n d = b := by
  have m := low_mul (n := n) (d := d) (by omega)
  have g := gd_pos (a := n) (b := d) (by omega)
  refine rt_unique (low_rt hd) h ?_
  have e2 : (lowN n d * b) * gd n d = (a * lowD n d) * gd n d := by
    rw [Int.mul_right_comm, m.1, Int.mul_assoc, m.2, e]
  exact Int.eq_of_mul_eq_mul_right (by omega) e2
theorem fdiv_neg_dvd {a g : Int} (hg : 0 < g) (h : g ∣ a) : a.fdiv (-g) = (-a) / g := by
  obtain ⟨m, rfl⟩ := h
  have e1 : g * m = (-g) * (-m) := by rw [Int.neg_mul_neg]
  have e2 : -(g * m) = g * (-m) := by rw [Int.mul_neg]
  rw [e2, Int.mul_ediv_cancel_left _ (by omega), e1, Int.mul_fdiv_cancel_left _ (by omega)]
/-- the sums and products of the law -/
theorem sub_add {an ad bn bd p q : Int} (had : 0 < ad) (hbd : 0 < bd) (hq : 0 < q) (h : p * (ad * bd) = (an * bd + bn * ad) * q) : (p * bd - bn * q) * ad = an * (q * bd) := by
  have e1 : (p * bd - bn * q) * ad = p * (ad * bd) - bn * q * ad := by
    rw [Int.sub_mul, Int.mul_assoc p bd ad, Int.mul_comm bd ad]
  have e2 : (an * bd + bn * ad) * q = an * (q * bd) + bn * q * ad := by
    rw [Int.add_mul, Int.mul_assoc an bd q, Int.mul_comm bd q, Int.mul_assoc bn ad q, Int.mul_comm ad q, Int.mul_assoc bn q ad]
  rw [e1, h, e2]
  omega
theorem mul_div {an ad bn bd p q : Int} (h : p * (ad * bn) = (an * bd) * q) (hbn : bn ≠ 0) : (p * bn) * ad = an * (q * bd) := by
  rw [Int.mul_assoc p bn ad, Int.mul_comm bn ad, h, Int.mul_assoc an bd q, Int.mul_comm bd q]
end Lc
namespace Lc
theorem low_le {n d : Int} (h : d ≠ 0) : (lowN n d).natAbs ≤ n.natAbs ∧ (lowD n d).natAbs ≤ d.natAbs := by
  have m := low_mul (n := n) (d := d) h
  have g := gd_pos (a := n) (b := d) h
  have e1 : n.natAbs = (lowN n d).natAbs * (gd n d).natAbs := by rw [← Int.natAbs_mul, m.1]
  have e2 : d.natAbs = (lowD n d).natAbs * (gd n d).natAbs := by rw [← Int.natAbs_mul, m.2]
  have gp : 0 < (gd n d).natAbs := by omega
  exact ⟨by rw [e1]; exact Nat.le_mul_of_pos_right _ gp, by rw [e2]; exact Nat.le_mul_of_pos_right _ gp⟩
theorem rt_one (n : Int) : Rt n 1 := ⟨by decide, by unfold gd; rw [Int.gcd_one]; rfl⟩
theorem rt_inv {d : Int} (h : 0 < d) : Rt 1 d := ⟨h, by unfold gd; rw [Int.one_gcd]; rfl⟩
theorem rt_ninv {d : Int} (h : 0 < d) : Rt (-1) d := ⟨h, by unfold gd; rw [Int.neg_gcd, Int.one_gcd]; rfl⟩
end Lc
set_option Elab.async false
set_option linter.all false
set_option maxRecDepth 100000
set_option maxHeartbeats 4000000
namespace Lc
open PySem PySem.Spec PyProof.Rows L2
/-! ## A try with clauses of both forms, «except X:» and «except X as n:» -/
structure Cl where
  c : Value
  slot : Option Nat
  ts : Addr → Value → Option Addr → TS
def putS : Option Nat → Option V → L2.St → L2.St
  | none, _, σ => σ
  | some i, v, σ => σ.set i v
def endS (q : Option Nat) (D : Ends) : Ends := ⟨fun σ H => D.nx (putS q none σ) H, D.rt, fun σ H => D.bk (putS q none σ) H, fun σ H => D.ct (putS q none σ) H⟩
def wCl (K : PySem.W.Frag) (Wout : WX) (D : Ends) : List Cl → WX
  | [] => Wout
  | q :: r => fun cls d σ H => ∃ b, PySem.W.exmOne K cls q.c = some b ∧ (b = true → ∀ a, H a = none → q.ts a cls d (endS q.slot D) (putS q.slot (some (.ref a)) σ) H) ∧
      (b = false → wCl K Wout D r cls d σ H)
abbrev SuiteOk (X : Cx) (st : List Stmt) (ts : Addr → Value → Option Addr → TS) : Prop :=
  ∀ (a : Addr) (ob : Obj) (cls : Value) (d : Option Addr) (pn : List (Addr × Obj)), Zc cls d ob → (∃ vs, ob.data = .fields vs) → PSs (X.suite a ((a, ob) :: pn)) st (ts a cls d)
inductive ClsOk (X : Cx) : List ExceptHandler → List Cl → Prop
  | nil : ClsOk X [] []
  | bare {x : Str} {q : Cl} {st : Stmt} {sts : List Stmt} {p1 p2 : Pos} {hds : List ExceptHandler} {l : List Cl} (hc : Names X x q.c) (hq : q.slot = none) (su : SuiteOk X (st :: sts) q.ts) (r : ClsOk X hds l) :
      ClsOk X (.ExceptHandler (some (.Name x p1)) none (st :: sts) p2 :: hds) (q :: l)
  | named {x n : Str} {q : Cl} {i : Nat} {st : Stmt} {sts : List Stmt} {p1 p2 : Pos} {hds : List ExceptHandler} {l : List Cl} (hc : Names X x q.c) (hq : q.slot = some i) (hN : X.N.Nodup) (hi : X.N[i]? = some n) (hn : X.env.kindOf n = some .local)
      (su : SuiteOk X (st :: sts) q.ts) (r : ClsOk X hds l) : ClsOk X (.ExceptHandler (some (.Name x p1)) (some n) (st :: sts) p2 :: hds) (q :: l)
section
variable {X : Cx}
theorem clauses_go {Wout : WX} {D : Ends} {pins : List (Addr × Obj)} {σ : L2.St} {H : Hp} {cls : Value} {d : Option Addr} {a : Addr} {B : Heap} {sI s' : Shared} {h3 : Heap}
    (hs : X.stack = X.env :: X.outer) (hf : X.env.frame = some X.env.locals) (tk : Takes X Wout) (J : Inv X pins σ H sI)
    (nb : ∀ b o, sI.heap.get? b = some o → b ∉ frs X.stack → B.get? b = some o) (na : H a = none) (os : s'.os = sI.os) (ag : AllBare s'.gens)
    (up : sI.heap.UpToSlots h3) (fl : HandSPX.FlyingZ B (X.env :: X.outer) a (Zc cls d) h3) :
    ∀ {hds : List ExceptHandler} {l : List Cl}, ClsOk X hds l → wCl X.K Wout D l cls d σ H → wpAny (model X.prog X.w) X.A (handleBy (.ref a) X.env hds) (SP X pins D) X.xe { s' with heap := h3 } := by
  have ok := J.ok
  have land : ∀ {h4 : Heap}, HandSPX.FlyingZ B (X.env :: X.outer) a (Zc cls d) h4 → sI.heap.UpToSlots h4 → Inv X pins σ H { s' with heap := h4 } ∧ ∃ ob vs, Zc cls d ob ∧ ob.data = .fields vs ∧ h4.get? a = some ob ∧
      Inv (X.suite a ((a, ob) :: (X.pn ++ pins))) [] σ H { s' with heap := h4 } := by
    intro h4 f4 u4
    have J4 : Inv X pins σ H { s' with heap := h4 } := J.landed nb f4.1 u4 os ag
    obtain ⟨ob, vs, hob, hz, hd⟩ := f4.there
    have nfr : a ∉ frs (X.env :: X.outer) := fun hm => by
      obtain ⟨_, ox, ex, nf⟩ := f4.2.2.1.mem hm
      rw [hob] at ex
      cases ex
      exact nf _ hd
    have nL : a ≠ X.env.locals := fun z => nfr (List.mem_filterMap.mpr ⟨X.env, List.mem_cons_self, by rw [hf, z]⟩)
    have nF : a ∉ X.fs := fun hm => by
      obtain ⟨en, hen, qq⟩ := List.mem_filterMap.mp hm
      exact nfr (List.mem_filterMap.mpr ⟨en, List.mem_cons_of_mem _ hen, qq⟩)
    exact ⟨J4, ob, vs, hz, hd, hob, J4.suite hob hd na nL nF⟩
  obtain ⟨J3, o3, vs3, hz3, hd3, ho3, S3⟩ := land fl up
  have ty : PySem.W.Looks (model X.prog X.w) h3 (typeOf (.ref a)) cls := fun _ _ _ _ kk qq => wpAny_typeOf_ref (kk _ _ ho3) (by rw [hz3.1]; exact qq)
  have tst : ∀ {x : Str} {c : Value} {p1 : Pos} {Q : Value → Shared → Prop} {E : Value → Shared → Prop}, Names X x c → Q c { s' with heap := h3 } →
      wpAny (model X.prog X.w) (X.A.mark (some (.ref a))) (eval (.Name x p1) X.env) Q E { s' with heap := h3 } := by
    intro x c p1 Q E hc hq
    rcases hc with ⟨hg, hdb, hm | ⟨hm, hv, hne⟩⟩
    · exact ld_glob (X := X.suite a ((a, o3) :: (X.pn ++ pins))) S3 hg hm hq hdb
    · exact ld_blt (X := X.suite a ((a, o3) :: (X.pn ++ pins))) S3 hg hm hv hq hne hdb
  intro hds l hk
  induction hk with
  | nil =>
    intro wi
    refine wpAny_handleBy_nil ?_
    obtain ⟨_, _, _, ox, vx, T, _, _, hox, _, hdx, h1, _⟩ := id fl
    have out : wpAny (model X.prog X.w) X.A (setFlight (.ref a) X.env.frame) (fun _ s4 => wpAny (model X.prog X.w) X.A (throw (.ref a) : Sem Flow) (SP X pins D) X.xe s4) X.xe { s' with heap := h3 } := by
      rw [hf]
      exact HandSPX.setFlight_upZ fl fun h4 f4 u4 => wpAny_throw (tk _ _ ⟨a, B, sI, pins, σ, H, cls, d, rfl, J, nb, up.trans u4, .inr (.inr (by rw [hs]; exact f4)), na, os, ag, wi⟩)
    unfold PySem.passOn
    refine wpAny_bind (wpAny_field hox hdx h1 ?_)
    rw [if_neg (by simp : ¬ ((Value.ref T == Value.none) = true))]
    first
      | exact wpAny_bind out
      | exact wpAny_bind (wpAny_pure (wpAny_bind out))
  | @bare x q st sts p1 p2 hds2 l2 hc hq su r ih =>
    intro wi
    obtain ⟨b, hb, yes, no⟩ := wi
    refine wpAny_handleBy_cons (codeAny_handlers_test (tst hc ((PySem.W.exm_one (M := model X.prog X.w) J3.kIn ty hb).here ?_))) (by intro z; cases z)
    cases b with
    | false => exact ih (no rfl)
    | true =>
      refine codeAny_handlers_suite (HandSPX.lands_againZ fl fun h4 f4 u4 => ?_)
      obtain ⟨J4, o4, vs4, hz4, hd4, ho4, S4⟩ := land f4 (up.trans u4)
      have yy := yes rfl a na
      rw [hq] at yy
      refine wpAny_mono ((su a o4 cls d (X.pn ++ pins) hz4 ⟨_, hd4⟩).run [] _ _ H _ S4 yy) (fun f s6 hsp => ?_) (fun _ _ z => z.elim)
      cases f with
      | ret u =>
        obtain ⟨v6, σ6, H6, S6, r6, q6⟩ := hsp
        exact ⟨v6, σ6, H6, S6.unsuite ok, r6, q6⟩
      | next => obtain ⟨σ6, H6, S6, q6⟩ := hsp; exact ⟨σ6, H6, S6.unsuite ok, q6⟩
      | brk => obtain ⟨σ6, H6, S6, q6⟩ := hsp; exact ⟨σ6, H6, S6.unsuite ok, q6⟩
      | cont => obtain ⟨σ6, H6, S6, q6⟩ := hsp; exact ⟨σ6, H6, S6.unsuite ok, q6⟩
  | @named x n q i st sts p1 p2 hds2 l2 hc hq hN hi hn su r ih =>
    intro wi
    obtain ⟨b, hb, yes, no⟩ := wi
    refine wpAny_handleBy_cons (codeAny_handlers_test (tst hc ((PySem.W.exm_one (M := model X.prog X.w) J3.kIn ty hb).here ?_))) (by intro z; cases z)
    cases b with
    | false => exact ih (no rfl)
    | true =>
      refine codeAny_handlers_suite_as (HandSPX.lands_againZ fl fun h4 f4 u4 => ?_)
      obtain ⟨J4, o4, vs4, hz4, hd4, ho4, S4⟩ := land f4 (up.trans u4)
      have yy := yes rfl a na
      rw [hq] at yy
      refine store_ok (X := X.suite a ((a, o4) :: (X.pn ++ pins))) (v := .ref a) S4 hN hi (.inl hn) rfl (fun s5 S5 => ?_) (.inr hn)
      refine wpAny_mono ((su a o4 cls d (X.pn ++ pins) hz4 ⟨_, hd4⟩).run [] s5 _ H _ S5 yy) (fun f s6 hsp => ?_) (fun _ _ z => z.elim)
      have fin : ∀ {σ6 : L2.St} {H6 : Hp} {Q : Shared → Prop}, Inv (X.suite a ((a, o4) :: (X.pn ++ pins))) [] σ6 H6 s6 → (∀ s7, Inv X pins (σ6.set i none) H6 s7 → Q s7) →
          wpAny (model X.prog X.w) X.A (do bindName X.env n .none; unbindBehindTheSuite X.env n p2) (fun _ s7 => Q s7) X.xe s6 := fun S6 k => gone_ok (S6.unsuite ok) hN hi hn k
      cases f with
      | ret u =>
        obtain ⟨v6, σ6, H6, S6, r6, q6⟩ := hsp
        exact fin S6 fun s7 J7 => ⟨_, _, _, J7, r6, q6⟩
      | next => obtain ⟨σ6, H6, S6, q6⟩ := hsp; exact fin S6 fun s7 J7 => ⟨_, _, J7, q6⟩
      | brk => obtain ⟨σ6, H6, S6, q6⟩ := hsp; exact fin S6 fun s7 J7 => ⟨_, _, J7, q6⟩
      | cont => obtain ⟨σ6, H6, S6, q6⟩ := hsp; exact fin S6 fun s7 J7 => ⟨_, _, J7, q6⟩
theorem ps_tryL {body : List Stmt} {h₀ : ExceptHandler} {hds : List ExceptHandler} {l : List Cl} {pos : Pos} {tb : WX → TS} {Wout : WX} (hs : X.stack = X.env :: X.outer) (hf : X.env.frame = some X.env.locals) (tk : Takes X Wout)
    (hb : ∀ (W : WX) (pn : List (Addr × Obj)) (xe : Value → Shared → Prop), Takes (X.tr pn xe) W → PassesOwn (model X.prog X.w) X.A X.env xe → PSs (X.tr pn xe) body (tb W)) (hh : ClsOk X (h₀ :: hds) l) :
    PS X (.Try body (h₀ :: hds) [] [] pos) (fun D σ H => tb (wCl X.K Wout D l) D σ H) := by
  refine ⟨fun pins s σ H D I h => ?_⟩
  have ok := I.ok
  have fr : X.A.frames = some (X.env :: X.outer) := ok.frames.trans (congrArg some hs)
  refine wpAny_Try_except (wpAny_mono ((hb (wCl X.K Wout D l) (X.pn ++ pins) (fun e s₁ => wpAny (model X.prog X.w) X.A (noteFrame e X.env) (fun _ s₂ => wpAny (model X.prog X.w) X.A (setFlight e none)
    (fun _ s₃ => wpAny (model X.prog X.w) X.A (handleBy e X.env (h₀ :: hds)) (SP X pins D) X.xe s₃) X.xe s₂) X.xe s₁) (fun u s' xx => ?_) PassesOwn.looking).run [] s σ H D (I.toTry _) h) (fun f s1 hsp => ?_) (fun _ _ he => he))
  · obtain ⟨a, B, sI, _, σ1, H1, cls, d, rfl, J', nb, up, sky, na, os, ag, wi⟩ := xx
    rw [hs] at sky
    exact Sky.land Zc.steady fr hf sky fun h3 f3 u3 => clauses_go hs hf tk (J'.ofTry ok) nb na os ag (up.trans u3) f3 hh wi
  · cases f with
    | ret u =>
      obtain ⟨v1, σ1, H1, J1, r1, q1⟩ := hsp
      exact ⟨v1, σ1, H1, J1.ofTry ok, r1, q1⟩
    | next => obtain ⟨σ1, H1, J1, q1⟩ := hsp; exact wpAny_execs_nil ⟨σ1, H1, J1.ofTry ok, q1⟩
    | brk => obtain ⟨σ1, H1, J1, q1⟩ := hsp; exact ⟨σ1, H1, J1.ofTry ok, q1⟩
    | cont => obtain ⟨σ1, H1, J1, q1⟩ := hsp; exact ⟨σ1, H1, J1.ofTry ok, q1⟩
end
/-! ## isinstance of the caught error, whether it has a dict or not -/
structure XisC (K : PySem.W.Frag) (C : Addr) : Prop where
  hc : (PySem.W.clsIn K C).isSome = true
  ga : PySem.W.findIn K (.ref C) "__getattribute__" = some (some (.builtin "BaseException.__getattribute__"))
  gt : PySem.W.findIn K (.ref C) "__getattr__" = some none
  sb : PySem.W.subIn K (.ref C) (.type "BaseException") = some true
  cl : PySem.W.findIn K (.ref C) "__class__" = some (some (.builtin "object.__class__"))
  sp : PySem.W.specialIn K (.builtin "object.__class__") "__get__" = some (some (.builtin "getset_descriptor.__get__"))
  tk : PySem.W.takesIn K (.builtin "object.__class__") = some true
  mo : PySem.W.mroIn K C (.type "object") = some true
def rIsX (K : PySem.W.Frag) (cls : Value) (d : Option Addr) (C a : Addr) : List V → Hp → VK → Prop := fun xs H Q => cls = .ref C ∧ ∃ (c : V) (cv : Value) (b : Bool), xs = [.ref a, c] ∧ ClsV c cv ∧ (∀ dd, d = some dd → ∃ fs, H dd = some (.xd fs)) ∧
  PySem.W.kitOne K (.ref C) cv = some b ∧ Q (.bl b) H
section
variable {X : Cx}
theorem call_isX {a C : Addr} {ob : Obj} {cls : Value} {d : Option Addr} {pn : List (Addr × Obj)} (T : XisC X.K C) (hz : Zc cls d ob) (hf : ∃ vs, ob.data = .fields vs) : CallR (X.suite a ((a, ob) :: pn)) (.builtin "isinstance") (rIsX X.K cls d C a) := by
  intro pins s σ H xs us Q I r h
  obtain ⟨ec, c, cv, b, rfl, hcv, hd, e, q⟩ := h
  obtain ⟨u1, u2, rfl, r1, r2⟩ := vals2 r
  have e2 := hcv.eq r2
  subst e2 ec
  obtain rfl : u1 = Value.ref a := r1
  obtain ⟨vs, hv⟩ := hf
  obtain ⟨hget, _⟩ := I.pin (a, ob) (List.mem_append_left _ List.mem_cons_self)
  have nc : PySem.W.notCls ob = true := by unfold PySem.W.notCls; rw [hv]
  have key : ∃ od, PySem.W.InstAt s.heap a ob C od := by
    cases d with
    | none => exact ⟨none, hget, hz.1, nc, by rw [hz.2]; trivial⟩
    | some dd =>
      obtain ⟨fs, hfs⟩ := hd dd rfl
      obtain ⟨mA, ⟨o, _, _, ho, _⟩, _⟩ := (show ObjOk X.prog X.w H s.heap dd (.xd fs) from I.hok dd _ hfs)
      exact ⟨some o, hget, hz.1, nc, by rw [hz.2]; exact ho⟩
  obtain ⟨od, J⟩ := key
  exact PySem.W.kia_one (PySem.W.kitx_exc T.hc T.ga T.gt T.sb T.cl T.sp T.tk T.mo) I.kIn J e (fun z => nomatch z) fun tk => ⟨.bl b, H, I.kept (t' := tk) fun _ _ z => z, rfl, q⟩
/-! ## f(e, ..), f a local name that holds a def which may raise -/
def tCallLS (i : Nat) (f : Addr) (sp : Sp) (E : L2.St → XK) (t : TA) : TE := fun σ H Q => σ[i]? = some (some (.ref f)) ∧ t σ H fun vs H1 => sp vs H1 Q (E σ)
theorem pe_callLS {CX : CXT} {k i : Nat} {f : Addr} {fd : FuncData} {ps : List Str} {sp : Sp} {E : L2.St → XK} {x : Str} {p pos : Pos} {e : Expr} {es : List Expr} {t : TA}
    (F : FnOk X.prog X.w X.K X.mg X.base CX k f fd ps sp) (hr : Room k X.A) (hN : X.N[i]? = some x) (hv : Vis X.env.scope x) (hk : PySem.W.keepIn X.K (.ref f) = true) (hb : Binds X.K fd ps []) (hx : ∀ σ, PassesAt CX X σ (E σ)) (ha : PA X (e :: es) t)
    (hdb : (x == ("__debug__" : Str)) = false := by decide) (hcd : (x == ("__classdict__" : Str)) = false := by decide)
    (he : starEach (e :: es) X.env = (false, eval e X.env) :: starEach es X.env := by rfl) (hpl : (backTo pos (starEach es X.env)).any (·.1) = false := by rfl) : PE X (.Call (.Name x p) (e :: es) [] pos) (tCallLS i f sp E t) := by
  refine ⟨fun pins s σ H Q I ⟨hs, ht⟩ => wpAny_Call_Name_kw (thn ((pe_var (pos := p) hN hv hdb hcd).run pins s σ H (fun v H1 => v = .ref f ∧ H1 = H) I ⟨.ref f, hs, rfl, rfl⟩) fun u s1 ⟨v, H1, I1, r1, e1, e2⟩ => ?_)⟩
  subst e1 e2
  obtain rfl : u = Value.ref f := r1
  exact PySem.W.callWith_K (h₀ := X.base) I.ok.mod.kin hk (thn (ha.run pos pins s1 σ _ _ I1 ht) fun us s2 ⟨vs, H2, I2, r, q⟩ => ⟨I2.kIn, run_fnS F hr hb (hx σ) I2 r q⟩) he hpl
/-! ## C(), an own error class without an __init__ -/
theorem pmk_own0 {C : Addr} {bmB : List Value} {B newId initId : String} {x : Str} {p pos : Pos} (F : ExcBaseFacts B newId initId bmB) (q : PySem.W.excIn X.K C bmB newId = true) (gC : X.mg x = some (.ref C)) (kC : PySem.W.keepIn X.K (.ref C) = true)
    (r : Raises X (.ref C)) (hg : Gl X x) (hdb : (x == ("__debug__" : Str)) = false := by decide) : PMk X (.Call (.Name x p) [] [] pos) (fun _ H Q => Q (.ref C) none H) := by
  intro pins s σ H Q I h
  refine wpAny_Call_Name_kw (ld_glob I hg gC (PySem.W.callWith_K0 I.kIn kC ?_) hdb)
  obtain ⟨_, _, _, _, _, _, _, _, _, _, _, _, _, _, _, _, _, hC, hN, hni, T⟩ := exc_obj I.kIn q
  exact wpAny_call_exc_subT F T hC hN hni (fun h' e hm => mk_of I hm r h (I.hok.gone hm.new)) (by show 0 ≤ sizeLine; omega)
/-! ## // by any great number but 0 -/
theorem op_fdivZ : OpR X (binaryOp .FloorDiv) (rI (fun _ j => j ≠ 0 ∧ j.natAbs.log2 < 9000) fun i j => .int (i.fdiv j)) := opI fun _ _ _ _ _ _ _ hc q => floordiv_int hc.1 q (.inl (PyProof.noPylong_of_log2 hc.2))
/-! ## repr of data -/
def rReprD (K : PySem.W.Frag) : List V → Hp → VK → Prop := fun xs H Q => ∃ (a : Addr) (d : PyData), xs = [.ref a] ∧ Dp K H (.ref a) d ∧ d.showable = true ∧ d.hasDict = false ∧ d.depth ≤ 60 ∧ d.shown.length ≤ sizeLine ∧ Q (.str d.shown) H
theorem call_reprD (hu : X.A.units + 64 < cLine) (hg : X.A.guards = some []) : CallR X (.builtin "repr") (rReprD X.K) := by
  intro pins s σ H xs us Q I r h
  obtain ⟨a, d, rfl, hd, hs, hn, hde, hl, q⟩ := h
  obtain ⟨u, rfl, ru⟩ := vals1 r
  obtain rfl : u = Value.ref a := ru
  obtain ⟨as, rd⟩ := Dp.reads I d _ _ hd rfl
  exact repr_of_reads' rd hs (fun z => by rw [hn] at z; cases z) hg (by omega) (fun _ _ e => e) (fun h' u tk hk => ⟨.str d.shown, H, I.kept (t' := tk) hk, ⟨u, rfl⟩, q⟩) hl
end
end Lc
set_option Elab.async false
set_option linter.all false
set_option maxRecDepth 100000
set_option maxHeartbeats 4000000
namespace Lc
open PySem PySem.Spec PyProof.Rows L2
/-! ## Promises of defs that are called where no repr is under way -/
structure FnG (P : Program) (w : World) (K : PySem.W.Frag) (mg : Str → Option Value) (base : Heap) (k : Nat) (f : Addr) (fd : FuncData) (ps : List Str) (sp : Sp) : Prop where
  len : ∀ vs H Q E, sp vs H Q E → vs.length = ps.length
  run : ∀ (A : Around) (outer : List Env) (s : Shared) (H : Hp) (args : Args) (us : List Value) (vs : List V) (Q : VK) (E : XK), A.guards = some [] → Room k A → Env0 P w K mg base A outer s H → BindsTo s fd args (ps.zip us) → Vals vs us → sp vs H Q E →
    codeAny (model P w) A (.call (.ref f) args) (CR CX0 outer P w H s Q E) s
section
variable {P : Program} {w : World} {K : PySem.W.Frag} {mg : Str → Option Value} {base : Heap}
theorem Fun.okG {x qual : Str} {st : Stmt} {f : Addr} {fd : FuncData} {N ps : List Str} {k : Nat} {sp : Sp} (F : Fun K x qual st f fd) (S : FnScope N ps (defScope st)) (len : ∀ vs H Q E, sp vs H Q E → vs.length = ps.length)
    (go : ∀ (cdv : Value) (A : Around) (outer : List Env) (s : Shared) (H : Hp) (vs : List V) (Q : VK) (E : XK), A.guards = some [] → Room k (A.deeper (envOfC qual (defScope st) s.heap.objs.size f cdv)) → sp vs H Q E →
      ∃ t, PSs (cxOf CX0 P w K mg base N qual (defScope st) f cdv A outer s H E).nox (defBody st) t ∧ t { nx := fun _ H' => Q .non H', rt := Q } (start N vs) H) : FnG P w K mg base (k + 1) f fd ps sp := by
  obtain ⟨oc, od, kV, doc, pm, an, cdv, ct, osl, rfl, lk, hcd⟩ := F.ex
  refine ⟨len, fun A outer s H args us vs Q E hg hr e0 hb r hsp => ?_⟩
  have up : ∀ b o, base.get? b = some o → s.heap.get? b = some o := fun b o z => (e0.bs b o z).1
  have KX := e0.mod.kin.keeps up
  refine codeAny_call_function hr.depth (KX _ _ lk) rfl S.co S.gen rfl (PySem.W.codeRec_of KX hcd) (hb _ _ _ _ ?_)
  refine wpAny_newFunctionEnv_cells S.kind (fun y hy => ?_) fun env he s1 x => ?_
  · rcases S.par y.1 (List.of_mem_zip (a := y.1) (b := y.2) hy).1 with z | z
    · exact .inl z
    · exact .inr ⟨z, PySem.W.cellsFrom_some _ _ _ (.inl z)⟩
  subst he
  obtain ⟨t, ht, hq⟩ := go cdv A outer s H vs Q E hg (hr.deeper _) hsp
  have I : Inv (cxOf CX0 P w K mg base N qual (defScope st) f cdv A outer s H E) [] (start N vs) H s1 := inv_start S hr.hd e0 (len _ _ _ _ hsp) r x
  refine ⟨(e0.mod.nolimit.keeps up).keeps x.toInCall.keep, codeAny_func (wpAny_mono (ht.nox.run [] s1 (start N vs) H _ I hq) (fun fl s' hs => ?_) fun _ _ z => z)⟩
  cases fl with
  | ret u => obtain ⟨v, _, H', J, rv, q⟩ := hs; exact ⟨v, H', J.os, J.bare, J.base, J.hok, rv, q⟩
  | next => obtain ⟨_, H', J, q⟩ := hs; exact ⟨V.non, H', J.os, J.bare, J.base, J.hok, rfl, q⟩
  | brk => obtain ⟨_, _, _, q⟩ := hs; exact q.elim
  | cont => obtain ⟨_, _, _, q⟩ := hs; exact q.elim
end
section
variable {X : Cx} {k : Nat} {f : Addr} {fd : FuncData} {ps : List Str} {sp : Sp} {x : Str} {p pos : Pos} {e : Expr} {es : List Expr} {t : TA}
/-- f(e, ..), f kept under FnG -/
theorem pe_callG (F : FnG X.prog X.w X.K X.mg X.base k f fd ps sp) (gg : X.A.guards = some []) (hr : Room k X.A) (hg : Gl X x) (hm : X.mg x = some (.ref f)) (hk : PySem.W.keepIn X.K (.ref f) = true) (hb : Binds X.K fd ps [])
    (ha : PA X (e :: es) t) (hdb : (x == ("__debug__" : Str)) = false := by decide) (he : starEach (e :: es) X.env = (false, eval e X.env) :: starEach es X.env := by rfl) (hpl : (backTo pos (starEach es X.env)).any (·.1) = false := by rfl) :
    PE X (.Call (.Name x p) (e :: es) [] pos) (tCall sp [] E0 t) := by
  refine ⟨fun pins s σ H Q I h => wpAny_Call_Name_kw (ld_glob I hg hm ?_ hdb)⟩
  refine PySem.W.callWith_K (h₀ := X.base) I.ok.mod.kin hk (thn (ha.run pos pins s σ H _ I h) fun us s1 ⟨vs, H1, I1, r, q⟩ => ⟨I1.kIn, ?_⟩) he hpl
  replace q : sp vs H1 Q E0 := by
    have z : sp (vs ++ []) H1 Q E0 := q
    rw [List.append_nil] at z
    exact z
  have hl : us.length = ps.length := by rw [← r.length]; exact F.len _ _ _ _ q
  have b := hb s1 us I1.kIn (by rw [List.append_nil]; exact hl)
  rw [List.append_nil] at b
  refine wpAny_call (codeAny_mono (F.run X.A X.stack s1 H1 ⟨us, []⟩ us vs Q E0 gg hr I1.env0 b r q) fun rr s' hq => ?_)
  cases rr with
  | error er => exact False.elim hq
  | ok fl =>
    cases fl with
    | ret u => exact I1.after hq
    | next => exact False.elim hq
    | brk => exact False.elim hq
    | cont => exact False.elim hq
end
/-! ## The law itself -/
section
variable {P : Program} {w : World} {K : PySem.W.Frag} {mg mb : Str → Option Value} {k : Nat} {fa a : Addr} {fd : FuncData} {x : Str} {sp : Sp} {s : Shared} {vs : List Value} {ns : List Int}
theorem env_of {H : Hp} (KX : K.In s.heap) (hns : s.heap.Ns mainGlobals mg) (hb : s.heap.Ns builtinsNs mb) (hbb : ∀ x : Str, x ≠ "__name__" → mb x = bootBuiltins x) (hlim : s.heap.NoLimit) (hg : s.gens = #[])
    (ha : s.heap.get? a = some { cls := .type "list", data := .seq vs.toArray }) (hok : HOk P w H s.heap) (one : ∀ b, b ≠ a → H b = none) (nk : H a = none ∨ K.lookup a = none) :
    K.In (hidT s.heap H) ∧ (hidT s.heap H).Ns mainGlobals mg ∧ Env0 P w K mg (hidT s.heap H) callerA [] s H := by
  have keepN : ∀ {b : Addr} {m : Str → Option Value}, s.heap.Ns b m → (hidT s.heap H).Ns b m := by
    rintro b m ⟨o, es, ep, e, d, r⟩
    have nb : b ≠ a := fun z => by
      rw [z, ha] at e
      cases e
      exact nomatch (show Data.seq vs.toArray _ = Data.dict es ep from d)
    exact ⟨o, es, ep, hidT_get e (one b nb), d, r⟩
  have kin : K.In (hidT s.heap H) := fun b o e => hidT_get (KX b o e) (by
    by_cases z : b = a
    · rcases nk with q | q
      · rw [z]; exact q
      · rw [z, q] at e; cases e
    · exact one b z)
  obtain ⟨mc, l1, l2⟩ := hlim
  exact ⟨kin, keepN hns, rfl, ⟨kin, keepN hns, ⟨mb, keepN hb, hbb⟩, ⟨mc, keepN l1, l2⟩⟩, fun b o e => of_hidT e, Nat.le_of_eq (hidT_size _ _), trivial, fun b z => absurd (show b ∈ ([] : List Addr) from z) (by simp), hok, .of_eq hg⟩
theorem law_callG (KX : K.In s.heap) (hns : s.heap.Ns mainGlobals mg) (hb : s.heap.Ns builtinsNs mb) (hbb : ∀ x : Str, x ≠ "__name__" → mb x = bootBuiltins x) (hlim : s.heap.NoLimit) (hg : s.gens = #[])
    (ha : s.heap.get? a = some { cls := .type "list", data := .seq vs.toArray }) (hi : IntsAre vs ns) (hl : ns.length ≤ sizeLine) (hr : Room k callerA)
    (F : ∀ base : Heap, K.In base → base.Ns mainGlobals mg → FnG P w K mg base k fa fd [x] sp) (hbind : ∀ (s : Shared) (u : Value), BindsTo s fd ⟨[u], []⟩ [(x, u)])
    (hsp : ∀ H : Hp, SqL K H a (ns.map V.int) → sp [.ref a] H (fun v _ => v = .bl true) fun _ _ _ => False) :
    codeAny (model P w) callerA (.call (.ref fa) ⟨[.ref a], []⟩) (fun r s' => r = .ok (.ret (.bool true)) ∧ OldK s.heap s'.heap ∧ s'.os = s.os ∧ AllBare s'.gens) s := by
  have rv := vals_ints hi
  have go : ∀ H : Hp, SqL K H a (ns.map V.int) → HOk P w H s.heap → (∀ b, b ≠ a → H b = none) → (H a = none ∨ K.lookup a = none) → (∀ o, H a = some o → ∃ ob u, o = .frz ob u) →
      codeAny (model P w) callerA (.call (.ref fa) ⟨[.ref a], []⟩) (fun r s' => r = .ok (.ret (.bool true)) ∧ OldK s.heap s'.heap ∧ s'.os = s.os ∧ AllBare s'.gens) s := by
    intro H hS hok one nk fz
    obtain ⟨k1, k2, e0⟩ := env_of KX hns hb hbb hlim hg ha hok one nk
    refine codeAny_mono ((F _ k1 k2).run callerA [] s H ⟨[.ref a], []⟩ [.ref a] [.ref a] _ _ rfl hr e0 (hbind s (.ref a)) (.cons rfl .nil) (hsp H hS)) fun r s' h => ?_
    cases r with
    | error _ => exact False.elim h
    | ok fl =>
      cases fl with
      | next => exact False.elim h
      | brk => exact False.elim h
      | cont => exact False.elim h
      | ret u =>
        obtain ⟨v, H', os, bare, un, hok', ru, ev⟩ := h
        subst ev
        obtain rfl : u = Value.bool true := ru
        refine ⟨rfl, OldK.of_keep fun b o e => ?_, os, bare⟩
        cases q : H b with
        | none => exact un.keep b o e q (fun z => absurd (show b ∈ ([] : List Addr) from z) (by simp)) (by simp)
        | some oo =>
          have zb : b = a := Classical.byContradiction fun z => by rw [one b z] at q; cases q
          subst zb
          obtain ⟨ob, u, rfl⟩ := fz oo q
          obtain ⟨e1, _⟩ := hok b _ q
          obtain ⟨e2, _⟩ := hok' b _ (un.frzs b ob u q)
          rw [e] at e1
          cases e1
          exact e2
  cases hk : K.lookup a with
  | some o =>
    have e := KX a o hk
    rw [ha] at e
    cases e
    exact go (fun _ => none) (.inr ⟨_, vs.toArray, _, hk, rfl, rfl, rfl, by rw [List.size_toArray, hi.length]; exact hl, by simpa using rv⟩) (fun b u z => nomatch z) (fun _ _ => rfl) (.inl rfl) (fun o z => nomatch z)
  | none =>
    let ob : Obj := { cls := .type "list", data := .seq vs.toArray }
    refine go (upd (fun _ => none) a (.frz ob (.lst (ns.map V.int)))) (.inl (.inr ⟨ob, upd_same⟩)) (fun b u z => ?_) (fun b z => upd_ne z) (.inr hk) (fun o z => ?_)
    · by_cases q : b = a
      · subst q
        rw [upd_same] at z
        cases z
        exact ⟨ha, by rw [List.length_map]; exact hl, vs, _, rv, ha⟩
      · rw [upd_ne q] at z
        cases z
    · rw [upd_same] at z
      cases z
      exact ⟨_, _, rfl⟩
end
theorem walk_G {l : PySem.W.OpenLaw} {n k : Nat} {q : Program} {loose : List Str} {XP : (Str → Option Value) → Heap → Prop} {YP : World → Heap → Prop} {d : DefRec} {K : Params → PySem.W.Frag} {sp : PySem.W.Frag → Sp} {x : Str}
    (hn : l.most = some n) (hn2 : n ≤ sizeLine) (hdf : d.params.defaults = []) (hr : Room k callerA) (hY : ∀ (w : World) (h : Heap), YP w h → (K w.params).In h)
    (F : ∀ (w : World) (mg : Str → Option Value) (fa : Addr) (h : Heap), (K w.params).In h → h.Ns mainGlobals mg → mg d.name = some (.ref fa) →
      ∃ fd : FuncData, (∀ (s : Shared) (u : Value), BindsTo s fd ⟨[u], []⟩ [(x, u)]) ∧ ∀ base : Heap, (K w.params).In base → base.Ns mainGlobals mg → FnG l.prog w (K w.params) mg base k fa fd [x] (sp (K w.params)))
    (hsp : ∀ (K : PySem.W.Frag) (H : Hp) (a : Addr) (ns : List Int), ns.length ≤ n → SqL K H a (ns.map V.int) → sp K [.ref a] H (fun v _ => v = .bl true) fun _ _ _ => False) :
    PySem.W.WalkO q loose XP YP l.row.toRowW d [] (fun f vs => PySem.call f vs) := by
  refine Att.attach_call hn hdf fun w _ s mg mb fa _ _ _ _ a vs ns G Y _ _ _ hmg hobj hints hlen hg => ?_
  obtain ⟨fd, hb, hF⟩ := F w mg fa _ (hY w _ Y) G.T.g hmg
  exact law_callG (hY w _ Y) G.T.g G.T.b G.T.builtins G.T.nolimit hg hobj hints (Nat.le_trans hlen hn2) hr hF hb fun H hS => hsp _ H a ns hlen hS
end Lc
set_option Elab.async false
set_option linter.all false
set_option maxRecDepth 100000
set_option maxHeartbeats 4000000
namespace Lc
open PySem PySem.Spec PyProof.Rows L2
/-! ## Kinds of values -/
inductive TyN (H : Hp) : V → String → Prop
  | non : TyN H .non "NoneType"
  | bl (b : Bool) : TyN H (.bl b) "bool"
  | int (i : Int) : TyN H (.int i) "int"
  | str (x : Str) : TyN H (.str x) "str"
  | tup {a : Addr} {xs : List V} (e : H a = some (.tup xs)) : TyN H (.ref a) "tuple"
  | lst {a : Addr} {xs : List V} (e : H a = some (.lst xs)) : TyN H (.ref a) "list"
  | dct {a : Addr} {kvs : List (Key × V)} (e : H a = some (.dK kvs)) : TyN H (.ref a) "dict"
theorem TyN.x {K : PySem.W.Frag} {H : Hp} {v : V} {t : String} (h : TyN H v t) : TyX K H v (.type t) := by
  cases h with
  | non => exact .base .non
  | bl b => exact .base (.bl b)
  | int i => exact .base (.int i)
  | str x => exact .base (.str x)
  | tup e => exact .base (.tup e)
  | lst e => exact .base (.lst e)
  | dct e => exact .base (.dK e)
theorem TyN.same {H H' : Hp} {v : V} {t : String} (h : TyN H v t) (s : Same H H') : TyN H' v t := by
  cases h with
  | non => exact .non
  | bl b => exact .bl b
  | int i => exact .int i
  | str x => exact .str x
  | tup e => exact .tup (s _ _ e)
  | lst e => exact .lst (s _ _ e)
  | dct e => exact .dct (s _ _ e)
theorem TyN.isInt {H : Hp} {v : V} {t : String} (h : TyN H v t) (e : t = "int") : ∃ i, v = .int i := by
  cases h <;> first | exact ⟨_, rfl⟩ | exact absurd e (by decide)
theorem TyN.isStr {H : Hp} {v : V} {t : String} (h : TyN H v t) (e : t = "str") : ∃ x, v = .str x := by
  cases h <;> first | exact ⟨_, rfl⟩ | exact absurd e (by decide)
theorem TyN.isTup {H : Hp} {v : V} {t : String} (h : TyN H v t) (e : t = "tuple") : ∃ a xs, v = .ref a ∧ H a = some (.tup xs) := by
  cases h <;> first | exact ⟨_, _, rfl, by assumption⟩ | exact absurd e (by decide)
def tyNames : List String := ["NoneType", "bool", "int", "str", "tuple", "list", "dict"]
theorem TyN.mem {H : Hp} {v : V} {t : String} (h : TyN H v t) : t ∈ tyNames := by
  cases h <;> simp [tyNames]
theorem kit_int {K : PySem.W.Frag} {t : String} (h : t ∈ tyNames) : PySem.W.kitOne K (.type t) (.type "int") = some (t == "int" || t == "bool") := by
  have : ∀ t ∈ tyNames, kitB t "int" = some (t == "int" || t == "bool") := by decide +kernel
  exact kit_ty (this t h)
theorem kit_bool {K : PySem.W.Frag} {t : String} (h : t ∈ tyNames) : PySem.W.kitOne K (.type t) (.type "bool") = some (t == "bool") := by
  have : ∀ t ∈ tyNames, kitB t "bool" = some (t == "bool") := by decide +kernel
  exact kit_ty (this t h)
theorem kit_tuple {K : PySem.W.Frag} {t : String} (h : t ∈ tyNames) : PySem.W.kitOne K (.type t) (.type "tuple") = some (t == "tuple") := by
  have : ∀ t ∈ tyNames, kitB t "tuple" = some (t == "tuple") := by decide +kernel
  exact kit_ty (this t h)
theorem kit_str {K : PySem.W.Frag} {t : String} (h : t ∈ tyNames) : PySem.W.kitOne K (.type t) (.type "str") = some (t == "str") := by
  have : ∀ t ∈ tyNames, kitB t "str" = some (t == "str") := by decide +kernel
  exact kit_ty (this t h)
/-! ## What is a rational -/
def ratB : V → V → Bool
  | .int n, .int d => decide (0 < d) && decide (gd n d = 1)
  | _, _ => false
inductive Rk (H : Hp) : V → Bool → Prop
  | other {v : V} {t : String} (h : TyN H v t) (n : t ≠ "tuple") : Rk H v false
  | len {a : Addr} {xs : List V} (e : H a = some (.tup xs)) (n : xs.length ≠ 2) : Rk H (.ref a) false
  | pair {a : Addr} {x y : V} {tx ty : String} (e : H a = some (.tup [x, y])) (hx : TyN H x tx) (hy : TyN H y ty) : Rk H (.ref a) (ratB x y)
theorem Rk.same {H H' : Hp} {v : V} {b : Bool} (h : Rk H v b) (s : Same H H') : Rk H' v b := by
  cases h with
  | other h n => exact .other (h.same s) n
  | len e n => exact .len (s _ _ e) n
  | pair e hx hy => exact .pair (s _ _ e) (hx.same s) (hy.same s)
theorem Rk.of {H : Hp} {a : Addr} {n d : Int} (e : H a = some (.tup [.int n, .int d])) (r : Rt n d) : Rk H (.ref a) true := by
  have z : ratB (.int n) (.int d) = true := by
    show (decide (0 < d) && decide (gd n d = 1)) = true
    rw [decide_eq_true r.pos, decide_eq_true r.cop]
    rfl
  rw [← z]
  exact .pair e (.int n) (.int d)
/-! ## repr -/
inductive Shw (K : PySem.W.Frag) (H : Hp) : V → Str → Prop
  | data {v : V} {d : PyData} (h : Dp K H v d) (h1 : d.showable = true) (h2 : d.hasDict = false) (h3 : d.depth ≤ 60) (h4 : d.shown.length ≤ sizeLine) : Shw K H v d.shown
  | empty {a : Addr} (e : H a = some (.dK [])) : Shw K H (.ref a) (PyData.dict []).shown
def rReprV (K : PySem.W.Frag) : List V → Hp → VK → Prop := fun xs H Q => ∃ (v : V) (z : Str), xs = [v] ∧ Shw K H v z ∧ Q (.str z) H
theorem call_reprV {X : Cx} (hg : X.A.guards = some []) (hu : X.A.units + 64 < cLine) : CallR X (.builtin "repr") (rReprV X.K) := by
  intro pins s σ H xs us Q I r h
  obtain ⟨v, z, rfl, hd, q⟩ := h
  obtain ⟨u, rfl, ru⟩ := vals1 r
  cases hd with
  | @data _ d hd h1 h2 h3 h4 =>
    obtain ⟨as, rd⟩ := Dp.reads I d _ _ hd ru
    cases hd with
    | non =>
      obtain rfl : u = Value.none := ru
      exact P.repr_of_none ⟨.str _, H, I.tok _, ⟨_, rfl⟩, q⟩
    | bl b =>
      obtain rfl : u = Value.bool b := ru
      exact P.repr_of_bool ⟨.str _, H, I.tok _, ⟨_, rfl⟩, q⟩
    | int i =>
      obtain ⟨t, rfl⟩ := (show ∃ t, u = Value.int i t from ru)
      exact P.repr_of_int (of_decide_eq_true (by simpa [PyData.showable] using h1)) ⟨.str _, H, I.tok _, ⟨_, rfl⟩, q⟩
    | str x =>
      obtain ⟨t, rfl⟩ := (show ∃ t, u = Value.str x t from ru)
      exact P.repr_of_str ⟨.str _, H, I.tok _, ⟨_, rfl⟩, q⟩ h4
    | @lst a xs ds e1 e2 =>
      obtain rfl : u = Value.ref a := ru
      exact repr_of_reads' rd h1 (PyData.noDict_hsm h2) hg (by omega) (fun _ _ e => e) (fun h' u tk hk => ⟨.str _, H, I.kept (t' := tk) hk, ⟨u, rfl⟩, q⟩) h4
    | @tup a xs ds e1 e2 =>
      obtain rfl : u = Value.ref a := ru
      exact repr_of_reads' rd h1 (PyData.noDict_hsm h2) hg (by omega) (fun _ _ e => e) (fun h' u tk hk => ⟨.str _, H, I.kept (t' := tk) hk, ⟨u, rfl⟩, q⟩) h4
  | @empty a e =>
    obtain rfl : u = Value.ref a := ru
    obtain ⟨_, ns, vs, kv, o, es, ep, h1, h2, h3, h4⟩ := (show ObjOk X.prog X.w H s.heap a (.dK []) from I.hok a _ e)
    cases kv
    have es0 : es.toList = [] := by
      obtain ⟨_, hp, _⟩ := h4
      generalize es.toList = l at hp
      cases hp
      rfl
    have rd : Reads s.heap (.ref a) (.dict []) (a :: [] ++ []) := Reads.dict h1 h2.1 h3 (by rw [es0]; exact .nil) (by rw [es0]; exact .nil)
    exact repr_of_reads' rd (by decide) (fun _ hm => by
      have : sysModules = a := by simpa using hm
      rw [this] at ns
      simp at ns) hg (by show X.A.units + (PyData.depth (.dict []) + 1) < cLine; have : PyData.depth (.dict []) ≤ 60 := by decide +kernel
                         omega) (fun _ _ e => e) (fun h' u tk hk => ⟨.str _, H, I.kept (t' := tk) hk, ⟨u, rfl⟩, q⟩) (by decide +kernel)
theorem dp_same {K : PySem.W.Frag} {H H' : Hp} (s : Same H H') : ∀ {v : V} {d : PyData}, Dp K H v d → Dp K H' v d := by
  have sq : ∀ {a xs}, SqT K H a xs → SqT K H' a xs := by
    intro a xs h
    rcases h with (h | ⟨o, h⟩) | h
    · exact .inl (.inl (s _ _ h))
    · exact .inl (.inr ⟨o, s _ _ h⟩)
    · exact .inr h
  intro v d h
  induction h using Dp.rec (motive_2 := fun vs ds _ => DpAll K H' vs ds) with
  | non => exact .non
  | bl b => exact .bl b
  | int i => exact .int i
  | str x => exact .str x
  | lst h1 _ ih => exact .lst (s.seq h1) ih
  | tup h1 _ ih => exact .tup (sq h1) ih
  | nil => exact .nil
  | cons _ _ i1 i2 => exact .cons i1 i2
theorem Shw.same {K : PySem.W.Frag} {H H' : Hp} (s : Same H H') {v : V} {z : Str} (h : Shw K H v z) : Shw K H' v z := by
  cases h with
  | data h h1 h2 h3 h4 => exact .data (dp_same s h) h1 h2 h3 h4
  | empty e => exact .empty (s _ _ e)
theorem Same.upd {H : Hp} {p : Addr} {o : HO} (h : H p = none) : Same H (upd H p o) := fun b u e => by rw [upd_ne (ne_of_none e h)]; exact e
end Lc
set_option Elab.async false
set_option linter.all false
set_option maxRecDepth 100000
set_option maxHeartbeats 4000000
namespace Lc
open PySem PySem.Spec PyProof.Rows L2
/-! ## The law's tape -/
def Tape (H : Hp) (t : Addr) : Prop := ∃ (l : Addr) (ns : List Int) (pos rest mix : Int), H t = some (.lst [.ref l, .int pos, .int rest, .int mix]) ∧ H l = some (.lst (ns.map V.int)) ∧ 0 ≤ pos ∧ 0 ≤ rest ∧ 0 ≤ mix ∧ mix < 2147483647
/-- all but what stands at t is as it was -/
def SameB (t : Addr) (H H' : Hp) : Prop := ∀ b o, b ≠ t → H b = some o → H' b = some o
theorem SameB.refl (t : Addr) (H : Hp) : SameB t H H := fun _ _ _ e => e
theorem SameB.trans {t : Addr} {H H1 H2 : Hp} (a : SameB t H H1) (b : SameB t H1 H2) : SameB t H H2 := fun c o n e => b c o n (a c o n e)
theorem Same.b {H H' : Hp} (t : Addr) (s : Same H H') : SameB t H H' := fun b o _ e => s b o e
theorem SameB.upd {t : Addr} {H : Hp} {o : HO} : SameB t H (upd H t o) := fun b u n e => by rw [upd_ne n]; exact e
theorem tape_ne {l t : Addr} {H : Hp} {ns : List Int} {vs : List V} (h1 : H t = some (.lst (.ref l :: vs))) (h2 : H l = some (.lst (ns.map V.int))) : l ≠ t := by
  refine ne_of h2 h1 fun z => ?_
  cases ns with
  | nil => injection z with z; cases z
  | cons n ns => injection z with z; injection z with z; cases z
theorem Tape.same {H H' : Hp} {t : Addr} (h : Tape H t) (s : Same H H') : Tape H' t := by
  obtain ⟨l, ns, pos, rest, mix, h1, h2, h3⟩ := h
  exact ⟨l, ns, pos, rest, mix, s _ _ h1, s _ _ h2, h3⟩
theorem cut_ints (ns : List Int) (lo hi : Option Int) : ∃ ms : List Int, cutV (ns.map V.int) lo hi = ms.map V.int := by
  unfold cutV
  rw [← List.map_drop, ← List.map_take]
  exact ⟨_, rfl⟩
def spTape (K : PySem.W.Frag) : Sp := fun vs H Q _ => ∃ (a : Addr) (ns : List Int), vs = [.ref a] ∧ SqL K H a (ns.map V.int) ∧ ∀ (t : Addr) (H' : Hp), Same H H' → H t = none → Tape H' t → Q (.ref t) H'
def spDraw : Sp := fun vs H Q _ => ∃ (t : Addr) (many : Int), vs = [.ref t, .int many] ∧ Tape H t ∧ 0 < many ∧ many.natAbs < 2 ^ 4000 ∧ ∀ (k : Int) (H' : Hp), 0 ≤ k → k < many → Tape H' t → SameB t H H' → Q (.int k) H'
def New2' (H : Hp) (Q : VK) (n d : Int) : Prop := ∀ p, H p = none → Q (.ref p) (upd H p (.tup [.int n, .int d]))
def spLowest : Sp := fun vs H Q _ => ∃ n d : Int, vs = [.int n, .int d] ∧ 0 < d ∧ d.natAbs < 2 ^ 4000 ∧ New2' H Q (lowN n d) (lowD n d)
def spRational : Sp := fun vs H Q _ => ∃ (t : Addr) (b : Bool), vs = [.ref t, .bl b] ∧ Tape H t ∧ ∀ (p : Addr) (n d : Int) (H' : Hp), Rt n d → n.natAbs < 2 ^ 140 → d.natAbs < 2 ^ 140 → H' p = some (.tup [.int n, .int d]) → H p = none → Tape H' t → SameB t H H' → Q (.ref p) H'
theorem log_lt' {n : Int} (h : n.natAbs < 2 ^ 4000) : n.natAbs.log2 < 9000 := by
  by_cases z : n.natAbs = 0
  · rw [z]
    decide
  · exact Nat.lt_of_lt_of_le ((Nat.log2_lt z).mpr h) (by decide)
end Lc
namespace Lc
open PySem PySem.Spec PyProof.Rows L2
theorem SameB.free {t p : Addr} {H H' : Hp} (s : SameB t H H') (h : Tape H' t) (e : H' p = none) : H p = none := by
  cases q : H p with
  | none => rfl
  | some o =>
    by_cases z : p = t
    · subst z
      obtain ⟨_, _, _, _, _, h1, _⟩ := h
      rw [h1] at e
      cases e
    · rw [s p o z q] at e
      cases e
theorem Tape.ne {t p : Addr} {H : Hp} (h : Tape H t) (e : H p = none) : p ≠ t := by
  intro z
  subst z
  obtain ⟨_, _, _, _, _, h1, _⟩ := h
  rw [h1] at e
  cases e
theorem Tape.neT {t p : Addr} {H : Hp} {xs : List V} (h : Tape H t) (e : H p = some (.tup xs)) : p ≠ t := by
  intro z
  subst z
  obtain ⟨_, _, _, _, _, h1, _⟩ := h
  rw [h1] at e
  cases e
theorem p18 : (10 : Int) ^ (18 : Int).toNat = 1000000000000000000 := by decide
theorem p40 : (10 : Int) ^ (40 : Int).toNat = 10000000000000000000000000000000000000000 := by decide
end Lc
namespace Lc
open PySem PySem.Spec PyProof.Rows L2
/-- the tape, its list at l -/
def TapeL (l : Addr) (H : Hp) (t : Addr) : Prop := ∃ (ns : List Int) (pos rest mix : Int), H t = some (.lst [.ref l, .int pos, .int rest, .int mix]) ∧ H l = some (.lst (ns.map V.int)) ∧ 0 ≤ pos ∧ 0 ≤ rest ∧ 0 ≤ mix ∧ mix < 2147483647
theorem TapeL.tape {l : Addr} {H : Hp} {t : Addr} (h : TapeL l H t) : Tape H t := ⟨l, h⟩
theorem TapeL.same {l : Addr} {H H' : Hp} {t : Addr} (h : TapeL l H t) (s : Same H H') : TapeL l H' t := by
  obtain ⟨ns, pos, rest, mix, h1, h2, h3⟩ := h
  exact ⟨ns, pos, rest, mix, s _ _ h1, s _ _ h2, h3⟩
theorem TapeL.list {l : Addr} {H : Hp} {t : Addr} (h : TapeL l H t) : ∃ xs, H l = some (.lst xs) := by
  obtain ⟨ns, pos, rest, mix, h1, h2, h3⟩ := h
  exact ⟨_, h2⟩
/-- another object is written -/
theorem TapeL.upd {l : Addr} {H : Hp} {t a : Addr} {o : HO} (h : TapeL l H t) (n1 : a ≠ t) (n2 : a ≠ l) : TapeL l (upd H a o) t := by
  obtain ⟨ns, pos, rest, mix, h1, h2, h3⟩ := h
  exact ⟨ns, pos, rest, mix, by rw [upd_ne (Ne.symm n1)]; exact h1, by rw [upd_ne (Ne.symm n2)]; exact h2, h3⟩
def spDrawL : Sp := fun vs H Q _ => ∃ (t l : Addr) (many : Int), vs = [.ref t, .int many] ∧ TapeL l H t ∧ 0 < many ∧ many.natAbs < 2 ^ 4000 ∧ ∀ (k : Int) (H' : Hp), 0 ≤ k → k < many → TapeL l H' t → SameB t H H' → Q (.int k) H'
theorem fn_weak {P : Program} {w : World} {K : PySem.W.Frag} {mg : Str → Option Value} {base : Heap} {CX : CXT} {k : Nat} {f : Addr} {fd : FuncData} {ps : List Str} {sp sp' : Sp} (h : ∀ vs H Q E, sp vs H Q E → sp' vs H Q E) (F : FnOk P w K mg base CX k f fd ps sp') : FnOk P w K mg base CX k f fd ps sp :=
  ⟨fun vs H Q E z => F.len vs H Q E (h vs H Q E z), fun A outer s H args us vs Q E a b c d z => F.run A outer s H args us vs Q E a b c d (h vs H Q E z)⟩
theorem draw_weak {vs : List V} {H : Hp} {Q : VK} {E : XK} (h : spDraw vs H Q E) : spDrawL vs H Q E := by
  obtain ⟨t, m, e, ⟨l, hT⟩, h1, h2, k⟩ := h
  exact ⟨t, l, m, e, hT, h1, h2, fun k1 H' a b c d => k k1 H' a b c.tape d⟩
end Lc
set_option Elab.async false
set_option linter.all false
set_option maxRecDepth 100000
set_option maxHeartbeats 4000000
namespace Lc
open PySem PySem.Spec PyProof.Rows L2
/-- names of built-ins that no text binds -/
structure Bt (mg : Str → Option Value) : Prop where
  isi : mg "isinstance" = none
  int : mg "int" = none
  bool : mg "bool" = none
  str : mg "str" = none
  tuple : mg "tuple" = none
  list : mg "list" = none
  dict : mg "dict" = none
  len : mg "len" = none
  abs : mg "abs" = none
  min : mg "min" = none
  all : mg "all" = none
  repr : mg "repr" = none
  range : mg "range" = none
  enum : mg "enumerate" = none
  ve : mg "ValueError" = none
  zd : mg "ZeroDivisionError" = none
  ie : mg "IndexError" = none
  oe : mg "OverflowError" = none
def btNames : List Str := ["isinstance", "int", "bool", "str", "tuple", "list", "dict", "len", "abs", "min", "all", "repr", "range", "enumerate", "ValueError", "ZeroDivisionError", "IndexError", "OverflowError"]
/-! ## x is True, x any value -/
def rIsBA : R2 := fun x y H Q => ∃ b : Bool, y = .bl b ∧ Q (.bl (decide (x = .bl b))) H
theorem op_isBA {X : Cx} : OpR X (compareOp .Is) rIsBA := by
  intro pins s σ H x y v u Q I rx ry h
  obtain ⟨b, rfl, q⟩ := h
  cases (show u = Value.bool b from ry)
  have key : plainIs v (.bool b) = true ∧ (v == Value.bool b) = decide (x = .bl b) := by
    cases x with
    | non => cases (show v = Value.none from rx); exact ⟨rfl, by cases b <;> rfl⟩
    | bl c => cases (show v = Value.bool c from rx); exact ⟨rfl, by cases b <;> cases c <;> rfl⟩
    | int i => obtain ⟨t, rfl⟩ := (show ∃ t, v = Value.int i t from rx); exact ⟨rfl, by cases b <;> rfl⟩
    | str i => obtain ⟨t, rfl⟩ := (show ∃ t, v = Value.str i t from rx); exact ⟨rfl, by cases b <;> rfl⟩
    | byt i => obtain ⟨t, rfl⟩ := (show ∃ t, v = Value.bytes i t from rx); exact ⟨rfl, by cases b <;> rfl⟩
    | flt i => obtain ⟨t, rfl⟩ := (show ∃ t, v = Value.float i t from rx); exact ⟨rfl, by cases b <;> rfl⟩
    | ref a => cases (show v = Value.ref a from rx); exact ⟨rfl, by cases b <;> rfl⟩
    | ty n => cases (show v = Value.type n from rx); exact ⟨rfl, by cases b <;> rfl⟩
  refine wpAny_is_plain key.1 ?_
  rw [key.2]
  exact ⟨.bl _, H, I, rfl, q⟩
/-! ## Texts of few signs -/
structure Sh (n : Nat) (x : Str) : Prop where
  len : x.cps.toList.length ≤ n
  ok : ∀ c ∈ x.cps.toList, c < 1114112
theorem Sh.mono {n m : Nat} {x : Str} (h : Sh n x) (l : n ≤ m) : Sh m x := ⟨Nat.le_trans h.len l, h.ok⟩
theorem Sh.line {n : Nat} {x : Str} (h : Sh n x) (l : n ≤ 1000) : x.length ≤ sizeLine := by
  have : x.length = x.cps.toList.length := by show x.cps.size = _; simp
  rw [this]
  exact Nat.le_trans h.len (Nat.le_trans l (by decide))
theorem sh_app {n m : Nat} {x y : Str} (h : Sh n x) (g : Sh m y) : Sh (n + m) (x ++ y) := by
  have e : (x ++ y).cps.toList = x.cps.toList ++ y.cps.toList := by
    show (x.cps ++ y.cps).toList = _
    simp
  refine ⟨?_, fun c hc => ?_⟩
  · rw [e, List.length_append]
    exact Nat.add_le_add h.len g.len
  · rw [e] at hc
    rcases List.mem_append.mp hc with hc | hc
    · exact h.ok c hc
    · exact g.ok c hc
theorem sh_one {c : Nat} (h : c < 1114112) : Sh 1 ⟨#[c]⟩ := ⟨Nat.le_refl _, fun d hd => by
  have : d = c := by simpa using hd
  rw [this]
  exact h⟩
theorem sh_sub {n : Nat} {x : Str} {l : List Nat} (h : Sh n x) (s : l.Sublist x.cps.toList) : Sh n ⟨l.toArray⟩ := by
  refine ⟨?_, fun c hc => ?_⟩
  · show l.toArray.toList.length ≤ n
    exact Nat.le_trans s.length_le h.len
  · exact h.ok c (s.subset (by simpa using hc))
theorem sh_cut {n : Nat} {x : Str} (lo hi : Option Int) (h : Sh n x) : Sh n (cutS x lo hi) := sh_sub h ((List.take_sublist _ _).trans (List.drop_sublist _ _))
theorem foldl_app : ∀ (l : List (Array Nat)) (a : Array Nat), (l.foldl (· ++ ·) a).toList = a.toList ++ (l.map Array.toList).flatten
  | [], a => by simp
  | b :: l, a => by
    show ((l.foldl (· ++ ·) (a ++ b))).toList = _
    rw [foldl_app l (a ++ b)]
    simp [List.append_assoc]
theorem sh_mul {x : Str} {n k : Nat} {i : Int} (h : Sh n x) (hi : i.toNat ≤ k) (hn : n ≤ 1) : Sh k (Txt.mul x i) := by
  unfold Txt.mul
  by_cases h1 : i < 1
  · rw [if_pos h1]
    exact ⟨Nat.zero_le _, fun c hc => by cases (by simpa [Str.empty] using hc : c ∈ ([] : List Nat))⟩
  · rw [if_neg h1]
    by_cases h2 : (i == 1 || x.length == 0) = true
    · rw [if_pos h2]
      exact h.mono (by omega)
    · rw [if_neg h2]
      have e : ((List.replicate i.toNat x.cps).foldl (· ++ ·) #[]).toList = (List.replicate i.toNat x.cps.toList).flatten := by
        rw [foldl_app]
        simp
      refine ⟨?_, fun c hc => ?_⟩
      · show ((List.replicate i.toNat x.cps).foldl (· ++ ·) #[]).toList.length ≤ k
        rw [e, List.length_flatten]
        have : ((List.replicate i.toNat x.cps.toList).map List.length).sum ≤ i.toNat * 1 := by
          have key : ∀ m : Nat, ((List.replicate m x.cps.toList).map List.length).sum ≤ m * 1 := by
            intro m
            induction m with
            | zero => simp
            | succ m ih =>
              rw [List.replicate_succ, List.map_cons, List.sum_cons]
              have := Nat.le_trans h.len hn
              omega
          exact key _
        omega
      · have hc : c ∈ ((List.replicate i.toNat x.cps).foldl (· ++ ·) #[]).toList := hc
        rw [e] at hc
        obtain ⟨l, hl, hcl⟩ := List.mem_flatten.mp hc
        rw [List.eq_of_mem_replicate hl] at hcl
        exact h.ok c hcl
theorem mul_ok {x : Str} {i : Int} (h : x.cps.size ≤ 1) (h2 : i < 1000) (h3 : -1000 < i) : MulOk x i := by
  have hx : x.length ≤ 1 := h
  refine ⟨by simp; omega, fun h1 _ => ?_, fun h1 _ => ?_⟩
  · have : (2 ^ 63 - 1 : Int) / i ≥ 1 := by
      have : (1 : Int) * i ≤ 2 ^ 63 - 1 := by omega
      exact (Int.le_ediv_iff_mul_le (by omega)).mpr this
    omega
  · unfold Builtin.Str.tooLong
    have : x.length * i.toNat ≤ 1000 := by
      have : x.length * i.toNat ≤ 1 * i.toNat := Nat.mul_le_mul_right _ hx
      omega
    have : ¬ (x.length * i.toNat > sizeLine) := by
      have : (1000 : Nat) ≤ sizeLine := by decide
      omega
    simpa using this
def rMulS : R2 := fun x y H Q => ∃ (z : Str) (i : Int), x = .str z ∧ y = .int i ∧ MulOk z i ∧ Q (.str (Txt.mul z i)) H
theorem op_mulS {X : Cx} : OpR X (binaryOp .Mult) rMulS := by
  intro pins s σ H x y v u Q I rx ry h
  obtain ⟨z, i, rfl, rfl, ok, q⟩ := h
  obtain ⟨t, rfl⟩ := (show ∃ t, v = Value.str z t from rx)
  obtain ⟨t2, rfl⟩ := (show ∃ t, u = Value.int i t from ry)
  exact SB.mul ok fun t' k => ⟨.str _, H, I.tok _, ⟨_, rfl⟩, q⟩
theorem glued_sh : ∀ (ys : List Str), (∀ y ∈ ys, Sh 1 y) → Sh ys.length (Str.join Str.empty ys)
  | [], _ => ⟨Nat.le_refl _, fun c hc => by cases (by simpa [Str.join, Str.empty] using hc : c ∈ ([] : List Nat))⟩
  | [x], h => h x List.mem_cons_self
  | x :: y :: r, h => by
    have ih := glued_sh (y :: r) fun z hz => h z (List.mem_cons_of_mem _ hz)
    have e : Str.join Str.empty (x :: y :: r) = x ++ Str.empty ++ Str.join Str.empty (y :: r) := rfl
    rw [e]
    have s0 : Sh 0 Str.empty := ⟨Nat.le_refl _, fun c hc => by cases (by simpa [Str.empty] using hc : c ∈ ([] : List Nat))⟩
    exact (sh_app (sh_app (h x List.mem_cons_self) s0) ih).mono (by simp; omega)
/-! ## repr of a short text, of a bounded number -/
theorem shw_text {K : PySem.W.Frag} {H : Hp} {n : Nat} {x : Str} (h : Sh n x) (l : n ≤ 1000) : Shw K H (.str x) (PyData.str x).shown := by
  refine .data (.str x) rfl rfl (by simp [PyData.depth]) ?_
  show (reprText x).length ≤ sizeLine
  have := StrLaws.reprText_len x (fun c hc => Nat.lt_trans (h.ok c hc) (by decide))
  have e : x.length = x.cps.toList.length := by show x.cps.size = _; simp
  have := h.len
  have : (10002 : Nat) ≤ sizeLine := by decide
  omega
theorem num_len {i : Int} (h : i.natAbs < 2 ^ 1000) : (PyData.int i).showable = true ∧ (PyData.int i).shown.length ≤ 1921 := by
  have l : i.natAbs.log2 < 1920 := by
    by_cases z : i.natAbs = 0
    · rw [z]
      decide
    · exact Nat.lt_of_lt_of_le ((Nat.log2_lt z).mpr h) (by decide)
  exact ⟨decide_eq_true l, int_text_len_1921 l⟩
end Lc
namespace Lc
open PySem PySem.Spec PyProof.Rows L2
/-! ## Names -/
def letters : Str := "abcdefghijklmnopqrstuvwxyz"
def signs : Str := "abcdefghijklmnopqrstuvwxyz0123456789"
def inS (c : Nat) : Bool := decide (c ∈ signs.cps.toList)
def inL (c : Nat) : Bool := decide (c ∈ letters.cps.toList)
def nameL : List Nat → Bool
  | [] => false
  | c :: r => decide ((c :: r).length ≤ 12) && (inL c && (c :: r).all inS)
def nameB : V → Bool
  | .str x => nameL x.cps.toList
  | _ => false
abbrev rInS : R2 := fun x y H Q => ∃ (c : Nat) (z : Str), x = .str ⟨#[c]⟩ ∧ y = .str z ∧ Q (.bl (decide (c ∈ z.cps.toList))) H
def spName : Sp := fun vs H Q _ => ∃ (v : V) (t : String), vs = [v] ∧ TyN H v t ∧ (∀ x, v = .str x → x.length ≤ sizeLine) ∧ ∀ H', Same H H' → Q (.bl (nameB v)) H'
def spLName : Sp := fun vs H Q _ => ∃ t : Addr, vs = [.ref t] ∧ Tape H t ∧ ∀ (x : Str) (H' : Hp), Sh 12 x → Tape H' t → SameB t H H' → Q (.str x) H'
theorem lenL (x : Str) : x.length = x.cps.toList.length := by show x.cps.size = _; simp
theorem nil_of {x : Str} (h : x.cps.toList = []) : x = ⟨#[]⟩ := by
  obtain ⟨⟨l⟩⟩ := x
  have : l = [] := h
  rw [this]
theorem dec_empty (x : Str) : decide (V.str x = V.str "") = decide (x.cps.toList = []) := by
  rw [Bool.eq_iff_iff, decide_eq_true_iff, decide_eq_true_iff]
  constructor
  · intro h
    injection h with h
    rw [h]
    rfl
  · intro h
    rw [nil_of h]
    rfl
theorem name_nil {x : Str} (h : x.cps.toList = []) : nameB (.str x) = false := by
  show nameL x.cps.toList = false
  rw [h]
  rfl
theorem name_long {x : Str} (h : ¬ x.cps.toList.length ≤ 12) : nameB (.str x) = false := by
  show nameL x.cps.toList = false
  cases e : x.cps.toList with
  | nil => rfl
  | cons c r =>
    rw [e] at h
    show (decide ((c :: r).length ≤ 12) && _) = false
    rw [decide_eq_false h]
    rfl
theorem name_is {x : Str} {c : Nat} {r : List Nat} (e : x.cps.toList = c :: r) (h : x.cps.toList.length ≤ 12) : nameB (.str x) = (inL c && (c :: r).all inS) := by
  show nameL x.cps.toList = _
  rw [e] at h ⊢
  show (decide ((c :: r).length ≤ 12) && _) = _
  rw [decide_eq_true h]
  rfl
/-- the list of a comprehension over a text's signs, as it grows -/
theorem grow {x : Str} {i : Nat} {c : Nat} (h : x.cps[i]? = some c) (p : Nat → Bool) : (x.cps.toList.take i).map (fun c => V.bl (p c)) ++ [V.bl (p c)] = (x.cps.toList.take (i + 1)).map fun c => V.bl (p c) := by
  have h2 : x.cps.toList[i]? = some c := by rw [Array.getElem?_toList]; exact h
  rw [List.take_succ, h2, List.map_append]
  rfl
end Lc
namespace Lc
open PySem PySem.Spec PyProof.Rows L2
theorem cut26 : cutS signs none (some 26) = letters := by decide +kernel
theorem signs_ok : ∀ c ∈ signs.cps.toList, c < 1114112 := by decide +kernel
theorem signs_len : signs.cps.toList.length = 36 := by decide +kernel
theorem at_text {l : List Nat} {i : Int} (h0 : 0 ≤ i) (h1 : i < (l.length : Int)) : ∃ c, atI l i = some c ∧ c ∈ l := by
  obtain ⟨n, rfl⟩ : ∃ n : Nat, i = (n : Int) := ⟨i.toNat, by omega⟩
  have h : n < l.length := by omega
  exact ⟨l[n], atI_nat (List.getElem?_eq_getElem h), List.getElem_mem h⟩
theorem big1000 {z : Int} (h1 : 0 ≤ z) (h2 : z ≤ 1000) : z.natAbs < 2 ^ 4000 := by
  have e : (2 : Nat) ^ 10 = 1024 := by decide
  exact Nat.lt_of_lt_of_le (show z.natAbs < 2 ^ 10 by omega) (Nat.pow_le_pow_right (by decide) (by decide))
theorem sh_a : Sh 1 (PySem.Str.ofString "a") := ⟨by decide +kernel, by decide +kernel⟩
theorem a_size : (PySem.Str.ofString "a").cps.size ≤ 1 := by decide +kernel
theorem sh_len {n : Nat} {x : Str} (h : Sh n x) : x.length ≤ n := by rw [lenL]; exact h.len
end Lc
namespace Lc
open PySem PySem.Spec PyProof.Rows L2
theorem join_sh (ys : List Str) (h : ∀ y ∈ ys, Sh 1 y) : Sh ys.length (Txt.join (PySem.Str.ofString "") ys) := by
  have e : Txt.join (PySem.Str.ofString "") ys = Str.join Str.empty ys := by
    exact (StrLaws.glued_eq_join (PySem.Str.ofString "") ys).trans rfl
  rw [e]
  exact glued_sh ys h
end Lc
set_option Elab.async false
set_option linter.all false
set_option maxRecDepth 100000
set_option maxHeartbeats 4000000
namespace Lc
open PySem PySem.Spec PyProof.Rows L2
/-! ## Flat values and what they are shown as -/
structure Fl (v : V) (d : PyData) (s : String) : Prop where
  dp : ∀ (K : PySem.W.Frag) (H : Hp), Dp K H v d
  ty : ∀ H : Hp, TyN H v s
  sh : d.showable = true
  nd : d.hasDict = false
  dz : d.depth = 0
  ln : d.shown.length ≤ 20000
theorem fl_non : Fl .non .none "NoneType" := ⟨fun _ _ => .non, fun _ => .non, rfl, rfl, rfl, by decide +kernel⟩
theorem fl_bl (b : Bool) : Fl (.bl b) (.bool b) "bool" := ⟨fun _ _ => .bl b, fun _ => .bl b, rfl, rfl, rfl, by cases b <;> decide +kernel⟩
theorem fl_int {i : Int} (h : i.natAbs < 2 ^ 1000) : Fl (.int i) (.int i) "int" := ⟨fun _ _ => .int i, fun _ => .int i, (num_len h).1, rfl, rfl, Nat.le_trans (num_len h).2 (by decide)⟩
theorem fl_str {x : Str} {n : Nat} (h : Sh n x) (l : n ≤ 1930) : Fl (.str x) (.str x) "str" := by
  refine ⟨fun _ _ => .str x, fun _ => .str x, rfl, rfl, rfl, ?_⟩
  show (reprText x).length ≤ 20000
  have := StrLaws.reprText_len x (fun c hc => Nat.lt_trans (h.ok c hc) (by decide))
  have e := lenL x
  have := h.len
  omega
theorem sh_string (s : String) : ∀ c ∈ (PySem.Str.ofString s).cps.toList, c < 1114112 := by
  intro c hc
  rw [Str.ofString_eq_toList] at hc
  have hc : c ∈ s.toList.map Char.toNat := by simpa using hc
  obtain ⟨ch, _, rfl⟩ := List.mem_map.mp hc
  have := ch.valid
  rcases this with h | ⟨_, h⟩
  · exact Nat.lt_trans h (by decide)
  · exact h
theorem sh_num {i : Int} (h : i.natAbs < 2 ^ 1000) : Sh 1921 (PySem.Str.ofString (toString i)) := ⟨by rw [← lenL]; exact (num_len h).2, sh_string _⟩
/-! ## Things: is it a number within the limit, how is it shown -/
def lim : Int := 10000000000000000000000000000000000000000
def limB : V → V → Bool
  | .int n, .int d => decide ((if n < 0 then -n else n) ≤ lim) && decide (d ≤ lim)
  | _, _ => false
def numB (x y : V) : Bool := ratB x y && limB x y
inductive Thing (H : Hp) : V → Bool → Prop
  | other {v : V} {t : String} (h : TyN H v t) (n : t ≠ "tuple") (l : ∀ x, v = .str x → x.length ≤ sizeLine) : Thing H v false
  | len {a : Addr} {xs : List V} (e : H a = some (.tup xs)) (n : xs.length ≠ 2) : Thing H (.ref a) false
  | pair {a : Addr} {x y : V} {tx ty : String} (e : H a = some (.tup [x, y])) (hx : TyN H x tx) (hy : TyN H y ty) : Thing H (.ref a) (numB x y)
theorem Thing.same {H H' : Hp} {v : V} {b : Bool} (h : Thing H v b) (s : Same H H') : Thing H' v b := by
  cases h with
  | other h n l => exact .other (h.same s) n l
  | len e n => exact .len (s _ _ e) n
  | pair e hx hy => exact .pair (s _ _ e) (hx.same s) (hy.same s)
theorem Thing.ty {H : Hp} {v : V} {b : Bool} (h : Thing H v b) : ∃ t, TyN H v t ∧ ∀ x, v = .str x → x.length ≤ sizeLine := by
  cases h with
  | other h n l => exact ⟨_, h, l⟩
  | len e n => exact ⟨_, .tup e, fun x z => nomatch z⟩
  | pair e hx hy => exact ⟨_, .tup e, fun x z => nomatch z⟩
/-- whatever is done to the tape at t -/
def Thg (K : PySem.W.Frag) (t : Addr) (H : Hp) (v : V) : Prop := ∃ (b : Bool) (z : Str), ∀ H', SameB t H H' → Thing H' v b ∧ Shw K H' v z
theorem thg_flat {K : PySem.W.Frag} {t : Addr} {H : Hp} {v : V} {d : PyData} {s : String} (h : Fl v d s) (n : s ≠ "tuple") (l : ∀ x, v = .str x → x.length ≤ sizeLine) : Thg K t H v :=
  ⟨false, d.shown, fun H' _ => ⟨.other (h.ty H') n l, .data (h.dp K H') h.sh h.nd (by rw [h.dz]; decide) (Nat.le_trans h.ln (by decide))⟩⟩
/-- the items of a display -/
inductive Fls : List V → List PyData → Prop
  | nil : Fls [] []
  | cons {v : V} {d : PyData} {s : String} {vs : List V} {ds : List PyData} (h : Fl v d s) (r : Fls vs ds) : Fls (v :: vs) (d :: ds)
theorem Fls.dps {K : PySem.W.Frag} {H : Hp} : ∀ {vs : List V} {ds : List PyData}, Fls vs ds → DpAll K H vs ds
  | _, _, .nil => .nil
  | _, _, .cons h r => .cons (h.dp K H) r.dps
theorem Fls.facts : ∀ {vs : List V} {ds : List PyData}, Fls vs ds → PyData.showableAll ds = true ∧ PyData.hasDictAll ds = false ∧ PyData.depthAll ds = 0 ∧ ((PyData.shownAll ds).map (·.length)).sum ≤ 20000 * ds.length ∧ (PyData.shownAll ds).length = ds.length ∧ ds.length = vs.length
  | _, _, .nil => ⟨rfl, rfl, rfl, by simp [PyData.shownAll], rfl, rfl⟩
  | _, _, .cons (d := d) (ds := ds) h r => by
    obtain ⟨h1, h2, h3, h4, h5, h6⟩ := r.facts
    refine ⟨?_, ?_, ?_, ?_, ?_, ?_⟩
    · simp [PyData.showableAll, h.sh, h1]
    · simp [PyData.hasDictAll, h.nd, h2]
    · simp [PyData.depthAll, h.dz, h3]
    · simp only [PyData.shownAll, List.map_cons, List.sum_cons, List.length_cons]
      have := h.ln
      omega
    · simp [PyData.shownAll, h5]
    · simp [h6]
theorem shw_tup {K : PySem.W.Frag} {H : Hp} {a : Addr} {vs : List V} {ds : List PyData} (e : H a = some (.tup vs)) (h : Fls vs ds) (l : vs.length ≤ 100) : Shw K H (.ref a) (PyData.tuple ds).shown := by
  obtain ⟨h1, h2, h3, h4, h5, h6⟩ := h.facts
  refine .data (.tup (SqT.of e) h.dps) (by simpa [PyData.showable] using h1) (by simpa [PyData.hasDict] using h2) (by simp [PyData.depth, h3]) ?_
  have := tupleText_len_le (PyData.shownAll ds)
  have s : (3000000 : Nat) ≤ sizeLine := by decide
  simp only [PyData.shown]
  omega
theorem shw_lst {K : PySem.W.Frag} {H : Hp} {a : Addr} {vs : List V} {ds : List PyData} (e : H a = some (.lst vs)) (h : Fls vs ds) (l : vs.length ≤ 100) : Shw K H (.ref a) (PyData.list ds).shown := by
  obtain ⟨h1, h2, h3, h4, h5, h6⟩ := h.facts
  refine .data (.lst (SqL.of e) h.dps) (by simpa [PyData.showable] using h1) (by simpa [PyData.hasDict] using h2) (by simp [PyData.depth, h3]) ?_
  have := listText_len_le (PyData.shownAll ds)
  have s : (3000000 : Nat) ≤ sizeLine := by decide
  simp only [PyData.shown]
  omega
theorem thg_tup {K : PySem.W.Frag} {t a : Addr} {H : Hp} {vs : List V} {ds : List PyData} (n : a ≠ t) (e : H a = some (.tup vs)) (h : Fls vs ds) (l : vs.length ≤ 100) : Thg K t H (.ref a) := by
  by_cases z : vs.length = 2
  · match vs, h, z with
    | [x, y], .cons h1 (.cons h2 .nil), _ => exact ⟨numB x y, _, fun H' s => ⟨.pair (s _ _ n e) (h1.ty H') (h2.ty H'), shw_tup (s _ _ n e) (.cons h1 (.cons h2 .nil)) (by show 2 ≤ 100; decide)⟩⟩
  · exact ⟨false, _, fun H' s => ⟨.len (s _ _ n e) z, shw_tup (s _ _ n e) h l⟩⟩
theorem thg_lst {K : PySem.W.Frag} {t a : Addr} {H : Hp} {vs : List V} {ds : List PyData} (n : a ≠ t) (e : H a = some (.lst vs)) (h : Fls vs ds) (l : vs.length ≤ 100) : Thg K t H (.ref a) :=
  ⟨false, _, fun H' s => ⟨.other (.lst (s _ _ n e)) (by decide) (fun x z => nomatch z), shw_lst (s _ _ n e) h l⟩⟩
theorem thg_dct {K : PySem.W.Frag} {t a : Addr} {H : Hp} (n : a ≠ t) (e : H a = some (.dK [])) : Thg K t H (.ref a) :=
  ⟨false, _, fun H' s => ⟨.other (.dct (s _ _ n e)) (by decide) (fun x z => nomatch z), .empty (s _ _ n e)⟩⟩
theorem Thg.sameB {K : PySem.W.Frag} {t : Addr} {H H' : Hp} {v : V} (h : Thg K t H v) (s : SameB t H H') : Thg K t H' v := by
  obtain ⟨b, z, k⟩ := h
  exact ⟨b, z, fun H2 s2 => k H2 (s.trans s2)⟩
theorem thg_str {K : PySem.W.Frag} {t : Addr} {H : Hp} {n : Nat} {x : Str} (h : Sh n x) (l : n ≤ 1930) : Thg K t H (.str x) :=
  thg_flat (fl_str h l) (by decide) fun y e => by
    injection e with e
    subst e
    rw [lenL]
    exact Nat.le_trans h.len (Nat.le_trans l (by decide))
end Lc
namespace Lc
open PySem PySem.Spec PyProof.Rows L2
theorem ratB_ints {x y : V} (h : ratB x y = true) : ∃ n d : Int, x = .int n ∧ y = .int d ∧ 0 < d ∧ gd n d = 1 := by
  cases x with
  | int n =>
    cases y with
    | int d =>
      have h' : (decide (0 < d) && decide (gd n d = 1)) = true := h
      obtain ⟨h1, h2⟩ := Bool.and_eq_true_iff.mp h'
      exact ⟨n, d, rfl, rfl, of_decide_eq_true h1, of_decide_eq_true h2⟩
    | _ => cases h
  | _ => cases y <;> cases h
end Lc
namespace Lc
open PySem PySem.Spec PyProof.Rows L2
/-! ## A word behind an expression: what follows is shown once -/
def tMid (te : TE) : TE := fun σ H Q => ∃ M : V → Hp → Prop, te σ H M ∧ ∀ v H', M v H' → Q v H'
theorem pe_mid {X : Cx} {e : Expr} {te : TE} (h : PE X e te) : PE X e (tMid te) := by
  refine ⟨fun pins s σ H Q I hq => ?_⟩
  obtain ⟨M, h1, h2⟩ := hq
  exact thn (h.run pins s σ H M I h1) fun u s1 ⟨v, H1, I1, r, q⟩ => ⟨v, H1, I1, r, h2 v H1 q⟩
end Lc
set_option Elab.async false
set_option linter.all false
set_option maxRecDepth 100000
set_option maxHeartbeats 4000000
namespace Lc
open PySem PySem.Spec PyProof.Rows L2
/-! ## enumerate(v), v whatever begins; for .., .. in enumerate(tuple) -/
def itB (h : Heap) (o : Obj) : Heap := (h.push o).push { cls := .type "enumerate", data := .fields #[.none, .bool false, .ref h.objs.size, rawInt 0, .none, .none] }
theorem meets_enum1 {v : Value} {o : Obj} {H : Heap → Prop} (B : Begins v o H) :
    Meets (Builtin.«enumerate.__new__» ⟨[.type "enumerate", v], []⟩) (fun _ R s => H s.heap ∧ R (.ok (.ret (.ref (s.heap.push o).objs.size))) { s with heap := itB s.heap o }) :=
  .of_wp fun prog w A R s h => by
    obtain ⟨hp, g, d, tk, os⟩ := s
    obtain ⟨h1, h⟩ := h
    have hsub := sub_enumerate
    have it1 : ∀ {A' : Around} {E : Value → Shared → Prop} {Q : Value → Shared → Prop}, Q (.ref hp.objs.size) ⟨hp.push o, g, d, tk, os⟩ → wpAny (model prog w) A' (pyIter v) Q E ⟨hp, g, d, tk, os⟩ := fun q => B.iter prog w _ _ ⟨hp, g, d, tk, os⟩ _ h1 q
    wp_walk using it1
    refine wpAny_stack_any fun st => wpAny_pure ?_
    split
    · rename_i c _ _ _ _ _
      cases (c == Value.type "enumerate") <;> (wp_walk using it1; exact ⟨_, rfl, h⟩)
    · wp_walk using it1
      exact ⟨_, rfl, h⟩
theorem call_enum1 {prog : Program} {w : World} {A : Around} {E : Value → Shared → Prop} {s : Shared} {v : Value} {o : Obj} {H : Heap → Prop} {Q : Value → Shared → Prop} (B : Begins v o H) (h1 : H s.heap)
    (h : IsEnum (itB s.heap o) (s.heap.objs.size + 1) s.heap.objs.size 0 .none → (itB s.heap o).get? s.heap.objs.size = some o → (∀ b u, s.heap.get? b = some u → (itB s.heap o).get? b = some u) → Q (.ref (s.heap.objs.size + 1)) { s with heap := itB s.heap o }) :
    wpAny (model prog w) A (call (.type "enumerate") [v]) Q E s := by
  have sz : (s.heap.push o).objs.size = s.heap.objs.size + 1 := Heap.size_push ..
  have en : IsEnum (itB s.heap o) (s.heap.objs.size + 1) s.heap.objs.size 0 .none := by
    have z := Heap.get?_push_size (s.heap.push o) (o := { cls := .type "enumerate", data := .fields #[.none, .bool false, .ref s.heap.objs.size, rawInt 0, .none, .none] }) rfl
    rw [sz] at z
    exact z
  refine callType_new F.called_enumerate (by decide) (F.typeCall_enumerate_1 _) (F.newCall_enumerate_1 _) (fun obj => F.args_object_init_2 obj _) F.entry_enumerate_new (meets_enum1 B) ⟨h1, ?_⟩
  show _ ∧ _
  rw [sz]
  exact ⟨⟨_, en, rfl⟩, h en (Heap.get?_push_of_some _ (Heap.get?_push_size _ B.free)) fun b u e => Heap.get?_push_of_some _ (Heap.get?_push_of_some _ e)⟩
/-- the tuple at a, each item in a new pair with its number -/
def IteT (K : PySem.W.Frag) (a : Addr) : It where
  go := fun i H => ∃ (xs : List V) (x : V), SqT K H a xs ∧ xs[i]? = some x
  yld := fun i H v H' => ∃ (q : Addr) (x : V), v = .ref q ∧ H q = none ∧ H' = upd H q (.tup [.int (i : Nat), x]) ∧ ∀ xs, SqT K H a xs → xs[i]? = some x
  stop := fun i H => ∃ xs : List V, SqT K H a xs ∧ xs.length = i
structure EnT (e it a : Addr) (i : Nat) (h : Heap) : Prop where
  en : ∃ old, IsEnum h e it ((i : Nat) : Int) old
  ti : h.IsTupleIter it a i
  n1 : e ≠ it
  n2 : a ≠ it
  n3 : a ≠ e
theorem turn_enT {P : Program} {w : World} {K : PySem.W.Frag} {elts : List Expr} {kk : Nat} {tpos : Pos} (a e it : Addr) : Turn P w K (.Tuple elts kk tpos) (IteT K a) [e, it] e (EnT e it a) where
  mem := List.mem_cons_self
  obj := fun i h st b hb => by
    rcases List.mem_cons.mp hb with rfl | hb
    · obtain ⟨old, he⟩ := st.en
      exact ⟨_, he, fun v q => nomatch q⟩
    · obtain rfl := List.mem_singleton.mp hb
      obtain ⟨o, ho, _, hd⟩ := st.ti
      exact ⟨o, ho, fun v q => by rw [hd] at q; cases q⟩
  keep := fun i h h' st k => by
    obtain ⟨old, he⟩ := st.en
    obtain ⟨o, ho, r⟩ := st.ti
    exact ⟨⟨old, k e List.mem_cons_self _ he⟩, ⟨o, k it (by simp) o ho, r⟩, st.n1, st.n2, st.n3⟩
  item := by
    intro X hP hw hK hc i pins s σ H E I hf st hg
    subst hP hw hK
    obtain ⟨xs, x, hq, hx⟩ := hg
    obtain ⟨its, rv, tp, _⟩ := I.tuple hq
    obtain ⟨u, hu, ru⟩ := rv.get hx
    obtain ⟨old, he⟩ := st.en
    have hu' : its.toArray[i]? = some u := by simpa using hu
    have li : i < its.toArray.size := (Array.getElem?_eq_some_iff.mp hu').1
    refine wpAny_pyNext_enum_itemD (Draws.tuple (A := X.A.in1) (I.ok.hd hc) it a st.n2 its.toArray) he ⟨st.ti, tp⟩ li st.n1 (by simp [st.n1, Ne.symm st.n3]) fun y h' tk hy ho hs hT hz hk => ?_
    obtain rfl : u = y := Option.some.inj (hu'.symm.trans hy)
    have le : e < s.heap.objs.size := Heap.lt_size he
    have lt : it < s.heap.objs.size := by obtain ⟨_, q, _⟩ := st.ti; exact Heap.lt_size q
    refine ⟨_, rfl, wpAny_letOwnedTupleGo_enum (s := { s with heap := h', toks := tk + 1 }) ho fun h2 he2 sb => ?_⟩
    have pair : h2.get? s.heap.objs.size = some { cls := .type "tuple", data := .seq #[.int i tk, u] } := (sb.2 _ (Nat.ne_of_gt le)).trans hT
    have I2 : Inv X pins σ (upd H s.heap.objs.size (.tup [.int (i : Nat), x])) { s with heap := h2, toks := tk + 1 } := by
      refine I.turnedNew (ch := [e, it]) (fun b ob hb q => ?_) hf (Nat.le_refl _) ⟨by show 2 ≤ sizeLine; decide, [.int i tk, u], .cons ⟨_, rfl⟩ (.cons ru .nil), ⟨_, pair, rfl, _, rfl⟩⟩
      have nb : b ≠ e ∧ b ≠ it := by simpa using hb
      exact (sb.2 b nb.1).trans (hk b ob nb.1 nb.2 q)
    refine ⟨.ref s.heap.objs.size, _, I2, rfl, ⟨_, x, rfl, I.hok.fresh (Nat.le_refl _), rfl, fun ys hy => by rw [I.tuple_inj hy hq]; exact hx⟩, ⟨⟨u, ?_⟩, ?_, st.n1, st.n2, st.n3⟩, fun b hb => ?_⟩
    · rw [show ((i + 1 : Nat) : Int) = (i : Int) + 1 by omega]
      exact he2
    · obtain ⟨o, q, r⟩ := hs.1
      exact ⟨o, (sb.2 it (Ne.symm st.n1)).trans q, r⟩
    · have lb : b < s.heap.objs.size := by
        rcases List.mem_cons.mp hb with rfl | hb
        · exact le
        · rw [List.mem_singleton.mp hb]; exact lt
      rw [upd_ne (Nat.ne_of_lt lb)]
      exact (hf b hb).1
  done := by
    intro X hP hw hK hc i pins s σ H E I hf st hg
    subst hP hw hK
    obtain ⟨xs, hq, hx⟩ := hg
    obtain ⟨its, rv, tp, _⟩ := I.tuple hq
    obtain ⟨old, he⟩ := st.en
    have hl : i = its.toArray.size := by rw [List.size_toArray, ← rv.length]; exact hx.symm
    obtain ⟨f0, f1, _, f3, f4, f5⟩ := hf it (by simp)
    subst hl
    exact wpAny_pyNext_enum_endD (Draws.tuple (A := X.A.in1) (I.ok.hd hc) it a st.n2 its.toArray) he ⟨st.ti, tp⟩ fun h' eb => ⟨rfl, I.turned (t' := s.toks) (fun b o hb q => eb b o hb q) f0 f1 f3 f4 f5⟩
  self := fun A i s Q E st h => by
    obtain ⟨old, he⟩ := st.en
    exact wpAny_pyIter_enum he h
def iEnT (K : PySem.W.Frag) (ta : TA) : TI := fun σ H R => ta σ H fun vs H1 => ∃ a xs, vs = [.ref a] ∧ SqT K H1 a xs ∧ R (IteT K a) H1
theorem pi_enT {X : Cx} {e : Expr} {ta : TA} {p pos tpos : Pos} {elts : List Expr} {kk : Nat} (hg : Gl X "enumerate") (hm : X.mg "enumerate" = none) (ha : PA X [e] ta) (hs : starEach [e] X.env = [(false, eval e X.env)] := by rfl) :
    PI X (.Tuple elts kk tpos) (.Call (.Name "enumerate" p) [e] [] pos) (iEnT X.K ta) := by
  refine ⟨fun pins s σ H R I h => Call_ (ld_blt I hg hm boot_enumerate (PyProof.Rows.callWith_type1 (thn (ha.run pos pins s σ H _ I h) fun us s1 ⟨vs, H1, I1, r1, q1⟩ => ?_) hs rfl))⟩
  obtain ⟨a, xs, rfl, hq, q⟩ := q1
  obtain ⟨u, rfl, ru⟩ := vals1 r1
  cases ru
  obtain ⟨its, rv, tp, _⟩ := I1.tuple hq
  have la : a < s1.heap.objs.size := by obtain ⟨_, z, _⟩ := tp; exact Heap.lt_size z
  refine call_enum1 (begins_tuple a its.toArray) tp fun en ito kp => wpAny_pyIter_enum en ?_
  refine ⟨_, [s1.heap.objs.size + 1, s1.heap.objs.size], _, _, H1, rfl, I1.kept (t' := s1.toks) kp, turn_enT a (s1.heap.objs.size + 1) s1.heap.objs.size, ⟨⟨.none, en⟩, ⟨_, ito, rfl, rfl⟩, Nat.succ_ne_self _, Nat.ne_of_lt la, Nat.ne_of_lt (Nat.lt_succ_of_lt la)⟩, fun b hb => ?_, q⟩
  have le : s1.heap.objs.size ≤ b := by
    rcases List.mem_cons.mp hb with rfl | hb
    · exact Nat.le_add_right _ _
    · rw [List.mem_singleton.mp hb]; exact Nat.le_refl _
  exact I1.fpOk le (I1.hok.fresh le)
theorem walk_enT {K : PySem.W.Frag} {a : Addr} {xs : List V} : Walk (IteT K a) xs.length (fun H => SqT K H a xs) (YPair (fun i => some (.int (i : Nat))) (fun i => xs[i]?)) := by
  refine ⟨fun i _ hi q => ⟨xs, xs[i], q, by simp [hi]⟩, fun _ q => ⟨xs, q, rfl⟩, fun i H v H' _ q y => ?_⟩
  obtain ⟨c, x, h1, h2, h3, h4⟩ := y
  exact ⟨c, .int (i : Nat), x, h1, h2, h3, rfl, h4 xs q⟩
end Lc
set_option Elab.async false
set_option linter.all false
set_option maxRecDepth 100000
set_option maxHeartbeats 4000000
namespace Lc
open PySem PySem.Spec PyProof.Rows L2
/-! ## Deep data that stands in the abstract heap -/
mutual
inductive Dh (H : Hp) : V → PyData → Prop
  | non : Dh H .non .none
  | bl (b : Bool) : Dh H (.bl b) (.bool b)
  | int (i : Int) : Dh H (.int i) (.int i)
  | str (x : Str) : Dh H (.str x) (.str x)
  | tup {a : Addr} {xs : List V} {ds : List PyData} (e : H a = some (.tup xs)) (h : DhAll H xs ds) : Dh H (.ref a) (.tuple ds)
  | lst {a : Addr} {xs : List V} {ds : List PyData} (e : H a = some (.lst xs)) (h : DhAll H xs ds) : Dh H (.ref a) (.list ds)
  | dct {a : Addr} (e : H a = some (.dK [])) : Dh H (.ref a) (.dict [])
inductive DhAll (H : Hp) : List V → List PyData → Prop
  | nil : DhAll H [] []
  | cons {v : V} {vs : List V} {d : PyData} {ds : List PyData} (h : Dh H v d) (r : DhAll H vs ds) : DhAll H (v :: vs) (d :: ds)
end
mutual
theorem Dh.same {H H' : Hp} (s : Same H H') : ∀ {v : V} {d : PyData}, Dh H v d → Dh H' v d
  | _, _, .non => .non
  | _, _, .bl b => .bl b
  | _, _, .int i => .int i
  | _, _, .str x => .str x
  | _, _, .tup e h => .tup (s _ _ e) (DhAll.same s h)
  | _, _, .lst e h => .lst (s _ _ e) (DhAll.same s h)
  | _, _, .dct e => .dct (s _ _ e)
theorem DhAll.same {H H' : Hp} (s : Same H H') : ∀ {vs : List V} {ds : List PyData}, DhAll H vs ds → DhAll H' vs ds
  | _, _, .nil => .nil
  | _, _, .cons h r => .cons (Dh.same s h) (DhAll.same s r)
end
def tyD : PyData → String
  | .none => "NoneType"
  | .bool _ => "bool"
  | .int _ => "int"
  | .str _ => "str"
  | .tuple _ => "tuple"
  | .list _ => "list"
  | .dict _ => "dict"
theorem Dh.ty {H : Hp} {v : V} {d : PyData} (h : Dh H v d) : TyN H v (tyD d) := by
  cases h with
  | non => exact .non
  | bl b => exact .bl b
  | int i => exact .int i
  | str x => exact .str x
  | tup e _ => exact .tup e
  | lst e _ => exact .lst e
  | dct e => exact .dct e
theorem DhAll.len {H : Hp} {vs : List V} {ds : List PyData} (h : DhAll H vs ds) : vs.length = ds.length := by
  match h with
  | .nil => rfl
  | .cons _ r => rw [List.length_cons, List.length_cons, DhAll.len r]
theorem DhAll.get {H : Hp} : ∀ {vs : List V} {ds : List PyData}, DhAll H vs ds → ∀ (i : Nat) (v : V), vs[i]? = some v → ∃ d, ds[i]? = some d ∧ Dh H v d
  | _, _, .nil, i, v, e => by simp at e
  | _, _, .cons h r, 0, v, e => by
    obtain rfl := Option.some.inj e
    exact ⟨_, rfl, h⟩
  | _, _, .cons h r, i + 1, v, e => by
    obtain ⟨d, e1, e2⟩ := DhAll.get r i v (by simpa using e)
    exact ⟨d, by simpa using e1, e2⟩
theorem DhAll.append {H : Hp} : ∀ {vs : List V} {ds : List PyData} {us : List V} {es : List PyData}, DhAll H vs ds → DhAll H us es → DhAll H (vs ++ us) (ds ++ es)
  | _, _, _, _, .nil, r => r
  | _, _, _, _, .cons h t, r => .cons h (DhAll.append t r)
mutual
theorem Dh.dp {K : PySem.W.Frag} {H : Hp} : ∀ {v : V} {d : PyData}, Dh H v d → d.hasDict = false → Dp K H v d
  | _, _, .non, _ => .non
  | _, _, .bl b, _ => .bl b
  | _, _, .int i, _ => .int i
  | _, _, .str x, _ => .str x
  | _, _, .tup e h, n => .tup (SqT.of e) (DhAll.dp h (by simpa [PyData.hasDict] using n))
  | _, _, .lst e h, n => .lst (SqL.of e) (DhAll.dp h (by simpa [PyData.hasDict] using n))
  | _, _, .dct e, n => by simp [PyData.hasDict] at n
theorem DhAll.dp {K : PySem.W.Frag} {H : Hp} : ∀ {vs : List V} {ds : List PyData}, DhAll H vs ds → PyData.hasDictAll ds = false → DpAll K H vs ds
  | _, _, .nil, _ => .nil
  | _, _, .cons h r, n => by
    rw [PyData.hasDictAll, Bool.or_eq_false_iff] at n
    exact .cons (Dh.dp h n.1) (DhAll.dp r n.2)
end
theorem Dh.shw {K : PySem.W.Frag} {H : Hp} {v : V} {d : PyData} (h : Dh H v d) (h1 : d.showable = true) (h2 : d.hasDict = false) (h3 : d.depth ≤ 60) (h4 : d.shown.length ≤ sizeLine) : Shw K H v d.shown := .data (h.dp h2) h1 h2 h3 h4
/-! ## How large it is when it is shown -/
structure Tm (k n : Nat) (d : PyData) : Prop where
  sh : d.showable = true
  nd : d.hasDict = false
  dz : d.depth ≤ k
  ln : d.shown.length ≤ n
theorem Tm.mono {k n k' n' : Nat} {d : PyData} (h : Tm k n d) (a : k ≤ k') (b : n ≤ n') : Tm k' n' d := ⟨h.sh, h.nd, Nat.le_trans h.dz a, Nat.le_trans h.ln b⟩
theorem tm_fl {v : V} {d : PyData} {s : String} (h : Fl v d s) : Tm 0 20000 d := ⟨h.sh, h.nd, Nat.le_of_eq h.dz, h.ln⟩
theorem tm_all {k n : Nat} : ∀ {ds : List PyData}, (∀ d ∈ ds, Tm k n d) → PyData.showableAll ds = true ∧ PyData.hasDictAll ds = false ∧ PyData.depthAll ds ≤ k ∧ ((PyData.shownAll ds).map (·.length)).sum ≤ n * ds.length ∧ (PyData.shownAll ds).length = ds.length
  | [], _ => ⟨rfl, rfl, Nat.zero_le _, by simp [PyData.shownAll], rfl⟩
  | d :: ds, h => by
    obtain ⟨h1, h2, h3, h4, h5⟩ := tm_all (ds := ds) fun x hx => h x (List.mem_cons_of_mem _ hx)
    have hd := h d List.mem_cons_self
    refine ⟨?_, ?_, ?_, ?_, ?_⟩
    · simp [PyData.showableAll, hd.sh, h1]
    · simp [PyData.hasDictAll, hd.nd, h2]
    · simp only [PyData.depthAll]
      have := hd.dz
      omega
    · simp only [PyData.shownAll, List.map_cons, List.sum_cons, List.length_cons]
      have := hd.ln
      rw [Nat.mul_succ]
      omega
    · simp [PyData.shownAll, h5]
theorem tm_tup {k n : Nat} {ds : List PyData} (h : ∀ d ∈ ds, Tm k n d) : Tm (k + 1) (n * ds.length + 2 * ds.length + 4) (.tuple ds) := by
  obtain ⟨h1, h2, h3, h4, h5⟩ := tm_all h
  refine ⟨by simpa [PyData.showable] using h1, by simpa [PyData.hasDict] using h2, ?_, ?_⟩
  · simp only [PyData.depth]
    omega
  · have := tupleText_len_le (PyData.shownAll ds)
    simp only [PyData.shown]
    omega
theorem tm_lst {k n : Nat} {ds : List PyData} (h : ∀ d ∈ ds, Tm k n d) : Tm (k + 1) (n * ds.length + 2 * ds.length + 4) (.list ds) := by
  obtain ⟨h1, h2, h3, h4, h5⟩ := tm_all h
  refine ⟨by simpa [PyData.showable] using h1, by simpa [PyData.hasDict] using h2, ?_, ?_⟩
  · simp only [PyData.depth]
    omega
  · have := listText_len_le (PyData.shownAll ds)
    simp only [PyData.shown]
    omega
theorem Dh.shwT {K : PySem.W.Frag} {H : Hp} {v : V} {d : PyData} {k n : Nat} (h : Dh H v d) (t : Tm k n d) (a : k ≤ 60) (b : n ≤ 3000000) : Shw K H v d.shown := h.shw t.sh t.nd (Nat.le_trans t.dz a) (Nat.le_trans t.ln (Nat.le_trans b (by decide)))
end Lc
set_option Elab.async false
set_option linter.all false
set_option maxRecDepth 100000
set_option maxHeartbeats 4000000
namespace Lc
open PySem PySem.Spec PyProof.Rows L2
/-! ## (x, y) * 0, (x, y) * 1 -/
theorem tuple_mul1 (l : Addr) (items : Array Value) (n : Nat) (dd : Option Addr) (sl : Array (Option Value)) (u : Tok) :
    Meets (Builtin.«tuple.__mul__» ⟨[.ref l, .int 1 u], []⟩) (fun _ R s => s.heap.get? l = some { cls := .type "tuple", dict := dd, data := .seq items n, slots := sl } ∧ R (.ok (.ret (Value.ref l))) s) :=
  .of_wp fun prog w A R s h => by
    obtain ⟨hp, g, d, tk, os⟩ := s
    obtain ⟨hl, h⟩ := h
    have f1 := AutoSeq1.idx_int
    have c0 : (decide ((1 : Int) < -(2 ^ 63)) || decide ((1 : Int) ≥ 2 ^ 63)) = false := by decide
    have c1 : (items.isEmpty || (1 : Int) == 1) = true := by simp
    wp_walk using wpAny_loadPart' hl
    repeat (first
      | (refine wpAny_ite_false (decide_eq_false (by rw [c0]; exact Bool.false_ne_true)) ?_; wp_walk using wpAny_loadPart' hl)
      | (refine wpAny_ite_true (decide_eq_true c1) ?_; wp_walk using wpAny_loadPart' hl))
    exact ⟨_, rfl, h⟩
theorem tuple_mul0 (l : Addr) (items : Array Value) (n : Nat) (dd : Option Addr) (sl : Array (Option Value)) (u : Tok) (hne : items.isEmpty = false) :
    Meets (Builtin.«tuple.__mul__» ⟨[.ref l, .int 0 u], []⟩) (fun _ R s => s.heap.get? l = some { cls := .type "tuple", dict := dd, data := .seq items n, slots := sl } ∧
      R (.ok (.ret (Value.ref s.heap.objs.size))) { s with heap := s.heap.push { cls := Value.type "tuple", data := Data.seq #[] } }) :=
  .of_wp fun prog w A R s h => by
    obtain ⟨hp, g, d, tk, os⟩ := s
    obtain ⟨hl, h⟩ := h
    have f1 := AutoSeq1.idx_int
    have c0 : (decide ((0 : Int) < -(2 ^ 63)) || decide ((0 : Int) ≥ 2 ^ 63)) = false := by decide
    have c1 : (items.isEmpty || (0 : Int) == 1) = false := by rw [hne]; rfl
    have c2 : (decide ((0 : Int) ≤ 0) || items.isEmpty) = true := by simp
    wp_walk using wpAny_loadPart' hl
    repeat (first
      | (refine wpAny_ite_false (decide_eq_false (by rw [c0]; exact Bool.false_ne_true)) ?_; wp_walk using wpAny_loadPart' hl)
      | (refine wpAny_ite_false (decide_eq_false (by rw [c1]; exact Bool.false_ne_true)) ?_; wp_walk using wpAny_loadPart' hl)
      | (refine wpAny_ite_true (decide_eq_true c2) ?_; wp_walk using wpAny_loadPart' hl))
    exact ⟨_, rfl, h⟩
def rRep01 (K : PySem.W.Frag) : R2 := fun x y H Q => ∃ l k xs, x = .ref l ∧ y = .int k ∧ SqT K H l xs ∧ xs ≠ [] ∧ ((k = 1 ∧ Q (.ref l) H) ∨ (k = 0 ∧ ∀ p, H p = none → Q (.ref p) (upd H p (.tup []))))
section
variable {X : Cx}
theorem op_rep01 : OpR X (binaryOp .Mult) (rRep01 X.K) := by
  intro pins s σ H x y v u Q I rx ry h
  obtain ⟨l, k, xs, rfl, rfl, hT, hne, h⟩ := h
  cases rx
  obtain ⟨t, rfl⟩ := ry
  obtain ⟨its, r, ⟨⟨cls, dd, data, sl⟩, ho, hc, n, hd⟩, hs⟩ := I.tuple hT
  simp only at hc hd
  subst hc hd
  have hle : its.length = xs.length := r.length.symm
  have hn : its ≠ [] := fun e => hne (by
    rw [e] at hle
    exact List.eq_nil_of_length_eq_zero hle.symm)
  have hi : its.toArray.isEmpty = false := by
    cases its with
    | nil => exact absurd rfl hn
    | cons a b => rfl
  rcases h with ⟨rfl, q⟩ | ⟨rfl, q⟩
  · exact wpAny_binaryOp_repeat_ref (T := "tuple") (U := "int") (by decide) ⟨_, ho, rfl⟩ (fun s' => typeIs_int s' 1 t) noFill_tuple_mul F.fills_int_mul F.slot_int_rmul repeat_tuple F.slot_int_index.lookup
      (call_meets F.slot_int_rmul (typeIs_int s 1 t) F.entry_int_rmul (F.args_int_rmul_2 _ _) (int_rmul_tuple 1 t l its.toArray n dd sl)
        ⟨ho, rfl, ⟨_, ho, rfl⟩, call_meets F.slot_tuple_mul ⟨_, ho, rfl⟩ F.entry_tuple_mul (F.args_tuple_mul_2 _ _) (tuple_mul1 l its.toArray n dd sl t) ⟨ho, .ref l, H, I, rfl, q⟩⟩)
  · refine wpAny_binaryOp_repeat_ref (T := "tuple") (U := "int") (by decide) ⟨_, ho, rfl⟩ (fun s' => typeIs_int s' 0 t) noFill_tuple_mul F.fills_int_mul F.slot_int_rmul repeat_tuple F.slot_int_index.lookup
      (call_meets F.slot_int_rmul (typeIs_int s 0 t) F.entry_int_rmul (F.args_int_rmul_2 _ _) (int_rmul_tuple 0 t l its.toArray n dd sl)
        ⟨ho, rfl, ⟨_, ho, rfl⟩, call_meets F.slot_tuple_mul ⟨_, ho, rfl⟩ F.entry_tuple_mul (F.args_tuple_mul_2 _ _) (tuple_mul0 l its.toArray n dd sl t hi) ⟨ho, ?_⟩⟩)
    refine ⟨.ref s.heap.objs.size, _, I.laid (t' := s.toks) (o := .tup []) (fun b ob q => Heap.get?_push_of_some _ q) (Nat.le_refl _) ?_, rfl, q _ (I.hok.fresh (Nat.le_refl _))⟩
    exact ⟨Nat.zero_le _, [], .nil, IsTup.new _ _⟩
/-! ## What is never reached -/
theorem pss_dead {b : List Stmt} : PSs X b (fun _ _ _ => False) := ⟨fun _ _ _ _ _ _ h => h.elim⟩
theorem pg_dead {e : Expr} : PG X e (fun _ _ _ _ => False) := ⟨fun _ _ _ _ _ _ _ _ _ h => h.elim⟩
/-! ## C(e, ..) in a try -/
def tMakeS (C : Addr) (sp : Sp) (E : L2.St → XK) (t : TA) : TE := fun σ H Q => t σ H fun vs H1 => ∀ x dx, H1 x = none → H1 dx = none → dx ≠ x →
  sp (.ref x :: vs) (upd (upd H1 dx (.own x)) x (.ins C dx [])) (fun v H2 => v = .non ∧ Q (.ref x) H2) (E σ)
theorem pe_makeS {CX : CXT} {k : Nat} {C f : Addr} {fd : FuncData} {ps : List Str} {sp : Sp} {E : L2.St → XK} {x : Str} {p pos : Pos} {e : Expr} {es : List Expr} {t : TA}
    (M : Mk X.K C f) (F : FnOk X.prog X.w X.K X.mg X.base CX k f fd ps sp) (hr : Room (k + 1) X.A) (hg : Gl X x) (hm : X.mg x = some (.ref C)) (hb : Binds X.K fd ps []) (hx : ∀ σ, PassesAt CX X σ (E σ))
    (ha : PA X (e :: es) t) (hdb : (x == ("__debug__" : Str)) = false := by decide) (he : starEach (e :: es) X.env = (false, eval e X.env) :: starEach es X.env := by rfl) (hpl : (backTo pos (starEach es X.env)).any (·.1) = false := by rfl) :
    PE X (.Call (.Name x p) (e :: es) [] pos) (tMakeS C sp E t) := by
  refine ⟨fun pins s0 σ H0 Q I0 h0 => ?_⟩
  refine wpAny_Call_Name_kw (ld_glob I0 hg hm ?_ hdb)
  refine PySem.W.callWith_K (h₀ := X.base) I0.ok.mod.kin M.kp (thn (ha.run pos pins s0 σ H0 _ I0 h0) fun us s ⟨vs, H, I, r, h⟩ => ⟨I.kIn, ?_⟩) he hpl
  have hq := h (s.heap.objs.size + 1) s.heap.objs.size (I.hok.fresh (Nat.le_succ _)) (I.hok.fresh (Nat.le_refl _)) (Nat.ne_of_lt (Nat.lt_succ_self _))
  have I2 := Inv.made (C := C) I
  have r2 : Vals (V.ref (s.heap.objs.size + 1) :: vs) (Value.ref (s.heap.objs.size + 1) :: us) := .cons rfl r
  have hl : (Value.ref (s.heap.objs.size + 1) :: us).length = ps.length := by
    have e := r2.length
    rw [F.len _ _ _ _ hq] at e
    exact e.symm
  refine wpAny_call (make_map (f := f) I.kIn M.makes M.init (beq_iff_eq.mp M.fn) (codeAny_mono (F.run _ X.stack _ _ ⟨Value.ref (s.heap.objs.size + 1) :: us, []⟩ (Value.ref (s.heap.objs.size + 1) :: us) _ _ (E σ) (hr.make C us [])
    (I2.env0.make C us []) (by
      have z := hb _ (Value.ref (s.heap.objs.size + 1) :: us) I2.kIn (by rw [List.append_nil]; exact hl)
      rw [List.append_nil] at z
      exact z) r2 hq) fun r s' hq' => ?_))
  cases r with
  | error e => exact hx σ pins _ _ e s' I2 hq'
  | ok fl =>
    cases fl with
    | ret u =>
      obtain ⟨v, H', I3, rv, ev, q3⟩ := I2.after hq'
      subst ev
      exact ⟨rv, ⟨V.ref (s.heap.objs.size + 1), H', I3, rfl, q3⟩⟩
    | next => exact False.elim hq'
    | brk => exact False.elim hq'
    | cont => exact False.elim hq'
/-! ## len(o), o of an own class -/
structure LenC (K : PySem.W.Frag) (C f : Addr) : Prop where
  at_ : PySem.W.findIn K (.ref C) "__len__" = some (some (.ref f))
  fn : PySem.W.isFn K (.ref f) = true
def rLenI (C : Addr) (sp : Sp) : List V → Hp → VK → Prop := fun xs H Q => ∃ a dx fs, xs = [.ref a] ∧ H a = some (.ins C dx fs) ∧ sp [.ref a] H (fun v H' => ∃ n : Int, v = .int n ∧ 0 ≤ n ∧ n < 2 ^ 63 ∧ Q (.int n) H') E0
theorem call_lenI {k : Nat} {C f : Addr} {fd : FuncData} {ps : List Str} {sp : Sp} (c : LenC X.K C f) (F : FnOk X.prog X.w X.K X.mg X.base CX0 k f fd ps sp) (hr : Room (k + 1) X.A) (hb : Binds X.K fd ps []) : CallR X (.builtin "len") (rLenI C sp) := by
  intro pins s σ H xs us Q I rv h
  obtain ⟨a, dx, fs, rfl, ha, hsp⟩ := h
  obtain ⟨u, rfl, ru⟩ := vals1 rv
  cases ru
  obtain ⟨mA, J, _⟩ := ins_get I.hok ha
  obtain ⟨od, J, _⟩ := J.look
  refine Calls.call_function_entry kind_len plain_len entry_len (args_len1 _) ?_
  unfold Builtin.«len»
  refine wpAny_bind (m := oneArg "len" _) (wpAny_pure ?_)
  refine wpAny_bind (m := callSpecial? (.ref a) (Str.ofString "__len__")) (PySem.W.special_fn I.kIn J c.at_ (beq_iff_eq.mp c.fn) ?_)
  have e0 : Env0 X.prog X.w X.K X.mg X.base X.A.in1 X.stack s H := by
    have e := I.env0
    exact ⟨e.frames, e.mod, e.bs, e.bsz, e.funs, e.frf, e.hok, e.bare⟩
  have hl := F.len _ _ _ _ hsp
  have r2 : Vals [V.ref a] [Value.ref a] := .cons rfl .nil
  refine wpAny_call (codeAny_mono (F.run X.A.in1 X.stack s H ⟨[.ref a], []⟩ [.ref a] [.ref a] _ _ hr.in1 e0 (by
    have := hb s [.ref a] I.kIn (by simpa using hl)
    simpa using this) r2 hsp) fun r s' hq => ?_)
  cases r with
  | error e => exact hq.elim
  | ok fl =>
    cases fl with
    | ret u =>
      obtain ⟨v, H', I3, rv, n, rfl, h0, h1, q3⟩ := I.after hq
      obtain ⟨t, rfl⟩ := rv
      refine wpAny_bind (wpAny_holding (wpAny_pure ?_))
      refine wpAny_bind (wpAny_letGo ?_)
      show wpAny _ _ (if n < 0 then _ else _) _ _ _
      rw [if_neg (by omega)]
      show wpAny _ _ (if n ≥ 2 ^ 63 then _ else _) _ _ _
      rw [if_neg (by omega)]
      exact wpAny_bind (wpAny_mkInt (wpAny_pure ⟨_, rfl, .int n, H', I3.tok _, ⟨_, rfl⟩, q3⟩))
    | next => exact False.elim hq
    | brk => exact False.elim hq
    | cont => exact False.elim hq
end
end Lc
set_option Elab.async false
set_option linter.all false
set_option maxRecDepth 100000
set_option maxHeartbeats 4000000
namespace K05
open PySem PySem.Spec PyProof.Rows L2 Lc
def top (i : Nat) : Stmt := PySem.Challenge.pw_liveclaims_k05_columns_are_checked.main.body.getD i (.Pass ⟨0, 0, 0, 0⟩)
abbrev sTape : Stmt := top 23
section
variable {P : Program} {w : World} {K : PySem.W.Frag} {mg : Str → Option Value} {base : Heap} {f : Addr} {fd : FuncData}
theorem scTape : FnScope ["_law_script"] ["_law_script"] (defScope sTape) := ⟨rfl, rfl, rfl, by decide +kernel, rfl, by decide +kernel, by decide +kernel⟩
theorem ok_tape (F : Fun K "_law_tape" "_law_tape" sTape f fd) (T : Bt mg) : FnOk P w K mg base CX0 1 f fd ["_law_script"] (spTape K) := by
  refine F.ok scTape (fun vs H Q E h => ?_) (fun cdv A outer s H vs Q E hr h => ?_)
  · obtain ⟨a, ns, rfl, _⟩ := h
    rfl
  · obtain ⟨a, ns, rfl, hS, k⟩ := h
    refine ⟨_, pss_one (ps_ret (pe_lst (pa_cons (pe_callTy call_list_of (by rfl) T.list boot_list (pa_cons (pe_slice sl_list (pv 0) po_none (po_some pe_int)) pa_nil)) (pa_cons pe_int (pa_cons pe_int (pa_cons pe_int pa_nil)))))), ?_⟩
    obtain ⟨ms, e⟩ := cut_ints ns none (some 63)
    refine ⟨_, rfl, _, rfl, a, _, rfl, hS, fun p hp => ⟨p, _, rfl, .inl (SqL.of upd_same), fun l hl => ⟨by show 4 ≤ sizeLine; decide, fun t ht => ?_⟩⟩⟩
    have s1 : Same H (upd H p (.lst (cutV (ns.map V.int) none (some 63)))) := Same.upd hp
    have s2 := Same.upd (o := .lst (cutV (ns.map V.int) none (some 63))) hl
    have s3 := Same.upd (o := .lst [.ref l, .int 0, .int 0, .int 17]) ht
    refine k t _ ((s1.trans s2).trans s3) ((s1.trans s2).free ht) ⟨l, ms, 0, 0, 17, upd_same, ?_, by decide, by decide, by decide, by decide⟩
    rw [← e]
    exact s3 _ _ upd_same
end
abbrev sDraw : Stmt := top 24
section
variable {P : Program} {w : World} {K : PySem.W.Frag} {mg : Str → Option Value} {base : Heap} {f : Addr} {fd : FuncData}
theorem scDraw : FnScope ["_law_tape_here", "_law_many", "_law_digit", "_law_cell", "_law_near"] ["_law_tape_here", "_law_many"] (defScope sDraw) := ⟨rfl, rfl, rfl, by decide +kernel, rfl, by decide +kernel, by decide +kernel⟩
theorem ok_draw (F : Fun K "_law_draw" "_law_draw" sDraw f fd) (T : Bt mg) : FnOk P w K mg base CX0 1 f fd ["_law_tape_here", "_law_many"] spDrawL := by
  refine F.ok scDraw (fun vs H Q E h => ?_) (fun cdv A outer s H vs Q E hr h => ?_)
  · obtain ⟨t, l, m, rfl, _⟩ := h
    rfl
  · obtain ⟨t, l, m, rfl, ⟨ns, pos, rest, mix, ht, hl, p0, r0, m0, m1⟩, hm, hm2, k⟩ := h
    refine ⟨_, pss_cons (ps_if (pt_cmpR op_gt (pe_ix ix_list (pv 0) pe_int (fun _ _ => rfl)) pe_int (nomark _))
        (pss_cons (ps_set (i := 2) scDraw.nd rfl (Or.inl rfl) (pe_op op_mod (pe_ix ix_list (pv 0) pe_int (fun _ _ => rfl)) (pv 1)))
        (pss_cons (ps_asg (pe_op op_fdivW (pe_ix ix_list (pv 0) pe_int (fun _ _ => rfl)) (pv 1)) (pg_sub (pv 0) pe_int set_list)) (pss_one (ps_ret (pv 2))))) pss_nil)
      (pss_cons (ps_set (i := 3) scDraw.nd rfl (Or.inl rfl) pe_int)
      (Evl.pss_cut (ps_if (pt_cmpR op_lt (pe_ix ix_list (pv 0) pe_int (fun _ _ => rfl)) (pe_callB call_len_seq (by rfl) T.len PySem.boot_len (pa_cons (pe_ix ix_list (pv 0) pe_int (fun _ _ => rfl)) pa_nil)) (nomark _))
        (pss_one (ps_set (i := 3) scDraw.nd rfl (Or.inl rfl) (pe_ix ix_list (pe_ix ix_list (pv 0) pe_int (fun _ _ => rfl)) (pe_ix ix_list (pv 0) pe_int (fun _ _ => rfl)) (fun _ _ => rfl)))) pss_nil)
      (pss_cons (ps_asg (pe_op op_add (pe_ix ix_list (pv 0) pe_int (fun _ _ => rfl)) pe_int) (pg_sub (pv 0) pe_int set_list))
      (pss_cons (ps_if (pt_cmpR op_ge (pv 3) (pe_op op_pow pe_int pe_int) (nomark _))
        (pss_cons (ps_asg (pe_op op_fdivW (pv 3) (pv 1)) (pg_sub (pv 0) pe_int set_list)) (pss_one (ps_ret (pe_op op_mod (pv 3) (pv 1))))) pss_nil)
      (pss_cons (ps_set (i := 4) scDraw.nd rfl (Or.inl rfl) (pe_op op_add (pe_op op_add (pe_op op_mod (pv 3) pe_int) (pe_op op_mul pe_int (pe_ix ix_list (pv 0) pe_int (fun _ _ => rfl)))) pe_int))
      (pss_cons (ps_asg (pe_op op_mod (pe_op op_add (pe_op op_mul (pe_ix ix_list (pv 0) pe_int (fun _ _ => rfl)) pe_int) (pv 4)) pe_int) (pg_sub (pv 0) pe_int set_list))
      (pss_one (ps_ret (pe_op op_mod (pe_op op_mod (pe_op op_pow (pe_ix ix_list (pv 0) pe_int (fun _ _ => rfl)) pe_int) pe_int) (pv 1)))))))))), ?_⟩
    have nl := tape_ne ht hl
    have dv : ∀ c : Int, CDivW c m := fun c => ⟨hm, log_lt' hm2⟩
    have M0 : (0 : Int) < 2147483647 := by decide
    refine ⟨_, rfl, t, _, _, _, rfl, rfl, SqL.of ht, rfl, _, _, rfl, rfl, _, rfl, ?_⟩
    refine ite2 (fun z => ?_) (fun z => ?_)
    · have z' : 0 < rest := of_decide_eq_true z
      refine ⟨_, rfl, t, _, _, _, rfl, rfl, SqL.of ht, rfl, _, rfl, _, _, rfl, rfl, hm, ?_⟩
      refine ⟨_, rfl, t, _, _, _, rfl, rfl, SqL.of ht, rfl, _, rfl, _, _, rfl, rfl, dv _, _, rfl, t, _, _, 2, rfl, rfl, ht, rfl, ?_⟩
      refine ⟨_, rfl, ?_⟩
      refine k _ _ (Int.emod_nonneg _ (by omega)) (Int.emod_lt_of_pos _ hm) ⟨ns, pos, rest / m, mix, upd_same, by rw [upd_ne nl]; exact hl, p0, Int.ediv_nonneg r0 (by omega), m0, m1⟩ SameB.upd
    · refine ⟨fun σ' H' => ∃ c : Int, σ' = [some (.ref t), some (.int m), none, some (.int c), none] ∧ H' = H, ?_, ?_⟩
      · refine ⟨_, rfl, t, _, _, _, rfl, rfl, SqL.of ht, rfl, _, rfl, t, _, _, _, rfl, rfl, SqL.of ht, rfl, l, _, rfl, .inl (SqL.of hl), _, _, rfl, rfl, _, rfl, ?_⟩
        refine ite2 (fun y => ?_) (fun y => ?_)
        · have y' : pos < ((ns.map V.int).length : Int) := of_decide_eq_true y
          rw [List.length_map] at y'
          have g : (ns.map V.int)[pos.toNat]? = some (.int (ns[pos.toNat]'(by omega))) := by
            rw [List.getElem?_map, List.getElem?_eq_getElem (by omega : pos.toNat < ns.length)]
            rfl
          exact ⟨_, rfl, t, _, _, _, rfl, rfl, SqL.of ht, rfl, _, rfl, t, _, _, _, rfl, rfl, SqL.of ht, rfl, l, _, _, _, rfl, rfl, SqL.of hl, at_of (by omega) g, _, rfl, rfl⟩
        · exact ⟨0, rfl, rfl⟩
      · rintro σ' H' ⟨c, rfl, rfl⟩
        refine ⟨_, rfl, t, _, _, _, rfl, rfl, SqL.of ht, rfl, _, _, rfl, rfl, _, rfl, t, _, _, 1, rfl, rfl, ht, rfl, ?_⟩
        refine ⟨_, rfl, _, _, rfl, rfl, ⟨by decide, by decide, by decide⟩, _, _, rfl, rfl, _, rfl, ?_⟩
        refine ite2 (fun y => ?_) (fun y => ?_)
        · have y' : (10 : Int) ^ (18 : Int).toNat ≤ c := of_decide_eq_true y
          have c0 : 0 ≤ c := Int.le_trans (by decide) y'
          refine ⟨_, rfl, _, rfl, _, _, rfl, rfl, dv _, _, rfl, t, _, _, 2, rfl, rfl, upd_same, rfl, ?_⟩
          refine ⟨_, rfl, _, rfl, _, _, rfl, rfl, hm, ?_⟩
          exact k _ _ (Int.emod_nonneg _ (by omega)) (Int.emod_lt_of_pos _ hm) ⟨ns, pos + 1, c / m, mix, upd_same, by rw [upd_ne nl, upd_ne nl]; exact hl, by omega, Int.ediv_nonneg c0 (by omega), m0, m1⟩ (SameB.upd.trans SameB.upd)
        · refine ⟨_, rfl, _, _, rfl, rfl, M0, _, rfl, t, _, _, _, rfl, rfl, SqL.of upd_same, rfl, _, _, rfl, rfl, .inl ⟨by decide, by decide⟩, _, _, rfl, rfl, _, _, rfl, rfl, ?_⟩
          refine ⟨_, rfl, t, _, _, _, rfl, rfl, SqL.of upd_same, rfl, _, _, rfl, rfl, .inl ⟨by omega, by omega⟩, _, rfl, _, _, rfl, rfl, _, _, rfl, rfl, M0, _, rfl, t, _, _, 3, rfl, rfl, upd_same, rfl, ?_⟩
          have q0 := Int.emod_nonneg (mix * 48271 + (c % 2147483647 + 7919 * (pos + 1) + 11)) (by decide : (2147483647 : Int) ≠ 0)
          have q1 := Int.emod_lt_of_pos (mix * 48271 + (c % 2147483647 + 7919 * (pos + 1) + 11)) M0
          refine ⟨_, rfl, t, _, _, _, rfl, rfl, SqL.of upd_same, rfl, _, _, rfl, rfl, ⟨by decide, by decide, ?_⟩, _, _, rfl, rfl, M0, _, rfl, _, _, rfl, rfl, hm, ?_⟩
          · omega
          · exact k _ _ (Int.emod_nonneg _ (by omega)) (Int.emod_lt_of_pos _ hm) ⟨ns, pos + 1, rest, _, upd_same, by rw [upd_ne nl, upd_ne nl]; exact hl, by omega, r0, q0, q1⟩ (SameB.upd.trans SameB.upd)
end
abbrev sName : Stmt := top 16
section
variable {P : Program} {w : World} {K : PySem.W.Frag} {mg : Str → Option Value} {base : Heap} {f : Addr} {fd : FuncData} {u1 u2 : Tok} {u3 : Tok}
theorem scName : FnScope ["value", "sign"] ["value"] (defScope sName) := ⟨rfl, rfl, rfl, by decide +kernel, rfl, by decide +kernel, by decide +kernel⟩
theorem ok_name (F : Fun K "is_name" "is_name" sName f fd) (T : Bt mg) (m1 : mg "LETTERS" = some (.str letters u1)) (m2 : mg "NAME_SIGNS" = some (.str signs u2)) (m3 : mg "LONGEST_NAME" = some (.int 12 u3)) : FnOk P w K mg base CX0 1 f fd ["value"] spName := by
  refine F.ok scName (fun vs H Q E h => ?_) (fun cdv A outer s H vs Q E hr h => ?_)
  · obtain ⟨v, t, rfl, _⟩ := h
    rfl
  · obtain ⟨v, t, rfl, ty, hl, k⟩ := h
    refine ⟨_, pss_cons (ps_if (PW.pt (pw_or (pt_not (pt_val (pe_callB call_isi (by rfl) T.isi boot_isinstance (pa_cons (pv 0) (pa_cons (pe_bltn (v := .ty "str") (by rfl) T.str boot_str rfl) pa_nil))))) (pw_or (pt_cmpR op_eq (pv 0) pe_str (nomark _))
        (pw_or1 (pt_cmpR op_gt (pe_callB call_len_str (by rfl) T.len PySem.boot_len (pa_cons (pv 0) pa_nil)) (pe_glob (v := .int 12) (by rfl) m3 ⟨_, rfl⟩) (nomark _)))))) (pss_one (ps_ret pe_bl)) pss_nil)
      (pss_one (ps_ret (pe_and (pe_cmpR op_in_sign (pe_ix ix_str (pv 0) pe_int (fun _ _ => rfl)) (pe_glob (v := .str letters) (by rfl) m1 ⟨_, rfl⟩) (by rfl))
        (pe_one (pe_callB (cr_all rfl) (by rfl) T.all (by decide +kernel) (pa_cons (pe_lc (own := [("sign", 1)]) (g := gName 1) (tt := tYes) (te := tOp rInS (tVar 1) (tC (.str signs))) (by rfl) scName.nd (pi_str (pv 0)) (blkOk_by (own := [("sign", 1)]) (N := ["value", "sign"]) (sc := defScope sName) (by decide +kernel))
          (fun _ _ _ _ _ => pg_name (i := 1) scName.nd rfl (Or.inl rfl)) (fun _ _ _ _ _ => pts_nil) (fun _ _ _ _ _ => pe_cmpR op_in_sign (pv 1) (pe_glob (v := .str signs) (by rfl) m2 ⟨_, rfl⟩) (by rfl))) pa_nil)))))), ?_⟩
    refine ⟨_, rfl, v, .ty "str", _, _, _, rfl, .ty "str", ty.x, kit_str ty.mem, _, rfl, ?_⟩
    by_cases ts : t = "str"
    · obtain ⟨x, rfl⟩ := ty.isStr ts
      subst ts
      have hx := hl x rfl
      refine iteF ⟨_, rfl, rfl, _, rfl, ?_⟩
      rw [dec_empty]
      cases e : x.cps.toList with
      | nil =>
        rw [decide_eq_true rfl]
        have k0 := k H (Same.refl H)
        rw [name_nil e] at k0
        exact iteT (iteT k0)
      | cons c r =>
        rw [decide_eq_false (by simp)]
        refine iteF ⟨_, rfl, x, rfl, hx, _, _, rfl, rfl, _, rfl, ?_⟩
        rw [lenL x]
        by_cases l12 : x.cps.toList.length ≤ 12
        · rw [decide_eq_false (by omega)]
          refine iteF ?_
          have ni := name_is e l12
          refine ⟨_, rfl, x, 0, c, rfl, rfl, hx, (show atI x.cps.toList ((0 : Nat) : Int) = some c from atI_nat (by rw [e]; rfl)), c, letters, rfl, rfl, _, rfl, ?_⟩
          show if inL c = true then _ else _
          refine ite2 (fun z => ?_) (fun z => ?_)
          · refine ⟨_, rfl, x, rfl, fun D hD => lc_it walk_str (fun i H' => H' = upd H D (.lst ((x.cps.toList.take i).map fun c => .bl (inS c)))) rfl (fun _ _ _ _ => True.intro) ?_ ?_⟩
            · rintro i y H' H'' hi rfl ⟨rfl, c', hc', rfl⟩
              refine ⟨rfl, ?_⟩
              change tOp rInS (tVar 1) (tC (.str signs)) _ _ _
              refine ⟨_, rfl, c', signs, rfl, rfl, _, upd_same, ?_, ?_⟩
              · rw [List.length_map, List.length_take]
                exact Nat.lt_of_le_of_lt (Nat.min_le_right _ _) (Nat.lt_of_le_of_lt l12 (by decide))
              · rw [upd_upd]
                exact congrArg (fun z => upd H D (.lst z)) (grow hc' inS)
            · rintro H' rfl
              have ez : x.cps.size = x.cps.toList.length := by simp
              refine ⟨D, x.cps.toList.map inS, rfl, SqL.of (by rw [upd_same, ez, List.take_length, List.map_map]; rfl), ?_⟩
              have k1 := k _ (Same.upd (o := .lst ((x.cps.toList.take x.cps.size).map fun c => .bl (inS c))) hD)
              rw [ni, z, ← e] at k1
              rw [List.all_map]
              exact k1
          · have k0 := k H (Same.refl H)
            rw [ni, show inL c = false by simpa using z] at k0
            exact k0
        · rw [decide_eq_true (by omega)]
          have k0 := k H (Same.refl H)
          rw [name_long l12] at k0
          exact iteT k0
    · have z : (t == "str") = false := by simpa using ts
      rw [z]
      have k0 := k H (Same.refl H)
      have nb : nameB v = false := by cases ty <;> first | rfl | exact absurd rfl ts
      rw [nb] at k0
      exact iteT (iteT k0)
end
abbrev sLis : Stmt := top 28
section
variable {P : Program} {w : World} {K : PySem.W.Frag} {mg : Str → Option Value} {base : Heap} {f : Addr} {fd : FuncData}
theorem scLis : FnScope ["_law_value", "_law_letters", "_law_sign"] ["_law_value"] (defScope sLis) := ⟨rfl, rfl, rfl, by decide +kernel, rfl, by decide +kernel, by decide +kernel⟩
theorem ok_lis (F : Fun K "_law_is_name" "_law_is_name" sLis f fd) (T : Bt mg) : FnOk P w K mg base CX0 1 f fd ["_law_value"] spName := by
  refine F.ok scLis (fun vs H Q E h => ?_) (fun cdv A outer s H vs Q E hr h => ?_)
  · obtain ⟨v, t, rfl, _⟩ := h
    rfl
  · obtain ⟨v, t, rfl, ty, hl, k⟩ := h
    refine ⟨_, pss_cons (ps_set (i := 1) scLis.nd rfl (Or.inr rfl) pe_str) (pss_cons (ps_if (PW.pt (pw_or (pt_not (pt_val (pe_callB call_isi (by rfl) T.isi boot_isinstance (pa_cons (pv 0) (pa_cons (pe_bltn (v := .ty "str") (by rfl) T.str boot_str rfl) pa_nil)))))
        (pw_or1 (pt_not (pt_chain op_le op_le pe_int (pe_callB call_len_str (by rfl) T.len PySem.boot_len (pa_cons (pv 0) pa_nil)) pe_int))))) (pss_one (ps_ret pe_bl)) pss_nil)
      (pss_one (ps_ret (pe_and (pe_cmpR op_in_sign (pe_ix ix_str (pv 0) pe_int (fun _ _ => rfl)) (pe_slice sl_str (pv 1) po_none (po_some pe_int)) (by rfl))
        (pe_one (pe_callB (cr_all rfl) (by rfl) T.all (by decide +kernel) (pa_cons (pe_lc (own := [("_law_sign", 2)]) (g := gName 2) (tt := tYes) (te := tOp rInS (tVar 2) (tVar 1)) (by rfl) scLis.nd (pi_str (pv 0)) (blkOk_by (own := [("_law_sign", 2)]) (N := ["_law_value", "_law_letters", "_law_sign"]) (sc := defScope sLis) (by decide +kernel))
          (fun _ _ _ _ _ => pg_name (i := 2) scLis.nd rfl (Or.inl rfl)) (fun _ _ _ _ _ => pts_nil) (fun _ _ _ _ _ => pe_cmpR op_in_sign (pv 2) (pv 1) (by rfl))) pa_nil))))))), ?_⟩
    refine ⟨_, rfl, v, .ty "str", _, _, _, rfl, .ty "str", ty.x, kit_str ty.mem, _, rfl, ?_⟩
    by_cases ts : t = "str"
    · obtain ⟨x, rfl⟩ := ty.isStr ts
      subst ts
      have hx := hl x rfl
      refine iteF ⟨_, rfl, x, rfl, hx, _, _, rfl, rfl, _, rfl, ?_⟩
      rw [lenL x]
      cases e : x.cps.toList with
      | nil =>
        rw [decide_eq_false (by simp)]
        have k0 := k H (Same.refl H)
        rw [name_nil e] at k0
        exact iteF ⟨_, rfl, iteT k0⟩
      | cons c r =>
        rw [decide_eq_true (by simp only [List.length_cons]; omega)]
        refine iteT ⟨_, _, rfl, rfl, _, rfl, ?_⟩
        rw [← e]
        by_cases l12 : x.cps.toList.length ≤ 12
        · rw [decide_eq_true (by omega)]
          refine iteF ?_
          have ni := name_is e l12
          refine ⟨_, rfl, x, 0, c, rfl, rfl, hx, (show atI x.cps.toList ((0 : Nat) : Int) = some c from atI_nat (by rw [e]; rfl)), _, rfl, _, rfl, signs, rfl, by rw [lenL, signs_len]; decide, c, _, rfl, rfl, _, rfl, ?_⟩
          rw [cut26]
          show if inL c = true then _ else _
          refine ite2 (fun z => ?_) (fun z => ?_)
          · refine ⟨_, rfl, x, rfl, fun D hD => lc_it walk_str (fun i H' => H' = upd H D (.lst ((x.cps.toList.take i).map fun c => .bl (inS c)))) rfl (fun _ _ _ _ => True.intro) ?_ ?_⟩
            · rintro i y H' H'' hi rfl ⟨rfl, c', hc', rfl⟩
              refine ⟨rfl, ?_⟩
              change tOp rInS (tVar 2) (tVar 1) _ _ _
              refine ⟨_, rfl, _, rfl, c', signs, rfl, rfl, _, upd_same, ?_, ?_⟩
              · rw [List.length_map, List.length_take]
                exact Nat.lt_of_le_of_lt (Nat.min_le_right _ _) (Nat.lt_of_le_of_lt l12 (by decide))
              · rw [upd_upd]
                exact congrArg (fun z => upd H D (.lst z)) (grow hc' inS)
            · rintro H' rfl
              have ez : x.cps.size = x.cps.toList.length := by simp
              refine ⟨D, x.cps.toList.map inS, rfl, SqL.of (by rw [upd_same, ez, List.take_length, List.map_map]; rfl), ?_⟩
              have k1 := k _ (Same.upd (o := .lst ((x.cps.toList.take x.cps.size).map fun c => .bl (inS c))) hD)
              rw [ni, z, ← e] at k1
              rw [List.all_map]
              exact k1
          · have k0 := k H (Same.refl H)
            rw [ni, show inL c = false by simpa using z] at k0
            exact k0
        · rw [decide_eq_false (by omega)]
          have k0 := k H (Same.refl H)
          rw [name_long l12] at k0
          exact iteT k0
    · have z : (t == "str") = false := by simpa using ts
      rw [z]
      have k0 := k H (Same.refl H)
      have nb : nameB v = false := by cases ty <;> first | rfl | exact absurd rfl ts
      rw [nb] at k0
      exact iteT (iteT k0)
end
def spLNm : Sp := fun vs H Q _ => ∃ (t l : Addr), vs = [.ref t] ∧ TapeL l H t ∧ ∀ (x : Str) (H' : Hp), Sh 12 x → TapeL l H' t → SameB t H H' → Q (.str x) H'
abbrev sLnm : Stmt := top 25
section
variable {P : Program} {w : World} {K : PySem.W.Frag} {mg : Str → Option Value} {base : Heap} {f fD : Addr} {fd fdD : FuncData}
theorem scLnm : FnScope ["_law_tape_here", "_law_letters", "_law_size", "_law_place", "_law_sign", "_law_k"] ["_law_tape_here"] (defScope sLnm) := ⟨rfl, rfl, rfl, by decide +kernel, rfl, by decide +kernel, by decide +kernel⟩
theorem ok_lnm (F : Fun K "_law_name" "_law_name" sLnm f fd) (T : Bt mg) (GD : FnOk P w K mg base CX0 1 fD fdD ["_law_tape_here", "_law_many"] spDrawL) (mD : mg "_law_draw" = some (.ref fD)) (kD : PySem.W.keepIn K (.ref fD) = true) (bD : Binds K fdD ["_law_tape_here", "_law_many"] []) :
    FnOk P w K mg base CX0 2 f fd ["_law_tape_here"] spLNm := by
  refine F.ok scLnm (fun vs H Q E h => ?_) (fun cdv A outer s H vs Q E hr h => ?_)
  · obtain ⟨t, l, rfl, _⟩ := h
    rfl
  · obtain ⟨t, l, rfl, hT, k⟩ := h
    replace hT : TapeL l H t := hT
    refine ⟨_, pss_cons (ps_set (i := 1) scLnm.nd rfl (Or.inr rfl) pe_str)
      (pss_cons (ps_set (i := 2) scLnm.nd rfl (Or.inl rfl) (pe_op op_add pe_int (pe_call GD hr (by rfl) mD kD bD .nil pass0 (pa_cons (pv 0) (pa_cons pe_int pa_nil)))))
      (pss_cons (ps_if (pt_cmpR op_eq (pe_call GD hr (by rfl) mD kD bD .nil pass0 (pa_cons (pv 0) (pa_cons pe_int pa_nil))) pe_int (nomark _))
        (pss_cons (ps_set (i := 3) scLnm.nd rfl (Or.inl rfl) (pe_call GD hr (by rfl) mD kD bD .nil pass0 (pa_cons (pv 0) (pa_cons (pv 2) pa_nil))))
        (pss_cons (ps_set (i := 4) scLnm.nd rfl (Or.inl rfl) (pe_ix ix_str (pv 1) (pe_call GD hr (by rfl) mD kD bD .nil pass0 (pa_cons (pv 0) (pa_cons (pe_op op_add pe_int (pe_op op_mul pe_int (pe_callTy call_int1 (by rfl) T.int boot_int (pa_cons (pe_cmpR op_gt (pv 3) pe_int (nomark _)) pa_nil)))) pa_nil))) (fun _ _ => rfl)))
        (pss_one (ps_ret (pe_op op_add_str (pe_op op_add_str (pe_op op_mulS pe_str (pv 3)) (pv 4)) (pe_op op_mulS pe_str (pe_op op_sub (pe_op op_sub (pv 2) pe_int) (pv 3)))))))) pss_nil)
      (pss_one (ps_ret (pe_join pe_str (pe_lc (own := [("_law_k", 5)]) (g := gName 5) (tt := tYes) (te := tOp rIxS (tVar 1) (tCall spDrawL [] E0 (tCons (tVar 0) (tCons (tOp (rI0 fun i j => .int (i + j)) (tC (.int 26)) (tOp (rI CMul fun i j => .int (i * j)) (tC (.int 10)) (tCB (fun xs H Q => (∃ i, xs = [.int i] ∧ Q (.int i) H) ∨ ∃ k, xs = [.bl k] ∧ Q (.int (if k then 1 else 0)) H) (tCons (tOp (rI0 fun i j => .bl (decide (j < i))) (tVar 5) (tC (.int 0))) tNil)))) tNil)))) (by rfl) scLnm.nd (pi_range1 (by rfl) T.range (pa_cons (pv 2) pa_nil))
        (blkOk_by (own := [("_law_k", 5)]) (N := ["_law_tape_here", "_law_letters", "_law_size", "_law_place", "_law_sign", "_law_k"]) (sc := defScope sLnm) (by decide +kernel)) (fun _ _ _ _ _ => pg_name (i := 5) scLnm.nd rfl (Or.inl rfl)) (fun _ _ _ _ _ => pts_nil)
        (fun _ _ _ _ _ => pe_ix ix_str (pv 1) (pe_call GD hr (by rfl) mD kD bD .nil pass0 (pa_cons (pv 0) (pa_cons (pe_op op_add pe_int (pe_op op_mul pe_int (pe_callTy call_int1 (by rfl) T.int boot_int (pa_cons (pe_cmpR op_gt (pv 5) pe_int (nomark _)) pa_nil)))) pa_nil))) (fun _ _ => rfl)))))))), ?_⟩
    have big : ∀ z : Int, 0 ≤ z → z ≤ 1000 → z.natAbs < 2 ^ 4000 := fun z h1 h2 => big1000 h1 h2
    have sl : (signs.cps.toList.length : Int) = 36 := by rw [signs_len]; rfl
    have sz : signs.length ≤ sizeLine := by rw [lenL, signs_len]; decide
    refine ⟨_, rfl, t, l, _, rfl, hT, by decide, big _ (by decide) (by decide), fun k1 H1 u1 v1 T1 S1 => ⟨_, _, rfl, rfl, ?_⟩⟩
    refine ⟨_, rfl, t, l, _, rfl, T1, by decide, big _ (by decide) (by decide), fun k2 H2 u2 v2 T2 S2 => ⟨rfl, _, rfl, ?_⟩⟩
    refine ite2 (fun _ => ?_) (fun _ => ?_)
    · refine ⟨_, rfl, _, rfl, t, l, _, rfl, T2, by omega, big _ (by omega) (by omega), fun k3 H3 u3 v3 T3 S3 => ?_⟩
      refine ⟨_, rfl, _, rfl, _, rfl, _, _, rfl, rfl, .inr ⟨_, rfl, _, _, rfl, rfl, .inl ⟨by decide, by decide⟩, _, _, rfl, rfl, t, l, _, rfl, T3, by split <;> decide, big _ (by split <;> decide) (by split <;> decide), fun k4 H4 u4 v4 T4 S4 => ?_⟩⟩
      obtain ⟨c, hc, mc⟩ := at_text (l := signs.cps.toList) (i := k4) u4 (by rw [sl]; split at v4 <;> omega)
      refine ⟨signs, k4, c, rfl, rfl, sz, hc, ?_⟩
      have m1 : Sh k3.toNat (Txt.mul (PySem.Str.ofString "a") k3) := sh_mul sh_a (Nat.le_refl _) (Nat.le_refl _)
      have m2 : Sh 1 (⟨#[c]⟩ : Str) := sh_one (signs_ok c mc)
      have m3 : Sh (1 + k1 - 1 - k3).toNat (Txt.mul (PySem.Str.ofString "a") (1 + k1 - 1 - k3)) := sh_mul sh_a (Nat.le_refl _) (Nat.le_refl _)
      have ss : (100 : Nat) ≤ sizeLine := by decide
      refine ⟨_, rfl, _, _, rfl, rfl, mul_ok a_size (by omega) (by omega), _, rfl, _, _, rfl, rfl, ?_, _, rfl, _, _, rfl, rfl, _, rfl, _, _, rfl, rfl, _, _, rfl, rfl, mul_ok a_size (by omega) (by omega), _, _, rfl, rfl, ?_, ?_⟩
      · have := sh_len m1
        have := sh_len m2
        omega
      · have := sh_len (sh_app m1 m2)
        have := sh_len m3
        omega
      · exact k _ _ ((sh_app (sh_app m1 m2) m3).mono (by omega)) T4 (((S1.trans S2).trans S3).trans S4)
    · refine ⟨⟨_, rfl⟩, _, rfl, _, rfl, by omega, by omega, fun D hD => ?_⟩
      have nD : D ≠ t := T2.tape.ne hD
      have nL : D ≠ l := by
        obtain ⟨xs, z⟩ := T2.list
        exact Ne.symm (ne_of_none z hD)
      refine lc_it walk_range (fun i H' => ∃ ys : List Str, H' D = some (.lst (ys.map V.str)) ∧ ys.length = i ∧ (∀ y ∈ ys, Sh 1 y) ∧ TapeL l H' t ∧ SameB t H2 H') ⟨[], upd_same, rfl, by simp, T2.same (Same.upd hD), Same.b t (Same.upd hD)⟩ (fun _ _ _ _ => True.intro) ?_ ?_
      · rintro i y H' H'' hi ⟨ys, h1, h2, h3, h4, h5⟩ ⟨rfl, rfl⟩
        refine ⟨rfl, ?_⟩
        change tOp rIxS (tVar 1) _ _ _ _
        refine ⟨_, rfl, _, rfl, _, rfl, _, _, rfl, rfl, .inr ⟨_, rfl, _, _, rfl, rfl, .inl ⟨by decide, by decide⟩, _, _, rfl, rfl, t, l, _, rfl, h4, by split <;> decide, big _ (by split <;> decide) (by split <;> decide), fun k4 H4 u4 v4 T4 S4 => ?_⟩⟩
        obtain ⟨c, hc, mc⟩ := at_text (l := signs.cps.toList) (i := k4) u4 (by rw [sl]; split at v4 <;> omega)
        refine ⟨signs, k4, c, rfl, rfl, sz, hc, _, S4 _ _ nD h1, by rw [List.length_map, h2]; exact Nat.lt_trans hi (Nat.lt_of_le_of_lt (show (1 + k1).toNat ≤ 12 by omega) (by decide)), ?_⟩
        refine ⟨ys ++ [⟨#[c]⟩], by rw [upd_same, List.map_append]; rfl, by rw [List.length_append, h2]; rfl, fun y hy => ?_, ?_, ?_⟩
        · rcases List.mem_append.mp hy with hy | hy
          · exact h3 y hy
          · rw [List.mem_singleton.mp hy]
            exact sh_one (signs_ok c mc)
        · exact T4.upd nD nL
        · exact fun b o n e => by
            rw [upd_ne (ne_of_none e hD)]
            exact (h5.trans S4) b o n e
      · rintro H' ⟨ys, h1, h2, h3, h4, h5⟩
        have e12 : ys.length ≤ 12 := by omega
        have sum : ∀ l : List Str, (∀ y ∈ l, Sh 1 y) → (l.map (·.length)).sum ≤ l.length := by
          intro l
          induction l with
          | nil => intro _; simp
          | cons y l ih =>
            intro h
            have := ih fun z hz => h z (List.mem_cons_of_mem _ hz)
            have := sh_len (h y List.mem_cons_self)
            simp only [List.map_cons, List.sum_cons, List.length_cons]
            omega
        refine ⟨_, D, ys, rfl, rfl, .inl (SqL.of h1), by have := sum ys h3; show _ + ys.length * 0 ≤ _; omega, ?_⟩
        exact k _ _ ((join_sh ys h3).mono e12) h4 ((S1.trans S2).trans h5)
end
end K05
set_option Elab.async false
set_option linter.all false
set_option maxRecDepth 100000
set_option maxHeartbeats 4000000
namespace K05
open PySem PySem.Spec PyProof.Rows L2 Lc
abbrev sCol : Stmt := top 17
abbrev sCn : Stmt := top 19
abbrev sIniN : Stmt := inClass (top 2) 0
abbrev sIniC : Stmt := inClass (top 3) 0
/-! ## errors that tell one thing -/
/-- what the written part says of the class x, at C, its __init__ at fI, that keeps fld -/
structure ErF (K : PySem.W.Frag) (mg : Str → Option Value) (x fld : Str) (C fI : Addr) : Prop where
  oex : OexC K C
  iC : PySem.W.findIn K (.ref C) "__init__" = some (some (.ref fI))
  tI : PySem.W.typeIn K (.ref fI) = some (.type "function")
  nG : PySem.W.findIn K (.ref C) fld = some none
  gC : mg x = some (.ref C)
def TellsF (C : Addr) (fld : Str) (H : Hp) (v : V) (E : XK) : Prop := ∀ (d : Addr) (H' : Hp), Same H H' → H d = none → H' d = some (.xd [(fld, v)]) → E (.ref C) (some d) H'
def spIni (C : Addr) (fld : Str) : Sp := fun vs H Q _ => ∃ (a : Addr) (v : V), vs = [.ref a, v] ∧ H a = some (exo a C none) ∧ ∀ dx, H dx = none → dx ≠ a → Q .non (upd (upd H dx (exd dx [(fld, v)])) a (exo a C (some dx)))
/-! ## columns -/
def kindB : V → Bool
  | .str z => inV (.str z) [.str "number", .str "word", .str "flag"]
  | _ => false
/-- is v a column -/
inductive Ck (H : Hp) : V → Bool → Prop
  | other {v : V} {t : String} (h : TyN H v t) (n : t ≠ "tuple") : Ck H v false
  | len {a : Addr} {xs : List V} (e : H a = some (.tup xs)) (n : xs.length ≠ 2) : Ck H (.ref a) false
  | pair {a : Addr} {x y : V} {tx ty : String} (e : H a = some (.tup [x, y])) (hx : TyN H x tx) (hy : TyN H y ty) (lx : ∀ z, x = .str z → z.length ≤ sizeLine) : Ck H (.ref a) (nameB x && kindB y)
theorem Ck.same {H H' : Hp} {v : V} {b : Bool} (h : Ck H v b) (s : Same H H') : Ck H' v b := by
  cases h with
  | other h n => exact .other (h.same s) n
  | len e n => exact .len (s _ _ e) n
  | pair e hx hy lx => exact .pair (s _ _ e) (hx.same s) (hy.same s) lx
def spCol : Sp := fun vs H Q _ => ∃ (v : V) (b : Bool), vs = [v] ∧ Ck H v b ∧ ∀ H', Same H H' → Q (.bl b) H'
def spCn (C : Addr) : Sp := fun vs H Q E => ∃ (v : V) (t : String), vs = [v] ∧ TyN H v t ∧ (∀ x, v = .str x → x.length ≤ sizeLine) ∧ (nameB v = true → ∀ H', Same H H' → Q .non H') ∧ (nameB v = false → ∀ H', Same H H' → TellsF C "given" H' v E)
section
variable {P : Program} {w : World} {K : PySem.W.Frag} {mg : Str → Option Value} {base : Heap} {f C fI fN k3 : Addr} {fd fdI fdN : FuncData}
theorem scIniN : FnScope ["self", "given"] ["self", "given"] (defScope sIniN) := ⟨rfl, rfl, rfl, by decide +kernel, rfl, by decide +kernel, by decide +kernel⟩
theorem scIniC : FnScope ["self", "index"] ["self", "index"] (defScope sIniC) := ⟨rfl, rfl, rfl, by decide +kernel, rfl, by decide +kernel, by decide +kernel⟩
theorem ok_iniN (F : Fun K "__init__" "BadName.__init__" sIniN fI fdI) (T : ErF K mg "BadName" "given" C fI) : FnOk P w K mg base CX0 1 fI fdI ["self", "given"] (spIni C "given") := by
  refine F.ok scIniN (fun vs H Q E h => ?_) (fun cdv A outer s H vs Q E hr h => ?_)
  · obtain ⟨a, v, rfl, _⟩ := h
    rfl
  · obtain ⟨a, v, rfl, ha, k⟩ := h
    refine ⟨_, pss_one (ps_ost (pv 0) (pv 1)), ?_⟩
    exact ⟨_, rfl, _, rfl, a, C, rfl, T.oex, T.nG, .inl ⟨ha, fun dx h1 h2 => k dx h1 h2⟩⟩
theorem ok_iniC (F : Fun K "__init__" "BadColumns.__init__" sIniC fI fdI) (T : ErF K mg "BadColumns" "index" C fI) : FnOk P w K mg base CX0 1 fI fdI ["self", "index"] (spIni C "index") := by
  refine F.ok scIniC (fun vs H Q E h => ?_) (fun cdv A outer s H vs Q E hr h => ?_)
  · obtain ⟨a, v, rfl, _⟩ := h
    rfl
  · obtain ⟨a, v, rfl, ha, k⟩ := h
    refine ⟨_, pss_one (ps_ost (pv 0) (pv 1)), ?_⟩
    exact ⟨_, rfl, _, rfl, a, C, rfl, T.oex, T.nG, .inl ⟨ha, fun dx h1 h2 => k dx h1 h2⟩⟩
/-- raise X(v) -/
theorem tells_ofF {H : Hp} {fld : Str} {v : V} {E : XK} (t : TellsF C fld H v E) : ∀ a, H a = none → spIni C fld (.ref a :: ([v] ++ [])) (upd H a (exo a C none))
    (fun v' H2 => v' = .non ∧ ∃ (d : Addr) (fs : List (Str × V)), H2 a = some (exo a C (some d)) ∧ H2 d = some (exd d fs) ∧ H d = none ∧ E (.ref C) (some d) (upd (del H2 a) d (.xd fs))) (fun _ _ _ => False) := by
  intro a ha
  refine ⟨a, v, rfl, upd_same, fun dx hx hne => ⟨rfl, dx, _, upd_same, by rw [upd_ne hne, upd_same], by rw [upd_ne hne] at hx; exact hx, ?_⟩⟩
  rw [upd_ne hne] at hx
  refine t dx _ (fun b o e => ?_) hx upd_same
  have nb : b ≠ a := ne_of_none e ha
  have nd : b ≠ dx := ne_of_none e hx
  rw [upd_ne nd, del_ne nb, upd_ne nb, upd_ne nd, upd_ne nb]
  exact e
theorem scCol : FnScope ["value", "name", "kind"] ["value"] (defScope sCol) := ⟨rfl, rfl, rfl, by decide +kernel, rfl, by decide +kernel, by decide +kernel⟩
theorem ok_col (F : Fun K "is_column" "is_column" sCol f fd) (T : Bt mg) (GN : FnOk P w K mg base CX0 1 fN fdN ["value"] spName) (mN : mg "is_name" = some (.ref fN)) (kN : PySem.W.keepIn K (.ref fN) = true) (bN : Binds K fdN ["value"] [])
    (mK : mg "KINDS" = some (.ref k3)) (hK : ∀ H, SqT K H k3 [.str "number", .str "word", .str "flag"]) : FnOk P w K mg base CX0 2 f fd ["value"] spCol := by
  refine F.ok scCol (fun vs H Q E h => ?_) (fun cdv A outer s H vs Q E hr h => ?_)
  · obtain ⟨v, b, rfl, _⟩ := h
    rfl
  · obtain ⟨v, b, rfl, ck, k⟩ := h
    refine ⟨_, pss_cons (ps_if (PW.pt (pw_or (pt_not (pt_val (pe_callB call_isi (by rfl) T.isi boot_isinstance (pa_cons (pv 0) (pa_cons (pe_bltn (v := .ty "tuple") (by rfl) T.tuple boot_tuple rfl) pa_nil)))))
        (pw_or1 (pt_cmpR op_ne (pe_callB call_len_seq (by rfl) T.len PySem.boot_len (pa_cons (pv 0) pa_nil)) pe_int (nomark _))))) (pss_one (ps_ret pe_bl)) pss_nil)
      (pss_cons (ps_asg (pv 0) (pg_tup rfl (pgs_cons (pg_name (i := 1) scCol.nd rfl (.inl rfl)) (pgs_cons (pg_name (i := 2) scCol.nd rfl (.inl rfl)) pgs_nil))))
      (pss_one (ps_ret (pe_and (pe_call GN hr (by rfl) mN kN bN .nil pass0 (pa_cons (pv 1) pa_nil)) (pe_and (pe_callB call_isi (by rfl) T.isi boot_isinstance (pa_cons (pv 2) (pa_cons (pe_bltn (v := .ty "str") (by rfl) T.str boot_str rfl) pa_nil)))
        (pe_one (pe_cmpR op_in_seq (pv 2) (pe_glob (v := .ref k3) (by rfl) mK rfl) (by rfl)))))))), ?_⟩
    have k0 := k H (Same.refl H)
    cases ck with
    | @other _ t ty n =>
      refine ⟨_, rfl, v, .ty "tuple", _, _, _, rfl, .ty "tuple", ty.x, kit_tuple ty.mem, _, rfl, ?_⟩
      rw [show (t == "tuple") = false by simpa using n]
      exact iteT (iteT k0)
    | @len a xs e n =>
      refine ⟨_, rfl, .ref a, .ty "tuple", _, _, _, rfl, .ty "tuple", (TyN.tup e).x, kit_tuple (by decide), _, rfl, ?_⟩
      refine iteF ⟨_, rfl, a, xs, rfl, .inr (SqT.of e), rfl, _, rfl, ?_⟩
      rw [show decide (V.int (xs.length : Int) = V.int 2) = false from decide_eq_false (fun q => n (by injection q with q; omega))]
      exact iteT k0
    | @pair a x y tx ty e hx hy lx =>
      refine ⟨_, rfl, .ref a, .ty "tuple", _, _, _, rfl, .ty "tuple", (TyN.tup e).x, kit_tuple (by decide), _, rfl, ?_⟩
      refine iteF ⟨_, rfl, a, _, rfl, .inr (SqT.of e), rfl, _, rfl, ?_⟩
      refine iteF ⟨_, rfl, a, _, rfl, SqT.of e, rfl, _, _, rfl, _, _, rfl, rfl, ?_⟩
      refine ⟨_, rfl, x, tx, rfl, hx, lx, fun H1 e1 => ⟨_, rfl, ?_⟩⟩
      have k1 := k H1 e1
      cases nb : nameB x with
      | false =>
        rw [nb] at k1
        exact iteF k1
      | true =>
        rw [nb, Bool.true_and] at k1
        refine iteT ⟨_, rfl, y, .ty "str", _, _, _, rfl, .ty "str", (hy.same e1).x, kit_str hy.mem, _, rfl, ?_⟩
        by_cases st : ty = "str"
        · obtain ⟨z, rfl⟩ := hy.isStr st
          subst st
          exact iteT ⟨_, rfl, k3, _, rfl, .inr (hK _), rfl, rfl, k1⟩
        · rw [show (ty == "str") = false by simpa using st]
          rw [show kindB y = false by cases hy <;> first | rfl | exact absurd rfl st] at k1
          exact iteF k1
theorem scCn : FnScope ["value"] ["value"] (defScope sCn) := ⟨rfl, rfl, rfl, by decide +kernel, rfl, by decide +kernel, by decide +kernel⟩
theorem ok_cn (F : Fun K "check_name" "check_name" sCn f fd) (R : ErF K mg "BadName" "given" C fI) (GI : FnOk P w K mg base CX0 1 fI fdI ["self", "given"] (spIni C "given")) (bI : Binds K fdI ["self", "given"] [])
    (GN : FnOk P w K mg base CX0 1 fN fdN ["value"] spName) (mN : mg "is_name" = some (.ref fN)) (kN : PySem.W.keepIn K (.ref fN) = true) (bN : Binds K fdN ["value"] []) : FnOk P w K mg base (L2.CX P w) 3 f fd ["value"] (spCn C) := by
  refine F.okX scCn (fun vs H Q E h => ?_) (fun cdv A outer s H vs Q E hr h => ?_)
  · obtain ⟨v, t, rfl, _⟩ := h
    rfl
  · obtain ⟨v, t, rfl, ty, hl, k1, k2⟩ := h
    refine ⟨_, pss_one (ps_if (pt_not (pt_val (pe_call GN (hr.mono (by decide)) (by rfl) mN kN bN .nil pass0 (pa_cons (pv 0) pa_nil))))
      (pss_one (ps_raise (W := fun cls d _ H => E cls d H) rfl (takes_of rfl rfl rfl rfl) (pmk_oex R.oex R.iC R.tI GI hr bI .nil pass0 (by rfl) R.gC (pa_cons (pv 0) pa_nil)))) pss_nil), ?_⟩
    refine ⟨_, rfl, v, t, rfl, ty, hl, fun H1 e1 => ⟨_, rfl, ?_⟩⟩
    cases nb : nameB v with
    | true => exact iteF (k1 nb H1 e1)
    | false => exact iteT ⟨_, rfl, by show 1 ≤ 1000; decide, tells_ofF (k2 nb H1 e1)⟩
end
end K05
set_option Elab.async false
set_option linter.all false
set_option maxRecDepth 100000
set_option maxHeartbeats 4000000
namespace K05
open PySem PySem.Spec PyProof.Rows L2 Lc
abbrev sCc : Stmt := top 18
/-- a column's name; none: no column -/
inductive Cv (H : Hp) : V → Option Str → Prop
  | no {v : V} (h : Ck H v false) : Cv H v none
  | yes {a : Addr} {z : Str} {y : V} (e : H a = some (.tup [.str z, y])) (h : Ck H (.ref a) true) : Cv H (.ref a) (some z)
theorem Cv.same {H H' : Hp} {v : V} {c : Option Str} (h : Cv H v c) (s : Same H H') : Cv H' v c := by
  cases h with
  | no h => exact .no (h.same s)
  | yes e h => exact .yes (s _ _ e) (h.same s)
def Cvs (H : Hp) (xs : List V) (cs : List (Option Str)) : Prop := xs.length = cs.length ∧ ∀ (i : Nat) (x : V), xs[i]? = some x → ∃ c, cs[i]? = some c ∧ Cv H x c
/-- the first wrong one of these, the names seen before, the number of the first -/
def badFrom : List (Option Str) → List Str → Nat → Option Nat
  | [], _, _ => none
  | none :: _, _, i => some i
  | some z :: r, seen, i => if inV (.str z) (seen.map V.str) then some i else badFrom r (seen ++ [z]) (i + 1)
def spCc (C : Addr) : Sp := fun vs H Q E => ∃ v : V, vs = [v] ∧ ((∃ t, TyN H v t ∧ t ≠ "tuple" ∧ TellsF C "index" H .non E) ∨
  (∃ (a : Addr) (xs : List V), v = .ref a ∧ H a = some (.tup xs) ∧ (xs.length = 0 ∨ 8 < xs.length) ∧ TellsF C "index" H .non E) ∨
  (∃ (a : Addr) (xs : List V) (cs : List (Option Str)), v = .ref a ∧ H a = some (.tup xs) ∧ 0 < xs.length ∧ xs.length ≤ 8 ∧ Cvs H xs cs ∧ (badFrom cs [] 0 = none → ∀ H', Same H H' → Q .non H') ∧
    ∀ i : Nat, badFrom cs [] 0 = some i → ∀ H', Same H H' → TellsF C "index" H' (.int i) E))
section
variable {P : Program} {w : World} {K : PySem.W.Frag} {mg : Str → Option Value} {base : Heap} {f C fI fN : Addr} {fd fdI fdN : FuncData} {u1 : Tok}
theorem scCc : FnScope ["columns", "names", "index", "column"] ["columns"] (defScope sCc) := ⟨rfl, rfl, rfl, by decide +kernel, rfl, by decide +kernel, by decide +kernel⟩
theorem ok_cc (F : Fun K "check_columns" "check_columns" sCc f fd) (T : Bt mg) (R : ErF K mg "BadColumns" "index" C fI) (m1 : mg "MOST_COLUMNS" = some (.int 8 u1)) (GI : FnOk P w K mg base CX0 1 fI fdI ["self", "index"] (spIni C "index")) (bI : Binds K fdI ["self", "index"] [])
    (GN : FnOk P w K mg base CX0 2 fN fdN ["value"] spCol) (mN : mg "is_column" = some (.ref fN)) (kN : PySem.W.keepIn K (.ref fN) = true) (bN : Binds K fdN ["value"] []) : FnOk P w K mg base (L2.CX P w) 3 f fd ["columns"] (spCc C) := by
  refine F.okX scCc (fun vs H Q E h => ?_) (fun cdv A outer s H vs Q E hr h => ?_)
  · obtain ⟨v, rfl, _⟩ := h
    rfl
  · obtain ⟨v, rfl, h⟩ := h
    refine ⟨_, pss_cons (ps_if (PW.pt (pw_or (pt_not (pt_val (pe_callB call_isi (by rfl) T.isi boot_isinstance (pa_cons (pv 0) (pa_cons (pe_bltn (v := .ty "tuple") (by rfl) T.tuple boot_tuple rfl) pa_nil)))))
        (pw_or (pt_cmpR op_eq (pe_callB call_len_seq (by rfl) T.len PySem.boot_len (pa_cons (pv 0) pa_nil)) pe_int (nomark _))
        (pw_or1 (pt_cmpR op_gt (pe_callB call_len_seq (by rfl) T.len PySem.boot_len (pa_cons (pv 0) pa_nil)) (pe_glob (v := .int 8) (by rfl) m1 ⟨_, rfl⟩) (nomark _))))))
        (pss_one (ps_raise (W := fun cls d _ H => E cls d H) rfl (takes_of rfl rfl rfl rfl) (pmk_oex R.oex R.iC R.tI GI hr bI .nil pass0 (by rfl) R.gC (pa_cons pe_non pa_nil)))) pss_nil)
      (pss_cons (ps_set (i := 1) scCc.nd rfl (Or.inl rfl) (pe_lst pa_nil))
      (pss_one (ps_for (passes_of rfl) rfl (pi_enT (by rfl) T.enum (pa_cons (pv 0) pa_nil)) (pg_tup rfl (pgs_cons (pg_name (i := 2) scCc.nd rfl (.inl rfl)) (pgs_cons (pg_name (i := 3) scCc.nd rfl (.inl rfl)) pgs_nil)))
        (pss_cons (ps_if (PW.pt (pw_or (pt_not (pt_val (pe_call GN hr (by rfl) mN kN bN .nil pass0 (pa_cons (pv 3) pa_nil)))) (pw_or1 (pt_cmpR op_in_seq (pe_ix ix_tup (pv 3) pe_int (fun _ _ => rfl)) (pv 1) (by rfl)))))
          (pss_one (ps_raise (W := fun cls d _ H => E cls d H) rfl (takes_of rfl rfl rfl rfl) (pmk_oex R.oex R.iC R.tI GI hr bI .nil pass0 (by rfl) R.gC (pa_cons (pv 2) pa_nil)))) pss_nil)
        (pss_one (ps_expr (pe_bm PySem.F.plainAttrs_list PySem.F.slot_list_append PySem.F.type_list_append mt_append (pv 1) (pa_cons (pe_ix ix_tup (pv 3) pe_int (fun _ _ => rfl)) pa_nil)))))))), ?_⟩
    have one : 1 ≤ 1000 := by decide
    rcases h with ⟨t, ht, n, tl⟩ | ⟨a, xs, rfl, ha, hl, tl⟩ | ⟨a, xs, cs, rfl, ha, l0, l8, hcs, k1, k2⟩
    · refine ⟨_, rfl, v, .ty "tuple", _, _, _, rfl, .ty "tuple", ht.x, kit_tuple ht.mem, _, rfl, ?_⟩
      rw [show (t == "tuple") = false by simpa using n]
      exact iteT (iteT ⟨one, tells_ofF tl⟩)
    · refine ⟨_, rfl, .ref a, .ty "tuple", _, _, _, rfl, .ty "tuple", (TyN.tup ha).x, kit_tuple (by decide), _, rfl, ?_⟩
      refine iteF ⟨_, rfl, a, xs, rfl, .inr (SqT.of ha), rfl, _, rfl, ?_⟩
      by_cases z : xs.length = 0
      · rw [show decide (V.int (xs.length : Int) = V.int 0) = true from decide_eq_true (by rw [z]; rfl)]
        exact iteT (iteT ⟨one, tells_ofF tl⟩)
      · rw [show decide (V.int (xs.length : Int) = V.int 0) = false from decide_eq_false (fun q => z (by injection q with q; omega))]
        refine iteF ⟨_, rfl, a, xs, rfl, .inr (SqT.of ha), _, _, rfl, rfl, _, rfl, ?_⟩
        rw [decide_eq_true (show (8 : Int) < (xs.length : Int) by omega)]
        exact iteT ⟨one, tells_ofF tl⟩
    · refine ⟨_, rfl, .ref a, .ty "tuple", _, _, _, rfl, .ty "tuple", (TyN.tup ha).x, kit_tuple (by decide), _, rfl, ?_⟩
      refine iteF ⟨_, rfl, a, xs, rfl, .inr (SqT.of ha), rfl, _, rfl, ?_⟩
      rw [show decide (V.int (xs.length : Int) = V.int 0) = false from decide_eq_false (fun q => by injection q with q; omega)]
      refine iteF ⟨_, rfl, a, xs, rfl, .inr (SqT.of ha), _, _, rfl, rfl, _, rfl, ?_⟩
      rw [decide_eq_false (show ¬ (8 : Int) < (xs.length : Int) by omega)]
      refine iteF ⟨by show 0 ≤ sizeLine; decide, fun L hL => ?_⟩
      have zL := Same.upd (o := .lst []) hL
      refine ⟨_, rfl, a, xs, rfl, SqT.of (zL _ _ ha), for_it (walk_enT (K := K) (a := a) (xs := xs)) (fun i σ H' => ∃ (seen : List Str) (x2 x3 : Option V), σ = [some (.ref a), some (.ref L), x2, x3] ∧ Same H H' ∧ H' L = some (.lst (seen.map V.str)) ∧ seen.length = i ∧ badFrom (cs.drop i) seen i = badFrom cs [] 0)
        ⟨[], _, _, rfl, zL, upd_same, rfl, rfl⟩ (fun i σ H' _ p => by obtain ⟨_, _, _, _, e, _⟩ := p; exact SqT.of (e _ _ ha)) ?_ ?_⟩
      · rintro i x σ Ha Hb hi ⟨seen, x2, x3, rfl, sa, hLa, rfl, bd⟩ ⟨q, i', y, rfl, hq, rfl, e1, e2⟩
        obtain rfl : V.int ((seen.length : Nat) : Int) = i' := Option.some.inj e1
        have zq := Same.upd (o := .tup [.int ((seen.length : Nat) : Int), y]) hq
        refine ⟨q, _, rfl, SqT.of upd_same, rfl, _, _, rfl, _, _, rfl, rfl, ?_⟩
        obtain ⟨c, hc, cv⟩ := hcs.2 _ _ e2
        obtain ⟨hi2, rfl⟩ := List.getElem?_eq_some_iff.mp hc
        rw [List.drop_eq_getElem_cons hi2] at bd
        have sq := sa.trans zq
        have nq : L ≠ q := ne_of_none hLa hq
        generalize cs[seen.length] = c at cv bd
        have cv' := cv.same sq
        cases cv' with
        | no ck =>
          refine ⟨_, rfl, _, false, rfl, ck, fun H2 s2 => ⟨_, rfl, ?_⟩⟩
          exact iteT (iteT ⟨_, rfl, one, tells_ofF (k2 _ bd.symm H2 (sq.trans s2))⟩)
        | @yes a' z y' e ck =>
          refine ⟨_, rfl, _, true, rfl, ck, fun H2 s2 => ⟨_, rfl, iteF ?_⟩⟩
          have s3 := sq.trans s2
          have hL2 := (zq.trans s2) _ _ hLa
          refine ⟨_, rfl, a', _, _, _, rfl, rfl, SqT.of (s2 _ _ e), rfl, _, rfl, L, _, rfl, .inl (SqL.of hL2), rfl, by simp [flatV], _, rfl, ?_⟩
          have bd2 : (if inV (.str z) (seen.map V.str) then some seen.length else badFrom (cs.drop (seen.length + 1)) (seen ++ [z]) (seen.length + 1)) = badFrom cs [] 0 := bd
          rw [if_neg Bool.false_ne_true]
          by_cases mem : inV (.str z) (seen.map V.str) = true
          · rw [if_pos mem] at bd2
            rw [mem]
            exact iteT ⟨_, rfl, one, tells_ofF (k2 _ bd2.symm H2 s3)⟩
          · rw [if_neg mem] at bd2
            rw [show inV (.str z) (seen.map V.str) = false by simpa using mem]
            have lc := hcs.1
            refine iteF ⟨_, rfl, .inl ⟨rfl, _, SqL.of hL2⟩, _, rfl, a', _, _, _, rfl, rfl, SqT.of (s2 _ _ e), rfl, L, _, _, rfl, rfl, hL2, ?_, ?_⟩
            · rw [List.length_map]
              exact Nat.lt_of_lt_of_le (show seen.length < 9 by omega) (by decide)
            · exact ⟨seen ++ [z], _, _, rfl, fun b o eb => by rw [upd_ne (ne_of_none eb hL)]; exact s3 b o eb, by rw [upd_same, List.map_append]; rfl, by rw [List.length_append]; rfl, bd2⟩
      · rintro σ H' ⟨seen, x2, x3, rfl, sa, _, hn, bd⟩
        have lc := hcs.1
        rw [List.drop_of_length_le (by omega)] at bd
        exact k1 bd.symm H' sa
end
end K05
set_option Elab.async false
set_option linter.all false
set_option maxRecDepth 100000
set_option maxHeartbeats 4000000
namespace K05
open PySem PySem.Spec PyProof.Rows L2 Lc
abbrev sOdd : Stmt := top 29
/-- whatever is done to the tape at t, v is d -/
def DhB (t : Addr) (H : Hp) (v : V) (d : PyData) : Prop := ∀ H', SameB t H H' → Dh H' v d
theorem DhB.b {t : Addr} {H H' : Hp} {v : V} {d : PyData} (h : DhB t H v d) (s : SameB t H H') : DhB t H' v d := fun H2 s2 => h H2 (s.trans s2)
theorem DhB.now {t : Addr} {H : Hp} {v : V} {d : PyData} (h : DhB t H v d) : Dh H v d := h H (SameB.refl t H)
theorem Same.gone {H H' : Hp} {p : Addr} (s : Same H H') (e : H' p = none) : H p = none := by
  cases q : H p with
  | none => rfl
  | some o => rw [s p o q] at e; cases e
/-- v is d, all its parts are new since H -/
def DhF (H H' : Hp) (v : V) (d : PyData) : Prop := ∀ H2 : Hp, (∀ b o, H b = none → H' b = some o → H2 b = some o) → Dh H2 v d
/-- a part of a column: small, a text of some length -/
structure Cm (d : PyData) : Prop where
  tm : Tm 1 21000 d
  st : ∀ z, d = .str z → z.length ≤ sizeLine
def spOdd : Sp := fun vs H Q _ => ∃ t l : Addr, vs = [.ref t] ∧ TapeL l H t ∧ ∀ (v : V) (d : PyData) (H' : Hp), DhF H H' v d → Cm d → (∀ x y, d ≠ .tuple [x, y]) → TapeL l H' t → SameB t H H' → Q v H'
theorem sh_line {n : Nat} {x : Str} (h : Sh n x) (l : n ≤ 1000) : x.length ≤ sizeLine := by
  rw [lenL]
  exact Nat.le_trans h.len (Nat.le_trans l (by decide))
theorem tm_str {s : Str} (h : Sh 100 s) : Tm 0 20000 (.str s) := tm_fl (fl_str h (by decide))
theorem tm_up {d : PyData} (h : Tm 0 20000 d) : Tm 1 21000 d := h.mono (by decide) (by decide)
theorem cm_str {s : Str} (h : Sh 100 s) : Cm (.str s) := ⟨tm_up (tm_str h), fun z e => by injection e with e; rw [← e]; exact sh_line h (by decide)⟩
section
variable {P : Program} {w : World} {K : PySem.W.Frag} {mg : Str → Option Value} {base : Heap} {f fD : Addr} {fd fdD : FuncData}
theorem scOdd : FnScope ["_law_tape_here", "_law_some"] ["_law_tape_here"] (defScope sOdd) := ⟨rfl, rfl, rfl, by decide +kernel, rfl, by decide +kernel, by decide +kernel⟩
theorem ok_odd (F : Fun K "_law_odd" "_law_odd" sOdd f fd) (GD : FnOk P w K mg base CX0 1 fD fdD ["_law_tape_here", "_law_many"] spDrawL) (mD : mg "_law_draw" = some (.ref fD)) (kD : PySem.W.keepIn K (.ref fD) = true) (bD : Binds K fdD ["_law_tape_here", "_law_many"] []) :
    FnOk P w K mg base CX0 2 f fd ["_law_tape_here"] spOdd := by
  refine F.ok scOdd (fun vs H Q E h => ?_) (fun cdv A outer s H vs Q E hr h => ?_)
  · obtain ⟨t, l, rfl, _⟩ := h
    rfl
  · obtain ⟨t, l, rfl, hT, k⟩ := h
    refine ⟨_, pss_cons (ps_set (i := 1) scOdd.nd rfl (Or.inl rfl) (pe_lst (pa_cons pe_non (pa_cons pe_bl (pa_cons pe_int (pa_cons (pe_tup pa_nil) (pa_cons (pe_lst pa_nil) (pa_cons pe_str (pa_cons pe_str (pa_cons pe_str (pa_cons (pe_tup (pa_cons pe_str pa_nil)) (pa_cons (pe_lst (pa_cons pe_str pa_nil)) (pa_cons pe_str (pa_cons pe_str (pa_cons pe_str (pa_cons pe_str pa_nil))))))))))))))))
      (pss_one (ps_ret (pe_ix ix_list (pv 1) (pe_call GD hr (by rfl) mD kD bD .nil pass0 (pa_cons (pv 0) (pa_cons pe_int pa_nil))) (fun _ _ => rfl)))), ?_⟩
    have o1 : 1 ≤ sizeLine := by decide
    refine ⟨by show 0 ≤ sizeLine; decide, fun c1 h1 => ⟨by show 0 ≤ sizeLine; decide, fun c2 h2 => ⟨o1, fun c3 h3 => ⟨o1, fun c4 h4 => ⟨by show 14 ≤ sizeLine; decide, fun L hL => ?_⟩⟩⟩⟩⟩
    have y1 := Same.upd (o := .tup []) h1
    have y2 := Same.upd (o := .lst []) h2
    have y3 := Same.upd (o := .tup [.str "a"]) h3
    have y4 := Same.upd (o := .lst [.str "a"]) h4
    have y5 := Same.upd (o := .lst [.non, .bl true, .int 0, .ref c1, .ref c2, .str "", .str "Word", .str "number ", .ref c3, .ref c4, .str "1a", .str "a_b", .str "numbers", .str "abcdefghijklm"]) hL
    have x4 := y4.trans y5
    have x3 := y3.trans x4
    have x2 := y2.trans x3
    have x1 := y1.trans x2
    have n1 := hT.tape.ne h1
    have n2 := (hT.same y1).tape.ne h2
    have n3 := (hT.same (y1.trans y2)).tape.ne h3
    have n4 := (hT.same (y1.trans (y2.trans y3))).tape.ne h4
    have g2 := Same.gone y1 h2
    have g3 := Same.gone (y1.trans y2) h3
    have g4 := Same.gone (y1.trans (y2.trans y3)) h4
    have nL := (hT.same (y1.trans (y2.trans (y3.trans y4)))).tape.ne hL
    refine ⟨_, rfl, _, rfl, t, l, _, rfl, hT.same x1, by decide, big1000 (by decide) (by decide), fun k2 H9 u2 w2 T9 S9 => ?_⟩
    have sa : Sh 100 ("a" : Str) := ⟨by decide +kernel, by decide +kernel⟩
    have one : ∀ d ∈ [PyData.str "a"], Tm 0 20000 d := fun d hd => by rw [List.mem_singleton.mp hd]; exact tm_str sa
    have all : ∀ v ∈ ([.non, .bl true, .int 0, .ref c1, .ref c2, .str "", .str "Word", .str "number ", .ref c3, .ref c4, .str "1a", .str "a_b", .str "numbers", .str "abcdefghijklm"] : List V), ∃ d, DhF H H9 v d ∧ Cm d ∧ ∀ x y, d ≠ .tuple [x, y] := by
      intro v hv
      simp only [List.mem_cons, List.not_mem_nil, or_false] at hv
      rcases hv with rfl | rfl | rfl | rfl | rfl | rfl | rfl | rfl | rfl | rfl | rfl | rfl | rfl | rfl
      · exact ⟨_, fun _ _ => .non, ⟨tm_up (tm_fl fl_non), nofun⟩, nofun⟩
      · exact ⟨_, fun _ _ => .bl true, ⟨tm_up (tm_fl (fl_bl true)), nofun⟩, nofun⟩
      · exact ⟨_, fun _ _ => .int 0, ⟨tm_up (tm_fl (fl_int (by show 0 < _; exact Nat.pow_pos (by decide)))), nofun⟩, nofun⟩
      · exact ⟨_, fun H' s' => .tup (s' _ _ h1 (S9 _ _ n1 (x2 _ _ upd_same))) .nil, ⟨(tm_tup (k := 0) (n := 20000) (ds := []) (fun _ h => nomatch h)).mono (by decide) (by decide), nofun⟩, nofun⟩
      · exact ⟨_, fun H' s' => .lst (s' _ _ g2 (S9 _ _ n2 (x3 _ _ upd_same))) .nil, ⟨(tm_lst (k := 0) (n := 20000) (ds := []) (fun _ h => nomatch h)).mono (by decide) (by decide), nofun⟩, nofun⟩
      · exact ⟨_, fun _ _ => .str _, cm_str ⟨by decide +kernel, by decide +kernel⟩, nofun⟩
      · exact ⟨_, fun _ _ => .str _, cm_str ⟨by decide +kernel, by decide +kernel⟩, nofun⟩
      · exact ⟨_, fun _ _ => .str _, cm_str ⟨by decide +kernel, by decide +kernel⟩, nofun⟩
      · exact ⟨_, fun H' s' => .tup (s' _ _ g3 (S9 _ _ n3 (x4 _ _ upd_same))) (.cons (.str _) .nil), ⟨(tm_tup one).mono (by decide) (by decide), nofun⟩, nofun⟩
      · exact ⟨_, fun H' s' => .lst (s' _ _ g4 (S9 _ _ n4 (y5 _ _ upd_same))) (.cons (.str _) .nil), ⟨(tm_lst one).mono (by decide) (by decide), nofun⟩, nofun⟩
      · exact ⟨_, fun _ _ => .str _, cm_str ⟨by decide +kernel, by decide +kernel⟩, nofun⟩
      · exact ⟨_, fun _ _ => .str _, cm_str ⟨by decide +kernel, by decide +kernel⟩, nofun⟩
      · exact ⟨_, fun _ _ => .str _, cm_str ⟨by decide +kernel, by decide +kernel⟩, nofun⟩
      · exact ⟨_, fun _ _ => .str _, cm_str ⟨by decide +kernel, by decide +kernel⟩, nofun⟩
    have hk : k2.toNat < ([.non, .bl true, .int 0, .ref c1, .ref c2, .str "", .str "Word", .str "number ", .ref c3, .ref c4, .str "1a", .str "a_b", .str "numbers", .str "abcdefghijklm"] : List V).length := by show k2.toNat < 14; omega
    obtain ⟨d, hd, td, nd⟩ := all _ (List.getElem_mem hk)
    exact ⟨L, _, _, _, rfl, rfl, SqL.of (S9 _ _ nL upd_same), at_of (j := k2.toNat) (by omega) (List.getElem?_eq_getElem hk), k _ d H9 hd td nd T9 ((Same.b t x1).trans S9)⟩
end
end K05
set_option Elab.async false
set_option linter.all false
set_option maxRecDepth 100000
set_option maxHeartbeats 4000000
namespace K05
open PySem PySem.Spec PyProof.Rows L2 Lc
abbrev sFr : Stmt := top 26
def spFr : Sp := fun vs H Q _ => ∃ (t c l : Addr) (ss : List Str), vs = [.ref t, .ref l] ∧ TapeL c H t ∧ H l = some (.lst (ss.map V.str)) ∧ ∀ (x : Str) (H' : Hp), Sh 13 x → TapeL c H' t → SameB t H H' → Q (.str x) H'
theorem ne_tape {H : Hp} {t l : Addr} {ss : List Str} (T : Tape H t) (h : H l = some (.lst (ss.map V.str))) : l ≠ t := fun z => by
  obtain ⟨a, _, _, _, _, ht, _⟩ := T
  rw [z, ht] at h
  cases ss with
  | nil => cases h
  | cons x r =>
    injection h with h
    injection h with h
    injection h with h1 _
    cases h1
section
variable {P : Program} {w : World} {K : PySem.W.Frag} {mg : Str → Option Value} {base : Heap} {f fN : Addr} {fd fdN : FuncData}
theorem scFr : FnScope ["_law_tape_here", "_law_taken", "_law_name_here", "_law_letter"] ["_law_tape_here", "_law_taken"] (defScope sFr) := ⟨rfl, rfl, rfl, by decide +kernel, rfl, by decide +kernel, by decide +kernel⟩
theorem ok_fr (F : Fun K "_law_fresh" "_law_fresh" sFr f fd) (GN : FnOk P w K mg base CX0 2 fN fdN ["_law_tape_here"] spLNm) (mN : mg "_law_name" = some (.ref fN)) (kN : PySem.W.keepIn K (.ref fN) = true) (bN : Binds K fdN ["_law_tape_here"] []) :
    FnOk P w K mg base CX0 3 f fd ["_law_tape_here", "_law_taken"] spFr := by
  refine F.ok scFr (fun vs H Q E h => ?_) (fun cdv A outer s H vs Q E hr h => ?_)
  · obtain ⟨t, c, l, ss, rfl, _⟩ := h
    rfl
  · obtain ⟨t, tl, l, ss, rfl, hT, hl, k⟩ := h
    refine ⟨_, pss_cons (ps_set (i := 2) scFr.nd rfl (Or.inl rfl) (pe_call GN hr (by rfl) mN kN bN .nil pass0 (pa_cons (pv 0) pa_nil)))
      (pss_cons (ps_if (pt_cmpR op_notIn_seq (pv 2) (pv 1) (by rfl)) (pss_one (ps_ret (pv 2))) pss_nil)
      (pss_cons (ps_for PassesOwn.never rfl (pi_str pe_str) (pg_name (i := 3) scFr.nd rfl (Or.inl rfl))
        (pss_one (ps_if (pt_cmpR op_notIn_seq (pe_op op_add_str (pe_slice sl_str (pv 2) po_none (po_some pe_int)) (pv 3)) (pv 1) (by rfl)) (pss_one (ps_ret (pe_op op_add_str (pe_slice sl_str (pv 2) po_none (po_some pe_int)) (pv 3)))) pss_nil)))
      (pss_one (ps_ret (pv 2))))), ?_⟩
    refine ⟨_, rfl, t, tl, rfl, hT, fun x H1 hx T1 S1 => ?_⟩
    have hl1 := S1 _ _ (ne_tape hT.tape hl) hl
    have fl : (ss.map V.str).all flatV = true := by simp [flatV]
    have ln := hx.line (by decide)
    refine ⟨_, rfl, _, rfl, l, _, rfl, .inl (SqL.of hl1), rfl, fl, _, rfl, ite2 (fun _ => ?_) (fun _ => ?_)⟩
    · exact ⟨_, rfl, k x H1 (hx.mono (by decide)) T1 S1⟩
    · refine ⟨_, rfl, for_it walk_str (fun i σ H' => (∃ x3 : Option V, σ = [some (.ref t), some (.ref l), some (.str x), x3]) ∧ H' = H1) ⟨⟨_, rfl⟩, rfl⟩ (fun _ _ _ _ _ => trivial) ?_ ?_⟩
      · rintro i v σ Ha Hb hi ⟨⟨x3, rfl⟩, rfl⟩ ⟨rfl, c, hc, rfl⟩
        have cs : c < 1114112 := sh_string "abcdefghijklmnopqrstuvwxyz0123456789" c (Array.mem_toList_iff.mpr (Array.mem_of_getElem? hc))
        have sc : Sh 12 (cutS x none (some 11)) := sh_cut none (some 11) hx
        have so : Sh 1 (⟨#[c]⟩ : Str) := sh_one cs
        have lt : (cutS x none (some 11)).length + (⟨#[c]⟩ : Str).length ≤ sizeLine := Nat.le_trans (Nat.add_le_add (sh_len sc) (sh_len so)) (by decide)
        refine ⟨_, rfl, 11, rfl, x, rfl, ln, _, rfl, _, _, rfl, rfl, lt, _, rfl, l, _, rfl, .inl (SqL.of hl1), rfl, fl, _, rfl, ite2 (fun _ => ?_) (fun _ => ?_)⟩
        · exact ⟨_, rfl, 11, rfl, x, rfl, ln, _, rfl, _, _, rfl, rfl, lt, k _ _ (sh_app sc so) T1 S1⟩
        · exact ⟨⟨_, rfl⟩, rfl⟩
      · rintro σ H' ⟨⟨x3, rfl⟩, rfl⟩
        exact ⟨_, rfl, k x _ (hx.mono (by decide)) T1 S1⟩
end
end K05
set_option Elab.async false
set_option linter.all false
set_option maxRecDepth 100000
set_option maxHeartbeats 4000000
namespace K05
open PySem PySem.Spec PyProof.Rows L2 Lc
/-! ## columns as deep data -/
def colD : PyData → Option Str
  | .tuple [.str z, .str k] => if nameB (.str z) && kindB (.str k) then some z else none
  | _ => none
theorem colD_one (d : PyData) : colD (.tuple [d]) = none := by cases d <;> rfl
theorem colD_more (a b c : PyData) (r : List PyData) : colD (.tuple (a :: b :: c :: r)) = none := by cases a <;> cases b <;> rfl
theorem cv_of {H : Hp} {v : V} {d : PyData} (h : Dh H v d) (l : ∀ z y, d = .tuple [.str z, y] → z.length ≤ sizeLine) : Cv H v (colD d) := by
  cases h with
  | non => exact .no (.other .non (by decide))
  | bl b => exact .no (.other (.bl b) (by decide))
  | int i => exact .no (.other (.int i) (by decide))
  | str x => exact .no (.other (.str x) (by decide))
  | lst e _ => exact .no (.other (.lst e) (by decide))
  | dct e => exact .no (.other (.dct e) (by decide))
  | tup e h =>
    cases h with
    | nil => exact .no (.len e (by decide))
    | cons h1 r =>
      cases r with
      | nil => rw [colD_one]; exact .no (.len e (by show 1 ≠ 2; decide))
      | cons h2 r2 =>
        cases r2 with
        | cons h3 r3 => rw [colD_more]; exact .no (.len e (by simp))
        | nil =>
          have no : ∀ {b : Addr} {x y : V} {tx ty : String}, H b = some (.tup [x, y]) → TyN H x tx → TyN H y ty → (∀ z, x = .str z → z.length ≤ sizeLine) → (nameB x && kindB y) = false → Ck H (.ref b) false := fun {b x y tx ty} e hx hy lx q => by
            have z := Ck.pair e hx hy lx
            rw [q] at z
            exact z
          cases h1 with
          | str z =>
            have lz : ∀ z', V.str z = .str z' → z'.length ≤ sizeLine := fun z' q => by injection q with q; rw [← q]; exact l z _ rfl
            cases h2 with
            | str k =>
              by_cases q : (nameB (.str z) && kindB (.str k)) = true
              · have ck := Ck.pair e (.str z) (.str k) lz
                rw [q] at ck
                rw [show colD (.tuple [.str z, .str k]) = some z from if_pos q]
                exact .yes e ck
              · rw [show colD (.tuple [.str z, .str k]) = none from if_neg q]
                exact .no (no e (.str z) (.str k) lz (by simpa using q))
            | non => exact .no (no e (.str z) .non lz (Bool.and_false _))
            | bl b => exact .no (no e (.str z) (.bl b) lz (Bool.and_false _))
            | int i => exact .no (no e (.str z) (.int i) lz (Bool.and_false _))
            | tup e2 _ => exact .no (no e (.str z) (.tup e2) lz (Bool.and_false _))
            | lst e2 _ => exact .no (no e (.str z) (.lst e2) lz (Bool.and_false _))
            | dct e2 => exact .no (no e (.str z) (.dct e2) lz (Bool.and_false _))
          | non => exact .no (no e .non h2.ty nofun rfl)
          | bl b => exact .no (no e (.bl b) h2.ty nofun rfl)
          | int i => exact .no (no e (.int i) h2.ty nofun rfl)
          | tup e1 _ => exact .no (no e (.tup e1) h2.ty nofun rfl)
          | lst e1 _ => exact .no (no e (.lst e1) h2.ty nofun rfl)
          | dct e1 => exact .no (no e (.dct e1) h2.ty nofun rfl)
theorem cvs_of {H : Hp} {xs : List V} {ds : List PyData} (h : DhAll H xs ds) (l : ∀ d ∈ ds, ∀ z y, d = .tuple [.str z, y] → z.length ≤ sizeLine) : Cvs H xs (ds.map colD) := by
  refine ⟨by rw [List.length_map]; exact h.len, fun i x e => ?_⟩
  obtain ⟨d, hd, dh⟩ := h.get i x e
  exact ⟨colD d, by rw [List.getElem?_map, hd]; rfl, cv_of dh (l d (List.mem_of_getElem? hd))⟩
end K05
set_option Elab.async false
set_option linter.all false
set_option maxRecDepth 100000
set_option maxHeartbeats 4000000
namespace K05
open PySem PySem.Spec PyProof.Rows L2 Lc
abbrev sDue : Stmt := top 32
def OutT (H : Hp) (l : List V) (Q : VK) : Prop := ∀ (r : Addr) (H' : Hp), Same H H' → H' r = some (.tup l) → Q (.ref r) H'
theorem OutT.same {H H' : Hp} {l : List V} {Q : VK} (h : OutT H l Q) (s : Same H H') : OutT H' l Q := fun r H2 s2 e => h r H2 (s.trans s2) e
def spDue : Sp := fun vs H Q _ => ∃ v : V, vs = [v] ∧ ((∃ t, TyN H v t ∧ t ≠ "tuple" ∧ OutT H [.str "columns", .non, .bl true] Q) ∨
  (∃ (a : Addr) (xs : List V), v = .ref a ∧ H a = some (.tup xs) ∧ (xs.length = 0 ∨ 8 < xs.length) ∧ OutT H [.str "columns", .non, .bl true] Q) ∨
  (∃ (a : Addr) (xs : List V) (cs : List (Option Str)), v = .ref a ∧ H a = some (.tup xs) ∧ 0 < xs.length ∧ xs.length ≤ 8 ∧ Cvs H xs cs ∧ (badFrom cs [] 0 = none → OutT H [.str "told"] Q) ∧
    ∀ i : Nat, badFrom cs [] 0 = some i → OutT H [.str "columns", .int i, .bl true] Q))
theorem name_str {x : V} (h : nameB x = true) : ∃ z, x = .str z := by
  cases x <;> first | exact ⟨_, rfl⟩ | cases h
theorem Ck.yes {H : Hp} {v : V} {b : Bool} (h : Ck H v b) : b = true → ∀ (a : Addr) (z : Str) (y : V), v = .ref a → H a = some (.tup [.str z, y]) → nameB (.str z) = true ∧ kindB y = true ∧ (∃ ty, TyN H y ty) ∧ z.length ≤ sizeLine := by
  cases h with
  | other h n => intro q; cases q
  | len e n => intro q; cases q
  | pair e hx hy lx =>
    intro q a z y ev e'
    cases ev
    rw [e] at e'
    cases e'
    obtain ⟨h1, h2⟩ := Bool.and_eq_true_iff.mp q
    exact ⟨h1, h2, ⟨_, hy⟩, lx _ rfl⟩
section
variable {P : Program} {w : World} {K : PySem.W.Frag} {mg : Str → Option Value} {base : Heap} {f fN : Addr} {fd fdN : FuncData}
theorem scDue : FnScope ["_law_columns_here", "_law_seen", "_law_index", "_law_part"] ["_law_columns_here"] (defScope sDue) := ⟨rfl, rfl, rfl, by decide +kernel, rfl, by decide +kernel, by decide +kernel⟩
theorem ok_due (F : Fun K "_law_due" "_law_due" sDue f fd) (T : Bt mg) (GN : FnOk P w K mg base CX0 1 fN fdN ["_law_value"] spName) (mN : mg "_law_is_name" = some (.ref fN)) (kN : PySem.W.keepIn K (.ref fN) = true) (bN : Binds K fdN ["_law_value"] []) : FnOk P w K mg base CX0 2 f fd ["_law_columns_here"] spDue := by
  refine F.ok scDue (fun vs H Q E h => ?_) (fun cdv A outer s H vs Q E hr h => ?_)
  · obtain ⟨v, rfl, _⟩ := h
    rfl
  · obtain ⟨v, rfl, h⟩ := h
    refine ⟨_, pss_cons (ps_if (PW.pt (pw_or (pt_not (pt_val (pe_callB call_isi (by rfl) T.isi boot_isinstance (pa_cons (pv 0) (pa_cons (pe_bltn (v := .ty "tuple") (by rfl) T.tuple boot_tuple rfl) pa_nil)))))
        (pw_or1 (pt_not (pt_chain op_le op_le pe_int (pe_callB call_len_seq (by rfl) T.len PySem.boot_len (pa_cons (pv 0) pa_nil)) pe_int))))) (pss_one (ps_ret (pe_tup (pa_cons pe_str (pa_cons pe_non (pa_cons pe_bl pa_nil)))))) pss_nil)
      (pss_cons (ps_set (i := 1) scDue.nd rfl (Or.inl rfl) (pe_lst pa_nil))
      (pss_cons (ps_for PassesOwn.never rfl (pi_enT (by rfl) T.enum (pa_cons (pv 0) pa_nil)) (pg_tup rfl (pgs_cons (pg_name (i := 2) scDue.nd rfl (.inl rfl)) (pgs_cons (pg_name (i := 3) scDue.nd rfl (.inl rfl)) pgs_nil)))
        (pss_cons (ps_if (PW.pt (pw_or (pt_not (pt_val (pe_callB call_isi (by rfl) T.isi boot_isinstance (pa_cons (pv 3) (pa_cons (pe_bltn (v := .ty "tuple") (by rfl) T.tuple boot_tuple rfl) pa_nil)))))
            (pw_or (pt_cmpR op_ne (pe_callB call_len_seq (by rfl) T.len PySem.boot_len (pa_cons (pv 3) pa_nil)) pe_int (nomark _))
            (pw_or (pt_not (pt_val (pe_call GN hr (by rfl) mN kN bN .nil pass0 (pa_cons (pe_ix ix_tup (pv 3) pe_int (fun _ _ => rfl)) pa_nil))))
            (pw_or1 (pt_cmpR op_in_seq (pe_ix ix_tup (pv 3) pe_int (fun _ _ => rfl)) (pv 1) (by rfl))))))) (pss_one (ps_ret (pe_tup (pa_cons pe_str (pa_cons (pv 2) (pa_cons pe_bl pa_nil)))))) pss_nil)
        (pss_cons (ps_if (PW.pt (pw_or (pt_not (pt_val (pe_callB call_isi (by rfl) T.isi boot_isinstance (pa_cons (pe_ix ix_tup (pv 3) pe_int (fun _ _ => rfl)) (pa_cons (pe_bltn (v := .ty "str") (by rfl) T.str boot_str rfl) pa_nil)))))
            (pw_or1 (pt_cmpR op_notIn_seq (pe_ix ix_tup (pv 3) pe_int (fun _ _ => rfl)) (pe_tup (pa_cons pe_str (pa_cons pe_str (pa_cons pe_str pa_nil)))) (by rfl))))) (pss_one (ps_ret (pe_tup (pa_cons pe_str (pa_cons (pv 2) (pa_cons pe_bl pa_nil)))))) pss_nil)
        (pss_one (ps_expr (pe_bm PySem.F.plainAttrs_list PySem.F.slot_list_append PySem.F.type_list_append mt_append (pv 1) (pa_cons (pe_ix ix_tup (pv 3) pe_int (fun _ _ => rfl)) pa_nil)))))))
      (pss_one (ps_ret (pe_tup (pa_cons pe_str pa_nil)))))), ?_⟩
    have th : 3 ≤ sizeLine := by decide
    rcases h with ⟨t, ht, n, tl⟩ | ⟨a, xs, rfl, ha, hl, tl⟩ | ⟨a, xs, cs, rfl, ha, l0, l8, hcs, k1, k2⟩
    · refine ⟨_, rfl, v, .ty "tuple", _, _, _, rfl, .ty "tuple", ht.x, kit_tuple ht.mem, _, rfl, ?_⟩
      rw [show (t == "tuple") = false by simpa using n]
      exact iteT (iteT ⟨th, fun q hq => tl q _ (Same.upd hq) upd_same⟩)
    · refine ⟨_, rfl, .ref a, .ty "tuple", _, _, _, rfl, .ty "tuple", (TyN.tup ha).x, kit_tuple (by decide), _, rfl, ?_⟩
      refine iteF ⟨_, rfl, a, xs, rfl, .inr (SqT.of ha), _, _, rfl, rfl, _, rfl, ?_⟩
      by_cases z : xs.length = 0
      · rw [decide_eq_false (show ¬ (1 : Int) ≤ (xs.length : Int) by omega)]
        exact iteF ⟨_, rfl, iteT ⟨th, fun q hq => tl q _ (Same.upd hq) upd_same⟩⟩
      · rw [decide_eq_true (show (1 : Int) ≤ (xs.length : Int) by omega)]
        refine iteT ⟨_, _, rfl, rfl, _, rfl, ?_⟩
        rw [decide_eq_false (show ¬ (xs.length : Int) ≤ 8 by omega)]
        exact iteT ⟨th, fun q hq => tl q _ (Same.upd hq) upd_same⟩
    · refine ⟨_, rfl, .ref a, .ty "tuple", _, _, _, rfl, .ty "tuple", (TyN.tup ha).x, kit_tuple (by decide), _, rfl, ?_⟩
      refine iteF ⟨_, rfl, a, xs, rfl, .inr (SqT.of ha), _, _, rfl, rfl, _, rfl, ?_⟩
      rw [decide_eq_true (show (1 : Int) ≤ (xs.length : Int) by omega)]
      refine iteT ⟨_, _, rfl, rfl, _, rfl, ?_⟩
      rw [decide_eq_true (show (xs.length : Int) ≤ 8 by omega)]
      refine iteF ⟨by show 0 ≤ sizeLine; decide, fun L hL => ?_⟩
      have zL := Same.upd (o := .lst []) hL
      refine ⟨_, rfl, a, xs, rfl, SqT.of (zL _ _ ha), for_it (walk_enT (K := K) (a := a) (xs := xs)) (fun i σ H' => ∃ (seen : List Str) (x2 x3 : Option V), σ = [some (.ref a), some (.ref L), x2, x3] ∧ Same H H' ∧ H' L = some (.lst (seen.map V.str)) ∧ seen.length = i ∧ badFrom (cs.drop i) seen i = badFrom cs [] 0)
        ⟨[], _, _, rfl, zL, upd_same, rfl, rfl⟩ (fun i σ H' _ p => by obtain ⟨_, _, _, _, e, _⟩ := p; exact SqT.of (e _ _ ha)) ?_ ?_⟩
      · rintro i x σ Ha Hb hi ⟨seen, x2, x3, rfl, sa, hLa, rfl, bd⟩ ⟨q, i', y, rfl, hq, rfl, e1, e2⟩
        obtain rfl : V.int ((seen.length : Nat) : Int) = i' := Option.some.inj e1
        have zq := Same.upd (o := .tup [.int ((seen.length : Nat) : Int), y]) hq
        refine ⟨q, _, rfl, SqT.of upd_same, rfl, _, _, rfl, _, _, rfl, rfl, ?_⟩
        obtain ⟨c, hc, cv⟩ := hcs.2 _ _ e2
        obtain ⟨hi2, rfl⟩ := List.getElem?_eq_some_iff.mp hc
        rw [List.drop_eq_getElem_cons hi2] at bd
        have sq := sa.trans zq
        generalize cs[seen.length] = c at cv bd
        have cv' := cv.same sq
        generalize upd Ha q (.tup [.int ((seen.length : Nat) : Int), y]) = Hc at zq sq cv' ⊢
        have hLc := zq _ _ hLa
        -- the number is told
        have out : ∀ {H2 : Hp}, badFrom cs [] 0 = some seen.length → Same H H2 → 3 ≤ sizeLine ∧ ∀ q, H2 q = none → Q (.ref q) (upd H2 q (.tup [.str "columns", .int ((seen.length : Nat) : Int), .bl true])) := fun {H2} b s2 => ⟨th, fun q hq => k2 _ b q _ (s2.trans (Same.upd hq)) upd_same⟩
        have fl : (seen.map V.str).all flatV = true := by simp [flatV]
        cases cv' with
        | no ck =>
          have bad : badFrom cs [] 0 = some seen.length := bd.symm
          generalize hb : false = bb at ck
          cases ck with
          | @other _ t ty n =>
            refine ⟨_, rfl, y, .ty "tuple", _, _, _, rfl, .ty "tuple", ty.x, kit_tuple ty.mem, _, rfl, ?_⟩
            rw [show (t == "tuple") = false by simpa using n]
            exact iteT (iteT ⟨_, rfl, out bad sq⟩)
          | @len a' ys e n =>
            refine ⟨_, rfl, _, .ty "tuple", _, _, _, rfl, .ty "tuple", (TyN.tup e).x, kit_tuple (by decide), _, rfl, ?_⟩
            refine iteF ⟨_, rfl, a', ys, rfl, .inr (SqT.of e), rfl, _, rfl, ?_⟩
            rw [show decide (V.int (ys.length : Int) = V.int 2) = false from decide_eq_false (fun q => n (by injection q with q; omega))]
            exact iteT (iteT ⟨_, rfl, out bad sq⟩)
          | @pair a' x y' tx ty e hx hy lx =>
            refine ⟨_, rfl, _, .ty "tuple", _, _, _, rfl, .ty "tuple", (TyN.tup e).x, kit_tuple (by decide), _, rfl, ?_⟩
            refine iteF ⟨_, rfl, a', _, rfl, .inr (SqT.of e), rfl, _, rfl, ?_⟩
            refine iteF ⟨_, rfl, a', _, _, _, rfl, rfl, SqT.of e, rfl, x, tx, rfl, hx, lx, fun H2 s2 => ⟨_, rfl, ?_⟩⟩
            cases nb : nameB x with
            | false => exact iteT (iteT ⟨_, rfl, out bad (sq.trans s2)⟩)
            | true =>
              rw [nb, Bool.true_and] at hb
              obtain ⟨z, rfl⟩ := name_str nb
              refine iteF ⟨_, rfl, a', _, _, _, rfl, rfl, SqT.of (s2 _ _ e), rfl, _, rfl, L, _, rfl, .inl (SqL.of (s2 _ _ hLc)), rfl, fl, _, rfl, ?_⟩
              refine ite2 (fun _ => ⟨_, rfl, out bad (sq.trans s2)⟩) (fun _ => ?_)
              refine ⟨_, rfl, a', _, _, _, rfl, rfl, SqT.of (s2 _ _ e), rfl, y', .ty "str", _, _, _, rfl, .ty "str", (hy.same s2).x, kit_str hy.mem, _, rfl, ?_⟩
              by_cases st : ty = "str"
              · obtain ⟨k, rfl⟩ := hy.isStr st
                subst st
                refine iteF ⟨_, rfl, a', _, _, _, rfl, rfl, SqT.of (s2 _ _ e), rfl, th, fun q3 h3 => ?_⟩
                have z3 := Same.upd (o := .tup [.str "number", .str "word", .str "flag"]) h3
                refine ⟨q3, _, rfl, .inr (SqT.of upd_same), rfl, rfl, _, rfl, ?_⟩
                rw [if_pos rfl, show inV (.str k) [.str "number", .str "word", .str "flag"] = false from hb.symm]
                exact iteT ⟨_, rfl, out bad ((sq.trans s2).trans z3)⟩
              · rw [show (ty == "str") = false by simpa using st]
                exact iteT (iteT ⟨_, rfl, out bad (sq.trans s2)⟩)
        | @yes a' z y' e ck =>
          obtain ⟨nb, kb, ⟨ty, hy⟩, lz⟩ := ck.yes rfl _ _ _ rfl e
          refine ⟨_, rfl, _, .ty "tuple", _, _, _, rfl, .ty "tuple", (TyN.tup e).x, kit_tuple (by decide), _, rfl, ?_⟩
          refine iteF ⟨_, rfl, a', _, rfl, .inr (SqT.of e), rfl, _, rfl, ?_⟩
          refine iteF ⟨_, rfl, a', _, _, _, rfl, rfl, SqT.of e, rfl, _, _, rfl, .str z, (fun z' q => by injection q with q; rw [← q]; exact lz), fun H2 s2 => ⟨_, rfl, ?_⟩⟩
          rw [nb]
          have e2' := s2 _ _ e
          refine iteF ⟨_, rfl, a', _, _, _, rfl, rfl, SqT.of e2', rfl, _, rfl, L, _, rfl, .inl (SqL.of (s2 _ _ hLc)), rfl, fl, _, rfl, ?_⟩
          have bd2 : (if inV (.str z) (seen.map V.str) then some seen.length else badFrom (cs.drop (seen.length + 1)) (seen ++ [z]) (seen.length + 1)) = badFrom cs [] 0 := bd
          rw [if_neg Bool.false_ne_true]
          by_cases mem : inV (.str z) (seen.map V.str) = true
          · rw [if_pos mem] at bd2
            rw [mem]
            exact iteT ⟨_, rfl, out bd2.symm (sq.trans s2)⟩
          · rw [if_neg mem] at bd2
            rw [show inV (.str z) (seen.map V.str) = false by simpa using mem]
            have st : ty = "str" := by cases hy <;> first | rfl | cases kb
            obtain ⟨k, rfl⟩ := hy.isStr st
            subst st
            refine iteF ⟨_, rfl, a', _, _, _, rfl, rfl, SqT.of e2', rfl, _, .ty "str", _, _, _, rfl, .ty "str", (hy.same s2).x, kit_str hy.mem, _, rfl, ?_⟩
            refine iteF ⟨_, rfl, a', _, _, _, rfl, rfl, SqT.of e2', rfl, th, fun q3 h3 => ?_⟩
            have z3 := Same.upd (o := .tup [.str "number", .str "word", .str "flag"]) h3
            refine ⟨q3, _, rfl, .inr (SqT.of upd_same), rfl, rfl, _, rfl, ?_⟩
            rw [if_pos rfl, show inV (.str k) [.str "number", .str "word", .str "flag"] = true from kb]
            have s4 := (sq.trans s2).trans z3
            have hL4 := (s2.trans z3) _ _ hLc
            have lc := hcs.1
            refine iteF ⟨_, rfl, .inl ⟨rfl, _, SqL.of hL4⟩, _, rfl, a', _, _, _, rfl, rfl, SqT.of (z3 _ _ e2'), rfl, L, _, _, rfl, rfl, hL4, ?_, ?_⟩
            · rw [List.length_map]
              exact Nat.lt_of_lt_of_le (show seen.length < 9 by omega) (by decide)
            · exact ⟨seen ++ [z], _, _, rfl, fun b o eb => by rw [upd_ne (ne_of_none eb hL)]; exact s4 b o eb, by rw [upd_same, List.map_append]; rfl, by rw [List.length_append]; rfl, bd2⟩
      · rintro σ H' ⟨seen, x2, x3, rfl, sa, _, hn, bd⟩
        have lc := hcs.1
        rw [List.drop_of_length_le (by omega)] at bd
        exact ⟨by show 1 ≤ sizeLine; decide, fun q hq => k1 bd.symm q _ (sa.trans (Same.upd hq)) upd_same⟩
end
end K05
set_option Elab.async false
set_option linter.all false
set_option maxRecDepth 100000
set_option maxHeartbeats 4000000
namespace K05
open PySem PySem.Spec PyProof.Rows L2 Lc
abbrev sCls : Stmt := top 27
/-! ## columns: pairs of texts -/
inductive Cols (H : Hp) : List V → List (Str × Str) → Prop
  | nil : Cols H [] []
  | cons {a : Addr} {z k : Str} {xs : List V} {ps : List (Str × Str)} (e : H a = some (.tup [.str z, .str k])) (r : Cols H xs ps) : Cols H (.ref a :: xs) ((z, k) :: ps)
def SameT (H H' : Hp) : Prop := ∀ b xs, H b = some (.tup xs) → H' b = some (.tup xs)
theorem Cols.t {H H' : Hp} (s : SameT H H') : ∀ {xs : List V} {ps : List (Str × Str)}, Cols H xs ps → Cols H' xs ps
  | _, _, .nil => .nil
  | _, _, .cons e r => .cons (s _ _ e) (Cols.t s r)
theorem Cols.app {H : Hp} : ∀ {xs ys : List V} {ps qs : List (Str × Str)}, Cols H xs ps → Cols H ys qs → Cols H (xs ++ ys) (ps ++ qs)
  | _, _, _, _, .nil, r => r
  | _, _, _, _, .cons e h, r => .cons e (Cols.app h r)
theorem Cols.len {H : Hp} : ∀ {xs : List V} {ps : List (Str × Str)}, Cols H xs ps → xs.length = ps.length
  | _, _, .nil => rfl
  | _, _, .cons _ r => by rw [List.length_cons, List.length_cons, Cols.len r]
def colP (p : Str × Str) : PyData := .tuple [.str p.1, .str p.2]
theorem Cols.dh {H : Hp} : ∀ {xs : List V} {ps : List (Str × Str)}, Cols H xs ps → DhAll H xs (ps.map colP)
  | _, _, .nil => .nil
  | _, _, .cons e r => .cons (.tup e (.cons (.str _) (.cons (.str _) .nil))) (Cols.dh r)
theorem SameB.tt {t : Addr} {H H' : Hp} (T : Tape H t) (s : SameB t H H') : SameT H H' := fun b xs e => s _ _ (T.neT e) e
theorem SameT.lst {H : Hp} {a : Addr} {ys : List V} {o : HO} (h : H a = some (.lst ys)) : SameT H (upd H a o) := fun b xs e => by rw [upd_ne (ne_of e h nofun)]; exact e
theorem SameT.of {H H' : Hp} (s : Same H H') : SameT H H' := fun b xs e => s _ _ e
def spCls : Sp := fun vs H Q _ => ∃ (t c l n : Addr), vs = [.ref t, .ref l, .int 7, .ref n] ∧ TapeL c H t ∧ H l = some (.lst [.str "number"]) ∧ H n = some (.lst []) ∧
  ∀ (r : Addr) (xs : List V) (ps : List (Str × Str)) (H' : Hp), H' r = some (.tup xs) → Cols H' xs ps → (∀ p ∈ ps, Sh 13 p.1 ∧ Sh 100 p.2) → 1 ≤ ps.length → ps.length ≤ 8 → TapeL c H' t → SameB t H H' → Q (.ref r) H'
section
variable {P : Program} {w : World} {K : PySem.W.Frag} {mg : Str → Option Value} {base : Heap} {f fD fF : Addr} {fd fdD fdF : FuncData}
theorem scCls : FnScope ["_law_tape_here", "_law_lead", "_law_many", "_law_taken", "_law_names", "_law_columns_here", "_law_kinds", "_law_k", "_law_kind"] ["_law_tape_here", "_law_lead", "_law_many", "_law_taken"] (defScope sCls) := ⟨rfl, rfl, rfl, by decide +kernel, rfl, by decide +kernel, by decide +kernel⟩
theorem ok_cls (F : Fun K "_law_columns" "_law_columns" sCls f fd) (T : Bt mg) (GD : FnOk P w K mg base CX0 1 fD fdD ["_law_tape_here", "_law_many"] spDrawL) (mD : mg "_law_draw" = some (.ref fD)) (kD : PySem.W.keepIn K (.ref fD) = true) (bD : Binds K fdD ["_law_tape_here", "_law_many"] [])
    (GF : FnOk P w K mg base CX0 3 fF fdF ["_law_tape_here", "_law_taken"] spFr) (mF : mg "_law_fresh" = some (.ref fF)) (kF : PySem.W.keepIn K (.ref fF) = true) (bF : Binds K fdF ["_law_tape_here", "_law_taken"] []) :
    FnOk P w K mg base CX0 4 f fd ["_law_tape_here", "_law_lead", "_law_many", "_law_taken"] spCls := by
  refine F.ok scCls (fun vs H Q E h => ?_) (fun cdv A outer s H vs Q E hr h => ?_)
  · obtain ⟨t, c, l, n, rfl, _⟩ := h
    rfl
  · obtain ⟨t, c, l, n, rfl, hT, hl, hn, k⟩ := h
    have hr1 : Room 1 _ := hr.mono (by decide)
    refine ⟨_, pss_cons (ps_set (i := 4) scCls.nd rfl (Or.inl rfl) (pe_callTy call_list_of (by rfl) T.list boot_list (pa_cons (pv 3) pa_nil)))
      (pss_cons (ps_set (i := 5) scCls.nd rfl (Or.inl rfl) (pe_lst pa_nil))
      (pss_cons (ps_set (i := 6) scCls.nd rfl (Or.inl rfl) (pe_callTy call_list_of (by rfl) T.list boot_list (pa_cons (pv 1) pa_nil)))
      (Evl.pss_cut (ps_for PassesOwn.never rfl (pi_range1 (by rfl) T.range (pa_cons (pe_call GD hr1 (by rfl) mD kD bD .nil pass0 (pa_cons (pv 0) (pa_cons (pe_op op_add (pv 2) pe_int) pa_nil))) pa_nil)) (pg_name (i := 7) scCls.nd rfl (Or.inl rfl))
        (pss_one (ps_expr (pe_bm PySem.F.plainAttrs_list PySem.F.slot_list_append PySem.F.type_list_append mt_append (pv 6) (pa_cons (pe_ix ix_list (pe_lst (pa_cons pe_str (pa_cons pe_str (pa_cons pe_str pa_nil)))) (pe_call GD hr1 (by rfl) mD kD bD .nil pass0 (pa_cons (pv 0) (pa_cons pe_int pa_nil))) (fun _ _ => rfl)) pa_nil)))))
      (pss_cons (ps_for PassesOwn.never rfl (pi_list (pv 6)) (pg_name (i := 8) scCls.nd rfl (Or.inl rfl))
        (pss_cons (ps_expr (pe_bm PySem.F.plainAttrs_list PySem.F.slot_list_append PySem.F.type_list_append mt_append (pv 4) (pa_cons (pe_call GF hr (by rfl) mF kF bF .nil pass0 (pa_cons (pv 0) (pa_cons (pv 4) pa_nil))) pa_nil)))
        (pss_one (ps_expr (pe_bm PySem.F.plainAttrs_list PySem.F.slot_list_append PySem.F.type_list_append mt_append (pv 5) (pa_cons (pe_tup (pa_cons (pe_ix ix_list (pv 4) (pe_un un_neg pe_int) (fun _ _ => rfl)) (pa_cons (pv 8) pa_nil))) pa_nil))))))
      (pss_one (ps_ret (pe_callTy call_tuple_of (by rfl) T.tuple boot_tuple (pa_cons (pv 5) pa_nil)))))))), ?_⟩
    refine ⟨_, rfl, n, _, rfl, .inl (SqL.of hn), fun L hL => ⟨by show 0 ≤ sizeLine; decide, fun M hM => ?_⟩⟩
    have yL := Same.upd (o := .lst []) hL
    have yM := Same.upd (o := .lst []) hM
    refine ⟨_, rfl, l, _, rfl, .inl (SqL.of ((yL.trans yM) _ _ hl)), fun N hN => ?_⟩
    have yN := Same.upd (o := .lst [.str "number"]) hN
    have nLt := hT.tape.ne hL
    have nMt := (hT.same yL).tape.ne hM
    have nNt := (hT.same (yL.trans yM)).tape.ne hN
    obtain ⟨ys, hc⟩ := hT.list
    have nLc : L ≠ c := Ne.symm (ne_of_none hc hL)
    have nMc : M ≠ c := Ne.symm (ne_of_none (yL _ _ hc) hM)
    have nNc : N ≠ c := Ne.symm (ne_of_none ((yL.trans yM) _ _ hc) hN)
    have eL : upd H L (.lst []) L = some (.lst []) := upd_same
    have nML : L ≠ M := ne_of_none eL hM
    have nNL : L ≠ N := ne_of_none (yM _ _ eL) hN
    have nNM : M ≠ N := ne_of_none (show upd (upd H L (.lst [])) M (.lst []) M = some (.lst []) from upd_same) hN
    have hL3 := (yM.trans yN) _ _ eL
    have hM3 := yN _ _ (show upd (upd H L (.lst [])) M (.lst []) M = some (.lst []) from upd_same)
    have hN3 : upd (upd (upd H L (.lst [])) M (.lst [])) N (.lst [.str "number"]) N = some (.lst [.str "number"]) := upd_same
    have s3 := yL.trans (yM.trans yN)
    have gM := Same.gone yL hM
    have gN := Same.gone (yL.trans yM) hN
    have hT3 := hT.same s3
    generalize upd (upd (upd H L (.lst [])) M (.lst [])) N (.lst [.str "number"]) = H3 at hL3 hM3 hN3 s3 hT3 yN ⊢
    clear yN yM yL eL
    have o3 : 3 ≤ sizeLine := by decide
    let Md : Option V → Option V → List Str → L2.St → Hp → Prop := fun x7 x8 ks σ H' => σ = [some (.ref t), some (.ref l), some (.int 7), some (.ref n), some (.ref L), some (.ref M), some (.ref N), x7, x8] ∧ H' N = some (.lst (ks.map V.str)) ∧ (∀ k ∈ ks, Sh 100 k) ∧ TapeL c H' t ∧ SameB t H H'
    refine ⟨fun σ H' => ∃ x7 ks, Md x7 none ks σ H' ∧ H' L = some (.lst []) ∧ H' M = some (.lst []) ∧ 1 ≤ ks.length ∧ ks.length ≤ 8, ?_, ?_⟩
    · refine ⟨_, rfl, _, rfl, _, _, rfl, rfl, t, c, _, rfl, hT3, by decide, big1000 (by decide) (by decide), fun k2 H4 u2 w2 T4 S4 => ⟨k2, rfl, by omega, by omega, for_range (n := k2.toNat) (fun i σ H' => ∃ x7 ks, Md x7 none ks σ H' ∧ H' L = some (.lst []) ∧ H' M = some (.lst []) ∧ ks.length = i + 1)
        ⟨_, ["number"], ⟨rfl, S4 _ _ nNt hN3, fun k hk => by rw [List.mem_singleton.mp hk]; exact ⟨by decide +kernel, by decide +kernel⟩, T4, (Same.b t s3).trans S4⟩, S4 _ _ nLt hL3, S4 _ _ nMt hM3, rfl⟩ ?_ ?_⟩⟩
      · rintro i σ H5 hi ⟨x7, ks, ⟨rfl, hN5, hk5, T5, S5⟩, hL5, hM5, e5⟩
        refine ⟨_, rfl, .inl ⟨rfl, _, SqL.of hN5⟩, o3, fun q hq => ?_⟩
        have zq := Same.upd (o := .lst [.str "number", .str "word", .str "flag"]) hq
        have nq := T5.tape.ne hq
        refine ⟨_, rfl, t, c, _, rfl, T5.same zq, by decide, big1000 (by decide) (by decide), fun k3 H6 u3 w3 T6 S6 => ?_⟩
        obtain ⟨kk, hkk, skk⟩ : ∃ kk : Str, ([.str "number", .str "word", .str "flag"] : List V)[k3.toNat]? = some (.str kk) ∧ Sh 100 kk := by
          have : k3.toNat = 0 ∨ k3.toNat = 1 ∨ k3.toNat = 2 := by omega
          rcases this with e | e | e <;> rw [e]
          · exact ⟨_, rfl, ⟨by decide +kernel, by decide +kernel⟩⟩
          · exact ⟨_, rfl, ⟨by decide +kernel, by decide +kernel⟩⟩
          · exact ⟨_, rfl, ⟨by decide +kernel, by decide +kernel⟩⟩
        have S7 : SameB t H5 H6 := (Same.b t zq).trans S6
        have hN6 := S7 _ _ nNt hN5
        refine ⟨q, _, _, _, rfl, rfl, SqL.of (S6 _ _ nq upd_same), at_of (j := k3.toNat) (by omega) hkk, N, _, _, rfl, rfl, hN6, ?_, ?_⟩
        · rw [List.length_map, e5]
          exact Nat.lt_of_le_of_lt (show i + 1 ≤ 8 by omega) (by decide)
        · refine ⟨_, ks ++ [kk], ⟨rfl, by rw [upd_same, List.map_append]; rfl, fun k hk => ?_, T6.upd nNt nNc, fun b o n e => ?_⟩, by rw [upd_ne nNL]; exact S7 _ _ nLt hL5, by rw [upd_ne nNM]; exact S7 _ _ nMt hM5, by rw [List.length_append, e5]; rfl⟩
          · rcases List.mem_append.mp hk with hk | hk
            · exact hk5 k hk
            · rw [List.mem_singleton.mp hk]; exact skk
          · rw [upd_ne (fun z => by rw [z, gN] at e; cases e)]
            exact (S5.trans S7) b o n e
      · rintro σ H5 ⟨x7, ks, h5, hL5, hM5, e5⟩
        exact ⟨x7, ks, h5, hL5, hM5, by omega, by omega⟩
    · rintro σ H5 ⟨x7, ks, ⟨rfl, hN5, hk5, T5, S5⟩, hL5, hM5, e5, e6⟩
      refine ⟨_, rfl, N, rfl, ⟨_, SqL.of hN5⟩, for_list (K := K) (a := N) (xs := ks.map V.str) (fun i σ H' => ∃ (x8 : Option V) (ns : List Str) (xs : List V) (ps : List (Str × Str)), Md x7 x8 ks σ H' ∧ H' L = some (.lst (ns.map V.str)) ∧ H' M = some (.lst xs) ∧ Cols H' xs ps ∧ (∀ p ∈ ps, Sh 13 p.1 ∧ Sh 100 p.2) ∧ ns.length = i ∧ ps.length = i)
        ⟨_, [], [], [], ⟨rfl, hN5, hk5, T5, S5⟩, hL5, hM5, .nil, nofun, rfl, rfl⟩ (fun i σ H' _ p => by obtain ⟨_, _, _, _, ⟨_, z, _⟩, _⟩ := p; exact SqL.of z) ?_ ?_⟩
      · rintro i x σ H6 hx ⟨x8, ns, xs, ps, ⟨rfl, hN6, _, T6, S6⟩, hL6, hM6, hc6, hp6, e7, e8⟩
        obtain ⟨kk, hkk, rfl⟩ : ∃ kk, ks[i]? = some kk ∧ V.str kk = x := by
          rw [List.getElem?_map] at hx
          cases q : ks[i]? with
          | none => rw [q] at hx; cases hx
          | some kk => rw [q] at hx; exact ⟨kk, rfl, Option.some.inj hx⟩
        have hi8 : i < 8 := Nat.lt_of_lt_of_le (List.getElem?_eq_some_iff.mp hkk).1 e6
        have skk := hk5 kk (List.mem_of_getElem? hkk)
        have lim : ∀ {m : Nat}, m ≤ 8 → m < sizeLine := fun h => Nat.lt_of_le_of_lt h (by decide)
        refine ⟨_, rfl, .inl ⟨rfl, _, SqL.of hL6⟩, _, rfl, _, rfl, t, c, L, ns, rfl, T6, hL6, fun z H7 hz T7 S7 => ?_⟩
        have hL7 := S7 _ _ nLt hL6
        have hM7 := S7 _ _ nMt hM6
        have hN7 := S7 _ _ nNt hN6
        have hc7 := hc6.t (SameB.tt T6.tape S7)
        refine ⟨L, _, _, rfl, rfl, hL7, by rw [List.length_map, e7]; exact lim (by omega), ?_⟩
        have hc8 := hc7.t (SameT.lst (o := .lst (ns.map V.str ++ [.str z])) hL7)
        have T8 := T7.upd (o := .lst (ns.map V.str ++ [.str z])) nLt nLc
        have hL8 : upd H7 L (.lst (ns.map V.str ++ [.str z])) L = some (.lst (ns.map V.str ++ [.str z])) := upd_same
        have hM8 : upd H7 L (.lst (ns.map V.str ++ [.str z])) M = some (.lst xs) := by rw [upd_ne (Ne.symm nML)]; exact hM7
        have hN8 : upd H7 L (.lst (ns.map V.str ++ [.str z])) N = some (.lst (ks.map V.str)) := by rw [upd_ne (Ne.symm nNL)]; exact hN7
        have S8 : SameB t H (upd H7 L (.lst (ns.map V.str ++ [.str z]))) := fun b o n e => by
          rw [upd_ne (fun z => by rw [z, hL] at e; cases e)]
          exact (S6.trans S7) b o n e
        generalize upd H7 L (.lst (ns.map V.str ++ [.str z])) = H8 at hc8 T8 hL8 hM8 hN8 S8 ⊢
        refine ⟨_, rfl, .inl ⟨rfl, _, SqL.of hM8⟩, _, rfl, _, rfl, L, _, _, _, rfl, rfl, SqL.of hL8, (show atI (ns.map V.str ++ [.str z]) (-1) = some (.str z) from ?_), _, rfl, by show 2 ≤ sizeLine; decide, fun q hq => ?_⟩
        · unfold atI
          rw [show ixN (ns.map V.str ++ [V.str z]).length (-1) = some ns.length from ?_]
          · simp
          · have hl : (ns.map V.str ++ [V.str z]).length = ns.length + 1 := by rw [List.length_append, List.length_map]; rfl
            unfold ixN
            rw [hl, if_neg (by decide), if_pos (by omega)]
            exact congrArg some (by omega)
        have zq := Same.upd (o := .tup [.str z, .str kk]) hq
        have hM9 := zq _ _ hM8
        have lx := hc6.len
        refine ⟨M, _, _, rfl, rfl, hM9, lim (by omega), ?_⟩
        refine ⟨_, ns ++ [z], xs ++ [.ref q], ps ++ [(z, kk)], ⟨rfl, by rw [upd_ne (Ne.symm nNM)]; exact zq _ _ hN8, hk5, (T8.same zq).upd nMt nMc, fun b o n e => ?_⟩, by rw [upd_ne nML, zq _ _ hL8, List.map_append]; rfl, upd_same, ?_, ?_, by rw [List.length_append, e7]; rfl, by rw [List.length_append, e8]; rfl⟩
        · rw [upd_ne (fun z => by rw [z, gM] at e; cases e)]
          exact (S8.trans (Same.b t zq)) b o n e
        · have eq : upd H8 q (.tup [.str z, .str kk]) q = some (.tup [.str z, .str kk]) := upd_same
          have hc9 := (hc8.t (SameT.of zq)).app (.cons eq .nil)
          exact hc9.t (SameT.lst hM9)
        · intro p hp
          rcases List.mem_append.mp hp with hp | hp
          · exact hp6 p hp
          · rw [List.mem_singleton.mp hp]; exact ⟨hz, skk⟩
      · rintro σ H6 ⟨x8, ns, xs, ps, ⟨rfl, hN6, _, T6, S6⟩, hL6, hM6, hc6, hp6, e7, e8⟩
        rw [List.length_map] at e8
        refine ⟨_, rfl, M, xs, rfl, .inl ⟨SqL.of hM6, fun r hr => ?_⟩⟩
        have zr := Same.upd (o := .tup xs) hr
        exact k r xs ps _ upd_same (hc6.t (SameT.of zr)) hp6 (by omega) (by omega) (T6.same zr) (S6.trans (Same.b t zr))
end
end K05
set_option Elab.async false
set_option linter.all false
set_option maxRecDepth 100000
set_option maxHeartbeats 4000000
namespace K05
open PySem PySem.Spec PyProof.Rows L2 Lc
abbrev sSp : Stmt := top 30
/-- an item of what is handed in as columns -/
structure It (d : PyData) : Prop where
  tm : Tm 2 64000 d
  pr : ∀ x y, d = .tuple [x, y] → Cm x ∧ Cm y
def DhsB (t : Addr) (H : Hp) (xs : List V) (ds : List PyData) : Prop := ∀ H', SameB t H H' → DhAll H' xs ds
theorem DhsB.b {t : Addr} {H H' : Hp} {xs : List V} {ds : List PyData} (h : DhsB t H xs ds) (s : SameB t H H') : DhsB t H' xs ds := fun H2 s2 => h H2 (s.trans s2)
theorem DhsB.now {t : Addr} {H : Hp} {xs : List V} {ds : List PyData} (h : DhsB t H xs ds) : DhAll H xs ds := h H (SameB.refl t H)
theorem It.pair {x y : PyData} (a : Cm x) (b : Cm y) : It (.tuple [x, y]) :=
  ⟨(tm_tup (k := 1) (n := 21000) (fun d hd => by simp at hd; rcases hd with rfl | rfl <;> first | exact a.tm | exact b.tm)).mono (by decide) (by show 21000 * 2 + 2 * 2 + 4 ≤ 64000; decide), fun x' y' e => by cases e; exact ⟨a, b⟩⟩
theorem It.list {x y : PyData} (a : Cm x) (b : Cm y) : It (.list [x, y]) :=
  ⟨(tm_lst (k := 1) (n := 21000) (fun d hd => by simp at hd; rcases hd with rfl | rfl <;> first | exact a.tm | exact b.tm)).mono (by decide) (by show 21000 * 2 + 2 * 2 + 4 ≤ 64000; decide), nofun⟩
theorem It.one {x : PyData} (a : Cm x) : It (.tuple [x]) :=
  ⟨(tm_tup (k := 1) (n := 21000) (fun d hd => by rw [List.mem_singleton.mp hd]; exact a.tm)).mono (by decide) (by show 21000 * 1 + 2 * 1 + 4 ≤ 64000; decide), nofun⟩
theorem It.three {x y z : PyData} (a : Cm x) (b : Cm y) (c : Cm z) : It (.tuple [x, y, z]) :=
  ⟨(tm_tup (k := 1) (n := 21000) (fun d hd => by simp at hd; rcases hd with rfl | rfl | rfl <;> first | exact a.tm | exact b.tm | exact c.tm)).mono (by decide) (by show 21000 * 3 + 2 * 3 + 4 ≤ 64000; decide), nofun⟩
theorem It.odd {x : PyData} (a : Cm x) (n : ∀ y z, x ≠ .tuple [y, z]) : It x := ⟨a.tm.mono (by decide) (by decide), fun y z e => absurd e (n y z)⟩
theorem DhAll.get2 {H : Hp} : ∀ {vs : List V} {ds : List PyData}, DhAll H vs ds → ∀ (i : Nat) (d : PyData), ds[i]? = some d → ∃ v, vs[i]? = some v ∧ Dh H v d
  | _, _, .nil, i, v, e => by simp at e
  | _, _, .cons h r, 0, v, e => by
    obtain rfl := Option.some.inj e
    exact ⟨_, rfl, h⟩
  | _, _, .cons h r, i + 1, v, e => by
    obtain ⟨d, e1, e2⟩ := DhAll.get2 r i v (by simpa using e)
    exact ⟨d, by simpa using e1, e2⟩
theorem DhAll.set {H : Hp} : ∀ {vs : List V} {ds : List PyData}, DhAll H vs ds → ∀ (i : Nat) {v : V} {d : PyData}, Dh H v d → DhAll H (vs.set i v) (ds.set i d)
  | _, _, .nil, i, _, _, _ => .nil
  | _, _, .cons h r, 0, _, _, e => .cons e r
  | _, _, .cons h r, i + 1, _, _, e => .cons h (DhAll.set r i e)
theorem DhAll.ins {H : Hp} : ∀ {vs : List V} {ds : List PyData}, DhAll H vs ds → ∀ (i : Nat) {v : V} {d : PyData}, Dh H v d → DhAll H (vs.take i ++ [v] ++ vs.drop i) (ds.take i ++ [d] ++ ds.drop i)
  | _, _, .nil, i, _, _, e => by simp; exact .cons e .nil
  | _, _, .cons h r, 0, _, _, e => .cons e (.cons h r)
  | _, _, .cons h r, i + 1, _, _, e => .cons h (DhAll.ins r i e)
/-- the two parts of a pair -/
theorem pair_of {t c : Addr} {H : Hp} {v : V} {x y : PyData} (T : TapeL c H t) (h : DhB t H v (.tuple [x, y])) : ∃ (a : Addr) (p q : V), v = .ref a ∧ H a = some (.tup [p, q]) ∧ DhB t H p x ∧ DhB t H q y := by
  cases h.now with
  | @tup a xs _ e hs =>
    match xs, hs with
    | [p, q], .cons _ (.cons _ .nil) =>
      refine ⟨a, p, q, rfl, e, fun H' s => ?_, fun H' s => ?_⟩
      · cases h H' s with
        | tup e' hs' =>
          rw [s _ _ (T.tape.neT e) e] at e'
          cases e'
          cases hs' with
          | cons h1 _ => exact h1
      · cases h H' s with
        | tup e' hs' =>
          rw [s _ _ (T.tape.neT e) e] at e'
          cases e'
          cases hs' with
          | cons _ r =>
            cases r with
            | cons h2 _ => exact h2
theorem DhsB.at {t : Addr} {H : Hp} {xs : List V} {ds : List PyData} (h : DhsB t H xs ds) {i : Nat} {v : V} {d : PyData} (e1 : xs[i]? = some v) (e2 : ds[i]? = some d) : DhB t H v d := fun H' s => by
  obtain ⟨d', q, dh⟩ := (h H' s).get i v e1
  rw [e2] at q
  cases q
  exact dh
def spSp : Sp := fun vs H Q _ => ∃ (t c L0 : Addr) (xs : List V) (ds : List PyData), vs = [.ref t, .ref L0] ∧ TapeL c H t ∧ H L0 = some (.lst xs) ∧ DhsB t H xs ds ∧ (∀ d ∈ ds, It d ∧ ∃ x y, d = .tuple [x, y]) ∧ 1 ≤ ds.length ∧ ds.length ≤ 100 ∧
  ∀ (L : Addr) (xs' : List V) (ds' : List PyData) (H' : Hp), H' L = some (.lst xs') → L ≠ t → DhsB t H' xs' ds' → (∀ d ∈ ds', It d) → 1 ≤ ds'.length → ds'.length ≤ ds.length + 1 → TapeL c H' t → SameB t H H' → Q (.ref L) H'
section
variable {P : Program} {w : World} {K : PySem.W.Frag} {mg : Str → Option Value} {base : Heap} {f fD fO : Addr} {fd fdD fdO : FuncData}
theorem scSp : FnScope ["_law_tape_here", "_law_columns_here", "_law_place", "_law_name_here", "_law_kind", "_law_turn"] ["_law_tape_here", "_law_columns_here"] (defScope sSp) := ⟨rfl, rfl, rfl, by decide +kernel, rfl, by decide +kernel, by decide +kernel⟩
theorem ok_sp (F : Fun K "_law_spoilt" "_law_spoilt" sSp f fd) (T : Bt mg) (GD : FnOk P w K mg base CX0 1 fD fdD ["_law_tape_here", "_law_many"] spDrawL) (mD : mg "_law_draw" = some (.ref fD)) (kD : PySem.W.keepIn K (.ref fD) = true) (bD : Binds K fdD ["_law_tape_here", "_law_many"] [])
    (GO : FnOk P w K mg base CX0 2 fO fdO ["_law_tape_here"] spOdd) (mO : mg "_law_odd" = some (.ref fO)) (kO : PySem.W.keepIn K (.ref fO) = true) (bO : Binds K fdO ["_law_tape_here"] []) :
    FnOk P w K mg base CX0 3 f fd ["_law_tape_here", "_law_columns_here"] spSp := by
  refine F.ok scSp (fun vs H Q E h => ?_) (fun cdv A outer s H vs Q E hr h => ?_)
  · obtain ⟨t, c, L0, xs, ds, rfl, _⟩ := h
    rfl
  · obtain ⟨t, c, L0, xs, ds, rfl, hT, hL0, hds, hit, l1, l2, k⟩ := h
    have hr1 : Room 1 _ := hr.mono (by decide)
    refine ⟨_, pss_cons (ps_set (i := 1) scSp.nd rfl (Or.inl rfl) (pe_callTy call_list_of (by rfl) T.list boot_list (pa_cons (pv 1) pa_nil)))
      (pss_cons (ps_set (i := 2) scSp.nd rfl (Or.inl rfl) (pe_call GD hr1 (by rfl) mD kD bD .nil pass0 (pa_cons (pv 0) (pa_cons (pe_callB call_len_seq (by rfl) T.len PySem.boot_len (pa_cons (pv 1) pa_nil)) pa_nil))))
      (pss_cons (ps_set (i := 3) scSp.nd rfl (Or.inl rfl) (pe_ix ix_tup (pe_ix ix_list (pv 1) (pv 2) (fun _ _ => rfl)) pe_int (fun _ _ => rfl)))
      (pss_cons (ps_set (i := 4) scSp.nd rfl (Or.inl rfl) (pe_ix ix_tup (pe_ix ix_list (pv 1) (pv 2) (fun _ _ => rfl)) pe_int (fun _ _ => rfl)))
      (pss_cons (ps_set (i := 5) scSp.nd rfl (Or.inl rfl) (pe_call GD hr1 (by rfl) mD kD bD .nil pass0 (pa_cons (pv 0) (pa_cons pe_int pa_nil))))
      (Evl.pss_cut (ps_if (pt_cmpR op_eq (pv 5) pe_int (nomark _)) (pss_one (ps_asg (pe_tup (pa_cons (pe_call GO hr (by rfl) mO kO bO .nil pass0 (pa_cons (pv 0) pa_nil)) (pa_cons (pv 4) pa_nil))) (pg_sub (pv 1) (pv 2) set_list)))
        (pss_one (ps_if (pt_cmpR op_eq (pv 5) pe_int (nomark _)) (pss_one (ps_asg (pe_tup (pa_cons (pv 3) (pa_cons (pe_call GO hr (by rfl) mO kO bO .nil pass0 (pa_cons (pv 0) pa_nil)) pa_nil))) (pg_sub (pv 1) (pv 2) set_list)))
        (pss_one (ps_if (pt_cmpR op_eq (pv 5) pe_int (nomark _)) (pss_one (ps_asg (pe_lst (pa_cons (pv 3) (pa_cons (pv 4) pa_nil))) (pg_sub (pv 1) (pv 2) set_list)))
        (pss_one (ps_if (pt_cmpR op_eq (pv 5) pe_int (nomark _)) (pss_one (ps_asg (pe_op op_catT (pe_tup (pa_cons (pv 3) pa_nil)) (pe_op op_rep01 (pe_tup (pa_cons (pv 4) (pa_cons (pv 3) pa_nil))) (pe_call GD hr1 (by rfl) mD kD bD .nil pass0 (pa_cons (pv 0) (pa_cons pe_int pa_nil))))) (pg_sub (pv 1) (pv 2) set_list)))
        (pss_one (ps_if (pt_cmpR op_eq (pv 5) pe_int (nomark _)) (pss_one (ps_asg (pe_call GO hr (by rfl) mO kO bO .nil pass0 (pa_cons (pv 0) pa_nil)) (pg_sub (pv 1) (pv 2) set_list)))
        (pss_one (ps_if (pt_cmpR op_eq (pv 5) pe_int (nomark _)) (pss_one (ps_expr (pe_bm PySem.F.plainAttrs_list PySem.F.slot_list_insert PySem.F.type_list_insert mt_insert (pv 1) (pa_cons (pe_call GD hr1 (by rfl) mD kD bD .nil pass0 (pa_cons (pv 0) (pa_cons (pe_op op_add (pe_callB call_len_seq (by rfl) T.len PySem.boot_len (pa_cons (pv 1) pa_nil)) pe_int) pa_nil))) (pa_cons (pe_tup (pa_cons (pv 3) (pa_cons (pe_ix ix_list (pe_lst (pa_cons pe_str (pa_cons pe_str (pa_cons pe_str pa_nil)))) (pe_call GD hr1 (by rfl) mD kD bD .nil pass0 (pa_cons (pv 0) (pa_cons pe_int pa_nil))) (fun _ _ => rfl)) pa_nil))) pa_nil)))))
        pss_nil)))))))))))
      (pss_one (ps_ret (pv 1)))))))), ?_⟩
    refine ⟨_, rfl, L0, _, rfl, .inl (SqL.of hL0), fun L hL => ?_⟩
    have yL := Same.upd (o := .lst xs) hL
    have nLt := hT.tape.ne hL
    obtain ⟨ys, hc⟩ := hT.list
    have nLc : L ≠ c := Ne.symm (ne_of_none hc hL)
    have hL1 : upd H L (.lst xs) L = some (.lst xs) := upd_same
    have T1 := hT.same yL
    generalize upd H L (.lst xs) = H1 at yL hL1 T1 ⊢
    have lx : xs.length = ds.length := hds.now.len
    refine ⟨_, rfl, _, rfl, L, xs, rfl, .inl (SqL.of hL1), t, c, _, rfl, T1, by omega, big1000 (by omega) (by omega), fun p H2 u2 w2 T2 S2 => ?_⟩
    obtain ⟨d, hd⟩ : ∃ d, ds[p.toNat]? = some d := ⟨_, List.getElem?_eq_getElem (show p.toNat < ds.length by omega)⟩
    obtain ⟨v, hv, _⟩ := DhAll.get2 hds.now _ _ hd
    obtain ⟨it, dx, dy, rfl⟩ := hit d (List.mem_of_getElem? hd)
    obtain ⟨cx, cy⟩ := it.pr _ _ rfl
    obtain ⟨a, n, kd, rfl, ha, hn, hk⟩ := pair_of hT (hds.at hv hd)
    have s2 : SameB t H H2 := (Same.b t yL).trans S2
    have hL2 := S2 _ _ nLt hL1
    have ha2 := s2 _ _ (hT.tape.neT ha) ha
    refine ⟨_, rfl, _, rfl, L, _, _, _, rfl, rfl, SqL.of hL2, at_of (j := p.toNat) (by omega) hv, a, _, _, _, rfl, rfl, SqT.of ha2, rfl, ?_⟩
    refine ⟨_, rfl, _, rfl, L, _, _, _, rfl, rfl, SqL.of hL2, at_of (j := p.toNat) (by omega) hv, a, _, _, _, rfl, rfl, SqT.of ha2, rfl, ?_⟩
    refine ⟨_, rfl, t, c, _, rfl, T2, by decide, big1000 (by decide) (by decide), fun u H3 u3 w3 T3 S3 => ?_⟩
    have s3 : SameB t H H3 := s2.trans S3
    have hL3 := S3 _ _ nLt hL2
    have two : 2 ≤ sizeLine := by decide
    have nb : ∀ {b : Addr} {o : HO}, H b = some o → b ≠ L := fun e z => by rw [z, hL] at e; cases e
    let S0 : L2.St := [some (.ref t), some (.ref L), some (.int p), some n, some kd, some (.int u)]
    let Mid : L2.St → Hp → Prop := fun σ H' => σ = S0 ∧ ∃ (xs' : List V) (ds' : List PyData), H' L = some (.lst xs') ∧ DhsB t H' xs' ds' ∧ (∀ d ∈ ds', It d) ∧ 1 ≤ ds'.length ∧ ds'.length ≤ ds.length + 1 ∧ TapeL c H' t ∧ SameB t H H'
    have off : ∀ {H' : Hp} {o : HO}, SameB t H H' → SameB t H (upd H' L o) := fun {H' o} s b o' m e => by rw [upd_ne (nb e)]; exact s b o' m e
    have via : ∀ {H' H2 : Hp}, SameB t H H' → (∀ b o, b ≠ t → b ≠ L → H' b = some o → H2 b = some o) → SameB t H H2 := fun s g b o m e => g b o m (nb e) (s b o m e)
    have ix : ixN xs.length p = some p.toNat := by
      unfold ixN
      rw [if_pos u2, if_pos (by omega)]
    have fin : ∀ {H' : Hp} {v : V} {d : PyData}, SameB t H H' → TapeL c H' t → It d → (∀ H2 : Hp, (∀ b o, b ≠ t → b ≠ L → H' b = some o → H2 b = some o) → Dh H2 v d) → Mid S0 (upd H' L (.lst (xs.set p.toNat v))) := by
      intro H' v d s T i h
      refine ⟨rfl, _, ds.set p.toNat d, upd_same, fun H2 s2 => DhAll.set (hds H2 ((off s).trans s2)) _ (h H2 fun b o m1 m2 e => s2 b o m1 (by rw [upd_ne m2]; exact e)), fun d' hd' => ?_, by rw [List.length_set]; exact l1, by rw [List.length_set]; omega, T.upd nLt nLc, off s⟩
      rcases List.mem_or_eq_of_mem_set hd' with q | rfl
      · exact (hit d' q).1
      · exact i
    have nw : ∀ {Hx H' : Hp} {v : V} {d : PyData}, TapeL c Hx t → Hx L = some (.lst xs) → DhF Hx H' v d → ∀ H2 : Hp, (∀ b o, b ≠ t → b ≠ L → H' b = some o → H2 b = some o) → Dh H2 v d := by
      intro Hx H' v d T hx h H2 g
      exact h H2 fun b o e1 e2 => g b o (T.tape.ne e1) (fun z => by rw [z, hx] at e1; cases e1) e2
    refine ⟨Mid, ?_, ?_⟩
    · refine ⟨_, rfl, rfl, _, rfl, ite2 (fun _ => ?_) (fun _ => ?_)⟩
      · -- an odd name
        refine ⟨_, rfl, t, c, rfl, T3, fun v d H4 hv4 cm nd T4 S4 => ⟨_, rfl, two, fun q hq => ?_⟩⟩
        have zq := Same.upd (o := .tup [v, kd]) hq
        have hL4 := S4 _ _ nLt hL3
        have s4 := (s3.trans S4).trans (Same.b t zq)
        refine ⟨_, rfl, _, rfl, L, _, _, p.toNat, rfl, rfl, zq _ _ hL4, ix, fin s4 (T4.same zq) (.pair cm cy) fun H2 g => ?_⟩
        exact .tup (g q _ (T4.tape.ne hq) (Ne.symm (ne_of_none hL4 hq)) upd_same) (.cons (nw T3 hL3 hv4 H2 fun b o m1 m2 e => g b o m1 m2 (zq _ _ e)) (.cons (hk H2 (via s4 g)) .nil))
      refine ⟨_, rfl, rfl, _, rfl, ite2 (fun _ => ?_) (fun _ => ?_)⟩
      · -- an odd kind
        refine ⟨_, rfl, _, rfl, t, c, rfl, T3, fun v d H4 hv4 cm nd T4 S4 => ⟨two, fun q hq => ?_⟩⟩
        have zq := Same.upd (o := .tup [n, v]) hq
        have hL4 := S4 _ _ nLt hL3
        have s4 := (s3.trans S4).trans (Same.b t zq)
        refine ⟨_, rfl, _, rfl, L, _, _, p.toNat, rfl, rfl, zq _ _ hL4, ix, fin s4 (T4.same zq) (.pair cx cm) fun H2 g => ?_⟩
        exact .tup (g q _ (T4.tape.ne hq) (Ne.symm (ne_of_none hL4 hq)) upd_same) (.cons (hn H2 (via s4 g)) (.cons (nw T3 hL3 hv4 H2 fun b o m1 m2 e => g b o m1 m2 (zq _ _ e)) .nil))
      refine ⟨_, rfl, rfl, _, rfl, ite2 (fun _ => ?_) (fun _ => ?_)⟩
      · -- a list
        refine ⟨_, rfl, _, rfl, two, fun q hq => ?_⟩
        have zq := Same.upd (o := .lst [n, kd]) hq
        have s4 := s3.trans (Same.b t zq)
        refine ⟨_, rfl, _, rfl, L, _, _, p.toNat, rfl, rfl, zq _ _ hL3, ix, fin s4 (T3.same zq) (.list cx cy) fun H2 g => ?_⟩
        exact .lst (g q _ (T3.tape.ne hq) (Ne.symm (ne_of_none hL3 hq)) upd_same) (.cons (hn H2 (via s4 g)) (.cons (hk H2 (via s4 g)) .nil))
      refine ⟨_, rfl, rfl, _, rfl, ite2 (fun _ => ?_) (fun _ => ?_)⟩
      · -- one or three things
        refine ⟨_, rfl, by show 1 ≤ sizeLine; decide, fun q1 h1 => ⟨_, rfl, _, rfl, two, fun q2 h2 => ?_⟩⟩
        have z1 := Same.upd (o := .tup [n]) h1
        have z2 := Same.upd (o := .tup [kd, n]) h2
        have T4 := (T3.same z1).same z2
        have m1 := T3.tape.ne h1
        have m2 := (T3.same z1).tape.ne h2
        have e1 : upd (upd H3 q1 (.tup [n])) q2 (.tup [kd, n]) q1 = some (.tup [n]) := z2 _ _ upd_same
        have e2 : upd (upd H3 q1 (.tup [n])) q2 (.tup [kd, n]) q2 = some (.tup [kd, n]) := upd_same
        have hL4 := (z1.trans z2) _ _ hL3
        have s4 := s3.trans (Same.b t (z1.trans z2))
        generalize upd (upd H3 q1 (.tup [n])) q2 (.tup [kd, n]) = H4 at T4 e1 e2 hL4 s4 ⊢
        refine ⟨_, rfl, t, c, _, rfl, T4, by decide, big1000 (by decide) (by decide), fun j H5 uj wj T5 S5 => ?_⟩
        have e15 := S5 _ _ m1 e1
        have e25 := S5 _ _ m2 e2
        have hL5 := S5 _ _ nLt hL4
        have s5 := s4.trans S5
        have o1 : q1 ≠ L := fun z => by rw [z, hL5] at e15; cases e15
        have : j = 0 ∨ j = 1 := by omega
        rcases this with rfl | rfl
        · refine ⟨q2, 0, _, rfl, rfl, SqT.of e25, by simp, .inr ⟨rfl, fun q3 h3 => ?_⟩⟩
          have z3 := Same.upd (o := .tup []) h3
          refine ⟨q1, q3, [n], [], rfl, rfl, SqT.of (z3 _ _ e15), SqT.of upd_same, by simp, by show 1 + 0 ≤ sizeLine; decide, fun _ => ?_, fun z => absurd rfl z⟩
          have s6 := s5.trans (Same.b t z3)
          refine ⟨_, rfl, _, rfl, L, _, _, p.toNat, rfl, rfl, z3 _ _ hL5, ix, fin s6 (T5.same z3) (.one cx) fun H2 g => ?_⟩
          exact .tup (g q1 _ m1 o1 (z3 _ _ e15)) (.cons (hn H2 (via s6 g)) .nil)
        · refine ⟨q2, 1, _, rfl, rfl, SqT.of e25, by simp, .inl ⟨rfl, ?_⟩⟩
          refine ⟨q1, q2, [n], [kd, n], rfl, rfl, SqT.of e15, SqT.of e25, by simp, by show 1 + 2 ≤ sizeLine; decide, nofun, fun _ q3 h3 => ?_⟩
          have z3 := Same.upd (o := .tup ([n] ++ [kd, n])) h3
          have s6 := s5.trans (Same.b t z3)
          refine ⟨_, rfl, _, rfl, L, _, _, p.toNat, rfl, rfl, z3 _ _ hL5, ix, fin s6 (T5.same z3) (.three cx cy cx) fun H2 g => ?_⟩
          exact .tup (g q3 _ (T5.tape.ne h3) (Ne.symm (ne_of_none hL5 h3)) upd_same) (.cons (hn H2 (via s6 g)) (.cons (hk H2 (via s6 g)) (.cons (hn H2 (via s6 g)) .nil)))
      refine ⟨_, rfl, rfl, _, rfl, ite2 (fun _ => ?_) (fun _ => ?_)⟩
      · -- an odd thing
        refine ⟨_, rfl, t, c, rfl, T3, fun v d H4 hv4 cm nd T4 S4 => ?_⟩
        have hL4 := S4 _ _ nLt hL3
        exact ⟨_, rfl, _, rfl, L, _, _, p.toNat, rfl, rfl, hL4, ix, fin (s3.trans S4) T4 (.odd cm nd) (nw T3 hL3 hv4)⟩
      refine ⟨_, rfl, rfl, _, rfl, ite2 (fun _ => ?_) (fun _ => ?_)⟩
      · -- one more
        refine ⟨_, rfl, .inl ⟨rfl, _, SqL.of hL3⟩, _, rfl, _, rfl, L, xs, rfl, .inl (SqL.of hL3), _, _, rfl, rfl, t, c, _, rfl, T3, by omega, big1000 (by omega) (by omega), fun i H4 ui wi T4 S4 => ?_⟩
        refine ⟨_, rfl, by show 3 ≤ sizeLine; decide, fun q hq => ?_⟩
        have zq := Same.upd (o := .lst [.str "number", .str "word", .str "flag"]) hq
        have nq := T4.tape.ne hq
        refine ⟨_, rfl, t, c, _, rfl, T4.same zq, by decide, big1000 (by decide) (by decide), fun k3 H5 u5 w5 T5 S5 => ?_⟩
        obtain ⟨kk, hkk, skk⟩ : ∃ kk : Str, ([.str "number", .str "word", .str "flag"] : List V)[k3.toNat]? = some (.str kk) ∧ Sh 100 kk := by
          have : k3.toNat = 0 ∨ k3.toNat = 1 ∨ k3.toNat = 2 := by omega
          rcases this with e | e | e <;> rw [e]
          · exact ⟨_, rfl, ⟨by decide +kernel, by decide +kernel⟩⟩
          · exact ⟨_, rfl, ⟨by decide +kernel, by decide +kernel⟩⟩
          · exact ⟨_, rfl, ⟨by decide +kernel, by decide +kernel⟩⟩
        have hL5 := S5 _ _ nLt (zq _ _ (S4 _ _ nLt hL3))
        have s5 := ((s3.trans S4).trans (Same.b t zq)).trans S5
        refine ⟨q, _, _, _, rfl, rfl, SqL.of (S5 _ _ nq upd_same), at_of (j := k3.toNat) (by omega) hkk, two, fun r hr => ?_⟩
        have zr := Same.upd (o := .tup [n, .str kk]) hr
        have s6 := s5.trans (Same.b t zr)
        have er : upd H5 r (.tup [n, .str kk]) r = some (.tup [n, .str kk]) := upd_same
        refine ⟨L, xs, i, _, rfl, rfl, zr _ _ hL5, Nat.lt_of_le_of_lt (show xs.length ≤ 100 by omega) (by decide), ui, by omega, ?_⟩
        refine ⟨rfl, _, ds.take i.toNat ++ [.tuple [dx, .str kk]] ++ ds.drop i.toNat, upd_same, fun H2 s2 => ?_, fun d' hd' => ?_, by simp; omega, ?_, (T5.same zr).upd nLt nLc, off s6⟩
        · have s7 : SameB t H H2 := (off s6).trans s2
          exact DhAll.ins (hds H2 s7) _ (.tup (s2 r _ (T5.tape.ne hr) (by rw [upd_ne (Ne.symm (ne_of_none hL5 hr))]; exact er)) (.cons (hn H2 s7) (.cons (.str _) .nil)))
        · have : d' ∈ ds ∨ d' = .tuple [dx, .str kk] := by
            rcases List.mem_append.mp hd' with q | q
            · rcases List.mem_append.mp q with q | q
              · exact .inl (List.mem_of_mem_take q)
              · exact .inr (List.mem_singleton.mp q)
            · exact .inl (List.mem_of_mem_drop q)
          rcases this with q | rfl
          · exact (hit d' q).1
          · exact .pair cx (cm_str skk)
        · simp only [List.length_append, List.length_take, List.length_drop, List.length_singleton]
          omega
      · exact ⟨rfl, xs, ds, hL3, hds.b s3, fun d hd => (hit d hd).1, l1, Nat.le_succ _, T3, s3⟩
    · rintro σ H' ⟨rfl, xs', ds', h1, h2, h3, h4, h5, h6, h7⟩
      exact ⟨_, rfl, k L xs' ds' H' h1 nLt h2 h3 h4 h5 h6 h7⟩
end
end K05
set_option Elab.async false
set_option linter.all false
set_option maxRecDepth 100000
set_option maxHeartbeats 4000000
namespace K05
open PySem PySem.Spec PyProof.Rows L2 Lc
abbrev sRo : Stmt := top 31
/-- what is handed in as columns -/
structure Arg (d : PyData) : Prop where
  tm : Tm 3 700000 d ∨ d = .dict []
  it : ∀ ds, d = .tuple ds → ∀ e ∈ ds, It e
def spRo : Sp := fun vs H Q _ => ∃ (t c : Addr), vs = [.ref t] ∧ TapeL c H t ∧ ∀ (v : V) (d : PyData) (H' : Hp), DhB t H' v d → Arg d → TapeL c H' t → SameB t H H' → Q v H'
abbrev te1 (K : PySem.W.Frag) : TE := tOp (rIxT K) (tVar 3) (tC (.int 0))
abbrev te2 (K : PySem.W.Frag) : TE := tAndV (tCB (rIsi K) (tCons (tVar 3) (tCons (tC (.ty "tuple")) tNil))) (tOp rEq (tCB (fun xs H Q => ∃ p ys, xs = [.ref p] ∧ (SqL K H p ys ∨ SqT K H p ys) ∧ Q (.int ys.length) H) (tCons (tVar 3) tNil)) (tC (.int 2)))
theorem tm_items {ds : List PyData} (h : ∀ e ∈ ds, It e) (l : ds.length ≤ 10) : Tm 3 700000 (.tuple ds) ∧ Tm 3 700000 (.list ds) := by
  refine ⟨(tm_tup fun d hd => (h d hd).tm).mono (by decide) ?_, (tm_lst fun d hd => (h d hd).tm).mono (by decide) ?_⟩ <;> omega
theorem it_colP {ps : List (Str × Str)} (h : ∀ p ∈ ps, Sh 13 p.1 ∧ Sh 100 p.2) : ∀ d ∈ ps.map colP, It d ∧ ∃ x y, d = .tuple [x, y] := by
  intro d hd
  obtain ⟨p, hp, rfl⟩ := List.mem_map.mp hd
  exact ⟨.pair (cm_str ((h p hp).1.mono (by decide))) (cm_str (h p hp).2), _, _, rfl⟩
theorem Cols.get {H : Hp} : ∀ {xs : List V} {ps : List (Str × Str)}, Cols H xs ps → ∀ (i : Nat) (x : V), xs[i]? = some x → ∃ a z kk, x = .ref a ∧ H a = some (.tup [.str z, .str kk])
  | _, _, .nil, i, x, e => by simp at e
  | _, _, .cons h r, 0, x, e => by
    obtain rfl := Option.some.inj e
    exact ⟨_, _, _, rfl, h⟩
  | _, _, .cons h r, i + 1, x, e => Cols.get r i x (by simpa using e)
theorem Cols.rep {H : Hp} {a : Addr} {z kk : Str} (e : H a = some (.tup [.str z, .str kk])) : ∀ j : Nat, Cols H (List.replicate j [V.ref a]).flatten (List.replicate j [(z, kk)]).flatten
  | 0 => .nil
  | j + 1 => .cons e (Cols.rep e j)
def isPair : PyData → Bool
  | .tuple ds => decide (ds.length = 2)
  | _ => false
theorem isPair_ex {d : PyData} (h : isPair d = true) : ∃ x y, d = .tuple [x, y] := by
  cases d with
  | tuple ds =>
    have h : ds.length = 2 := of_decide_eq_true h
    match ds, h with
    | [x, y], _ => exact ⟨x, y, rfl⟩
  | _ => cases h
section
variable {P : Program} {w : World} {K : PySem.W.Frag} {mg : Str → Option Value} {base : Heap} {f fD fF fC fS : Addr} {fd fdD fdF fdC fdS : FuncData}
theorem scRo : FnScope ["_law_tape_here", "_law_columns_here", "_law_turn", "_law_part"] ["_law_tape_here"] (defScope sRo) := ⟨rfl, rfl, rfl, by decide +kernel, rfl, by decide +kernel, by decide +kernel⟩
theorem ok_ro (F : Fun K "_law_rows_of" "_law_rows_of" sRo f fd) (T : Bt mg) (GD : FnOk P w K mg base CX0 1 fD fdD ["_law_tape_here", "_law_many"] spDrawL) (mD : mg "_law_draw" = some (.ref fD)) (kD : PySem.W.keepIn K (.ref fD) = true) (bD : Binds K fdD ["_law_tape_here", "_law_many"] [])
    (GF : FnOk P w K mg base CX0 3 fF fdF ["_law_tape_here", "_law_taken"] spFr) (mF : mg "_law_fresh" = some (.ref fF)) (kF : PySem.W.keepIn K (.ref fF) = true) (bF : Binds K fdF ["_law_tape_here", "_law_taken"] [])
    (GC : FnOk P w K mg base CX0 4 fC fdC ["_law_tape_here", "_law_lead", "_law_many", "_law_taken"] spCls) (mC : mg "_law_columns" = some (.ref fC)) (kC : PySem.W.keepIn K (.ref fC) = true) (bC : Binds K fdC ["_law_tape_here", "_law_lead", "_law_many", "_law_taken"] [])
    (GS : FnOk P w K mg base CX0 3 fS fdS ["_law_tape_here", "_law_columns_here"] spSp) (mS : mg "_law_spoilt" = some (.ref fS)) (kS : PySem.W.keepIn K (.ref fS) = true) (bS : Binds K fdS ["_law_tape_here", "_law_columns_here"] []) :
    FnOk P w K mg base CX0 5 f fd ["_law_tape_here"] spRo := by
  refine F.ok scRo (fun vs H Q E h => ?_) (fun cdv A outer s H vs Q E hr h => ?_)
  · obtain ⟨t, c, rfl, _⟩ := h
    rfl
  · obtain ⟨t, c, rfl, hT, k⟩ := h
    have hr1 : Room 1 _ := hr.mono (by decide)
    have hr3 : Room 3 _ := hr.mono (by decide)
    refine ⟨_, pss_cons (ps_set (i := 1) scRo.nd rfl (Or.inl rfl) (pe_callTy call_list_of (by rfl) T.list boot_list (pa_cons (pe_call GC hr (by rfl) mC kC bC .nil pass0 (pa_cons (pv 0) (pa_cons (pe_lst (pa_cons pe_str pa_nil)) (pa_cons pe_int (pa_cons (pe_lst pa_nil) pa_nil))))) pa_nil)))
      (pss_cons (ps_set (i := 2) scRo.nd rfl (Or.inl rfl) (pe_call GD hr1 (by rfl) mD kD bD .nil pass0 (pa_cons (pv 0) (pa_cons pe_int pa_nil))))
      (pss_cons (ps_if (pt_cmpR op_eq (pv 2) pe_int (nomark _)) (pss_one (ps_ret (pv 1))) pss_nil)
      (pss_cons (ps_if (pt_cmpR op_eq (pv 2) pe_int (nomark _)) (pss_one (ps_ret (pe_callTy call_tuple_of (by rfl) T.tuple boot_tuple (pa_cons (pe_op op_cat (pv 1) (pe_op op_rep (pe_lst (pa_cons (pe_tup (pa_cons (pe_call GF hr3 (by rfl) mF kF bF .nil pass0 (pa_cons (pv 0) (pa_cons
            (pe_lc (own := [("_law_part", 3)]) (g := gName 3) (tt := tYes) (te := te1 K) (by rfl) scRo.nd (pi_list (pv 1)) (blkOk_by (own := [("_law_part", 3)]) (N := ["_law_tape_here", "_law_columns_here", "_law_turn", "_law_part"]) (sc := defScope sRo) (by decide +kernel)) (fun _ _ _ _ _ => pg_name (i := 3) scRo.nd rfl (Or.inl rfl)) (fun _ _ _ _ _ => pts_nil) (fun _ _ _ _ _ => pe_ix ix_tup (pv 3) pe_int (fun _ _ => rfl))) pa_nil))) (pa_cons pe_str pa_nil))) pa_nil))
            (pe_call GD hr1 (by rfl) mD kD bD .nil pass0 (pa_cons (pv 0) (pa_cons pe_int pa_nil))))) pa_nil)))) pss_nil)
      (pss_cons (ps_if (pt_cmpR op_eq (pv 2) pe_int (nomark _)) (pss_one (ps_ret (pe_ix ix_list (pe_lst (pa_cons (pe_tup pa_nil) (pa_cons pe_non (pa_cons pe_str (pa_cons pe_int (pa_cons pe_dnewK (pa_cons pe_bl pa_nil))))))) (pe_call GD hr1 (by rfl) mD kD bD .nil pass0 (pa_cons (pv 0) (pa_cons pe_int pa_nil))) (fun _ _ => rfl)))) pss_nil)
      (Evl.pss_cut (ps_if (pt_cmpR op_gt (pv 2) pe_int (nomark _)) (pss_one (ps_set (i := 1) scRo.nd rfl (Or.inl rfl) (pe_call GS hr3 (by rfl) mS kS bS .nil pass0 (pa_cons (pv 0) (pa_cons (pv 1) pa_nil))))) pss_nil)
      (Evl.pss_cut (ps_if (PW.pt (pw_and (pt_cmpR op_gt (pv 2) pe_int (nomark _)) (pw_and1 (pt_val (pe_callB (cr_all rfl) (by rfl) T.all (by decide +kernel) (pa_cons
            (pe_lc (own := [("_law_part", 3)]) (g := gName 3) (tt := tYes) (te := te2 K) (by rfl) scRo.nd (pi_list (pv 1)) (blkOk_by (own := [("_law_part", 3)]) (N := ["_law_tape_here", "_law_columns_here", "_law_turn", "_law_part"]) (sc := defScope sRo) (by decide +kernel)) (fun _ _ _ _ _ => pg_name (i := 3) scRo.nd rfl (Or.inl rfl)) (fun _ _ _ _ _ => pts_nil)
              (fun _ _ _ _ _ => pe_and (pe_callB call_isi (by rfl) T.isi boot_isinstance (pa_cons (pv 3) (pa_cons (pe_bltn (v := .ty "tuple") (by rfl) T.tuple boot_tuple rfl) pa_nil))) (pe_one (pe_cmpR op_eq (pe_callB call_len_seq (by rfl) T.len PySem.boot_len (pa_cons (pv 3) pa_nil)) pe_int (nomark _))))) pa_nil))))))
          (pss_one (ps_set (i := 1) scRo.nd rfl (Or.inl rfl) (pe_call GS hr3 (by rfl) mS kS bS .nil pass0 (pa_cons (pv 0) (pa_cons (pv 1) pa_nil))))) pss_nil)
      (pss_one (ps_ret (pe_callTy call_tuple_of (by rfl) T.tuple boot_tuple (pa_cons (pv 1) pa_nil)))))))))), ?_⟩
    have o1 : 1 ≤ sizeLine := by decide
    have two : 2 ≤ sizeLine := by decide
    refine ⟨_, rfl, o1, fun l0 hl0 => ⟨by show 0 ≤ sizeLine; decide, fun n0 hn0 => ?_⟩⟩
    have yl := Same.upd (o := .lst [.str "number"]) hl0
    have yn := Same.upd (o := .lst []) hn0
    have T1 := hT.same (yl.trans yn)
    refine ⟨t, c, l0, n0, rfl, T1, yn _ _ upd_same, upd_same, fun r xs ps H2 hr2 hc2 hp l1 l8 T2 S2 => ⟨r, _, rfl, .inr (SqT.of hr2), fun L hL => ?_⟩⟩
    have s2 : SameB t H H2 := (Same.b t (yl.trans yn)).trans S2
    have yL := Same.upd (o := .lst xs) hL
    have nLt := T2.tape.ne hL
    have T3 := T2.same yL
    have hc3 := hc2.t (SameT.of yL)
    have hL3 : upd H2 L (.lst xs) L = some (.lst xs) := upd_same
    have s3 : SameB t H (upd H2 L (.lst xs)) := s2.trans (Same.b t yL)
    generalize upd H2 L (.lst xs) = H3 at T3 hc3 hL3 s3 ⊢
    clear hc2 hr2 hL yL S2 s2 T2 T1 yl yn hl0 hn0
    refine ⟨_, rfl, t, c, _, rfl, T3, by decide, big1000 (by decide) (by decide), fun u H4 u4 w4 T4 S4 => ?_⟩
    have s4 := s3.trans S4
    have hL4 := S4 _ _ nLt hL3
    have hc4 := hc3.t (SameB.tt T3.tape S4)
    clear hc3 hL3 S4 s3 T3
    have ds4 : DhsB t H4 xs (ps.map colP) := fun H' s => (hc4.t (SameB.tt T4.tape s)).dh
    have it4 := it_colP hp
    have lp : (ps.map colP).length = ps.length := List.length_map ..
    have lx : xs.length = ps.length := hc4.len
    refine ⟨_, rfl, rfl, _, rfl, ite2 (fun _ => ?_) (fun _ => ?_)⟩
    · exact ⟨_, rfl, k (.ref L) _ H4 (fun H' s => .lst (s _ _ nLt hL4) (ds4 H' s)) ⟨.inl (tm_items (fun e he => (it4 e he).1) (by omega)).2, nofun⟩ T4 s4⟩
    refine ⟨_, rfl, rfl, _, rfl, ite2 (fun _ => ?_) (fun _ => ?_)⟩
    · -- one or two more
      refine ⟨_, rfl, _, rfl, _, rfl, L, rfl, ⟨_, SqL.of hL4⟩, fun D hD => lc_list (K := K) (a := L) (xs := xs) (fun i H' => ∃ ss : List Str, H' D = some (.lst (ss.map V.str)) ∧ ss.length = i ∧ Same H4 H')
        ⟨[], upd_same, rfl, Same.upd hD⟩ (fun i H' _ p => by obtain ⟨_, _, _, s'⟩ := p; exact SqL.of (s' _ _ hL4)) ?_ ?_⟩
      · rintro i x H' hx ⟨ss, hD', rfl, s'⟩
        obtain ⟨a, z, kk, rfl, ea⟩ := hc4.get _ _ hx
        have hi : ss.length < xs.length := (List.getElem?_eq_some_iff.mp hx).1
        refine ⟨rfl, ?_⟩
        change te1 K _ _ _
        refine ⟨_, rfl, a, _, _, _, rfl, rfl, SqT.of (s' _ _ ea), rfl, _, hD', by rw [List.length_map]; exact Nat.lt_of_lt_of_le hi (Nat.le_trans (show xs.length ≤ 8 by omega) (by decide)), ?_⟩
        exact ⟨ss ++ [z], by rw [upd_same, List.map_append]; rfl, by rw [List.length_append]; rfl, fun b o e => by rw [upd_ne (ne_of_none e hD)]; exact s' b o e⟩
      · rintro H5 ⟨ss, hD5, _, s5⟩
        refine ⟨t, c, D, ss, rfl, T4.same s5, hD5, fun z H6 hz T6 S6 => ⟨two, fun q hq => ⟨o1, fun q2 hq2 => ?_⟩⟩⟩
        have zq := Same.upd (o := .tup [.str z, .str "flag"]) hq
        have z2 := Same.upd (o := .lst [.ref q]) hq2
        have s6 : SameB t H4 (upd (upd H6 q (.tup [.str z, .str "flag"])) q2 (.lst [.ref q])) := ((Same.b t s5).trans S6).trans (Same.b t (zq.trans z2))
        have eq6 : upd (upd H6 q (.tup [.str z, .str "flag"])) q2 (.lst [.ref q]) q = some (.tup [.str z, .str "flag"]) := z2 _ _ upd_same
        have e26 : upd (upd H6 q (.tup [.str z, .str "flag"])) q2 (.lst [.ref q]) q2 = some (.lst [.ref q]) := upd_same
        have T7 := (T6.same zq).same z2
        have n2 := (T6.same zq).tape.ne hq2
        generalize upd (upd H6 q (.tup [.str z, .str "flag"])) q2 (.lst [.ref q]) = H7 at s6 eq6 e26 T7 ⊢
        refine ⟨_, rfl, t, c, _, rfl, T7, by decide, big1000 (by decide) (by decide), fun j H8 uj wj T8 S8 => ?_⟩
        have lrep : (List.replicate j.toNat [V.ref q]).flatten.length = j.toNat := by simp
        refine ⟨q2, j, _, rfl, rfl, S8 _ _ n2 e26, by omega, by omega, Nat.le_trans (show 1 * j.toNat ≤ 10 by omega) (by decide), fun m hm => ?_⟩
        have zm := Same.upd (o := .lst (List.replicate j.toNat [V.ref q]).flatten) hm
        have s8 := (s6.trans S8).trans (Same.b t zm)
        refine ⟨L, m, _, _, rfl, rfl, s8 _ _ nLt hL4, upd_same, Nat.le_trans (show _ ≤ 10 by rw [lrep]; omega) (by decide), fun p' hp' => ?_⟩
        have zp := Same.upd (o := .lst (xs ++ (List.replicate j.toNat [V.ref q]).flatten)) hp'
        refine ⟨p', _, rfl, .inl ⟨SqL.of upd_same, fun r hr => ?_⟩⟩
        have zr := Same.upd (o := .tup (xs ++ (List.replicate j.toNat [V.ref q]).flatten)) hr
        have s9 := s8.trans (Same.b t (zp.trans zr))
        have T9 := (((T8.same zm).same zp).same zr)
        have eq9 := (zm.trans (zp.trans zr)) _ _ (S8 _ _ (T7.tape.neT eq6) eq6)
        have cc := (hc4.t (SameB.tt T4.tape s9)).app (Cols.rep eq9 j.toNat)
        have hp9 : ∀ p ∈ ps ++ (List.replicate j.toNat [(z, ("flag" : Str))]).flatten, Sh 13 p.1 ∧ Sh 100 p.2 := by
          intro p hp'
          rcases List.mem_append.mp hp' with h | h
          · exact hp p h
          · have : p = (z, ("flag" : Str)) := by
              obtain ⟨l, hl, hpl⟩ := List.mem_flatten.mp h
              rw [(List.mem_replicate.mp hl).2] at hpl
              exact List.mem_singleton.mp hpl
            rw [this]
            exact ⟨hz, (show Sh 100 ("flag" : Str) from ⟨by decide +kernel, by decide +kernel⟩)⟩
        have it9 := it_colP hp9
        refine k (.ref r) _ _ (fun H' s => .tup (s _ _ (T9.tape.neT upd_same) upd_same) (cc.t (SameB.tt T9.tape s)).dh) ⟨.inl (tm_items (fun e he => (it9 e he).1) ?_).1, fun ds e => ?_⟩ T9 (s4.trans s9)
        · rw [List.length_map, List.length_append]
          have : (List.replicate j.toNat [(z, ("flag" : Str))]).flatten.length = j.toNat := by simp
          omega
        · injection e with e
          subst e
          exact fun e he => (it9 e he).1
    refine ⟨_, rfl, rfl, _, rfl, ite2 (fun _ => ?_) (fun _ => ?_)⟩
    · -- no columns
      refine ⟨by show 0 ≤ sizeLine; decide, fun c1 h1 c2 h2 => ⟨by show 6 ≤ sizeLine; decide, fun M hM => ?_⟩⟩
      have y1 := Same.upd (o := .tup []) h1
      have y2 := Same.upd (o := .dK []) h2
      have y3 := Same.upd (o := .lst [.ref c1, .non, .str "abc", .int 5, .ref c2, .bl true]) hM
      have n1 := T4.tape.ne h1
      have n2 := (T4.same y1).tape.ne h2
      have nM := ((T4.same y1).same y2).tape.ne hM
      refine ⟨_, rfl, t, c, _, rfl, ((T4.same y1).same y2).same y3, by decide, big1000 (by decide) (by decide), fun j H9 uj wj T9 S9 => ?_⟩
      have all : ∀ v ∈ ([.ref c1, .non, .str "abc", .int 5, .ref c2, .bl true] : List V), ∃ d, DhB t H9 v d ∧ Arg d := by
        intro v hv
        simp only [List.mem_cons, List.not_mem_nil, or_false] at hv
        rcases hv with rfl | rfl | rfl | rfl | rfl | rfl
        · exact ⟨_, fun H' s' => .tup (s' _ _ n1 (S9 _ _ n1 ((y2.trans y3) _ _ upd_same))) .nil, .inl ((tm_tup (k := 0) (n := 20000) (ds := []) (fun _ h => nomatch h)).mono (by decide) (by decide)), fun ds e => by injection e with e; subst e; exact nofun⟩
        · exact ⟨_, fun _ _ => .non, .inl ((tm_fl fl_non).mono (by decide) (by decide)), nofun⟩
        · exact ⟨_, fun _ _ => .str _, .inl ((tm_str ⟨by decide +kernel, by decide +kernel⟩).mono (by decide) (by decide)), nofun⟩
        · exact ⟨_, fun _ _ => .int 5, .inl ((tm_fl (fl_int (by show 5 < 2 ^ 1000; exact Nat.lt_of_lt_of_le (show 5 < 2 ^ 3 by decide) (Nat.pow_le_pow_right (by decide) (by decide))))).mono (by decide) (by decide)), nofun⟩
        · exact ⟨_, fun H' s' => .dct (s' _ _ n2 (S9 _ _ n2 (y3 _ _ upd_same))), .inr rfl, nofun⟩
        · exact ⟨_, fun _ _ => .bl true, .inl ((tm_fl (fl_bl true)).mono (by decide) (by decide)), nofun⟩
      have hk : j.toNat < ([.ref c1, .non, .str "abc", .int 5, .ref c2, .bl true] : List V).length := by show j.toNat < 6; omega
      obtain ⟨d, hd, ad⟩ := all _ (List.getElem_mem hk)
      exact ⟨M, _, _, _, rfl, rfl, SqL.of (S9 _ _ nM upd_same), at_of (j := j.toNat) (by omega) (List.getElem?_eq_getElem hk), k _ d H9 hd ad T9 ((s4.trans (Same.b t (y1.trans (y2.trans y3)))).trans S9)⟩
    -- columns, spoilt
    let Mid : Nat → L2.St → Hp → Prop := fun b σ H' => ∃ (L : Addr) (xs : List V) (ds : List PyData), σ = [some (.ref t), some (.ref L), some (.int u), none] ∧ H' L = some (.lst xs) ∧ L ≠ t ∧ DhsB t H' xs ds ∧ (∀ d ∈ ds, It d) ∧ 1 ≤ ds.length ∧ ds.length ≤ b ∧ TapeL c H' t ∧ SameB t H H'
    refine ⟨Mid 9, ?_, ?_⟩
    · refine ⟨_, rfl, _, _, rfl, rfl, _, rfl, ite2 (fun _ => ?_) (fun _ => ?_)⟩
      · refine ⟨_, rfl, _, rfl, t, c, L, xs, ps.map colP, rfl, T4, hL4, ds4, it4, by omega, by omega, fun L' xs' ds' H' h1 h2 h3 h4 h5 h6 h7 h8 => ?_⟩
        exact ⟨L', xs', ds', rfl, h1, h2, h3, h4, h5, by omega, h7, s4.trans h8⟩
      · exact ⟨L, xs, _, rfl, hL4, nLt, ds4, fun e he => (it4 e he).1, by omega, by omega, T4, s4⟩
    clear ds4 it4 lp lx hc4 hL4 nLt s4 T4 hp l1 l8
    rintro σ H5 ⟨L, xs, ds, rfl, hL5, nLt, ds5, it5, l1, l9, T5, s5⟩
    have lx : xs.length = ds.length := ds5.now.len
    refine ⟨Mid 10, ?_, ?_⟩
    · refine ⟨_, rfl, _, _, rfl, rfl, _, rfl, ite2 (fun _ => ?_) (fun _ => iteF ?_)⟩
      · refine ⟨_, rfl, L, rfl, ⟨_, SqL.of hL5⟩, fun D hD => lc_list (K := K) (a := L) (xs := xs) (fun i H' => H' D = some (.lst (((ds.take i).map isPair).map V.bl)) ∧ Same H5 H')
          ⟨upd_same, Same.upd hD⟩ (fun i H' _ p => SqL.of (p.2 _ _ hL5)) ?_ ?_⟩
        · rintro i x H' hx ⟨hD', s'⟩
          obtain ⟨d, hd, dh⟩ := (ds5.now.same s').get _ _ hx
          have hi : i < ds.length := (List.getElem?_eq_some_iff.mp hd).1
          have ln : (((ds.take i).map isPair).map V.bl).length < sizeLine := by
            rw [List.length_map, List.length_map, List.length_take]
            exact Nat.lt_of_le_of_lt (show min i ds.length ≤ 9 by omega) (by decide)
          have grow : ∀ {b : Bool}, isPair d = b → upd H' D (.lst (((ds.take i).map isPair).map V.bl ++ [.bl b])) D = some (.lst (((ds.take (i + 1)).map isPair).map V.bl)) ∧ Same H5 (upd H' D (.lst (((ds.take i).map isPair).map V.bl ++ [.bl b]))) := by
            rintro b rfl
            refine ⟨?_, fun b o e => by rw [upd_ne (ne_of_none e hD)]; exact s' b o e⟩
            rw [upd_same, List.take_add_one, hd]
            simp
          refine ⟨rfl, ?_⟩
          change te2 K _ _ _
          have ty := dh.ty
          refine ⟨_, rfl, x, .ty "tuple", _, _, _, rfl, .ty "tuple", ty.x, kit_tuple ty.mem, _, rfl, ?_⟩
          cases dh with
          | @tup a ys es e h =>
            refine iteT ⟨_, rfl, a, ys, rfl, .inr (SqT.of e), rfl, _, hD', ln, grow ?_⟩
            show decide (es.length = 2) = decide (V.int (ys.length : Int) = V.int 2)
            rw [← h.len]
            by_cases z : ys.length = 2
            · rw [decide_eq_true z, decide_eq_true (by rw [z]; rfl)]
            · rw [decide_eq_false z, decide_eq_false (fun q => z (by injection q with q; omega))]
          | non => exact iteF ⟨_, hD', ln, grow rfl⟩
          | bl b => exact iteF ⟨_, hD', ln, grow rfl⟩
          | int b => exact iteF ⟨_, hD', ln, grow rfl⟩
          | str b => exact iteF ⟨_, hD', ln, grow rfl⟩
          | lst e h => exact iteF ⟨_, hD', ln, grow rfl⟩
          | dct e => exact iteF ⟨_, hD', ln, grow rfl⟩
        · rintro H6 ⟨hD6, s6⟩
          rw [lx, List.take_length] at hD6
          refine ⟨D, ds.map isPair, rfl, SqL.of hD6, _, rfl, ite2 (fun y => ?_) (fun y => ?_)⟩
          · have pr : ∀ d ∈ ds, It d ∧ ∃ x y, d = .tuple [x, y] := fun d hd => ⟨it5 d hd, isPair_ex (List.all_eq_true.mp y _ (List.mem_map.mpr ⟨d, hd, rfl⟩))⟩
            refine ⟨_, rfl, _, rfl, t, c, L, xs, ds, rfl, T5.same s6, s6 _ _ hL5, ds5.b (Same.b t s6), pr, l1, by omega, fun L' xs' ds' H' h1 h2 h3 h4 h5 h6 h7 h8 => ?_⟩
            exact ⟨L', xs', ds', rfl, h1, h2, h3, h4, h5, by omega, h7, (s5.trans (Same.b t s6)).trans h8⟩
          · exact ⟨L, xs, ds, rfl, s6 _ _ hL5, nLt, ds5.b (Same.b t s6), it5, l1, by omega, T5.same s6, s5.trans (Same.b t s6)⟩
      · exact ⟨L, xs, ds, rfl, hL5, nLt, ds5, it5, l1, by omega, T5, s5⟩
    · rintro σ H6 ⟨L, xs, ds, rfl, hL6, nLt, ds6, it6, l1, l10, T6, s6⟩
      refine ⟨_, rfl, L, xs, rfl, .inl ⟨SqL.of hL6, fun r hr => ?_⟩⟩
      have zr := Same.upd (o := .tup xs) hr
      refine k (.ref r) (.tuple ds) _ (fun H' s => .tup (s _ _ ((T6.same zr).tape.neT upd_same) upd_same) (ds6 H' ((Same.b t zr).trans s))) ⟨.inl (tm_items it6 l10).1, fun ds' e => ?_⟩ (T6.same zr) (s6.trans (Same.b t zr))
      injection e with e
      subst e
      exact it6
end
end K05
set_option Elab.async false
set_option linter.all false
set_option maxRecDepth 100000
set_option maxHeartbeats 4000000
namespace K05
open PySem PySem.Spec PyProof.Rows L2 Lc
abbrev sChk : Stmt := top 33
/-! ## what is due, from the data -/
def noneV : List V := [.str "columns", .non, .bl true]
def dueD : PyData → List V
  | .tuple ds => if ds.length = 0 ∨ 8 < ds.length then noneV else match badFrom (ds.map colD) [] 0 with
    | none => [.str "told"]
    | some i => [.str "columns", .int i, .bl true]
  | _ => noneV
inductive CaseD (H : Hp) (v : V) (d : PyData) : Prop
  | other (t : String) (h : TyN H v t) (n : t ≠ "tuple") (e : dueD d = noneV)
  | len (a : Addr) (xs : List V) (ev : v = .ref a) (ea : H a = some (.tup xs)) (l : xs.length = 0 ∨ 8 < xs.length) (e : dueD d = noneV)
  | cols (a : Addr) (xs : List V) (cs : List (Option Str)) (ev : v = .ref a) (ea : H a = some (.tup xs)) (l0 : 0 < xs.length) (l8 : xs.length ≤ 8) (h : Cvs H xs cs) (e1 : badFrom cs [] 0 = none → dueD d = [.str "told"]) (e2 : ∀ i : Nat, badFrom cs [] 0 = some i → dueD d = [.str "columns", .int i, .bl true])
theorem case_d {H : Hp} {v : V} {d : PyData} (h : Dh H v d) (A : Arg d) : CaseD H v d := by
  cases h with
  | non => exact .other _ .non (by decide) rfl
  | bl b => exact .other _ (.bl b) (by decide) rfl
  | int i => exact .other _ (.int i) (by decide) rfl
  | str x => exact .other _ (.str x) (by decide) rfl
  | lst e _ => exact .other _ (.lst e) (by decide) rfl
  | dct e => exact .other _ (.dct e) (by decide) rfl
  | @tup a xs ds e h =>
    by_cases l : ds.length = 0 ∨ 8 < ds.length
    · exact .len a xs rfl e (by rw [h.len]; exact l) (if_pos l)
    · have q : dueD (.tuple ds) = match badFrom (ds.map colD) [] 0 with
        | none => [.str "told"]
        | some i => [.str "columns", .int i, .bl true] := if_neg l
      refine .cols a xs _ rfl e (by rw [h.len]; omega) (by rw [h.len]; omega) (cvs_of h fun d hd z y ed => ?_) (fun e1 => by rw [q, e1]) (fun i e1 => by rw [q, e1])
      exact (((A.it ds rfl d hd).pr _ _ ed).1).st z rfl
theorem due_sp {H : Hp} {v : V} {d : PyData} {Q : VK} {E : XK} (h : Dh H v d) (A : Arg d) (k : OutT H (dueD d) Q) : spDue [v] H Q E := by
  refine ⟨v, rfl, ?_⟩
  cases case_d h A with
  | other t h n e => rw [e] at k; exact .inl ⟨t, h, n, k⟩
  | len a xs ev ea l e => rw [e] at k; exact .inr (.inl ⟨a, xs, ev, ea, l, k⟩)
  | cols a xs cs ev ea l0 l8 h e1 e2 => exact .inr (.inr ⟨a, xs, cs, ev, ea, l0, l8, h, fun z => by rw [e1 z] at k; exact k, fun i z => by rw [e2 i z] at k; exact k⟩)
theorem cc_sp {H : Hp} {C : Addr} {v : V} {d : PyData} {Q : VK} {E : XK} (h : Dh H v d) (A : Arg d) (k1 : dueD d = [.str "told"] → ∀ H', Same H H' → Q .non H') (k2 : ∀ (x : V) (H' : Hp), dueD d = [.str "columns", x, .bl true] → Same H H' → TellsF C "index" H' x E) : spCc C [v] H Q E := by
  refine ⟨v, rfl, ?_⟩
  cases case_d h A with
  | other t h n e => exact .inl ⟨t, h, n, k2 _ H e (Same.refl H)⟩
  | len a xs ev ea l e => exact .inr (.inl ⟨a, xs, ev, ea, l, k2 _ H e (Same.refl H)⟩)
  | cols a xs cs ev ea l0 l8 h e1 e2 => exact .inr (.inr ⟨a, xs, cs, ev, ea, l0, l8, h, fun z => k1 (e1 z), fun i z H' s => k2 _ H' (e2 i z) s⟩)
/-- what the written part says of the class C where it is caught, N another one -/
structure ExB (K : PySem.W.Frag) (C N : Addr) : Prop where
  xf : XfC K C
  xc : XisC K C
  cc : PySem.W.exmOne K (.ref C) (.ref C) = some true
  cn : PySem.W.exmOne K (.ref C) (.ref N) = some false
  cv : PySem.W.kitOne K (.ref C) (.type "ValueError") = some true
  kn : PySem.W.kitOne K (.ref C) (.ref N) = some false
def spChk : Sp := fun vs H Q _ => ∃ (v : V) (d : PyData), vs = [v] ∧ Dh H v d ∧ Arg d ∧ OutT H (dueD d) Q
/-- return (word, e.field, isinstance(e, ValueError) and not isinstance(e, N)) -/
def tsX (K : PySem.W.Frag) (C N : Addr) (word fld : Str) (i : Nat) : Addr → Value → Option Addr → TS := fun a cls d => tRet (tTup (tCons (tC (.str word)) (tCons (tXf a cls d C fld (tVar i)) (tCons (tAndV (tCB (rIsX K cls d C a) (tCons (tVar i) (tCons (tC (.ty "ValueError")) tNil))) (tNotV (tCB (rIsX K cls d C a) (tCons (tVar i) (tCons (tC (.ref N)) tNil))))) tNil))))
theorem tsX_go {K : PySem.W.Frag} {C N a d : Addr} {word fld : Str} {i : Nat} {D : Ends} {σ : L2.St} {H : Hp} {x : V} (X : ExB K C N) (hi : σ[i]? = some (some (.ref a))) (hx : H d = some (.xd [(fld, x)])) (k : OutT H [.str word, x, .bl true] D.rt) : tsX K C N word fld i a (.ref C) (some d) D σ H := by
  have dd : ∀ dd, some d = some dd → ∃ fs, H dd = some (.xd fs) := fun dd e => by cases e; exact ⟨_, hx⟩
  refine ⟨_, hi, rfl, rfl, d, _, x, rfl, hx, by simp [List.lookup], _, hi, rfl, _, _, _, rfl, .ty "ValueError", dd, X.cv, _, rfl, iteT ?_⟩
  refine ⟨_, hi, rfl, _, _, _, rfl, .own N, dd, X.kn, _, rfl, by show 3 ≤ sizeLine; decide, fun r hr => k r _ (Same.upd hr) upd_same⟩
section
variable {P : Program} {w : World} {K : PySem.W.Frag} {mg : Str → Option Value} {base : Heap} {f C fI N fC : Addr} {fd fdC : FuncData}
theorem scChk : FnScope ["_law_columns_here", "e"] ["_law_columns_here"] (defScope sChk) := ⟨rfl, rfl, rfl, by decide +kernel, rfl, by decide +kernel, by decide +kernel⟩
theorem ok_chk (F : Fun K "_law_checked" "_law_checked" sChk f fd) (T : Bt mg) (R : ErF K mg "BadColumns" "index" C fI) (X : ExB K C N) (gN : mg "BadName" = some (.ref N))
    (GC : FnOk P w K mg base (L2.CX P w) 3 fC fdC ["columns"] (spCc C)) (mC : mg "check_columns" = some (.ref fC)) (kC : PySem.W.keepIn K (.ref fC) = true) (bC : Binds K fdC ["columns"] []) : FnOk P w K mg base CX0 4 f fd ["_law_columns_here"] spChk := by
  refine F.ok scChk (fun vs H Q E h => ?_) (fun cdv A outer s H vs Q E hr h => ?_)
  · obtain ⟨v, d, rfl, _⟩ := h
    rfl
  · obtain ⟨v, d, rfl, hd, hA, k⟩ := h
    refine ⟨_, pss_cons (ps_tryL (Wout := fun _ _ _ _ => False) (tb := fun W => tIfS (tTest (tOp (fun x y H Q => y = .non ∧ Q (.bl (decide (x = .non))) H) (tCallS (spCc C) (WE W) (tCons (tVar 0) tNil)) (tC .non))) (tRet (tTup (tCons (tC (.str "told")) tNil))) (fun D σ H => D.nx σ H)) (l := [⟨.ref C, some 1, tsX K C N "columns" "index" 1⟩]) rfl rfl takes0
        (fun W pn xe tk _ => pss_one (ps_if (pt_cmpR op_isN (pe_callS GC hr (by rfl) mC kC bC (fun σ => passAt tk σ) (pa_cons (pv 0) pa_nil)) pe_non (nomark _)) (pss_one (ps_ret (pe_tup (pa_cons pe_str pa_nil)))) pss_nil))
        (.named (i := 1) ⟨rfl, by decide, Or.inl R.gC⟩ rfl scChk.nd rfl rfl (fun a ob cls d pn hz hf => pss_one (ps_ret (pe_tup (pa_cons pe_str (pa_cons (pe_xf X.xf R.nG hz hf (pv 1)) (pa_cons
            (pe_and (pe_callB (call_isX X.xc hz hf) (by rfl) T.isi boot_isinstance (pa_cons (pv 1) (pa_cons (pe_bltn (v := .ty "ValueError") (by rfl) T.ve PyProof.Rows.Boot.«ValueError» rfl) pa_nil)))
              (pe_one (pe_not (pe_callB (call_isX X.xc hz hf) (by rfl) T.isi boot_isinstance (pa_cons (pv 1) (pa_cons (pe_glob (v := .ref N) (by rfl) gN rfl) pa_nil)))))) pa_nil)))))) .nil))
      (pss_one (ps_ret (pe_tup (pa_cons pe_str pa_nil)))), ?_⟩
    refine ⟨_, rfl, ?_⟩
    dsimp only [tNil]
    refine cc_sp hd hA (fun e H1 s1 => ⟨rfl, _, rfl, iteT ?_⟩) fun x H1 e s1 d H2 s2 hd2 hx => ?_
    · rw [e] at k
      exact ⟨by show 1 ≤ sizeLine; decide, fun r hr => k r _ (s1.trans (Same.upd hr)) upd_same⟩
    · refine ⟨true, X.cc, fun _ a ha => ?_, nofun⟩
      rw [e] at k
      exact tsX_go X rfl hx (k.same (s1.trans s2))
end
end K05
set_option Elab.async false
set_option linter.all false
set_option maxRecDepth 100000
set_option maxHeartbeats 4000000
namespace K05
open PySem PySem.Spec PyProof.Rows L2 Lc
abbrev sWhole : Stmt := top 8
abbrev sRa : Stmt := top 20
abbrev sRI : Stmt := inClass (top 21) 0
abbrev sRN : Stmt := inClass (top 21) 6
abbrev sRC : Stmt := inClass (top 21) 7
abbrev sRV : Stmt := inClass (top 21) 8
abbrev sRR : Stmt := inClass (top 21) 9
abbrev sRE : Stmt := inClass (top 21) 10
abbrev sRL : Stmt := inClass (top 21) 14
def spWhole : Sp := fun vs H Q _ => ∃ (v : V) (t : String), vs = [v] ∧ TyN H v t ∧ Q (.bl (t == "int")) H
/-! ## registers without entries -/
/-- what the written part says of the class Register, at C -/
structure RgF (K : PySem.W.Frag) (mg : Str → Option Value) (C fI : Addr) : Prop where
  mkC : Mk K C fI
  cls : Cls K C
  a1 : NoAttr K C "called"
  a2 : NoAttr K C "shape"
  a3 : NoAttr K C "log"
  gC : mg "Register" = some (.ref C)
def fsR (nm cv : V) (lg : Addr) : List (Str × V) := [("called", nm), ("shape", cv), ("log", .ref lg)]
def IsR (C : Addr) (H : Hp) (a : Addr) (nm cv : V) (lg : Addr) : Prop := ∃ dx, H a = some (.ins C dx (fsR nm cv lg)) ∧ H lg = some (.lst [])
theorem IsR.same {C : Addr} {H H' : Hp} {a lg : Addr} {nm cv : V} (h : IsR C H a nm cv lg) (s : Same H H') : IsR C H' a nm cv lg := by
  obtain ⟨dx, h1, h2⟩ := h
  exact ⟨dx, s _ _ h1, s _ _ h2⟩
def spRI (C N Cc : Addr) : Sp := fun vs H Q E => ∃ (a dx : Addr) (nm cv : V) (dn d : PyData), vs = [.ref a, nm, cv] ∧ H a = some (.ins C dx []) ∧ Dh H nm dn ∧ (∀ z, nm = .str z → z.length ≤ sizeLine) ∧ Dh H cv d ∧ Arg d ∧
  (nameB nm = false → ∀ H', Same H H' → TellsF N "given" H' nm E) ∧ (nameB nm = true → ∀ (x : V) (H' : Hp), dueD d = [.str "columns", x, .bl true] → Same H H' → TellsF Cc "index" H' x E) ∧
  (nameB nm = true → dueD d = [.str "told"] → ∀ (lg : Addr) (H' : Hp), SameB a H H' → IsR C H' a nm cv lg → Q .non H')
def spGet (C : Addr) (g : V → V → V) : Sp := fun vs H Q _ => ∃ (a lg : Addr) (nm cv : V), vs = [.ref a] ∧ IsR C H a nm cv lg ∧ Q (g nm cv) H
def spNew (C : Addr) : Sp := fun vs H Q _ => ∃ (a lg : Addr) (nm cv : V), vs = [.ref a] ∧ IsR C H a nm cv lg ∧ ∀ (r : Addr) (H' : Hp), Same H H' → H' r = some (.lst []) → Q (.ref r) H'
def spRows (C : Addr) : Sp := fun vs H Q _ => ∃ (a lg : Addr) (nm cv y : V), vs = [.ref a, y] ∧ (y = .non ∨ y = .int 0) ∧ IsR C H a nm cv lg ∧ ∀ (r : Addr) (H' : Hp), Same H H' → H' r = some (.lst []) → Q (.ref r) H'
def spRa : Sp := fun vs H Q _ => ∃ (l : Addr), vs = [.ref l] ∧ H l = some (.lst []) ∧ ∀ (r : Addr) (H' : Hp), Same H H' → H' r = some (.dK []) → Q (.ref r) H'
section
variable {P : Program} {w : World} {K : PySem.W.Frag} {mg : Str → Option Value} {base : Heap} {f C fI N Cc fN fC fW fA fR : Addr} {fd fdN fdC fdW fdA fdR : FuncData}
theorem scWhole : FnScope ["value"] ["value"] (defScope sWhole) := ⟨rfl, rfl, rfl, by decide +kernel, rfl, by decide +kernel, by decide +kernel⟩
theorem ok_whole (F : Fun K "is_whole" "is_whole" sWhole f fd) (T : Bt mg) : FnOk P w K mg base CX0 1 f fd ["value"] spWhole := by
  refine F.ok scWhole (fun vs H Q E h => ?_) (fun cdv A outer s H vs Q E hr h => ?_)
  · obtain ⟨v, t, rfl, _⟩ := h
    rfl
  · obtain ⟨v, t, rfl, ty, k⟩ := h
    refine ⟨_, pss_one (ps_ret (pe_and (pe_callB call_isi (by rfl) T.isi boot_isinstance (pa_cons (pv 0) (pa_cons (pe_bltn (v := .ty "int") (by rfl) T.int boot_int rfl) pa_nil)))
      (pe_one (pe_not (pe_callB call_isi (by rfl) T.isi boot_isinstance (pa_cons (pv 0) (pa_cons (pe_bltn (v := .ty "bool") (by rfl) T.bool boot_bool rfl) pa_nil))))))), ?_⟩
    refine ⟨_, rfl, v, .ty "int", _, _, _, rfl, .ty "int", ty.x, kit_int ty.mem, _, rfl, ?_⟩
    refine ite2 (fun hi => ?_) (fun hi => ?_)
    · refine ⟨_, rfl, v, .ty "bool", _, _, _, rfl, .ty "bool", ty.x, kit_bool ty.mem, _, rfl, ?_⟩
      have e : (!(t == "bool")) = (t == "int") := by cases ty <;> first | rfl | exact absurd hi (by decide)
      show Q (.bl (!(t == "bool"))) H
      rw [e]
      exact k
    · have e : false = (t == "int") := by cases ty <;> first | rfl | exact absurd rfl hi
      show Q (.bl false) H
      rw [e]
      exact k
theorem scRI : FnScope ["self", "name", "columns"] ["self", "name", "columns"] (defScope sRI) := ⟨rfl, rfl, rfl, by decide +kernel, rfl, by decide +kernel, by decide +kernel⟩
theorem ok_ri (F : Fun K "__init__" "Register.__init__" sRI f fd) (G : RgF K mg C fI)
    (GN : FnOk P w K mg base (L2.CX P w) 3 fN fdN ["value"] (spCn N)) (mN : mg "check_name" = some (.ref fN)) (kN : PySem.W.keepIn K (.ref fN) = true) (bN : Binds K fdN ["value"] [])
    (GC : FnOk P w K mg base (L2.CX P w) 3 fC fdC ["columns"] (spCc Cc)) (mC : mg "check_columns" = some (.ref fC)) (kC : PySem.W.keepIn K (.ref fC) = true) (bC : Binds K fdC ["columns"] []) : FnOk P w K mg base (L2.CX P w) 4 f fd ["self", "name", "columns"] (spRI C N Cc) := by
  refine F.okX scRI (fun vs H Q E h => ?_) (fun cdv A outer s H vs Q E hr h => ?_)
  · obtain ⟨a, dx, nm, cv, dn, d, rfl, _⟩ := h
    rfl
  · obtain ⟨a, dx, nm, cv, dn, d, rfl, ha, hn, ln, hd, hA, k1, k2, k3⟩ := h
    refine ⟨_, pss_cons (ps_expr (pe_callS GN hr (by rfl) mN kN bN (fun σ => passAt (W := fun cls d _ H => E cls d H) (takes_of rfl rfl rfl rfl) σ) (pa_cons (pv 1) pa_nil)))
      (pss_cons (ps_expr (pe_callS GC hr (by rfl) mC kC bC (fun σ => passAt (W := fun cls d _ H => E cls d H) (takes_of rfl rfl rfl rfl) σ) (pa_cons (pv 2) pa_nil)))
      (pss_cons (ps_fld (pv 0) (pv 1) (by rfl)) (pss_cons (ps_fld (pv 0) (pv 2) (by rfl)) (pss_one (ps_fld (pv 0) (pe_lst pa_nil) (by rfl)))))), ?_⟩
    refine ⟨_, rfl, nm, _, rfl, hn.ty, ln, fun nb H1 s1 => ?_, fun nb H1 s1 => k1 nb H1 s1⟩
    refine ⟨_, rfl, ?_⟩
    dsimp only [tNil]
    refine cc_sp (hd.same s1) hA (fun e H2 s2 => ?_) fun x H2 e s2 => k2 nb x H2 e (s1.trans s2)
    have ha2 := (s1.trans s2) _ _ ha
    refine ⟨_, rfl, _, rfl, a, C, dx, _, rfl, ha2, G.cls, G.a1, by decide, ?_⟩
    refine ⟨_, rfl, _, rfl, a, C, dx, _, rfl, upd_same, G.cls, G.a2, by show 1 < 1000; decide, ?_⟩
    rw [upd_upd]
    refine ⟨by show 0 ≤ sizeLine; decide, fun lg hl => ⟨_, rfl, a, C, dx, [("called", nm), ("shape", cv)], rfl, ?_, G.cls, G.a3, by show 2 < 1000; decide, ?_⟩⟩
    · rw [upd_ne (ne_of_none upd_same hl)]
      exact upd_same
    have nl : lg ≠ a := Ne.symm (ne_of_none upd_same hl)
    refine k3 nb e lg _ (fun b o n eb => ?_) ⟨dx, upd_same, by rw [upd_ne nl, upd_same]⟩
    have eb2 := (s1.trans s2) _ _ eb
    have nb2 : b ≠ lg := ne_of_none (show upd H2 a _ b = some o by rw [upd_ne n]; exact eb2) hl
    rw [upd_ne n, upd_ne nb2, upd_ne n]
    exact eb2
theorem scRN : FnScope ["self"] ["self"] (defScope sRN) := ⟨rfl, rfl, rfl, by decide +kernel, rfl, by decide +kernel, by decide +kernel⟩
theorem scRC : FnScope ["self"] ["self"] (defScope sRC) := ⟨rfl, rfl, rfl, by decide +kernel, rfl, by decide +kernel, by decide +kernel⟩
theorem scRV : FnScope ["self"] ["self"] (defScope sRV) := ⟨rfl, rfl, rfl, by decide +kernel, rfl, by decide +kernel, by decide +kernel⟩
theorem scRE : FnScope ["self"] ["self"] (defScope sRE) := ⟨rfl, rfl, rfl, by decide +kernel, rfl, by decide +kernel, by decide +kernel⟩
theorem scRL : FnScope ["self"] ["self"] (defScope sRL) := ⟨rfl, rfl, rfl, by decide +kernel, rfl, by decide +kernel, by decide +kernel⟩
theorem ok_rn (F : Fun K "name" "Register.name" sRN f fd) (G : RgF K mg C fI) : FnOk P w K mg base CX0 1 f fd ["self"] (spGet C fun n _ => n) := by
  refine F.ok scRN (fun vs H Q E h => ?_) (fun cdv A outer s H vs Q E hr h => ?_)
  · obtain ⟨a, lg, nm, cv, rfl, _⟩ := h
    rfl
  · obtain ⟨a, lg, nm, cv, rfl, ⟨dx, ha, hl⟩, k⟩ := h
    exact ⟨_, pss_one (ps_ret (pe_fld (pv 0) (by rfl))), _, rfl, a, C, dx, _, _, rfl, ha, G.cls, G.a1, rfl, k⟩
theorem ok_rc (F : Fun K "columns" "Register.columns" sRC f fd) (G : RgF K mg C fI) : FnOk P w K mg base CX0 1 f fd ["self"] (spGet C fun _ c => c) := by
  refine F.ok scRC (fun vs H Q E h => ?_) (fun cdv A outer s H vs Q E hr h => ?_)
  · obtain ⟨a, lg, nm, cv, rfl, _⟩ := h
    rfl
  · obtain ⟨a, lg, nm, cv, rfl, ⟨dx, ha, hl⟩, k⟩ := h
    exact ⟨_, pss_one (ps_ret (pe_fld (pv 0) (by rfl))), _, rfl, a, C, dx, _, _, rfl, ha, G.cls, G.a2, rfl, k⟩
theorem ok_rv (F : Fun K "version" "Register.version" sRV f fd) (T : Bt mg) (G : RgF K mg C fI) : FnOk P w K mg base CX0 1 f fd ["self"] (spGet C fun _ _ => .int 0) := by
  refine F.ok scRV (fun vs H Q E h => ?_) (fun cdv A outer s H vs Q E hr h => ?_)
  · obtain ⟨a, lg, nm, cv, rfl, _⟩ := h
    rfl
  · obtain ⟨a, lg, nm, cv, rfl, ⟨dx, ha, hl⟩, k⟩ := h
    exact ⟨_, pss_one (ps_ret (pe_callB call_len_seq (by rfl) T.len PySem.boot_len (pa_cons (pe_fld (pv 0) (by rfl)) pa_nil))), _, rfl, a, C, dx, _, _, rfl, ha, G.cls, G.a3, rfl, lg, _, rfl, .inl (SqL.of hl), k⟩
theorem ok_re (F : Fun K "entries" "Register.entries" sRE f fd) (T : Bt mg) (G : RgF K mg C fI) : FnOk P w K mg base CX0 1 f fd ["self"] (spNew C) := by
  refine F.ok scRE (fun vs H Q E h => ?_) (fun cdv A outer s H vs Q E hr h => ?_)
  · obtain ⟨a, lg, nm, cv, rfl, _⟩ := h
    rfl
  · obtain ⟨a, lg, nm, cv, rfl, ⟨dx, ha, hl⟩, k⟩ := h
    exact ⟨_, pss_one (ps_ret (pe_callTy call_list_of (by rfl) T.list boot_list (pa_cons (pe_fld (pv 0) (by rfl)) pa_nil))), _, rfl, a, C, dx, _, _, rfl, ha, G.cls, G.a3, rfl, lg, _, rfl, .inl (SqL.of hl), fun r hr => k r _ (Same.upd hr) upd_same⟩
theorem scRa : FnScope ["entries", "rows", "word", "number", "values", "author"] ["entries"] (defScope sRa) := ⟨rfl, rfl, rfl, by decide +kernel, rfl, by decide +kernel, by decide +kernel⟩
theorem ok_ra (F : Fun K "rows_after" "rows_after" sRa f fd) : FnOk P w K mg base CX0 1 f fd ["entries"] spRa := by
  refine F.ok scRa (fun vs H Q E h => ?_) (fun cdv A outer s H vs Q E hr h => ?_)
  · obtain ⟨l, rfl, _⟩ := h
    rfl
  · obtain ⟨l, rfl, hl, k⟩ := h
    refine ⟨_, pss_cons (ps_set (i := 1) scRa.nd rfl (Or.inl rfl) pe_dnewK) (pss_cons (ps_for PassesOwn.never rfl (pi_list (pv 0)) pg_dead pss_dead) (pss_one (ps_ret (pv 1)))), fun r hr => ?_⟩
    have z := Same.upd (o := .dK []) hr
    refine ⟨_, rfl, l, rfl, ⟨_, SqL.of (z _ _ hl)⟩, for_list (K := K) (a := l) (xs := []) (g := fun _ _ _ _ => False) (tb := fun _ _ _ => False) (fun i σ H' => σ = [some (.ref l), some (.ref r), none, none, none, none] ∧ H' = upd H r (.dK [])) ⟨rfl, rfl⟩ (fun i σ H' _ p => by rw [p.2]; exact SqL.of (z _ _ hl)) (fun i x σ H' e => by simp at e) ?_⟩
    rintro σ H' ⟨rfl, rfl⟩
    exact ⟨_, rfl, k r _ z upd_same⟩
end
end K05
set_option Elab.async false
set_option linter.all false
set_option maxRecDepth 100000
set_option maxHeartbeats 4000000
namespace K05
open PySem PySem.Spec PyProof.Rows L2 Lc
abbrev sMade : Stmt := top 34
section
variable {P : Program} {w : World} {K : PySem.W.Frag} {mg : Str → Option Value} {base : Heap} {f C fI N Cc fN fC fW fA fR : Addr} {fd fdN fdC fdW fdA fdR : FuncData}
theorem scRR : FnScope ["self", "version", "rows"] ["self", "version"] (defScope sRR) := ⟨rfl, rfl, rfl, by decide +kernel, rfl, by decide +kernel, by decide +kernel⟩
theorem ok_rr {dvs : List V} {kws : List (Str × V)} (F : FunD K "rows" "Register.rows" (defArgs sRR) (defBody sRR) (defScope sRR) dvs kws f fd) (T : Bt mg) (G : RgF K mg C fI)
    (GW : FnOk P w K mg base CX0 1 fW fdW ["value"] spWhole) (mW : mg "is_whole" = some (.ref fW)) (kW : PySem.W.keepIn K (.ref fW) = true) (bW : Binds K fdW ["value"] [])
    (GA : FnOk P w K mg base CX0 1 fA fdA ["entries"] spRa) (mA : mg "rows_after" = some (.ref fA)) (kA : PySem.W.keepIn K (.ref fA) = true) (bA : Binds K fdA ["entries"] []) : FnOk P w K mg base CX0 2 f fd ["self", "version"] (spRows C) := by
  refine F.ok scRR (fun vs H Q E h => ?_) (fun cdv A outer s H vs Q E hr h => ?_)
  · obtain ⟨a, lg, nm, cv, y, rfl, _⟩ := h
    rfl
  · obtain ⟨a, lg, nm, cv, y, rfl, hy, ⟨dx, ha, hl⟩, k⟩ := h
    refine ⟨_, Evl.pss_cut (ps_if (pt_cmpR op_isN (pv 1) pe_non (nomark _)) (pss_one (ps_set (i := 1) scRR.nd rfl (Or.inl rfl) (pe_callB call_len_seq (by rfl) T.len PySem.boot_len (pa_cons (pe_fld (pv 0) (by rfl)) pa_nil)))) pss_nil)
      (pss_cons (ps_if (PW.pt (pw_or (pt_not (pt_val (pe_call GW hr (by rfl) mW kW bW .nil pass0 (pa_cons (pv 1) pa_nil)))) (pw_or (pt_cmpR op_lt (pv 1) pe_int (nomark _)) (pw_or1 (pt_cmpR op_gt (pv 1) (pe_callB call_len_seq (by rfl) T.len PySem.boot_len (pa_cons (pe_fld (pv 0) (by rfl)) pa_nil)) (nomark _)))))) pss_dead pss_nil)
      (pss_cons (ps_set (i := 2) scRR.nd rfl (Or.inl rfl) (pe_call GA hr (by rfl) mA kA bA .nil pass0 (pa_cons (pe_slice sl_list (pe_fld (pv 0) (by rfl)) po_none (po_some (pv 1))) pa_nil)))
      (pss_one (ps_ret (LiI.pe_listItems (by rfl) (pv 2) (by rfl) T.list boot_list))))), ?_⟩
    refine ⟨fun σ H' => σ = [some (.ref a), some (.int 0), none] ∧ H' = H, ?_, ?_⟩
    · refine ⟨_, rfl, rfl, _, rfl, ?_⟩
      rcases hy with rfl | rfl
      · exact iteT ⟨_, rfl, a, C, dx, _, _, rfl, ha, G.cls, G.a3, rfl, lg, _, rfl, .inl (SqL.of hl), rfl, rfl⟩
      · exact iteF ⟨rfl, rfl⟩
    rintro σ H' ⟨rfl, rfl⟩
    refine ⟨_, rfl, _, _, rfl, .int 0, _, rfl, iteF ⟨_, rfl, _, _, rfl, rfl, _, rfl, iteF ⟨_, rfl, _, rfl, a, C, dx, _, _, rfl, ha, G.cls, G.a3, rfl, lg, _, rfl, .inl (SqL.of hl), _, _, rfl, rfl, _, rfl, iteF ?_⟩⟩⟩
    refine ⟨_, rfl, a, C, dx, _, _, rfl, ha, G.cls, G.a3, rfl, _, rfl, 0, rfl, lg, _, rfl, SqL.of hl, fun p hp => ?_⟩
    have zp := Same.upd (o := .lst (cutV [] none (some 0))) hp
    refine ⟨p, rfl, (show upd H' p (.lst (cutV [] none (some 0))) p = some (.lst []) from upd_same), fun r H2 s2 h2 => ?_⟩
    refine ⟨_, rfl, r, _, rfl, h2, fun H3 q ts s3 _ _ _ h3 pr => ?_⟩
    cases pr
    exact k q H3 ((zp.trans s2).trans s3) h3
theorem ok_rl (F : Fun K "__len__" "Register.__len__" sRL f fd) (T : Bt mg) (G : RgF K mg C fI) {ds : List Value} (hm : Meth K C "rows" fR) (GR : FnOk P w K mg base CX0 2 fR fdR ["self", "version"] (spRows C)) (bR : Binds K fdR ["self", "version"] ds) (vR : Vals [.non] ds) : FnOk P w K mg base CX0 3 f fd ["self"] (fun vs H Q _ => ∃ (a lg : Addr) (nm cv : V), vs = [.ref a] ∧ IsR C H a nm cv lg ∧ ∀ H', Same H H' → Q (.int 0) H') := by
  refine F.ok scRL (fun vs H Q E h => ?_) (fun cdv A outer s H vs Q E hr h => ?_)
  · obtain ⟨a, lg, nm, cv, rfl, _⟩ := h
    rfl
  · obtain ⟨a, lg, nm, cv, rfl, ⟨dx, ha, hl⟩, k⟩ := h
    refine ⟨_, pss_one (ps_ret (pe_callB call_len_seq (by rfl) T.len PySem.boot_len (pa_cons (pe_meth0 (pv 0) G.cls hm GR hr bR vR pass0) pa_nil))), ?_⟩
    exact ⟨_, rfl, a, dx, _, rfl, ha, rfl, a, lg, nm, cv, _, rfl, .inl rfl, ⟨dx, ha, hl⟩, fun r H1 s1 h1 => ⟨r, _, rfl, .inl (SqL.of h1), k H1 s1⟩⟩
end
end K05
set_option Elab.async false
set_option linter.all false
set_option maxRecDepth 100000
set_option maxHeartbeats 4000000
namespace K05
open PySem PySem.Spec PyProof.Rows L2 Lc
def dueN (nm : V) (d : PyData) : List V := if nameB nm = true then dueD d else [.str "name", nm, .bl true]
def spMade : Sp := fun vs H Q _ => ∃ (nm cv : V) (dn d : PyData), vs = [nm, cv] ∧ Dh H nm dn ∧ Cm dn ∧ Dh H cv d ∧ Arg d ∧ OutT H (dueN nm d) Q
theorem Dh.strEq {H : Hp} {z : Str} {d : PyData} (h : Dh H (.str z) d) : d = .str z := by cases h; rfl
theorem told_tm {d : PyData} (A : Arg d) (e : dueD d = [.str "told"]) : Tm 3 700000 d := by
  rcases A.tm with h | rfl
  · exact h
  · exact absurd e (by simp [dueD, noneV])
theorem tm_three {a b c : PyData} (ha : Tm 3 700000 a) (hb : Tm 3 700000 b) (hc : Tm 3 700000 c) : Tm 4 2200000 (.list [a, b, c]) :=
  (tm_lst (k := 3) (n := 700000) (fun d hd => by simp at hd; rcases hd with rfl | rfl | rfl <;> assumption)).mono (by decide) (by show 700000 * 3 + 2 * 3 + 4 ≤ 2200000; decide)
section
variable {P : Program} {w : World} {K : PySem.W.Frag} {mg : Str → Option Value} {base : Heap} {f C fI N Cc fIN fIC fN fC fV fR fE fL : Addr} {fd fdI fdN fdC fdV fdR fdE fdL : FuncData}
theorem scMade : FnScope ["_law_name_here", "_law_columns_here", "_law_log", "e"] ["_law_name_here", "_law_columns_here"] (defScope sMade) := ⟨rfl, rfl, rfl, by decide +kernel, rfl, by decide +kernel, by decide +kernel⟩
theorem ok_made (F : Fun K "_law_made" "_law_made" sMade f fd) (T : Bt mg) (G : RgF K mg C fI) (RN : ErF K mg "BadName" "given" N fIN) (RC : ErF K mg "BadColumns" "index" Cc fIC) (XN : ExB K N Cc) (XC : ExB K Cc N)
    (GI : FnOk P w K mg base (L2.CX P w) 4 fI fdI ["self", "name", "columns"] (spRI C N Cc)) (bI : Binds K fdI ["self", "name", "columns"] [])
    (hN : Meth K C "name" fN) (GN : FnOk P w K mg base CX0 1 fN fdN ["self"] (spGet C fun n _ => n)) (bN : Binds K fdN ["self"] [])
    (hC : Meth K C "columns" fC) (GC : FnOk P w K mg base CX0 1 fC fdC ["self"] (spGet C fun _ c => c)) (bC : Binds K fdC ["self"] [])
    (hV : Meth K C "version" fV) (GV : FnOk P w K mg base CX0 1 fV fdV ["self"] (spGet C fun _ _ => .int 0)) (bV : Binds K fdV ["self"] [])
    {ds : List Value} (hR : Meth K C "rows" fR) (GR : FnOk P w K mg base CX0 2 fR fdR ["self", "version"] (spRows C)) (bR : Binds K fdR ["self", "version"] []) (bRd : Binds K fdR ["self", "version"] ds) (vR : Vals [.non] ds)
    (hE : Meth K C "entries" fE) (GE : FnOk P w K mg base CX0 1 fE fdE ["self"] (spNew C)) (bE : Binds K fdE ["self"] [])
    (hL : LenC K C fL) (GL : FnOk P w K mg base CX0 3 fL fdL ["self"] (fun vs H Q _ => ∃ (a lg : Addr) (nm cv : V), vs = [.ref a] ∧ IsR C H a nm cv lg ∧ ∀ H', Same H H' → Q (.int 0) H')) (bL : Binds K fdL ["self"] []) : FnG P w K mg base 6 f fd ["_law_name_here", "_law_columns_here"] spMade := by
  refine Lc.Fun.okG F scMade (fun vs H Q E h => ?_) (fun cdv A outer s H vs Q E hg hr h => ?_)
  · obtain ⟨nm, cv, dn, d, rfl, _⟩ := h
    rfl
  · obtain ⟨nm, cv, dn, d, rfl, hn, cn, hd, hA, k⟩ := h
    have hr1 : Room 1 _ := hr.mono (by decide)
    have hr2 : Room 2 _ := hr.mono (by decide)
    have hr4 : Room (3 + 1) _ := hr.mono (by decide)
    refine ⟨_, Evl.pss_cut (ps_tryL (Wout := fun _ _ _ _ => False) (tb := fun W => tAsg (tMakeS C (spRI C N Cc) (WE W) (tCons (tVar 0) (tCons (tVar 1) tNil))) (gName 2)) (l := [⟨.ref N, some 3, tsX K N Cc "name" "given" 3⟩, ⟨.ref Cc, some 3, tsX K Cc N "columns" "index" 3⟩]) rfl rfl takes0
        (fun W pn xe tk _ => pss_one (ps_set (i := 2) scMade.nd rfl (Or.inl rfl) (pe_makeS G.mkC GI hr (by rfl) G.gC bI (fun σ => passAt tk σ) (pa_cons (pv 0) (pa_cons (pv 1) pa_nil)))))
        (.named (i := 3) ⟨rfl, by decide, Or.inl RN.gC⟩ rfl scMade.nd rfl rfl (fun a ob cls d pn hz hf => pss_one (ps_ret (pe_tup (pa_cons pe_str (pa_cons (pe_xf XN.xf RN.nG hz hf (pv 3)) (pa_cons
            (pe_and (pe_callB (call_isX XN.xc hz hf) (by rfl) T.isi boot_isinstance (pa_cons (pv 3) (pa_cons (pe_bltn (v := .ty "ValueError") (by rfl) T.ve PyProof.Rows.Boot.«ValueError» rfl) pa_nil)))
              (pe_one (pe_not (pe_callB (call_isX XN.xc hz hf) (by rfl) T.isi boot_isinstance (pa_cons (pv 3) (pa_cons (pe_glob (v := .ref Cc) (by rfl) RC.gC rfl) pa_nil)))))) pa_nil))))))
        (.named (i := 3) ⟨rfl, by decide, Or.inl RC.gC⟩ rfl scMade.nd rfl rfl (fun a ob cls d pn hz hf => pss_one (ps_ret (pe_tup (pa_cons pe_str (pa_cons (pe_xf XC.xf RC.nG hz hf (pv 3)) (pa_cons
            (pe_and (pe_callB (call_isX XC.xc hz hf) (by rfl) T.isi boot_isinstance (pa_cons (pv 3) (pa_cons (pe_bltn (v := .ty "ValueError") (by rfl) T.ve PyProof.Rows.Boot.«ValueError» rfl) pa_nil)))
              (pe_one (pe_not (pe_callB (call_isX XC.xc hz hf) (by rfl) T.isi boot_isinstance (pa_cons (pv 3) (pa_cons (pe_glob (v := .ref N) (by rfl) RN.gC rfl) pa_nil)))))) pa_nil)))))) .nil)))
      (pss_cons (ps_if (pt_cmpR op_ne (pe_callB (call_reprV hg hr.units) (by rfl) T.repr boot_repr (pa_cons (pe_lst (pa_cons (pe_meth0 (pv 2) G.cls hN GN hr1 bN .nil pass0) (pa_cons (pe_meth0 (pv 2) G.cls hC GC hr1 bC .nil pass0) (pa_cons (pe_meth0 (pv 2) G.cls hV GV hr1 bV .nil pass0) pa_nil)))) pa_nil))
          (pe_callB (call_reprV hg hr.units) (by rfl) T.repr boot_repr (pa_cons (pe_lst (pa_cons (pv 0) (pa_cons (pv 1) (pa_cons pe_int pa_nil)))) pa_nil)) (nomark _)) (pss_one (ps_ret (pe_tup (pa_cons pe_str pa_nil)))) pss_nil)
      (pss_cons (ps_if (pt_cmpR op_ne (pe_callB (call_reprV hg hr.units) (by rfl) T.repr boot_repr (pa_cons (pe_lst (pa_cons (pe_meth0 (pv 2) G.cls hR GR hr2 bRd vR pass0) (pa_cons (pe_meth (pv 2) G.cls hR GR hr2 bR .nil pass0 (pa_cons pe_int pa_nil)) (pa_cons (pe_meth0 (pv 2) G.cls hE GE hr1 bE .nil pass0) (pa_cons (pe_callB (call_lenI hL GL hr4 bL) (by rfl) T.len PySem.boot_len (pa_cons (pv 2) pa_nil)) pa_nil))))) pa_nil))
          pe_str (nomark _)) (pss_one (ps_ret (pe_tup (pa_cons pe_str pa_nil)))) pss_nil)
      (pss_one (ps_ret (pe_tup (pa_cons pe_str pa_nil)))))), ?_⟩
    have three : 3 ≤ sizeLine := by decide
    have ln : ∀ z, nm = .str z → z.length ≤ sizeLine := fun z e => by
      subst e
      exact cn.st z (Dh.strEq hn)
    refine ⟨fun σ H' => ∃ a lg : Addr, σ = [some nm, some cv, some (.ref a), none] ∧ IsR C H' a nm cv lg ∧ Same H H' ∧ nameB nm = true ∧ dueD d = [.str "told"], ?_, ?_⟩
    · refine ⟨_, rfl, _, rfl, fun x dx hx hdx hne => ?_⟩
      have s1 : Same H (upd (upd H dx (.own x)) x (.ins C dx [])) := fun b o e => by
        rw [upd_ne (ne_of_none e hx), upd_ne (ne_of_none e hdx)]
        exact e
      refine ⟨x, dx, nm, cv, dn, d, rfl, upd_same, hn.same s1, ln, hd.same s1, hA, fun nb H1 e1 d2 H2 e2 _ hx2 => ?_, fun nb y H1 e e1 d2 H2 e2 _ hx2 => ?_, fun nb e lg H1 e1 hI => ⟨rfl, x, lg, rfl, hI, fun b o eb => e1 b o (ne_of_none eb hx) (s1 b o eb), nb, e⟩⟩
      · refine ⟨true, XN.cc, fun _ a ha => tsX_go XN rfl hx2 (OutT.same ?_ ((s1.trans e1).trans e2)), nofun⟩
        rw [dueN, nb, if_neg (by decide)] at k
        exact k
      · refine ⟨false, XC.cn, nofun, fun _ => ⟨true, XC.cc, fun _ a ha => tsX_go XC rfl hx2 (OutT.same ?_ ((s1.trans e1).trans e2)), nofun⟩⟩
        rw [dueN, nb, if_pos rfl, e] at k
        exact k
    · rintro σ H1 ⟨a, lg, rfl, hI, s1, nb, e⟩
      rw [dueN, nb, if_pos rfl, e] at k
      have td := told_tm hA e
      have tn : Tm 3 700000 dn := cn.tm.mono (by decide) (by decide)
      have t0 : Tm 3 700000 (.int 0) := (tm_fl (fl_int (by show 0 < _; exact Nat.pow_pos (by decide)))).mono (by decide) (by decide)
      have t3 := tm_three tn td t0
      obtain ⟨dx, ha, hl⟩ := id hI
      refine ⟨_, rfl, a, dx, _, rfl, ha, rfl, a, lg, nm, cv, rfl, hI, _, rfl, a, dx, _, rfl, ha, rfl, a, lg, nm, cv, rfl, hI, _, rfl, a, dx, _, rfl, ha, rfl, a, lg, nm, cv, rfl, hI, three, fun q hq => ?_⟩
      have zq := Same.upd (o := .lst [nm, cv, .int 0]) hq
      have s2 := s1.trans zq
      have w1 : Dh (upd H1 q (.lst [nm, cv, .int 0])) (.ref q) (.list [dn, d, .int 0]) := .lst upd_same (.cons (hn.same s2) (.cons (hd.same s2) (.cons (.int 0) .nil)))
      refine ⟨_, _, rfl, w1.shwT t3 (by decide) (by decide), _, rfl, _, rfl, three, fun q2 hq2 => ?_⟩
      have z2 := Same.upd (o := .lst [nm, cv, .int 0]) hq2
      have s3 := s2.trans z2
      have w2 : Dh (upd (upd H1 q (.lst [nm, cv, .int 0])) q2 (.lst [nm, cv, .int 0])) (.ref q2) (.list [dn, d, .int 0]) := .lst upd_same (.cons (hn.same s3) (.cons (hd.same s3) (.cons (.int 0) .nil)))
      refine ⟨_, _, rfl, w2.shwT t3 (by decide) (by decide), rfl, _, rfl, ?_⟩
      rw [decide_eq_true rfl]
      have hI2 := (hI.same zq).same z2
      generalize upd (upd H1 q (.lst [nm, cv, .int 0])) q2 (.lst [nm, cv, .int 0]) = H2 at hI2 s3 ⊢
      clear w1 w2 s2
      obtain ⟨dx2, ha2, hl2⟩ := id hI2
      refine iteF ⟨_, rfl, a, dx2, _, rfl, ha2, rfl, a, lg, nm, cv, _, rfl, .inl rfl, hI2, fun r1 H3 s4 h1 => ?_⟩
      have ha3 := s4 _ _ ha2
      refine ⟨_, rfl, a, dx2, _, rfl, ha3, rfl, a, lg, nm, cv, _, rfl, .inr rfl, hI2.same s4, fun r2 H4 s5 h2 => ?_⟩
      have ha4 := s5 _ _ ha3
      refine ⟨_, rfl, a, dx2, _, rfl, ha4, rfl, a, lg, nm, cv, rfl, (hI2.same s4).same s5, fun r3 H5 s6 h3 => ?_⟩
      have ha5 := s6 _ _ ha4
      refine ⟨_, rfl, a, dx2, _, rfl, ha5, a, lg, nm, cv, rfl, ((hI2.same s4).same s5).same s6, fun H6 s7 => ⟨0, rfl, by decide, by decide, by show 4 ≤ sizeLine; decide, fun q3 hq3 => ?_⟩⟩
      have z3 := Same.upd (o := .lst [.ref r1, .ref r2, .ref r3, .int 0]) hq3
      have w3 : Dh (upd H6 q3 (.lst [.ref r1, .ref r2, .ref r3, .int 0])) (.ref q3) (.list [.list [], .list [], .list [], .int 0]) := .lst upd_same (.cons (.lst (z3 _ _ (s7 _ _ (s6 _ _ (s5 _ _ h1)))) .nil) (.cons (.lst (z3 _ _ (s7 _ _ (s6 _ _ h2))) .nil) (.cons (.lst (z3 _ _ (s7 _ _ h3)) .nil) (.cons (.int 0) .nil))))
      refine ⟨_, _, rfl, w3.shw (by decide +kernel) (by decide +kernel) (by decide +kernel) (by decide +kernel), rfl, _, rfl, ?_⟩
      rw [decide_eq_true (show V.str (PyData.shown (.list [.list [], .list [], .list [], .int 0])) = V.str "[[], [], [], 0]" from congrArg V.str (by decide +kernel))]
      refine iteF ⟨by show 1 ≤ sizeLine; decide, fun r hr => k r _ ((((((s3.trans s4).trans s5).trans s6).trans s7).trans z3).trans (Same.upd hr)) upd_same⟩
end
end K05
set_option Elab.async false
set_option linter.all false
set_option maxRecDepth 100000
set_option maxHeartbeats 4000000
namespace K05
open PySem PySem.Spec PyProof.Rows L2 Lc
abbrev sLaw : Stmt := top 35
def spLaw (K : PySem.W.Frag) : Sp := fun vs H Q _ => ∃ (a : Addr) (ns : List Int), vs = [.ref a] ∧ SqL K H a (ns.map V.int) ∧ ∀ H', Q (.bl true) H'
theorem shw_arg {K : PySem.W.Frag} {H : Hp} {v : V} {d : PyData} (h : Dh H v d) (A : Arg d) : Shw K H v d.shown := by
  rcases A.tm with t | rfl
  · exact h.shwT t (by decide) (by decide)
  · cases h with
    | dct e => exact .empty e
theorem badFrom_lt : ∀ {cs : List (Option Str)} {seen : List Str} {n i : Nat}, badFrom cs seen n = some i → i < n + cs.length
  | [], _, _, _, h => by cases h
  | none :: r, _, n, i, h => by
    obtain rfl := Option.some.inj h
    simp
  | some z :: r, seen, n, i, h => by
    rw [badFrom] at h
    split at h
    · obtain rfl := Option.some.inj h
      simp
    · have := badFrom_lt h
      rw [List.length_cons]
      omega
theorem fl_ix {i : Nat} (h : i < 8) : Fl (.int (i : Int)) (.int (i : Int)) "int" := fl_int (Nat.lt_of_lt_of_le (show (i : Int).natAbs < 2 ^ 3 by omega) (Nat.pow_le_pow_right (by decide) (by decide)))
theorem shw_due (K : PySem.W.Frag) (d : PyData) : ∃ z, ∀ (H : Hp) (r : Addr), H r = some (.tup (dueD d)) → Shw K H (.ref r) z := by
  have tx : ∀ {x : Str}, Sh 100 x → Fl (.str x) (.str x) "str" := fun h => fl_str h (by decide)
  have sc : Sh 100 ("columns" : Str) := ⟨by decide +kernel, by decide +kernel⟩
  have st : Sh 100 ("told" : Str) := ⟨by decide +kernel, by decide +kernel⟩
  have nn : ∀ {l : List V}, l = noneV → ∃ z, ∀ (H : Hp) (r : Addr), H r = some (.tup l) → Shw K H (.ref r) z := fun e => ⟨_, fun H r h => shw_tup (by rw [h, e]; rfl) (.cons (tx sc) (.cons fl_non (.cons (fl_bl true) .nil))) (by show 3 ≤ 100; decide)⟩
  cases d with
  | tuple ds =>
    by_cases l : ds.length = 0 ∨ 8 < ds.length
    · exact nn (if_pos l)
    · have q : dueD (.tuple ds) = match badFrom (ds.map colD) [] 0 with
        | none => [.str "told"]
        | some i => [.str "columns", .int i, .bl true] := if_neg l
      cases e : badFrom (ds.map colD) [] 0 with
      | none =>
        rw [e] at q
        exact ⟨_, fun H r h => shw_tup (h.trans (by rw [q])) (.cons (tx st) .nil) (by show 1 ≤ 100; decide)⟩
      | some i =>
        rw [e] at q
        have := badFrom_lt e
        rw [List.length_map] at this
        exact ⟨_, fun H r h => shw_tup (h.trans (by rw [q])) (.cons (tx sc) (.cons (fl_ix (i := i) (by omega)) (.cons (fl_bl true) .nil))) (by show 3 ≤ 100; decide)⟩
  | _ => exact nn rfl
theorem shw_dueN (K : PySem.W.Frag) {nm : V} {dn : PyData} (d : PyData) (c : Cm dn) : ∃ z, ∀ (H : Hp) (r : Addr), Dh H nm dn → H r = some (.tup (dueN nm d)) → Shw K H (.ref r) z := by
  by_cases nb : nameB nm = true
  · obtain ⟨z, h⟩ := shw_due K d
    exact ⟨z, fun H r _ e => h H r (by rw [e, dueN, if_pos nb])⟩
  · have tt : Tm 2 64000 (.tuple [.str "name", dn, .bool true]) := (tm_tup (k := 1) (n := 21000) (fun d hd => by
      simp at hd
      rcases hd with rfl | rfl | rfl
      · exact tm_up (tm_str ⟨by decide +kernel, by decide +kernel⟩)
      · exact c.tm
      · exact tm_up (tm_fl (fl_bl true)))).mono (by decide) (by show 21000 * 3 + 2 * 3 + 4 ≤ 64000; decide)
    refine ⟨_, fun H r h e => (Dh.tup (e.trans (by rw [dueN, if_neg nb])) (.cons (.str _) (.cons h (.cons (.bl true) .nil)))).shwT tt (by decide) (by decide)⟩
section
variable {P : Program} {w : World} {K : PySem.W.Frag} {mg : Str → Option Value} {base : Heap} {f fT fD fN fO fR fU fC fM fI : Addr} {fd fdT fdD fdN fdO fdR fdU fdC fdM fdI : FuncData}
theorem scLaw : FnScope ["_law_script", "_law_tape_here", "_law_k", "_law_columns_here", "_law_before", "_law_name_here", "_law_due_here"] ["_law_script"] (defScope sLaw) := ⟨rfl, rfl, rfl, by decide +kernel, rfl, by decide +kernel, by decide +kernel⟩
theorem ok_law (F : Fun K "law" "law" sLaw f fd) (T : Bt mg) (GT : FnOk P w K mg base CX0 1 fT fdT ["_law_script"] (spTape K)) (mT : mg "_law_tape" = some (.ref fT)) (kT : PySem.W.keepIn K (.ref fT) = true) (bT : Binds K fdT ["_law_script"] [])
    (GD : FnOk P w K mg base CX0 1 fD fdD ["_law_tape_here", "_law_many"] spDrawL) (mD : mg "_law_draw" = some (.ref fD)) (kD : PySem.W.keepIn K (.ref fD) = true) (bD : Binds K fdD ["_law_tape_here", "_law_many"] [])
    (GN : FnOk P w K mg base CX0 2 fN fdN ["_law_tape_here"] spLNm) (mN : mg "_law_name" = some (.ref fN)) (kN : PySem.W.keepIn K (.ref fN) = true) (bN : Binds K fdN ["_law_tape_here"] [])
    (GO : FnOk P w K mg base CX0 2 fO fdO ["_law_tape_here"] spOdd) (mO : mg "_law_odd" = some (.ref fO)) (kO : PySem.W.keepIn K (.ref fO) = true) (bO : Binds K fdO ["_law_tape_here"] [])
    (GR : FnOk P w K mg base CX0 5 fR fdR ["_law_tape_here"] spRo) (mR : mg "_law_rows_of" = some (.ref fR)) (kR : PySem.W.keepIn K (.ref fR) = true) (bR : Binds K fdR ["_law_tape_here"] [])
    (GU : FnOk P w K mg base CX0 2 fU fdU ["_law_columns_here"] spDue) (mU : mg "_law_due" = some (.ref fU)) (kU : PySem.W.keepIn K (.ref fU) = true) (bU : Binds K fdU ["_law_columns_here"] [])
    (GC : FnOk P w K mg base CX0 4 fC fdC ["_law_columns_here"] spChk) (mC : mg "_law_checked" = some (.ref fC)) (kC : PySem.W.keepIn K (.ref fC) = true) (bC : Binds K fdC ["_law_columns_here"] [])
    (GM : FnG P w K mg base 6 fM fdM ["_law_name_here", "_law_columns_here"] spMade) (mM : mg "_law_made" = some (.ref fM)) (kM : PySem.W.keepIn K (.ref fM) = true) (bM : Binds K fdM ["_law_name_here", "_law_columns_here"] [])
    (GI : FnOk P w K mg base CX0 1 fI fdI ["_law_value"] spName) (mI : mg "_law_is_name" = some (.ref fI)) (kI : PySem.W.keepIn K (.ref fI) = true) (bI : Binds K fdI ["_law_value"] []) : FnG P w K mg base 7 f fd ["_law_script"] (spLaw K) := by
  refine Lc.Fun.okG F scLaw (fun vs H Q E h => ?_) (fun cdv A outer s H vs Q E hg hr h => ?_)
  · obtain ⟨a, ns, rfl, _⟩ := h
    rfl
  · obtain ⟨a0, ns, rfl, hS, k⟩ := h
    have hr1 : Room 1 _ := hr.mono (by decide)
    have hr2 : Room 2 _ := hr.mono (by decide)
    have hr4 : Room 4 _ := hr.mono (by decide)
    have hr5 : Room 5 _ := hr.mono (by decide)
    refine ⟨_, pss_cons (ps_set (i := 1) scLaw.nd rfl (Or.inl rfl) (pe_call GT hr1 (by rfl) mT kT bT .nil pass0 (pa_cons (pv 0) pa_nil)))
      (pss_cons (ps_for PassesOwn.never rfl (pi_range1 (by rfl) T.range (pa_cons (pe_op op_add pe_int (pe_callB (call_min2 rfl) (by rfl) T.min boot_min (pa_cons (pe_callB call_len_seq (by rfl) T.len PySem.boot_len (pa_cons (pv 0) pa_nil)) (pa_cons pe_int pa_nil)))) pa_nil)) (pg_name (i := 2) scLaw.nd rfl (Or.inl rfl))
        (pss_cons (ps_set (i := 3) scLaw.nd rfl (Or.inl rfl) (pe_call GR hr5 (by rfl) mR kR bR .nil pass0 (pa_cons (pv 1) pa_nil)))
        (pss_cons (ps_set (i := 4) scLaw.nd rfl (Or.inl rfl) (pe_callB (call_reprV hg hr.units) (by rfl) T.repr boot_repr (pa_cons (pv 3) pa_nil)))
        (pss_cons (ps_set (i := 5) scLaw.nd rfl (Or.inl rfl) (pe_call GN hr2 (by rfl) mN kN bN .nil pass0 (pa_cons (pv 1) pa_nil)))
        (Evl.pss_cut (ps_if (pt_cmpR op_eq (pe_call GD hr1 (by rfl) mD kD bD .nil pass0 (pa_cons (pv 1) (pa_cons pe_int pa_nil))) pe_int (nomark _)) (pss_one (ps_set (i := 5) scLaw.nd rfl (Or.inl rfl) (pe_call GO hr2 (by rfl) mO kO bO .nil pass0 (pa_cons (pv 1) pa_nil)))) pss_nil)
        (pss_cons (ps_set (i := 6) scLaw.nd rfl (Or.inl rfl) (pe_call GU hr2 (by rfl) mU kU bU .nil pass0 (pa_cons (pv 3) pa_nil)))
        (pss_cons (ps_if (PW.pt (pw_or (pt_cmpR op_ne (pe_callB (call_reprV hg hr.units) (by rfl) T.repr boot_repr (pa_cons (pe_call GC hr4 (by rfl) mC kC bC .nil pass0 (pa_cons (pv 3) pa_nil)) pa_nil)) (pe_callB (call_reprV hg hr.units) (by rfl) T.repr boot_repr (pa_cons (pv 6) pa_nil)) (nomark _))
          (pw_or1 (pt_cmpR op_ne (pe_callB (call_reprV hg hr.units) (by rfl) T.repr boot_repr (pa_cons (pv 3) pa_nil)) (pv 4) (nomark _))))) (pss_one (ps_ret pe_bl)) pss_nil)
        (Evl.pss_cut (ps_if (pt_not (pt_val (pe_call GI hr1 (by rfl) mI kI bI .nil pass0 (pa_cons (pv 5) pa_nil)))) (pss_one (ps_set (i := 6) scLaw.nd rfl (Or.inl rfl) (pe_tup (pa_cons pe_str (pa_cons (pv 5) (pa_cons pe_bl pa_nil)))))) pss_nil)
        (pss_one (ps_if (PW.pt (pw_or (pt_cmpR op_ne (pe_callB (call_reprV hg hr.units) (by rfl) T.repr boot_repr (pa_cons (pe_callG GM hg hr (by rfl) mM kM bM (pa_cons (pv 5) (pa_cons (pv 3) pa_nil))) pa_nil)) (pe_callB (call_reprV hg hr.units) (by rfl) T.repr boot_repr (pa_cons (pv 6) pa_nil)) (nomark _))
          (pw_or1 (pt_cmpR op_ne (pe_callB (call_reprV hg hr.units) (by rfl) T.repr boot_repr (pa_cons (pv 3) pa_nil)) (pv 4) (nomark _))))) (pss_one (ps_ret pe_bl)) pss_nil))))))))))
      (pss_one (ps_ret pe_bl))), ?_⟩
    refine ⟨_, rfl, a0, ns, rfl, hS, fun t H0 e0 ht hT0 => ?_⟩
    refine ⟨_, rfl, a0, _, rfl, .inl (e0.seq hS), _, _, rfl, _, _, rfl, rfl, _, rfl, ?_, ?_, for_range (fun i σ H' => (∃ v2 v3 v4 v5 v6 : Option V, σ = [some (.ref a0), some (.ref t), v2, v3, v4, v5, v6]) ∧ Tape H' t) ⟨⟨_, _, _, _, _, rfl⟩, hT0⟩ ?_ (fun σ H' _ => k H')⟩
    · split <;> omega
    · split <;> omega
    rintro i σ H1 hi ⟨⟨v2, v3, v4, v5, v6, rfl⟩, c, T1⟩
    replace T1 : TapeL c H1 t := T1
    refine ⟨_, rfl, t, c, rfl, T1, fun v d H2 hv A T2 S2 => ?_⟩
    refine ⟨_, rfl, v, _, rfl, shw_arg hv.now A, ?_⟩
    refine ⟨_, rfl, t, c, rfl, T2, fun x H3 hx T3 S3 => ?_⟩
    let St : V → Option V → L2.St := fun nm du => [some (.ref a0), some (.ref t), some (.int (0 + (i : Int))), some v, some (.str d.shown), some nm, du]
    refine ⟨fun σ H' => ∃ (nm : V) (dn : PyData), σ = St nm v6 ∧ Dh H' nm dn ∧ Cm dn ∧ Dh H' v d ∧ TapeL c H' t, ?_, ?_⟩
    · refine ⟨_, rfl, t, c, _, rfl, T3, by decide, big1000 (by decide) (by decide), fun j H4 uj wj T4 S4 => ⟨rfl, _, rfl, ite2 (fun _ => ?_) (fun _ => ?_)⟩⟩
      · exact ⟨_, rfl, t, c, rfl, T4, fun nm dn H5 hn cn _ T5 S5 => ⟨nm, dn, rfl, hn H5 (fun b o _ e => e), cn, hv H5 ((S3.trans S4).trans S5), T5⟩⟩
      · exact ⟨_, _, rfl, .str x, cm_str (hx.mono (by decide)), hv H4 (S3.trans S4), T4⟩
    clear hx T3 S3 T2 S2 hv T1
    rintro σ H4 ⟨nm, dn, rfl, hn, cn, hd, T4⟩
    obtain ⟨zd, sd⟩ := shw_due K d
    obtain ⟨zn, sn⟩ := shw_dueN K (nm := nm) d cn
    refine ⟨_, rfl, ?_⟩
    dsimp only [tNil]
    refine due_sp hd A fun r H5 s5 h5 => ?_
    refine ⟨_, rfl, v, d, rfl, hd.same s5, A, fun r2 H6 s6 h6 => ?_⟩
    refine ⟨_, _, rfl, sd _ _ h6, _, rfl, _, _, rfl, sd _ _ (s6 _ _ h5), rfl, _, rfl, ?_⟩
    rw [decide_eq_true rfl]
    refine iteF ⟨_, rfl, _, _, rfl, shw_arg ((hd.same s5).same s6) A, _, rfl, rfl, _, rfl, ?_⟩
    rw [decide_eq_true rfl]
    refine iteF ?_
    have s7 := s5.trans s6
    refine ⟨fun σ H' => ∃ r : Addr, σ = St nm (some (.ref r)) ∧ H' r = some (.tup (dueN nm d)) ∧ Same H4 H', ?_, ?_⟩
    · refine ⟨_, rfl, nm, _, rfl, (hn.same s7).ty, fun z e => cn.st z ?_, fun H7 e7 => ⟨_, rfl, ?_⟩⟩
      · subst e
        exact Dh.strEq hn
      · cases nb : nameB nm with
        | true => exact iteF ⟨r, rfl, by rw [dueN, nb, if_pos rfl]; exact e7 _ _ (s6 _ _ h5), s7.trans e7⟩
        | false =>
          refine iteT ⟨_, rfl, by show 3 ≤ sizeLine; decide, fun q hq => ⟨q, rfl, ?_, (s7.trans e7).trans (Same.upd hq)⟩⟩
          rw [dueN, nb, if_neg (by decide)]
          exact upd_same
    clear h5 h6 s5 s6 s7
    rintro σ H7 ⟨r, rfl, h7, s7⟩
    refine ⟨_, rfl, _, rfl, ?_⟩
    refine ⟨nm, v, dn, d, rfl, hn.same s7, cn, hd.same s7, A, fun r3 H8 s8 h8 => ?_⟩
    refine ⟨_, _, rfl, sn _ _ ((hn.same s7).same s8) h8, _, rfl, _, _, rfl, sn _ _ ((hn.same s7).same s8) (s8 _ _ h7), rfl, _, rfl, ?_⟩
    rw [decide_eq_true rfl]
    refine iteF ⟨_, rfl, _, _, rfl, shw_arg ((hd.same s7).same s8) A, _, rfl, rfl, _, rfl, ?_⟩
    rw [decide_eq_true rfl]
    exact iteF ⟨⟨_, _, _, _, _, rfl⟩, (T4.same (s7.trans s8)).tape⟩
end
end K05
set_option Elab.async false
set_option linter.all false
set_option maxRecDepth 100000
set_option maxHeartbeats 4000000
namespace Lc
open PySem PySem.Spec PyProof.Rows L2 He
/-! ## The head's facts, with one more Bool -/
abbrev AlE : Type := AlD × Bool
def obsE (n : Nat) (fa : List Fa) (fn : List DefD) (ex : PySem.W.Frag → Bool) (g : Addr → Option Obj) : AlE := (obsD fa fn (frG g (asD g n)), ex (frG g (asD g n)))
def hookE (n : Nat) (fa : List Fa) (fn : List DefD) (ex : PySem.W.Frag → Bool) : PySem.W.Hook where
  α := AlE
  obs := fun s => obsE n fa fn ex s.heap.get?
  val := fun _ => (valD fn, true)
  says := fun _ h => ∃ K : PySem.W.Frag, K.In h ∧ SaysD fa fn K ∧ ex K = true
  of := fun _ _ e => ⟨_, frG_in, congrArg (fun z : AlE => z.1) e, congrArg (fun z : AlE => z.2) e⟩
  keeps := fun _ _ _ ⟨K, hK, c⟩ k => ⟨K, PySem.W.Frag.In.keeps hK k, c⟩
theorem obsE_eq {n : Nat} {fa : List Fa} {fn : List DefD} {ex : PySem.W.Frag → Bool} {g : Addr → Option Obj} {s : Shared} (h : ∀ a, g a = s.heap.get? a) : obsE n fa fn ex g = (hookE n fa fn ex).obs s := by
  have e : g = s.heap.get? := funext h
  rw [e] <;> rfl
/-! ## What is asked of the error classes -/
def optB (a b : Option Bool) : Bool := decide (a = b)
def optV (a b : Option Value) : Bool := decide (a = b)
def oexB (K : PySem.W.Frag) (C : Addr) : Bool := (match K.lookup C with
  | some ⟨.type "type", _, .cls cd, sl⟩ => (match cd.mro, sl.toList with
    | .ref C' :: bm, [_, _, _, _, some (.builtin n), _] => C' == C && n == "ValueError.__new__" && !cd.hasDel && cd.hasDict && PySem.HandSPX.refsVE bm
    | _, _ => false)
  | _ => false) && (eqO (PySem.W.findIn K (.ref C) "__setattr__") (some (some (.builtin "object.__setattr__"))) && (optB (PySem.W.subIn K (.ref C) (.type "BaseException")) (some true) && (optV (PySem.W.typeIn K (.ref C)) (some (.type "type")) && PySem.W.keepIn K (.ref C))))
theorem oexB_ok {K : PySem.W.Frag} {C : Addr} (h : oexB K C = true) : OexC K C := by
  obtain ⟨q, h⟩ := ba h
  obtain ⟨h1, h⟩ := ba h
  obtain ⟨h2, h⟩ := ba h
  obtain ⟨h3, h4⟩ := ba h
  refine ⟨?_, eqO_ok h1, of_decide_eq_true h2, of_decide_eq_true h3, h4⟩
  split at q
  · rename_i dd cd sl ho
    split at q
    · rename_i C' bm k0 k1 k2 k3 n k5 hm hs
      simp only [Bool.and_eq_true, beq_iff_eq, Bool.not_eq_true'] at q
      obtain ⟨⟨⟨⟨rfl, rfl⟩, hdel⟩, hdi⟩, ht⟩ := q
      obtain ⟨nm, bs, mro, ns, qn, hd, sn, sub, ab, col, del⟩ := cd
      dsimp only at hm hdel hdi
      subst hm hdel hdi
      have hsl : sl = #[k0, k1, k2, k3, some (.builtin "ValueError.__new__"), k5] := by
        obtain ⟨l⟩ := sl
        simp only at hs
        rw [hs]
      subst hsl
      exact ⟨nm, qn, ns, bs, bm, sn, sub, ab, col, dd, k0, k1, k2, k3, k5, ho, ht⟩
    · cases q
  · cases q
def xisB (K : PySem.W.Frag) (C : Addr) : Bool := (PySem.W.clsIn K C).isSome && (eqO (PySem.W.findIn K (.ref C) "__getattribute__") (some (some (.builtin "BaseException.__getattribute__"))) && (eqO (PySem.W.findIn K (.ref C) "__getattr__") (some none) &&
  (optB (PySem.W.subIn K (.ref C) (.type "BaseException")) (some true) && (eqO (PySem.W.findIn K (.ref C) "__class__") (some (some (.builtin "object.__class__"))) && (eqO (PySem.W.specialIn K (.builtin "object.__class__") "__get__") (some (some (.builtin "getset_descriptor.__get__"))) &&
  (optB (PySem.W.takesIn K (.builtin "object.__class__")) (some true) && optB (PySem.W.mroIn K C (.type "object")) (some true)))))))
theorem xisB_ok {K : PySem.W.Frag} {C : Addr} (h : xisB K C = true) : XisC K C := by
  obtain ⟨h1, h⟩ := ba h
  obtain ⟨h2, h⟩ := ba h
  obtain ⟨h3, h⟩ := ba h
  obtain ⟨h4, h⟩ := ba h
  obtain ⟨h5, h⟩ := ba h
  obtain ⟨h6, h⟩ := ba h
  obtain ⟨h7, h8⟩ := ba h
  exact ⟨h1, eqO_ok h2, eqO_ok h3, of_decide_eq_true h4, eqO_ok h5, eqO_ok h6, of_decide_eq_true h7, of_decide_eq_true h8⟩
/-- a def without defaults -/
theorem fun_of {K : PySem.W.Frag} {x qual : Str} {st : Stmt} {f : Addr} {fd : FuncData} (F : FunD K x qual (defArgs st) (defBody st) (defScope st) [] [] f fd) : Fun K x qual st f fd := by
  obtain ⟨oc, od, dV, kV, doc, pm, an, cdv, ct, osl, rfl, lk, hcd, hD, hK⟩ := F.ex
  rcases hD with ⟨_, rfl⟩ | ⟨e, _⟩
  · exact ⟨⟨oc, od, kV, doc, pm, an, cdv, ct, osl, rfl, lk, hcd⟩, F.kp⟩
  · exact absurd rfl e
/-! ## The end of a law whose defs are promised where no repr is under way -/
theorem walk_GE {l : PySem.W.OpenLaw} {n k : Nat} {q : Program} {loose : List Str} {XP : (Str → Option Value) → Heap → Prop} {YP : World → Heap → Prop} {d : DefRec} {x : Str}
    (hn : l.most = some n) (hn2 : n ≤ sizeLine) (hdf : d.params.defaults = []) (hr : Room k callerA)
    (F : ∀ (w : World) (mg : Str → Option Value) (fa : Addr) (h : Heap), YP w h → h.Ns mainGlobals mg → mg d.name = some (.ref fa) →
      ∃ (K : PySem.W.Frag) (fd : FuncData) (sp : Sp), K.In h ∧ (∀ (s : Shared) (u : Value), BindsTo s fd ⟨[u], []⟩ [(x, u)]) ∧
        (∀ (H : Hp) (a : Addr) (ns : List Int), ns.length ≤ n → SqL K H a (ns.map V.int) → sp [.ref a] H (fun v _ => v = .bl true) fun _ _ _ => False) ∧
        ∀ base : Heap, K.In base → base.Ns mainGlobals mg → FnG l.prog w K mg base k fa fd [x] sp) :
    PySem.W.WalkO q loose XP YP l.row.toRowW d [] (fun f vs => PySem.call f vs) := by
  refine Att.attach_call hn hdf fun w _ s mg mb fa _ _ _ _ a vs ns G Y _ _ _ hmg hobj hints hlen hg => ?_
  obtain ⟨K, fd, sp, KX, hb, hsp, hF⟩ := F w mg fa _ Y G.T.g hmg
  exact law_callG KX G.T.g G.T.b G.T.builtins G.T.nolimit hg hobj hints (Nat.le_trans hlen hn2) hr hF hb fun H hS => hsp H a ns hlen hS
end Lc
namespace Lc
theorem all_at {l : List Bool} (h : l.all id = true) (i : Nat) {b : Bool} (e : l[i]? = some b := by rfl) : b = true := List.all_eq_true.mp h b (List.mem_of_getElem? e)
end Lc
set_option Elab.async false
set_option linter.all false
set_option maxRecDepth 100000
set_option maxHeartbeats 8000000
namespace K05
open PySem PySem.Spec PyProof.Rows L2 Lc He
/-! ## the head -/
def dOf (x : Str) (st : Stmt) : DefD := ⟨(x, none), x, x, defArgs st, defBody st, defScope st, [], []⟩
def dMt (c m q : Str) (st : Stmt) : DefD := ⟨(c, some m), m, q, defArgs st, defBody st, defScope st, [], []⟩
def dKw (x : Str) (st : Stmt) (kw : List (Str × Dv)) : DefD := ⟨(x, none), x, x, defArgs st, defBody st, defScope st, [], kw⟩
def dDf (x : Str) (st : Stmt) (df : List Dv) : DefD := ⟨(x, none), x, x, defArgs st, defBody st, defScope st, df, []⟩
def dMd (c m q : Str) (st : Stmt) (df : List Dv) : DefD := ⟨(c, some m), m, q, defArgs st, defBody st, defScope st, df, []⟩
def fn : List DefD := [dMt "BadName" "__init__" "BadName.__init__" sIniN, dMt "BadColumns" "__init__" "BadColumns.__init__" sIniC, dOf "is_whole" sWhole, dOf "is_name" sName, dOf "is_column" sCol, dOf "check_columns" sCc, dOf "check_name" sCn, dOf "rows_after" sRa, dMt "Register" "__init__" "Register.__init__" sRI, dMt "Register" "name" "Register.name" sRN, dMt "Register" "columns" "Register.columns" sRC, dMt "Register" "version" "Register.version" sRV, dMd "Register" "rows" "Register.rows" sRR [.non], dMt "Register" "entries" "Register.entries" sRE, dMt "Register" "__len__" "Register.__len__" sRL, dOf "_law_tape" sTape, dOf "_law_draw" sDraw, dOf "_law_name" sLnm, dOf "_law_fresh" sFr, dOf "_law_columns" sCls, dOf "_law_is_name" sLis, dOf "_law_odd" sOdd, dOf "_law_spoilt" sSp, dOf "_law_rows_of" sRo, dOf "_law_due" sDue, dOf "_law_checked" sChk, dOf "_law_made" sMade, dOf "law" sLaw]
def gl : List Str := ["BadName", "BadColumns", "Register", "KINDS", "is_whole", "is_name", "is_column", "check_columns", "check_name", "rows_after", "_law_tape", "_law_draw", "_law_name", "_law_fresh", "_law_columns", "_law_is_name", "_law_odd", "_law_spoilt", "_law_rows_of", "_law_due", "_law_checked", "_law_made"]
def loose : List Str := gl ++ (["LETTERS", "NAME_SIGNS", "LONGEST_NAME", "MOST_COLUMNS", "_wall", "NoRow", "NoVersion", "TooLarge", "MOST_ENTRIES"] : List Str)
def fa : List Fa := (.glo "law") :: gl.map Fa.glo ++ (btNames ++ ([] : List Str)).map Fa.free ++ [.str "LETTERS" letters, .str "NAME_SIGNS" signs, .int "LONGEST_NAME" 12, .int "MOST_COLUMNS" 8]
def exL (K : PySem.W.Frag) : List Bool := [oexB K (ga K "BadName"), eqO (PySem.W.findIn K (.ref (ga K "BadName")) "__init__") (some (some (.ref (ma K (ga K "BadName") "__init__")))), optV (PySem.W.typeIn K (.ref (ma K (ga K "BadName") "__init__"))) (some (.type "function")), eqO (PySem.W.findIn K (.ref (ga K "BadName")) "given") (some none), xfB K (ga K "BadName"), xisB K (ga K "BadName"), optB (PySem.W.exmOne K (.ref (ga K "BadName")) (.ref (ga K "BadName"))) (some true), optB (PySem.W.exmOne K (.ref (ga K "BadName")) (.ref (ga K "BadColumns"))) (some false), optB (PySem.W.kitOne K (.ref (ga K "BadName")) (.type "ValueError")) (some true), optB (PySem.W.kitOne K (.ref (ga K "BadName")) (.ref (ga K "BadColumns"))) (some false), oexB K (ga K "BadColumns"), eqO (PySem.W.findIn K (.ref (ga K "BadColumns")) "__init__") (some (some (.ref (ma K (ga K "BadColumns") "__init__")))), optV (PySem.W.typeIn K (.ref (ma K (ga K "BadColumns") "__init__"))) (some (.type "function")), eqO (PySem.W.findIn K (.ref (ga K "BadColumns")) "index") (some none), xfB K (ga K "BadColumns"), xisB K (ga K "BadColumns"), optB (PySem.W.exmOne K (.ref (ga K "BadColumns")) (.ref (ga K "BadColumns"))) (some true), optB (PySem.W.exmOne K (.ref (ga K "BadColumns")) (.ref (ga K "BadName"))) (some false), optB (PySem.W.kitOne K (.ref (ga K "BadColumns")) (.type "ValueError")) (some true), optB (PySem.W.kitOne K (.ref (ga K "BadColumns")) (.ref (ga K "BadName"))) (some false), Fa.ok K (.mkr "Register"), Fa.ok K (.cls "Register"), Fa.ok K (.noat "Register" "called"), Fa.ok K (.noat "Register" "shape"), Fa.ok K (.noat "Register" "log"), Fa.ok K (.meth "Register" "name"), Fa.ok K (.meth "Register" "columns"), Fa.ok K (.meth "Register" "version"), Fa.ok K (.meth "Register" "rows"), Fa.ok K (.meth "Register" "entries"), eqO (PySem.W.findIn K (.ref (ga K "Register")) "__len__") (some (some (.ref (ma K (ga K "Register") "__len__")))), PySem.W.isFn K (.ref (ma K (ga K "Register") "__len__")), tupB K "KINDS" [.str "number", .str "word", .str "flag"]]
def ex (K : PySem.W.Frag) : Bool := (exL K).all id
abbrev R : PySem.W.OpenRow := PySem.W.OpenLaw.row PySem.Challenge.rw_liveclaims_k05_columns_are_checked
abbrev hk : PySem.W.Hook := hookE 5 fa fn ex
def ob (s : PySem.W.SharedT) : AlE := obsE 5 fa fn ex (HandSHeadRun.getT s)
theorem ob_eq (s : PySem.W.SharedT) : ob s = hk.obs s.abs := obsE_eq (HandSHeadRun.getT_eq s)
theorem run (w : World) : HandSHeadRun.RunEq R (PySem.W.view R.prog [35]) hk ob 4000 loose w := by
  intro os
  kernel_rfl
theorem facts {P : Program} {w : World} {K : PySem.W.Frag} {h : Heap} {mg : Str → Option Value} {f : Addr} (X : K.In h) (G : h.Ns mainGlobals mg) (hfa : mg ("law" : Str) = some (.ref f)) (c : SaysD fa fn K) (e : ex K = true) :
    ∃ fd : FuncData, (∀ (s : Shared) (v : Value), BindsTo s fd ⟨[v], []⟩ [("_law_script", v)]) ∧ ∀ base : Heap, K.In base → base.Ns mainGlobals mg → FnG P w K mg base 7 f fd ["_law_script"] (spLaw K) := by
  obtain ⟨fd0, D0⟩ := c.def_ 0 (d := dMt "BadName" "__init__" "BadName.__init__" sIniN) rfl
  obtain ⟨fd1, D1⟩ := c.def_ 1 (d := dMt "BadColumns" "__init__" "BadColumns.__init__" sIniC) rfl
  obtain ⟨fd2, D2⟩ := c.def_ 2 (d := dOf "is_whole" sWhole) rfl
  obtain ⟨fd3, D3⟩ := c.def_ 3 (d := dOf "is_name" sName) rfl
  obtain ⟨fd4, D4⟩ := c.def_ 4 (d := dOf "is_column" sCol) rfl
  obtain ⟨fd5, D5⟩ := c.def_ 5 (d := dOf "check_columns" sCc) rfl
  obtain ⟨fd6, D6⟩ := c.def_ 6 (d := dOf "check_name" sCn) rfl
  obtain ⟨fd7, D7⟩ := c.def_ 7 (d := dOf "rows_after" sRa) rfl
  obtain ⟨fd8, D8⟩ := c.def_ 8 (d := dMt "Register" "__init__" "Register.__init__" sRI) rfl
  obtain ⟨fd9, D9⟩ := c.def_ 9 (d := dMt "Register" "name" "Register.name" sRN) rfl
  obtain ⟨fd10, D10⟩ := c.def_ 10 (d := dMt "Register" "columns" "Register.columns" sRC) rfl
  obtain ⟨fd11, D11⟩ := c.def_ 11 (d := dMt "Register" "version" "Register.version" sRV) rfl
  obtain ⟨fd12, D12⟩ := c.def_ 12 (d := dMd "Register" "rows" "Register.rows" sRR [.non]) rfl
  obtain ⟨fd13, D13⟩ := c.def_ 13 (d := dMt "Register" "entries" "Register.entries" sRE) rfl
  obtain ⟨fd14, D14⟩ := c.def_ 14 (d := dMt "Register" "__len__" "Register.__len__" sRL) rfl
  obtain ⟨fd15, D15⟩ := c.def_ 15 (d := dOf "_law_tape" sTape) rfl
  obtain ⟨fd16, D16⟩ := c.def_ 16 (d := dOf "_law_draw" sDraw) rfl
  obtain ⟨fd17, D17⟩ := c.def_ 17 (d := dOf "_law_name" sLnm) rfl
  obtain ⟨fd18, D18⟩ := c.def_ 18 (d := dOf "_law_fresh" sFr) rfl
  obtain ⟨fd19, D19⟩ := c.def_ 19 (d := dOf "_law_columns" sCls) rfl
  obtain ⟨fd20, D20⟩ := c.def_ 20 (d := dOf "_law_is_name" sLis) rfl
  obtain ⟨fd21, D21⟩ := c.def_ 21 (d := dOf "_law_odd" sOdd) rfl
  obtain ⟨fd22, D22⟩ := c.def_ 22 (d := dOf "_law_spoilt" sSp) rfl
  obtain ⟨fd23, D23⟩ := c.def_ 23 (d := dOf "_law_rows_of" sRo) rfl
  obtain ⟨fd24, D24⟩ := c.def_ 24 (d := dOf "_law_due" sDue) rfl
  obtain ⟨fd25, D25⟩ := c.def_ 25 (d := dOf "_law_checked" sChk) rfl
  obtain ⟨fd26, D26⟩ := c.def_ 26 (d := dOf "_law_made" sMade) rfl
  obtain ⟨fd27, D27⟩ := c.def_ 27 (d := dOf "law" sLaw) rfl
  have ef := hfa.symm.trans (glo_ok X G (c.fact 0 (f := .glo "law") rfl))
  cases ef
  have g : ∀ (i : Nat) (x : Str), fa[i]? = some (.glo x) → mg x = some (.ref (ga K x)) := fun i x z => glo_ok X G (c.fact i (f := .glo x) z)
  have z : ∀ (i : Nat) (x : Str), fa[i]? = some (.free x) → mg x = none := fun i x z => free_ok X G (c.fact i (f := .free x) z)
  have T : Bt mg := ⟨z 23 _ rfl, z 24 _ rfl, z 25 _ rfl, z 26 _ rfl, z 27 _ rfl, z 28 _ rfl, z 29 _ rfl, z 30 _ rfl, z 31 _ rfl, z 32 _ rfl, z 33 _ rfl, z 34 _ rfl, z 35 _ rfl, z 36 _ rfl, z 37 _ rfl, z 38 _ rfl, z 39 _ rfl, z 40 _ rfl⟩
  obtain ⟨uc0, mc0⟩ := str_ok X G (c.fact 41 (f := .str "LETTERS" letters) rfl)
  obtain ⟨uc1, mc1⟩ := str_ok X G (c.fact 42 (f := .str "NAME_SIGNS" signs) rfl)
  obtain ⟨uc2, mc2⟩ := int_ok X G (c.fact 43 (f := .int "LONGEST_NAME" 12) rfl)
  obtain ⟨uc3, mc3⟩ := int_ok X G (c.fact 44 (f := .int "MOST_COLUMNS" 8) rfl)
  have a : ∀ (i : Nat) {b : Bool}, (exL K)[i]? = some b → b = true := fun i _ z => all_at e i z
  have b0 : Binds K fd0 ["self", "given"] [] := D0.bindsN fun _ _ _ _ _ _ us hl => match us, hl with | [_, _], _ => rfl
  have b1 : Binds K fd1 ["self", "index"] [] := D1.bindsN fun _ _ _ _ _ _ us hl => match us, hl with | [_, _], _ => rfl
  have b2 : Binds K fd2 ["value"] [] := D2.bindsN fun _ _ _ _ _ _ us hl => match us, hl with | [_], _ => rfl
  have b3 : Binds K fd3 ["value"] [] := D3.bindsN fun _ _ _ _ _ _ us hl => match us, hl with | [_], _ => rfl
  have b4 : Binds K fd4 ["value"] [] := D4.bindsN fun _ _ _ _ _ _ us hl => match us, hl with | [_], _ => rfl
  have b5 : Binds K fd5 ["columns"] [] := D5.bindsN fun _ _ _ _ _ _ us hl => match us, hl with | [_], _ => rfl
  have b6 : Binds K fd6 ["value"] [] := D6.bindsN fun _ _ _ _ _ _ us hl => match us, hl with | [_], _ => rfl
  have b7 : Binds K fd7 ["entries"] [] := D7.bindsN fun _ _ _ _ _ _ us hl => match us, hl with | [_], _ => rfl
  have b8 : Binds K fd8 ["self", "name", "columns"] [] := D8.bindsN fun _ _ _ _ _ _ us hl => match us, hl with | [_, _, _], _ => rfl
  have b9 : Binds K fd9 ["self"] [] := D9.bindsN fun _ _ _ _ _ _ us hl => match us, hl with | [_], _ => rfl
  have b10 : Binds K fd10 ["self"] [] := D10.bindsN fun _ _ _ _ _ _ us hl => match us, hl with | [_], _ => rfl
  have b11 : Binds K fd11 ["self"] [] := D11.bindsN fun _ _ _ _ _ _ us hl => match us, hl with | [_], _ => rfl
  obtain ⟨da12, va12, b12⟩ := FunD.binds1 (ps := ["self", "version"]) D12 2 1 (List.cons_ne_nil _ _) rfl (fun T kV doc pm an cdv ct us its hu hi => match us, its, hu, hi with | [_, _], [_], _, _ => ⟨_, rfl, rfl⟩)
  obtain rfl : da12 = [] := by cases va12; rfl
  obtain ⟨ds12, v12, bd12⟩ := FunD.binds1 (ps := ["self", "version"]) D12 1 0 (List.cons_ne_nil _ _) rfl (fun T kV doc pm an cdv ct us its hu hi => match us, its, hu, hi with | [_], [_], _, _ => ⟨_, rfl, rfl⟩)
  have b13 : Binds K fd13 ["self"] [] := D13.bindsN fun _ _ _ _ _ _ us hl => match us, hl with | [_], _ => rfl
  have b14 : Binds K fd14 ["self"] [] := D14.bindsN fun _ _ _ _ _ _ us hl => match us, hl with | [_], _ => rfl
  have b15 : Binds K fd15 ["_law_script"] [] := D15.bindsN fun _ _ _ _ _ _ us hl => match us, hl with | [_], _ => rfl
  have b16 : Binds K fd16 ["_law_tape_here", "_law_many"] [] := D16.bindsN fun _ _ _ _ _ _ us hl => match us, hl with | [_, _], _ => rfl
  have b17 : Binds K fd17 ["_law_tape_here"] [] := D17.bindsN fun _ _ _ _ _ _ us hl => match us, hl with | [_], _ => rfl
  have b18 : Binds K fd18 ["_law_tape_here", "_law_taken"] [] := D18.bindsN fun _ _ _ _ _ _ us hl => match us, hl with | [_, _], _ => rfl
  have b19 : Binds K fd19 ["_law_tape_here", "_law_lead", "_law_many", "_law_taken"] [] := D19.bindsN fun _ _ _ _ _ _ us hl => match us, hl with | [_, _, _, _], _ => rfl
  have b20 : Binds K fd20 ["_law_value"] [] := D20.bindsN fun _ _ _ _ _ _ us hl => match us, hl with | [_], _ => rfl
  have b21 : Binds K fd21 ["_law_tape_here"] [] := D21.bindsN fun _ _ _ _ _ _ us hl => match us, hl with | [_], _ => rfl
  have b22 : Binds K fd22 ["_law_tape_here", "_law_columns_here"] [] := D22.bindsN fun _ _ _ _ _ _ us hl => match us, hl with | [_, _], _ => rfl
  have b23 : Binds K fd23 ["_law_tape_here"] [] := D23.bindsN fun _ _ _ _ _ _ us hl => match us, hl with | [_], _ => rfl
  have b24 : Binds K fd24 ["_law_columns_here"] [] := D24.bindsN fun _ _ _ _ _ _ us hl => match us, hl with | [_], _ => rfl
  have b25 : Binds K fd25 ["_law_columns_here"] [] := D25.bindsN fun _ _ _ _ _ _ us hl => match us, hl with | [_], _ => rfl
  have b26 : Binds K fd26 ["_law_name_here", "_law_columns_here"] [] := D26.bindsN fun _ _ _ _ _ _ us hl => match us, hl with | [_, _], _ => rfl
  have bl := FunD.bindsA (ps := ["_law_script"]) D27 fun _ _ _ _ _ _ us hl => match us, hl with | [_], _ => rfl
  refine ⟨fd27, fun s v => bl s [v] rfl, fun base _ _ => ?_⟩
  have m_BadName : mg "BadName" = some (.ref (ga K "BadName")) := g 1 _ rfl
  have m_BadColumns : mg "BadColumns" = some (.ref (ga K "BadColumns")) := g 2 _ rfl
  have m_Register : mg "Register" = some (.ref (ga K "Register")) := g 3 _ rfl
  have m_KINDS : mg "KINDS" = some (.ref (ga K "KINDS")) := g 4 _ rfl
  have m_is_whole : mg "is_whole" = some (.ref (ga K "is_whole")) := g 5 _ rfl
  have m_is_name : mg "is_name" = some (.ref (ga K "is_name")) := g 6 _ rfl
  have m_is_column : mg "is_column" = some (.ref (ga K "is_column")) := g 7 _ rfl
  have m_check_columns : mg "check_columns" = some (.ref (ga K "check_columns")) := g 8 _ rfl
  have m_check_name : mg "check_name" = some (.ref (ga K "check_name")) := g 9 _ rfl
  have m_rows_after : mg "rows_after" = some (.ref (ga K "rows_after")) := g 10 _ rfl
  have m__law_tape : mg "_law_tape" = some (.ref (ga K "_law_tape")) := g 11 _ rfl
  have m__law_draw : mg "_law_draw" = some (.ref (ga K "_law_draw")) := g 12 _ rfl
  have m__law_name : mg "_law_name" = some (.ref (ga K "_law_name")) := g 13 _ rfl
  have m__law_fresh : mg "_law_fresh" = some (.ref (ga K "_law_fresh")) := g 14 _ rfl
  have m__law_columns : mg "_law_columns" = some (.ref (ga K "_law_columns")) := g 15 _ rfl
  have m__law_is_name : mg "_law_is_name" = some (.ref (ga K "_law_is_name")) := g 16 _ rfl
  have m__law_odd : mg "_law_odd" = some (.ref (ga K "_law_odd")) := g 17 _ rfl
  have m__law_spoilt : mg "_law_spoilt" = some (.ref (ga K "_law_spoilt")) := g 18 _ rfl
  have m__law_rows_of : mg "_law_rows_of" = some (.ref (ga K "_law_rows_of")) := g 19 _ rfl
  have m__law_due : mg "_law_due" = some (.ref (ga K "_law_due")) := g 20 _ rfl
  have m__law_checked : mg "_law_checked" = some (.ref (ga K "_law_checked")) := g 21 _ rfl
  have m__law_made : mg "_law_made" = some (.ref (ga K "_law_made")) := g 22 _ rfl
  have RN : ErF K mg "BadName" "given" (ga K "BadName") _ := ⟨oexB_ok (a 0 rfl), eqO_ok (a 1 rfl), of_decide_eq_true (a 2 rfl), eqO_ok (a 3 rfl), m_BadName⟩
  have RC : ErF K mg "BadColumns" "index" (ga K "BadColumns") _ := ⟨oexB_ok (a 10 rfl), eqO_ok (a 11 rfl), of_decide_eq_true (a 12 rfl), eqO_ok (a 13 rfl), m_BadColumns⟩
  have XN : ExB K (ga K "BadName") (ga K "BadColumns") := ⟨xfB_ok (a 4 rfl), xisB_ok (a 5 rfl), of_decide_eq_true (a 6 rfl), of_decide_eq_true (a 7 rfl), of_decide_eq_true (a 8 rfl), of_decide_eq_true (a 9 rfl)⟩
  have XC : ExB K (ga K "BadColumns") (ga K "BadName") := ⟨xfB_ok (a 14 rfl), xisB_ok (a 15 rfl), of_decide_eq_true (a 16 rfl), of_decide_eq_true (a 17 rfl), of_decide_eq_true (a 18 rfl), of_decide_eq_true (a 19 rfl)⟩
  have Rg : RgF K mg (ga K "Register") _ := ⟨mkr_ok (a 20 rfl), cls_ok (a 21 rfl), noat_ok (a 22 rfl), noat_ok (a 23 rfl), noat_ok (a 24 rfl), m_Register⟩
  have Le : LenC K (ga K "Register") _ := ⟨eqO_ok (a 30 rfl), a 31 rfl⟩
  have G0 : FnOk P w K mg base CX0 1 _ fd0 ["self", "given"] (spIni (ga K "BadName") "given") := ok_iniN (fun_of D0) RN
  have G1 : FnOk P w K mg base CX0 1 _ fd1 ["self", "index"] (spIni (ga K "BadColumns") "index") := ok_iniC (fun_of D1) RC
  have G2 : FnOk P w K mg base CX0 1 _ fd2 ["value"] spWhole := ok_whole (fun_of D2) T
  have G3 : FnOk P w K mg base CX0 1 _ fd3 ["value"] spName := ok_name (fun_of D3) T mc0 mc1 mc2
  have G4 : FnOk P w K mg base CX0 2 _ fd4 ["value"] spCol := ok_col (fun_of D4) T G3 m_is_name D3.kp b3 m_KINDS (fun H => tupB_ok (a 32 rfl) H)
  have G5 : FnOk P w K mg base (L2.CX P w) 3 _ fd5 ["columns"] (spCc (ga K "BadColumns")) := ok_cc (fun_of D5) T RC mc3 G1 b1 G4 m_is_column D4.kp b4
  have G6 : FnOk P w K mg base (L2.CX P w) 3 _ fd6 ["value"] (spCn (ga K "BadName")) := ok_cn (fun_of D6) RN G0 b0 G3 m_is_name D3.kp b3
  have G7 : FnOk P w K mg base CX0 1 _ fd7 ["entries"] spRa := ok_ra (fun_of D7)
  have G8 : FnOk P w K mg base (L2.CX P w) 4 _ fd8 ["self", "name", "columns"] (spRI (ga K "Register") (ga K "BadName") (ga K "BadColumns")) := ok_ri (fun_of D8) Rg G6 m_check_name D6.kp b6 G5 m_check_columns D5.kp b5
  have G9 : FnOk P w K mg base CX0 1 _ fd9 ["self"] (spGet (ga K "Register") fun n _ => n) := ok_rn (fun_of D9) Rg
  have G10 : FnOk P w K mg base CX0 1 _ fd10 ["self"] (spGet (ga K "Register") fun _ c => c) := ok_rc (fun_of D10) Rg
  have G11 : FnOk P w K mg base CX0 1 _ fd11 ["self"] (spGet (ga K "Register") fun _ _ => .int 0) := ok_rv (fun_of D11) T Rg
  have G12 : FnOk P w K mg base CX0 2 _ fd12 ["self", "version"] (spRows (ga K "Register")) := ok_rr D12 T Rg G2 m_is_whole D2.kp b2 G7 m_rows_after D7.kp b7
  have G13 : FnOk P w K mg base CX0 1 _ fd13 ["self"] (spNew (ga K "Register")) := ok_re (fun_of D13) T Rg
  have G14 := ok_rl (P := P) (w := w) (base := base) (fun_of D14) T Rg (meth_ok (a 28 rfl)) G12 bd12 v12
  have G15 : FnOk P w K mg base CX0 1 _ fd15 ["_law_script"] (spTape K) := ok_tape (fun_of D15) T
  have G16 : FnOk P w K mg base CX0 1 _ fd16 ["_law_tape_here", "_law_many"] spDrawL := ok_draw (fun_of D16) T
  have G17 : FnOk P w K mg base CX0 2 _ fd17 ["_law_tape_here"] spLNm := ok_lnm (fun_of D17) T G16 m__law_draw D16.kp b16
  have G18 : FnOk P w K mg base CX0 3 _ fd18 ["_law_tape_here", "_law_taken"] spFr := ok_fr (fun_of D18) G17 m__law_name D17.kp b17
  have G19 : FnOk P w K mg base CX0 4 _ fd19 ["_law_tape_here", "_law_lead", "_law_many", "_law_taken"] spCls := ok_cls (fun_of D19) T G16 m__law_draw D16.kp b16 G18 m__law_fresh D18.kp b18
  have G20 : FnOk P w K mg base CX0 1 _ fd20 ["_law_value"] spName := ok_lis (fun_of D20) T
  have G21 : FnOk P w K mg base CX0 2 _ fd21 ["_law_tape_here"] spOdd := ok_odd (fun_of D21) G16 m__law_draw D16.kp b16
  have G22 : FnOk P w K mg base CX0 3 _ fd22 ["_law_tape_here", "_law_columns_here"] spSp := ok_sp (fun_of D22) T G16 m__law_draw D16.kp b16 G21 m__law_odd D21.kp b21
  have G23 : FnOk P w K mg base CX0 5 _ fd23 ["_law_tape_here"] spRo := ok_ro (fun_of D23) T G16 m__law_draw D16.kp b16 G18 m__law_fresh D18.kp b18 G19 m__law_columns D19.kp b19 G22 m__law_spoilt D22.kp b22
  have G24 : FnOk P w K mg base CX0 2 _ fd24 ["_law_columns_here"] spDue := ok_due (fun_of D24) T G20 m__law_is_name D20.kp b20
  have G25 : FnOk P w K mg base CX0 4 _ fd25 ["_law_columns_here"] spChk := ok_chk (fun_of D25) T RC XC m_BadName G5 m_check_columns D5.kp b5
  have G26 : FnG P w K mg base 6 _ fd26 ["_law_name_here", "_law_columns_here"] spMade := ok_made (fun_of D26) T Rg RN RC XN XC G8 b8 (meth_ok (a 25 rfl)) G9 b9 (meth_ok (a 26 rfl)) G10 b10 (meth_ok (a 27 rfl)) G11 b11 (meth_ok (a 28 rfl)) G12 b12 bd12 v12 (meth_ok (a 29 rfl)) G13 b13 Le G14 b14
  exact ok_law (fun_of D27) T G15 m__law_tape D15.kp b15 G16 m__law_draw D16.kp b16 G17 m__law_name D17.kp b17 G21 m__law_odd D21.kp b21 G23 m__law_rows_of D23.kp b23 G24 m__law_due D24.kp b24 G25 m__law_checked D25.kp b25 G26 m__law_made D26.kp b26 G20 m__law_is_name D20.kp b20
end K05
open PySem PySem.W PySem.Calls PyProof.Rows
theorem PySem.Challenge.cw_liveclaims_k05_columns_are_checked_holds : PySem.Challenge.rw_liveclaims_k05_columns_are_checked.Holds := by
  w_on; o_law
  refine HandSHeadRun.head_any (r := OpenLaw.row PySem.Challenge.rw_liveclaims_k05_columns_are_checked) (q := view (OpenLaw.row PySem.Challenge.rw_liveclaims_k05_columns_are_checked).prog [35]) (H := K05.hk) (ob := K05.ob) (M := 4000) (loose := K05.loose) (d := HandSHeadRun.topDef (OpenLaw.row PySem.Challenge.rw_liveclaims_k05_columns_are_checked).prog 35) (kwd := []) K05.ob_eq
    (by kernel_rfl) (fun s => by kernel_rfl) K05.run (by kernel_rfl) (by kernel_rfl) (by kernel_rfl) (by rfl) (by first | assumption | decide +kernel) (by decide +kernel) ⟨rfl, rfl, rfl, rfl, rfl, by decide +kernel⟩ ?hw ?hc
  case hw => w_witness2
  case hc =>
    refine Lc.walk_GE (l := PySem.Challenge.rw_liveclaims_k05_columns_are_checked) (n := 63) (k := 7) (x := "_law_script") rfl (by decide) (by kernel_rfl) ⟨rfl, by decide, by decide⟩ ?F
    intro w mg fa h Y G hmg0
    obtain ⟨K, KX, c, e⟩ := Y
    have hmg : mg ("law" : PySem.Str) = some (.ref fa) := by
      have e : (HandSHeadRun.topDef (OpenLaw.row PySem.Challenge.rw_liveclaims_k05_columns_are_checked).prog 35).name = ("law" : PySem.Str) := by kernel_rfl
      rw [← e]
      exact hmg0
    obtain ⟨fd, hb, hF⟩ := K05.facts (P := (PySem.Challenge.rw_liveclaims_k05_columns_are_checked).prog) (w := w) KX G hmg c e
    exact ⟨K, fd, K05.spLaw K, KX, hb, fun H a ns hl hS => ⟨a, ns, rfl, hS, fun _ => rfl⟩, hF⟩
