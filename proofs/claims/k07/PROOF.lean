import PyProof.Rows.All
import Wide.All
import OpenK.AllK
import Wide.FinOn
import HandS.ForMost
import HandS.ForExc
import HandS.Wide
import HandS.Flow
import HandS.IsInst
import HandS.ExcInit
import HandS.ExcField
import HandS.ExcIs
import HandS.TryMany
import HandS.CallLocal
import HandS.RaiseMore
import HandS.CallSlots
import KE.KExcIs
import PyProof.ReprRoads
import PyProof.ReprText
import HandS.Evl
import HandS.Walk
import HandS.Style
import PyProof.StrBlock2
import PyProof.StrLawsRepr
import PyProof.ReprLen
import KE.GoesEnum
import HandS.Iter
import HandS.TupMul
import HandS.ListItems
import HandS.OwnIter
import HandS.More
import PyProof.InstSpecial
import HandS.Defaults
import PyProof.InstNe
import HandS.DictSub
import HandS.ExcOwn
import KE.KExcInit
import PyProof.ExcBaseAll.IndexError
import PyProof.ExcBaseAll.OverflowError
import HandS.Conv
import HandS.Head0
import HandS.Head1
import HandS.Head2
import HandS.HeadHook1
import HandS.HeadHook2
import KE.KStateDown
import PySem.Challenge.RW_liveclaims_k07_refused_entries_change_no
set_option maxRecDepth 100000
set_option maxHeartbeats 4000000
set_option linter.all false
namespace Lc
/-! ## Greatest common divisors and lowest terms -/
def gd (a b : Int) : Int := (Int.gcd a b : Int)
theorem gd_nonneg (a b : Int) : 0 ≤ gd a b := Int.natCast_nonneg _
theorem gd_pos {a b : Int} (h : b ≠ 0) : 0 < gd a b := by
  have : 0 < Int.gcd a b := Int.gcd_pos_of_ne_zero_right a h
  unfold gd
  omega
theorem gd_zero {a : Int} (h : 0 ≤ a) : gd a 0 = a := by
  unfold gd
  rw [Int.gcd_zero_right]
  omega
theorem gd_step {a b : Int} (ha : 0 ≤ a) (hb : 0 < b) : gd b (a % b) = gd a b := by
  unfold gd Int.gcd
  have e1 : (a % b).natAbs = a.natAbs % b.natAbs := by
    have h0 : 0 ≤ a % b := Int.emod_nonneg a (by omega)
    have : ((a % b).natAbs : Int) = ((a.natAbs % b.natAbs : Nat) : Int) := by
      rw [Int.natCast_emod, Int.natAbs_of_nonneg h0, Int.natAbs_of_nonneg ha, Int.natAbs_of_nonneg (by omega : 0 ≤ b)]
    exact Int.ofNat.inj this
  rw [e1, Nat.gcd_comm b.natAbs, ← Nat.gcd_rec, Nat.gcd_comm]
theorem gd_abs (a b : Int) : gd (if a < 0 then -a else a) b = gd a b := by
  unfold gd
  split
  · rw [Int.neg_gcd]
  · rfl
theorem gd_abs2 (a b : Int) : gd a (if b < 0 then -b else b) = gd a b := by
  unfold gd
  split
  · rw [Int.gcd_neg]
  · rfl
theorem gd_dvd1 (a b : Int) : gd a b ∣ a := Int.gcd_dvd_left a b
theorem gd_dvd2 (a b : Int) : gd a b ∣ b := Int.gcd_dvd_right a b
theorem gd_natAbs_le {a b : Int} (h : b ≠ 0) : (gd a b).natAbs ≤ b.natAbs := by
  have h1 : Int.gcd a b ≤ b.natAbs := Nat.le_of_dvd (by omega) (Int.gcd_dvd_natAbs_right a b)
  unfold gd
  rw [Int.natAbs_natCast]
  exact h1
def lowN (n d : Int) : Int := n / gd n d
def lowD (n d : Int) : Int := d / gd n d
structure Rt (n d : Int) : Prop where
  pos : 0 < d
  cop : gd n d = 1
theorem low_mul {n d : Int} (h : d ≠ 0) : lowN n d * gd n d = n ∧ lowD n d * gd n d = d := ⟨Int.ediv_mul_cancel (gd_dvd1 n d), Int.ediv_mul_cancel (gd_dvd2 n d)⟩
theorem lowD_pos {n d : Int} (h : 0 < d) : 0 < lowD n d := Int.ediv_pos_of_pos_of_dvd h (gd_nonneg n d) (gd_dvd2 n d)
theorem low_rt {n d : Int} (h : 0 < d) : Rt (lowN n d) (lowD n d) := by
  refine ⟨lowD_pos h, ?_⟩
  have hg : 0 < Int.gcd n d := Int.gcd_pos_of_ne_zero_right n (by omega)
  unfold lowN lowD gd
  rw [Int.gcd_ediv_gcd_ediv_gcd hg]
  rfl
theorem dvd_cop {k m n : Int} (h : k ∣ n * m) (g : Int.gcd m k = 1) : k ∣ n := by
  have h1 : k.natAbs ∣ m.natAbs * n.natAbs := by
    rw [← Int.natAbs_mul, Int.mul_comm]
    exact Int.natAbs_dvd_natAbs.mpr h
  have c : Nat.Coprime k.natAbs m.natAbs := by
    show Nat.gcd k.natAbs m.natAbs = 1
    rw [Nat.gcd_comm]
    exact g
  exact Int.natAbs_dvd_natAbs.mp (c.dvd_of_dvd_mul_left h1)
/-- lowest terms are one pair alone -/
theorem rt_unique {a b c d : Int} (h1 : Rt a b) (h2 : Rt c d) (e : a * d = c * b) : a = c ∧ b = d := by
  have g1 : Int.gcd a b = 1 := by have := h1.cop; unfold gd at this; omega
  have g2 : Int.gcd c d = 1 := by have := h2.cop; unfold gd at this; omega
  have db : b ∣ d := by
    have : b ∣ d * a := ⟨c, by rw [Int.mul_comm d a, e, Int.mul_comm]⟩
    exact dvd_cop this g1
  have dd : d ∣ b := by
    have : d ∣ b * c := ⟨a, by rw [Int.mul_comm b c, ← e, Int.mul_comm]⟩
    exact dvd_cop this g2
  have hb := h1.pos
  have hd := h2.pos
  have ebd : b = d := Int.le_antisymm (Int.le_of_dvd hd db) (Int.le_of_dvd hb dd)
  subst ebd
  exact ⟨Int.eq_of_mul_eq_mul_right (by omega) e, rfl⟩
theorem low_is {n d a b : Int} (hd : 0 < d) (h : Rt a b) (e : n * b = a * d) : lowN n d = a ∧ lowD n d = b := by
  have m := low_mul (n := n) (d := d) (by omega)
  have g := gd_pos (a := n) (b := d) (by omega)
  refine rt_unique (low_rt hd) h ?_
  have e2 : (lowN n d * b) * gd n d = (a * lowD n d) * gd n d := by
    rw [Int.mul_right_comm, m.1, Int.mul_assoc, m.2, e]
  exact Int.eq_of_mul_eq_mul_right (by omega) e2
theorem fdiv_neg_dvd {a g : Int} (hg : 0 < g) (h : g ∣ a) : a.fdiv (-g) = (-a) / g := by
  obtain ⟨m, rfl⟩ := h
  have e1 : g * m = (-g) * (-m) := by rw [Int.neg_mul_neg]
  have e2 : -(g * m) = g * (-m) := by rw [Int.mul_neg]
  rw [e2, Int.mul_ediv_cancel_left _ (by omega), e1, Int.mul_fdiv_cancel_left _ (by omega)]
/-- the sums and products of the law -/
theorem sub_add {an ad bn bd p q : Int} (had : 0 < ad) (hbd : 0 < bd) (hq : 0 < q) (h : p * (ad * bd) = (an * bd + bn * ad) * q) : (p * bd - bn * q) * ad = an * (q * bd) := by
  have e1 : (p * bd - bn * q) * ad = p * (ad * bd) - bn * q * ad := by
    rw [Int.sub_mul, Int.mul_assoc p bd ad, Int.mul_comm bd ad]
  have e2 : (an * bd + bn * ad) * q = an * (q * bd) + bn * q * ad := by
    rw [Int.add_mul, Int.mul_assoc an bd q, Int.mul_comm bd q, Int.mul_assoc bn ad q, Int.mul_comm ad q, Int.mul_assoc bn q ad]
  rw [e1, h, e2]
  omega
theorem mul_div {an ad bn bd p q : Int} (h : p * (ad * bn) = (an * bd) * q) (hbn : bn ≠ 0) : (p * bn) * ad = an * (q * bd) := by
  rw [Int.mul_assoc p bn ad, Int.mul_comm bn ad, h, Int.mul_assoc an bd q, Int.mul_comm bd q]
end Lc
namespace Lc
theorem low_le {n d : Int} (h : d ≠ 0) : (lowN n d).natAbs ≤ n.natAbs ∧ (lowD n d).natAbs ≤ d.natAbs := by
  have m := low_mul (n := n) (d := d) h
  have g := gd_pos (a := n) (b := d) h
  have e1 : n.natAbs = (lowN n d).natAbs * (gd n d).natAbs := by rw [← Int.natAbs_mul, m.1]
  have e2 : d.natAbs = (lowD n d).natAbs * (gd n d).natAbs := by rw [← Int.natAbs_mul, m.2]
  have gp : 0 < (gd n d).natAbs := by omega
  exact ⟨by rw [e1]; exact Nat.le_mul_of_pos_right _ gp, by rw [e2]; exact Nat.le_mul_of_pos_right _ gp⟩
theorem rt_one (n : Int) : Rt n 1 := ⟨by decide, by unfold gd; rw [Int.gcd_one]; rfl⟩
theorem rt_inv {d : Int} (h : 0 < d) : Rt 1 d := ⟨h, by unfold gd; rw [Int.one_gcd]; rfl⟩
theorem rt_ninv {d : Int} (h : 0 < d) : Rt (-1) d := ⟨h, by unfold gd; rw [Int.neg_gcd, Int.one_gcd]; rfl⟩
end Lc
set_option Elab.async false
set_option linter.all false
set_option maxRecDepth 100000
set_option maxHeartbeats 4000000
namespace Lc
open PySem PySem.Spec PyProof.Rows L2
/-! ## A try with clauses of both forms, «except X:» and «except X as n:» -/
structure Cl where
  c : Value
  slot : Option Nat
  ts : Addr → Value → Option Addr → TS
def putS : Option Nat → Option V → L2.St → L2.St
  | none, _, σ => σ
  | some i, v, σ => σ.set i v
def endS (q : Option Nat) (D : Ends) : Ends := ⟨fun σ H => D.nx (putS q none σ) H, D.rt, fun σ H => D.bk (putS q none σ) H, fun σ H => D.ct (putS q none σ) H⟩
def wCl (K : PySem.W.Frag) (Wout : WX) (D : Ends) : List Cl → WX
  | [] => Wout
  | q :: r => fun cls d σ H => ∃ b, PySem.W.exmOne K cls q.c = some b ∧ (b = true → ∀ a, H a = none → q.ts a cls d (endS q.slot D) (putS q.slot (some (.ref a)) σ) H) ∧
      (b = false → wCl K Wout D r cls d σ H)
abbrev SuiteOk (X : Cx) (st : List Stmt) (ts : Addr → Value → Option Addr → TS) : Prop :=
  ∀ (a : Addr) (ob : Obj) (cls : Value) (d : Option Addr) (pn : List (Addr × Obj)), Zc cls d ob → (∃ vs, ob.data = .fields vs) → PSs (X.suite a ((a, ob) :: pn)) st (ts a cls d)
inductive ClsOk (X : Cx) : List ExceptHandler → List Cl → Prop
  | nil : ClsOk X [] []
  | bare {x : Str} {q : Cl} {st : Stmt} {sts : List Stmt} {p1 p2 : Pos} {hds : List ExceptHandler} {l : List Cl} (hc : Names X x q.c) (hq : q.slot = none) (su : SuiteOk X (st :: sts) q.ts) (r : ClsOk X hds l) :
      ClsOk X (.ExceptHandler (some (.Name x p1)) none (st :: sts) p2 :: hds) (q :: l)
  | named {x n : Str} {q : Cl} {i : Nat} {st : Stmt} {sts : List Stmt} {p1 p2 : Pos} {hds : List ExceptHandler} {l : List Cl} (hc : Names X x q.c) (hq : q.slot = some i) (hN : X.N.Nodup) (hi : X.N[i]? = some n) (hn : X.env.kindOf n = some .local)
      (su : SuiteOk X (st :: sts) q.ts) (r : ClsOk X hds l) : ClsOk X (.ExceptHandler (some (.Name x p1)) (some n) (st :: sts) p2 :: hds) (q :: l)
section
variable {X : Cx}
theorem clauses_go {Wout : WX} {D : Ends} {pins : List (Addr × Obj)} {σ : L2.St} {H : Hp} {cls : Value} {d : Option Addr} {a : Addr} {B : Heap} {sI s' : Shared} {h3 : Heap}
    (hs : X.stack = X.env :: X.outer) (hf : X.env.frame = some X.env.locals) (tk : Takes X Wout) (J : Inv X pins σ H sI)
    (nb : ∀ b o, sI.heap.get? b = some o → b ∉ frs X.stack → B.get? b = some o) (na : H a = none) (os : s'.os = sI.os) (ag : AllBare s'.gens)
    (up : sI.heap.UpToSlots h3) (fl : HandSPX.FlyingZ B (X.env :: X.outer) a (Zc cls d) h3) :
    ∀ {hds : List ExceptHandler} {l : List Cl}, ClsOk X hds l → wCl X.K Wout D l cls d σ H → wpAny (model X.prog X.w) X.A (handleBy (.ref a) X.env hds) (SP X pins D) X.xe { s' with heap := h3 } := by
  have ok := J.ok
  have land : ∀ {h4 : Heap}, HandSPX.FlyingZ B (X.env :: X.outer) a (Zc cls d) h4 → sI.heap.UpToSlots h4 → Inv X pins σ H { s' with heap := h4 } ∧ ∃ ob vs, Zc cls d ob ∧ ob.data = .fields vs ∧ h4.get? a = some ob ∧
      Inv (X.suite a ((a, ob) :: (X.pn ++ pins))) [] σ H { s' with heap := h4 } := by
    intro h4 f4 u4
    have J4 : Inv X pins σ H { s' with heap := h4 } := J.landed nb f4.1 u4 os ag
    obtain ⟨ob, vs, hob, hz, hd⟩ := f4.there
    have nfr : a ∉ frs (X.env :: X.outer) := fun hm => by
      obtain ⟨_, ox, ex, nf⟩ := f4.2.2.1.mem hm
      rw [hob] at ex
      cases ex
      exact nf _ hd
    have nL : a ≠ X.env.locals := fun z => nfr (List.mem_filterMap.mpr ⟨X.env, List.mem_cons_self, by rw [hf, z]⟩)
    have nF : a ∉ X.fs := fun hm => by
      obtain ⟨en, hen, qq⟩ := List.mem_filterMap.mp hm
      exact nfr (List.mem_filterMap.mpr ⟨en, List.mem_cons_of_mem _ hen, qq⟩)
    exact ⟨J4, ob, vs, hz, hd, hob, J4.suite hob hd na nL nF⟩
  obtain ⟨J3, o3, vs3, hz3, hd3, ho3, S3⟩ := land fl up
  have ty : PySem.W.Looks (model X.prog X.w) h3 (typeOf (.ref a)) cls := fun _ _ _ _ kk qq => wpAny_typeOf_ref (kk _ _ ho3) (by rw [hz3.1]; exact qq)
  have tst : ∀ {x : Str} {c : Value} {p1 : Pos} {Q : Value → Shared → Prop} {E : Value → Shared → Prop}, Names X x c → Q c { s' with heap := h3 } →
      wpAny (model X.prog X.w) (X.A.mark (some (.ref a))) (eval (.Name x p1) X.env) Q E { s' with heap := h3 } := by
    intro x c p1 Q E hc hq
    rcases hc with ⟨hg, hdb, hm | ⟨hm, hv, hne⟩⟩
    · exact ld_glob (X := X.suite a ((a, o3) :: (X.pn ++ pins))) S3 hg hm hq hdb
    · exact ld_blt (X := X.suite a ((a, o3) :: (X.pn ++ pins))) S3 hg hm hv hq hne hdb
  intro hds l hk
  induction hk with
  | nil =>
    intro wi
    refine wpAny_handleBy_nil ?_
    obtain ⟨_, _, _, ox, vx, T, _, _, hox, _, hdx, h1, _⟩ := id fl
    have out : wpAny (model X.prog X.w) X.A (setFlight (.ref a) X.env.frame) (fun _ s4 => wpAny (model X.prog X.w) X.A (throw (.ref a) : Sem Flow) (SP X pins D) X.xe s4) X.xe { s' with heap := h3 } := by
      rw [hf]
      exact HandSPX.setFlight_upZ fl fun h4 f4 u4 => wpAny_throw (tk _ _ ⟨a, B, sI, pins, σ, H, cls, d, rfl, J, nb, up.trans u4, .inr (.inr (by rw [hs]; exact f4)), na, os, ag, wi⟩)
    unfold PySem.passOn
    refine wpAny_bind (wpAny_field hox hdx h1 ?_)
    rw [if_neg (by simp : ¬ ((Value.ref T == Value.none) = true))]
    first
      | exact wpAny_bind out
      | exact wpAny_bind (wpAny_pure (wpAny_bind out))
  | @bare x q st sts p1 p2 hds2 l2 hc hq su r ih =>
    intro wi
    obtain ⟨b, hb, yes, no⟩ := wi
    refine wpAny_handleBy_cons (codeAny_handlers_test (tst hc ((PySem.W.exm_one (M := model X.prog X.w) J3.kIn ty hb).here ?_))) (by intro z; cases z)
    cases b with
    | false => exact ih (no rfl)
    | true =>
      refine codeAny_handlers_suite (HandSPX.lands_againZ fl fun h4 f4 u4 => ?_)
      obtain ⟨J4, o4, vs4, hz4, hd4, ho4, S4⟩ := land f4 (up.trans u4)
      have yy := yes rfl a na
      rw [hq] at yy
      refine wpAny_mono ((su a o4 cls d (X.pn ++ pins) hz4 ⟨_, hd4⟩).run [] _ _ H _ S4 yy) (fun f s6 hsp => ?_) (fun _ _ z => z.elim)
      cases f with
      | ret u =>
        obtain ⟨v6, σ6, H6, S6, r6, q6⟩ := hsp
        exact ⟨v6, σ6, H6, S6.unsuite ok, r6, q6⟩
      | next => obtain ⟨σ6, H6, S6, q6⟩ := hsp; exact ⟨σ6, H6, S6.unsuite ok, q6⟩
      | brk => obtain ⟨σ6, H6, S6, q6⟩ := hsp; exact ⟨σ6, H6, S6.unsuite ok, q6⟩
      | cont => obtain ⟨σ6, H6, S6, q6⟩ := hsp; exact ⟨σ6, H6, S6.unsuite ok, q6⟩
  | @named x n q i st sts p1 p2 hds2 l2 hc hq hN hi hn su r ih =>
    intro wi
    obtain ⟨b, hb, yes, no⟩ := wi
    refine wpAny_handleBy_cons (codeAny_handlers_test (tst hc ((PySem.W.exm_one (M := model X.prog X.w) J3.kIn ty hb).here ?_))) (by intro z; cases z)
    cases b with
    | false => exact ih (no rfl)
    | true =>
      refine codeAny_handlers_suite_as (HandSPX.lands_againZ fl fun h4 f4 u4 => ?_)
      obtain ⟨J4, o4, vs4, hz4, hd4, ho4, S4⟩ := land f4 (up.trans u4)
      have yy := yes rfl a na
      rw [hq] at yy
      refine store_ok (X := X.suite a ((a, o4) :: (X.pn ++ pins))) (v := .ref a) S4 hN hi (.inl hn) rfl (fun s5 S5 => ?_) (.inr hn)
      refine wpAny_mono ((su a o4 cls d (X.pn ++ pins) hz4 ⟨_, hd4⟩).run [] s5 _ H _ S5 yy) (fun f s6 hsp => ?_) (fun _ _ z => z.elim)
      have fin : ∀ {σ6 : L2.St} {H6 : Hp} {Q : Shared → Prop}, Inv (X.suite a ((a, o4) :: (X.pn ++ pins))) [] σ6 H6 s6 → (∀ s7, Inv X pins (σ6.set i none) H6 s7 → Q s7) →
          wpAny (model X.prog X.w) X.A (do bindName X.env n .none; unbindBehindTheSuite X.env n p2) (fun _ s7 => Q s7) X.xe s6 := fun S6 k => gone_ok (S6.unsuite ok) hN hi hn k
      cases f with
      | ret u =>
        obtain ⟨v6, σ6, H6, S6, r6, q6⟩ := hsp
        exact fin S6 fun s7 J7 => ⟨_, _, _, J7, r6, q6⟩
      | next => obtain ⟨σ6, H6, S6, q6⟩ := hsp; exact fin S6 fun s7 J7 => ⟨_, _, J7, q6⟩
      | brk => obtain ⟨σ6, H6, S6, q6⟩ := hsp; exact fin S6 fun s7 J7 => ⟨_, _, J7, q6⟩
      | cont => obtain ⟨σ6, H6, S6, q6⟩ := hsp; exact fin S6 fun s7 J7 => ⟨_, _, J7, q6⟩
theorem ps_tryL {body : List Stmt} {h₀ : ExceptHandler} {hds : List ExceptHandler} {l : List Cl} {pos : Pos} {tb : WX → TS} {Wout : WX} (hs : X.stack = X.env :: X.outer) (hf : X.env.frame = some X.env.locals) (tk : Takes X Wout)
    (hb : ∀ (W : WX) (pn : List (Addr × Obj)) (xe : Value → Shared → Prop), Takes (X.tr pn xe) W → PassesOwn (model X.prog X.w) X.A X.env xe → PSs (X.tr pn xe) body (tb W)) (hh : ClsOk X (h₀ :: hds) l) :
    PS X (.Try body (h₀ :: hds) [] [] pos) (fun D σ H => tb (wCl X.K Wout D l) D σ H) := by
  refine ⟨fun pins s σ H D I h => ?_⟩
  have ok := I.ok
  have fr : X.A.frames = some (X.env :: X.outer) := ok.frames.trans (congrArg some hs)
  refine wpAny_Try_except (wpAny_mono ((hb (wCl X.K Wout D l) (X.pn ++ pins) (fun e s₁ => wpAny (model X.prog X.w) X.A (noteFrame e X.env) (fun _ s₂ => wpAny (model X.prog X.w) X.A (setFlight e none)
    (fun _ s₃ => wpAny (model X.prog X.w) X.A (handleBy e X.env (h₀ :: hds)) (SP X pins D) X.xe s₃) X.xe s₂) X.xe s₁) (fun u s' xx => ?_) PassesOwn.looking).run [] s σ H D (I.toTry _) h) (fun f s1 hsp => ?_) (fun _ _ he => he))
  · obtain ⟨a, B, sI, _, σ1, H1, cls, d, rfl, J', nb, up, sky, na, os, ag, wi⟩ := xx
    rw [hs] at sky
    exact Sky.land Zc.steady fr hf sky fun h3 f3 u3 => clauses_go hs hf tk (J'.ofTry ok) nb na os ag (up.trans u3) f3 hh wi
  · cases f with
    | ret u =>
      obtain ⟨v1, σ1, H1, J1, r1, q1⟩ := hsp
      exact ⟨v1, σ1, H1, J1.ofTry ok, r1, q1⟩
    | next => obtain ⟨σ1, H1, J1, q1⟩ := hsp; exact wpAny_execs_nil ⟨σ1, H1, J1.ofTry ok, q1⟩
    | brk => obtain ⟨σ1, H1, J1, q1⟩ := hsp; exact ⟨σ1, H1, J1.ofTry ok, q1⟩
    | cont => obtain ⟨σ1, H1, J1, q1⟩ := hsp; exact ⟨σ1, H1, J1.ofTry ok, q1⟩
end
/-! ## isinstance of the caught error, whether it has a dict or not -/
structure XisC (K : PySem.W.Frag) (C : Addr) : Prop where
  hc : (PySem.W.clsIn K C).isSome = true
  ga : PySem.W.findIn K (.ref C) "__getattribute__" = some (some (.builtin "BaseException.__getattribute__"))
  gt : PySem.W.findIn K (.ref C) "__getattr__" = some none
  sb : PySem.W.subIn K (.ref C) (.type "BaseException") = some true
  cl : PySem.W.findIn K (.ref C) "__class__" = some (some (.builtin "object.__class__"))
  sp : PySem.W.specialIn K (.builtin "object.__class__") "__get__" = some (some (.builtin "getset_descriptor.__get__"))
  tk : PySem.W.takesIn K (.builtin "object.__class__") = some true
  mo : PySem.W.mroIn K C (.type "object") = some true
def rIsX (K : PySem.W.Frag) (cls : Value) (d : Option Addr) (C a : Addr) : List V → Hp → VK → Prop := fun xs H Q => cls = .ref C ∧ ∃ (c : V) (cv : Value) (b : Bool), xs = [.ref a, c] ∧ ClsV c cv ∧ (∀ dd, d = some dd → ∃ fs, H dd = some (.xd fs)) ∧
  PySem.W.kitOne K (.ref C) cv = some b ∧ Q (.bl b) H
section
variable {X : Cx}
theorem call_isX {a C : Addr} {ob : Obj} {cls : Value} {d : Option Addr} {pn : List (Addr × Obj)} (T : XisC X.K C) (hz : Zc cls d ob) (hf : ∃ vs, ob.data = .fields vs) : CallR (X.suite a ((a, ob) :: pn)) (.builtin "isinstance") (rIsX X.K cls d C a) := by
  intro pins s σ H xs us Q I r h
  obtain ⟨ec, c, cv, b, rfl, hcv, hd, e, q⟩ := h
  obtain ⟨u1, u2, rfl, r1, r2⟩ := vals2 r
  have e2 := hcv.eq r2
  subst e2 ec
  obtain rfl : u1 = Value.ref a := r1
  obtain ⟨vs, hv⟩ := hf
  obtain ⟨hget, _⟩ := I.pin (a, ob) (List.mem_append_left _ List.mem_cons_self)
  have nc : PySem.W.notCls ob = true := by unfold PySem.W.notCls; rw [hv]
  have key : ∃ od, PySem.W.InstAt s.heap a ob C od := by
    cases d with
    | none => exact ⟨none, hget, hz.1, nc, by rw [hz.2]; trivial⟩
    | some dd =>
      obtain ⟨fs, hfs⟩ := hd dd rfl
      obtain ⟨mA, ⟨o, _, _, ho, _⟩, _⟩ := (show ObjOk X.prog X.w H s.heap dd (.xd fs) from I.hok dd _ hfs)
      exact ⟨some o, hget, hz.1, nc, by rw [hz.2]; exact ho⟩
  obtain ⟨od, J⟩ := key
  exact PySem.W.kia_one (PySem.W.kitx_exc T.hc T.ga T.gt T.sb T.cl T.sp T.tk T.mo) I.kIn J e (fun z => nomatch z) fun tk => ⟨.bl b, H, I.kept (t' := tk) fun _ _ z => z, rfl, q⟩
/-! ## f(e, ..), f a local name that holds a def which may raise -/
def tCallLS (i : Nat) (f : Addr) (sp : Sp) (E : L2.St → XK) (t : TA) : TE := fun σ H Q => σ[i]? = some (some (.ref f)) ∧ t σ H fun vs H1 => sp vs H1 Q (E σ)
theorem pe_callLS {CX : CXT} {k i : Nat} {f : Addr} {fd : FuncData} {ps : List Str} {sp : Sp} {E : L2.St → XK} {x : Str} {p pos : Pos} {e : Expr} {es : List Expr} {t : TA}
    (F : FnOk X.prog X.w X.K X.mg X.base CX k f fd ps sp) (hr : Room k X.A) (hN : X.N[i]? = some x) (hv : Vis X.env.scope x) (hk : PySem.W.keepIn X.K (.ref f) = true) (hb : Binds X.K fd ps []) (hx : ∀ σ, PassesAt CX X σ (E σ)) (ha : PA X (e :: es) t)
    (hdb : (x == ("__debug__" : Str)) = false := by decide) (hcd : (x == ("__classdict__" : Str)) = false := by decide)
    (he : starEach (e :: es) X.env = (false, eval e X.env) :: starEach es X.env := by rfl) (hpl : (backTo pos (starEach es X.env)).any (·.1) = false := by rfl) : PE X (.Call (.Name x p) (e :: es) [] pos) (tCallLS i f sp E t) := by
  refine ⟨fun pins s σ H Q I ⟨hs, ht⟩ => wpAny_Call_Name_kw (thn ((pe_var (pos := p) hN hv hdb hcd).run pins s σ H (fun v H1 => v = .ref f ∧ H1 = H) I ⟨.ref f, hs, rfl, rfl⟩) fun u s1 ⟨v, H1, I1, r1, e1, e2⟩ => ?_)⟩
  subst e1 e2
  obtain rfl : u = Value.ref f := r1
  exact PySem.W.callWith_K (h₀ := X.base) I.ok.mod.kin hk (thn (ha.run pos pins s1 σ _ _ I1 ht) fun us s2 ⟨vs, H2, I2, r, q⟩ => ⟨I2.kIn, run_fnS F hr hb (hx σ) I2 r q⟩) he hpl
/-! ## C(), an own error class without an __init__ -/
theorem pmk_own0 {C : Addr} {bmB : List Value} {B newId initId : String} {x : Str} {p pos : Pos} (F : ExcBaseFacts B newId initId bmB) (q : PySem.W.excIn X.K C bmB newId = true) (gC : X.mg x = some (.ref C)) (kC : PySem.W.keepIn X.K (.ref C) = true)
    (r : Raises X (.ref C)) (hg : Gl X x) (hdb : (x == ("__debug__" : Str)) = false := by decide) : PMk X (.Call (.Name x p) [] [] pos) (fun _ H Q => Q (.ref C) none H) := by
  intro pins s σ H Q I h
  refine wpAny_Call_Name_kw (ld_glob I hg gC (PySem.W.callWith_K0 I.kIn kC ?_) hdb)
  obtain ⟨_, _, _, _, _, _, _, _, _, _, _, _, _, _, _, _, _, hC, hN, hni, T⟩ := exc_obj I.kIn q
  exact wpAny_call_exc_subT F T hC hN hni (fun h' e hm => mk_of I hm r h (I.hok.gone hm.new)) (by show 0 ≤ sizeLine; omega)
/-! ## // by any great number but 0 -/
theorem op_fdivZ : OpR X (binaryOp .FloorDiv) (rI (fun _ j => j ≠ 0 ∧ j.natAbs.log2 < 9000) fun i j => .int (i.fdiv j)) := opI fun _ _ _ _ _ _ _ hc q => floordiv_int hc.1 q (.inl (PyProof.noPylong_of_log2 hc.2))
/-! ## repr of data -/
def rReprD (K : PySem.W.Frag) : List V → Hp → VK → Prop := fun xs H Q => ∃ (a : Addr) (d : PyData), xs = [.ref a] ∧ Dp K H (.ref a) d ∧ d.showable = true ∧ d.hasDict = false ∧ d.depth ≤ 60 ∧ d.shown.length ≤ sizeLine ∧ Q (.str d.shown) H
theorem call_reprD (hu : X.A.units + 64 < cLine) (hg : X.A.guards = some []) : CallR X (.builtin "repr") (rReprD X.K) := by
  intro pins s σ H xs us Q I r h
  obtain ⟨a, d, rfl, hd, hs, hn, hde, hl, q⟩ := h
  obtain ⟨u, rfl, ru⟩ := vals1 r
  obtain rfl : u = Value.ref a := ru
  obtain ⟨as, rd⟩ := Dp.reads I d _ _ hd rfl
  exact repr_of_reads' rd hs (fun z => by rw [hn] at z; cases z) hg (by omega) (fun _ _ e => e) (fun h' u tk hk => ⟨.str d.shown, H, I.kept (t' := tk) hk, ⟨u, rfl⟩, q⟩) hl
end
end Lc
set_option Elab.async false
set_option linter.all false
set_option maxRecDepth 100000
set_option maxHeartbeats 4000000
namespace Lc
open PySem PySem.Spec PyProof.Rows L2
/-! ## Promises of defs that are called where no repr is under way -/
structure FnG (P : Program) (w : World) (K : PySem.W.Frag) (mg : Str → Option Value) (base : Heap) (k : Nat) (f : Addr) (fd : FuncData) (ps : List Str) (sp : Sp) : Prop where
  len : ∀ vs H Q E, sp vs H Q E → vs.length = ps.length
  run : ∀ (A : Around) (outer : List Env) (s : Shared) (H : Hp) (args : Args) (us : List Value) (vs : List V) (Q : VK) (E : XK), A.guards = some [] → Room k A → Env0 P w K mg base A outer s H → BindsTo s fd args (ps.zip us) → Vals vs us → sp vs H Q E →
    codeAny (model P w) A (.call (.ref f) args) (CR CX0 outer P w H s Q E) s
section
variable {P : Program} {w : World} {K : PySem.W.Frag} {mg : Str → Option Value} {base : Heap}
theorem Fun.okG {x qual : Str} {st : Stmt} {f : Addr} {fd : FuncData} {N ps : List Str} {k : Nat} {sp : Sp} (F : Fun K x qual st f fd) (S : FnScope N ps (defScope st)) (len : ∀ vs H Q E, sp vs H Q E → vs.length = ps.length)
    (go : ∀ (cdv : Value) (A : Around) (outer : List Env) (s : Shared) (H : Hp) (vs : List V) (Q : VK) (E : XK), A.guards = some [] → Room k (A.deeper (envOfC qual (defScope st) s.heap.objs.size f cdv)) → sp vs H Q E →
      ∃ t, PSs (cxOf CX0 P w K mg base N qual (defScope st) f cdv A outer s H E).nox (defBody st) t ∧ t { nx := fun _ H' => Q .non H', rt := Q } (start N vs) H) : FnG P w K mg base (k + 1) f fd ps sp := by
  obtain ⟨oc, od, kV, doc, pm, an, cdv, ct, osl, rfl, lk, hcd⟩ := F.ex
  refine ⟨len, fun A outer s H args us vs Q E hg hr e0 hb r hsp => ?_⟩
  have up : ∀ b o, base.get? b = some o → s.heap.get? b = some o := fun b o z => (e0.bs b o z).1
  have KX := e0.mod.kin.keeps up
  refine codeAny_call_function hr.depth (KX _ _ lk) rfl S.co S.gen rfl (PySem.W.codeRec_of KX hcd) (hb _ _ _ _ ?_)
  refine wpAny_newFunctionEnv_cells S.kind (fun y hy => ?_) fun env he s1 x => ?_
  · rcases S.par y.1 (List.of_mem_zip (a := y.1) (b := y.2) hy).1 with z | z
    · exact .inl z
    · exact .inr ⟨z, PySem.W.cellsFrom_some _ _ _ (.inl z)⟩
  subst he
  obtain ⟨t, ht, hq⟩ := go cdv A outer s H vs Q E hg (hr.deeper _) hsp
  have I : Inv (cxOf CX0 P w K mg base N qual (defScope st) f cdv A outer s H E) [] (start N vs) H s1 := inv_start S hr.hd e0 (len _ _ _ _ hsp) r x
  refine ⟨(e0.mod.nolimit.keeps up).keeps x.toInCall.keep, codeAny_func (wpAny_mono (ht.nox.run [] s1 (start N vs) H _ I hq) (fun fl s' hs => ?_) fun _ _ z => z)⟩
  cases fl with
  | ret u => obtain ⟨v, _, H', J, rv, q⟩ := hs; exact ⟨v, H', J.os, J.bare, J.base, J.hok, rv, q⟩
  | next => obtain ⟨_, H', J, q⟩ := hs; exact ⟨V.non, H', J.os, J.bare, J.base, J.hok, rfl, q⟩
  | brk => obtain ⟨_, _, _, q⟩ := hs; exact q.elim
  | cont => obtain ⟨_, _, _, q⟩ := hs; exact q.elim
end
section
variable {X : Cx} {k : Nat} {f : Addr} {fd : FuncData} {ps : List Str} {sp : Sp} {x : Str} {p pos : Pos} {e : Expr} {es : List Expr} {t : TA}
/-- f(e, ..), f kept under FnG -/
theorem pe_callG (F : FnG X.prog X.w X.K X.mg X.base k f fd ps sp) (gg : X.A.guards = some []) (hr : Room k X.A) (hg : Gl X x) (hm : X.mg x = some (.ref f)) (hk : PySem.W.keepIn X.K (.ref f) = true) (hb : Binds X.K fd ps [])
    (ha : PA X (e :: es) t) (hdb : (x == ("__debug__" : Str)) = false := by decide) (he : starEach (e :: es) X.env = (false, eval e X.env) :: starEach es X.env := by rfl) (hpl : (backTo pos (starEach es X.env)).any (·.1) = false := by rfl) :
    PE X (.Call (.Name x p) (e :: es) [] pos) (tCall sp [] E0 t) := by
  refine ⟨fun pins s σ H Q I h => wpAny_Call_Name_kw (ld_glob I hg hm ?_ hdb)⟩
  refine PySem.W.callWith_K (h₀ := X.base) I.ok.mod.kin hk (thn (ha.run pos pins s σ H _ I h) fun us s1 ⟨vs, H1, I1, r, q⟩ => ⟨I1.kIn, ?_⟩) he hpl
  replace q : sp vs H1 Q E0 := by
    have z : sp (vs ++ []) H1 Q E0 := q
    rw [List.append_nil] at z
    exact z
  have hl : us.length = ps.length := by rw [← r.length]; exact F.len _ _ _ _ q
  have b := hb s1 us I1.kIn (by rw [List.append_nil]; exact hl)
  rw [List.append_nil] at b
  refine wpAny_call (codeAny_mono (F.run X.A X.stack s1 H1 ⟨us, []⟩ us vs Q E0 gg hr I1.env0 b r q) fun rr s' hq => ?_)
  cases rr with
  | error er => exact False.elim hq
  | ok fl =>
    cases fl with
    | ret u => exact I1.after hq
    | next => exact False.elim hq
    | brk => exact False.elim hq
    | cont => exact False.elim hq
end
/-! ## The law itself -/
section
variable {P : Program} {w : World} {K : PySem.W.Frag} {mg mb : Str → Option Value} {k : Nat} {fa a : Addr} {fd : FuncData} {x : Str} {sp : Sp} {s : Shared} {vs : List Value} {ns : List Int}
theorem env_of {H : Hp} (KX : K.In s.heap) (hns : s.heap.Ns mainGlobals mg) (hb : s.heap.Ns builtinsNs mb) (hbb : ∀ x : Str, x ≠ "__name__" → mb x = bootBuiltins x) (hlim : s.heap.NoLimit) (hg : s.gens = #[])
    (ha : s.heap.get? a = some { cls := .type "list", data := .seq vs.toArray }) (hok : HOk P w H s.heap) (one : ∀ b, b ≠ a → H b = none) (nk : H a = none ∨ K.lookup a = none) :
    K.In (hidT s.heap H) ∧ (hidT s.heap H).Ns mainGlobals mg ∧ Env0 P w K mg (hidT s.heap H) callerA [] s H := by
  have keepN : ∀ {b : Addr} {m : Str → Option Value}, s.heap.Ns b m → (hidT s.heap H).Ns b m := by
    rintro b m ⟨o, es, ep, e, d, r⟩
    have nb : b ≠ a := fun z => by
      rw [z, ha] at e
      cases e
      exact nomatch (show Data.seq vs.toArray _ = Data.dict es ep from d)
    exact ⟨o, es, ep, hidT_get e (one b nb), d, r⟩
  have kin : K.In (hidT s.heap H) := fun b o e => hidT_get (KX b o e) (by
    by_cases z : b = a
    · rcases nk with q | q
      · rw [z]; exact q
      · rw [z, q] at e; cases e
    · exact one b z)
  obtain ⟨mc, l1, l2⟩ := hlim
  exact ⟨kin, keepN hns, rfl, ⟨kin, keepN hns, ⟨mb, keepN hb, hbb⟩, ⟨mc, keepN l1, l2⟩⟩, fun b o e => of_hidT e, Nat.le_of_eq (hidT_size _ _), trivial, fun b z => absurd (show b ∈ ([] : List Addr) from z) (by simp), hok, .of_eq hg⟩
theorem law_callG (KX : K.In s.heap) (hns : s.heap.Ns mainGlobals mg) (hb : s.heap.Ns builtinsNs mb) (hbb : ∀ x : Str, x ≠ "__name__" → mb x = bootBuiltins x) (hlim : s.heap.NoLimit) (hg : s.gens = #[])
    (ha : s.heap.get? a = some { cls := .type "list", data := .seq vs.toArray }) (hi : IntsAre vs ns) (hl : ns.length ≤ sizeLine) (hr : Room k callerA)
    (F : ∀ base : Heap, K.In base → base.Ns mainGlobals mg → FnG P w K mg base k fa fd [x] sp) (hbind : ∀ (s : Shared) (u : Value), BindsTo s fd ⟨[u], []⟩ [(x, u)])
    (hsp : ∀ H : Hp, SqL K H a (ns.map V.int) → sp [.ref a] H (fun v _ => v = .bl true) fun _ _ _ => False) :
    codeAny (model P w) callerA (.call (.ref fa) ⟨[.ref a], []⟩) (fun r s' => r = .ok (.ret (.bool true)) ∧ OldK s.heap s'.heap ∧ s'.os = s.os ∧ AllBare s'.gens) s := by
  have rv := vals_ints hi
  have go : ∀ H : Hp, SqL K H a (ns.map V.int) → HOk P w H s.heap → (∀ b, b ≠ a → H b = none) → (H a = none ∨ K.lookup a = none) → (∀ o, H a = some o → ∃ ob u, o = .frz ob u) →
      codeAny (model P w) callerA (.call (.ref fa) ⟨[.ref a], []⟩) (fun r s' => r = .ok (.ret (.bool true)) ∧ OldK s.heap s'.heap ∧ s'.os = s.os ∧ AllBare s'.gens) s := by
    intro H hS hok one nk fz
    obtain ⟨k1, k2, e0⟩ := env_of KX hns hb hbb hlim hg ha hok one nk
    refine codeAny_mono ((F _ k1 k2).run callerA [] s H ⟨[.ref a], []⟩ [.ref a] [.ref a] _ _ rfl hr e0 (hbind s (.ref a)) (.cons rfl .nil) (hsp H hS)) fun r s' h => ?_
    cases r with
    | error _ => exact False.elim h
    | ok fl =>
      cases fl with
      | next => exact False.elim h
      | brk => exact False.elim h
      | cont => exact False.elim h
      | ret u =>
        obtain ⟨v, H', os, bare, un, hok', ru, ev⟩ := h
        subst ev
        obtain rfl : u = Value.bool true := ru
        refine ⟨rfl, OldK.of_keep fun b o e => ?_, os, bare⟩
        cases q : H b with
        | none => exact un.keep b o e q (fun z => absurd (show b ∈ ([] : List Addr) from z) (by simp)) (by simp)
        | some oo =>
          have zb : b = a := Classical.byContradiction fun z => by rw [one b z] at q; cases q
          subst zb
          obtain ⟨ob, u, rfl⟩ := fz oo q
          obtain ⟨e1, _⟩ := hok b _ q
          obtain ⟨e2, _⟩ := hok' b _ (un.frzs b ob u q)
          rw [e] at e1
          cases e1
          exact e2
  cases hk : K.lookup a with
  | some o =>
    have e := KX a o hk
    rw [ha] at e
    cases e
    exact go (fun _ => none) (.inr ⟨_, vs.toArray, _, hk, rfl, rfl, rfl, by rw [List.size_toArray, hi.length]; exact hl, by simpa using rv⟩) (fun b u z => nomatch z) (fun _ _ => rfl) (.inl rfl) (fun o z => nomatch z)
  | none =>
    let ob : Obj := { cls := .type "list", data := .seq vs.toArray }
    refine go (upd (fun _ => none) a (.frz ob (.lst (ns.map V.int)))) (.inl (.inr ⟨ob, upd_same⟩)) (fun b u z => ?_) (fun b z => upd_ne z) (.inr hk) (fun o z => ?_)
    · by_cases q : b = a
      · subst q
        rw [upd_same] at z
        cases z
        exact ⟨ha, by rw [List.length_map]; exact hl, vs, _, rv, ha⟩
      · rw [upd_ne q] at z
        cases z
    · rw [upd_same] at z
      cases z
      exact ⟨_, _, rfl⟩
end
theorem walk_G {l : PySem.W.OpenLaw} {n k : Nat} {q : Program} {loose : List Str} {XP : (Str → Option Value) → Heap → Prop} {YP : World → Heap → Prop} {d : DefRec} {K : Params → PySem.W.Frag} {sp : PySem.W.Frag → Sp} {x : Str}
    (hn : l.most = some n) (hn2 : n ≤ sizeLine) (hdf : d.params.defaults = []) (hr : Room k callerA) (hY : ∀ (w : World) (h : Heap), YP w h → (K w.params).In h)
    (F : ∀ (w : World) (mg : Str → Option Value) (fa : Addr) (h : Heap), (K w.params).In h → h.Ns mainGlobals mg → mg d.name = some (.ref fa) →
      ∃ fd : FuncData, (∀ (s : Shared) (u : Value), BindsTo s fd ⟨[u], []⟩ [(x, u)]) ∧ ∀ base : Heap, (K w.params).In base → base.Ns mainGlobals mg → FnG l.prog w (K w.params) mg base k fa fd [x] (sp (K w.params)))
    (hsp : ∀ (K : PySem.W.Frag) (H : Hp) (a : Addr) (ns : List Int), ns.length ≤ n → SqL K H a (ns.map V.int) → sp K [.ref a] H (fun v _ => v = .bl true) fun _ _ _ => False) :
    PySem.W.WalkO q loose XP YP l.row.toRowW d [] (fun f vs => PySem.call f vs) := by
  refine Att.attach_call hn hdf fun w _ s mg mb fa _ _ _ _ a vs ns G Y _ _ _ hmg hobj hints hlen hg => ?_
  obtain ⟨fd, hb, hF⟩ := F w mg fa _ (hY w _ Y) G.T.g hmg
  exact law_callG (hY w _ Y) G.T.g G.T.b G.T.builtins G.T.nolimit hg hobj hints (Nat.le_trans hlen hn2) hr hF hb fun H hS => hsp _ H a ns hlen hS
end Lc
set_option Elab.async false
set_option linter.all false
set_option maxRecDepth 100000
set_option maxHeartbeats 4000000
namespace Lc
open PySem PySem.Spec PyProof.Rows L2
/-! ## Kinds of values -/
inductive TyN (H : Hp) : V → String → Prop
  | non : TyN H .non "NoneType"
  | bl (b : Bool) : TyN H (.bl b) "bool"
  | int (i : Int) : TyN H (.int i) "int"
  | str (x : Str) : TyN H (.str x) "str"
  | tup {a : Addr} {xs : List V} (e : H a = some (.tup xs)) : TyN H (.ref a) "tuple"
  | lst {a : Addr} {xs : List V} (e : H a = some (.lst xs)) : TyN H (.ref a) "list"
  | dct {a : Addr} {kvs : List (Key × V)} (e : H a = some (.dK kvs)) : TyN H (.ref a) "dict"
theorem TyN.x {K : PySem.W.Frag} {H : Hp} {v : V} {t : String} (h : TyN H v t) : TyX K H v (.type t) := by
  cases h with
  | non => exact .base .non
  | bl b => exact .base (.bl b)
  | int i => exact .base (.int i)
  | str x => exact .base (.str x)
  | tup e => exact .base (.tup e)
  | lst e => exact .base (.lst e)
  | dct e => exact .base (.dK e)
theorem TyN.same {H H' : Hp} {v : V} {t : String} (h : TyN H v t) (s : Same H H') : TyN H' v t := by
  cases h with
  | non => exact .non
  | bl b => exact .bl b
  | int i => exact .int i
  | str x => exact .str x
  | tup e => exact .tup (s _ _ e)
  | lst e => exact .lst (s _ _ e)
  | dct e => exact .dct (s _ _ e)
theorem TyN.isInt {H : Hp} {v : V} {t : String} (h : TyN H v t) (e : t = "int") : ∃ i, v = .int i := by
  cases h <;> first | exact ⟨_, rfl⟩ | exact absurd e (by decide)
theorem TyN.isStr {H : Hp} {v : V} {t : String} (h : TyN H v t) (e : t = "str") : ∃ x, v = .str x := by
  cases h <;> first | exact ⟨_, rfl⟩ | exact absurd e (by decide)
theorem TyN.isTup {H : Hp} {v : V} {t : String} (h : TyN H v t) (e : t = "tuple") : ∃ a xs, v = .ref a ∧ H a = some (.tup xs) := by
  cases h <;> first | exact ⟨_, _, rfl, by assumption⟩ | exact absurd e (by decide)
def tyNames : List String := ["NoneType", "bool", "int", "str", "tuple", "list", "dict"]
theorem TyN.mem {H : Hp} {v : V} {t : String} (h : TyN H v t) : t ∈ tyNames := by
  cases h <;> simp [tyNames]
theorem kit_int {K : PySem.W.Frag} {t : String} (h : t ∈ tyNames) : PySem.W.kitOne K (.type t) (.type "int") = some (t == "int" || t == "bool") := by
  have : ∀ t ∈ tyNames, kitB t "int" = some (t == "int" || t == "bool") := by decide +kernel
  exact kit_ty (this t h)
theorem kit_bool {K : PySem.W.Frag} {t : String} (h : t ∈ tyNames) : PySem.W.kitOne K (.type t) (.type "bool") = some (t == "bool") := by
  have : ∀ t ∈ tyNames, kitB t "bool" = some (t == "bool") := by decide +kernel
  exact kit_ty (this t h)
theorem kit_tuple {K : PySem.W.Frag} {t : String} (h : t ∈ tyNames) : PySem.W.kitOne K (.type t) (.type "tuple") = some (t == "tuple") := by
  have : ∀ t ∈ tyNames, kitB t "tuple" = some (t == "tuple") := by decide +kernel
  exact kit_ty (this t h)
theorem kit_str {K : PySem.W.Frag} {t : String} (h : t ∈ tyNames) : PySem.W.kitOne K (.type t) (.type "str") = some (t == "str") := by
  have : ∀ t ∈ tyNames, kitB t "str" = some (t == "str") := by decide +kernel
  exact kit_ty (this t h)
/-! ## What is a rational -/
def ratB : V → V → Bool
  | .int n, .int d => decide (0 < d) && decide (gd n d = 1)
  | _, _ => false
inductive Rk (H : Hp) : V → Bool → Prop
  | other {v : V} {t : String} (h : TyN H v t) (n : t ≠ "tuple") : Rk H v false
  | len {a : Addr} {xs : List V} (e : H a = some (.tup xs)) (n : xs.length ≠ 2) : Rk H (.ref a) false
  | pair {a : Addr} {x y : V} {tx ty : String} (e : H a = some (.tup [x, y])) (hx : TyN H x tx) (hy : TyN H y ty) : Rk H (.ref a) (ratB x y)
theorem Rk.same {H H' : Hp} {v : V} {b : Bool} (h : Rk H v b) (s : Same H H') : Rk H' v b := by
  cases h with
  | other h n => exact .other (h.same s) n
  | len e n => exact .len (s _ _ e) n
  | pair e hx hy => exact .pair (s _ _ e) (hx.same s) (hy.same s)
theorem Rk.of {H : Hp} {a : Addr} {n d : Int} (e : H a = some (.tup [.int n, .int d])) (r : Rt n d) : Rk H (.ref a) true := by
  have z : ratB (.int n) (.int d) = true := by
    show (decide (0 < d) && decide (gd n d = 1)) = true
    rw [decide_eq_true r.pos, decide_eq_true r.cop]
    rfl
  rw [← z]
  exact .pair e (.int n) (.int d)
/-! ## repr -/
inductive Shw (K : PySem.W.Frag) (H : Hp) : V → Str → Prop
  | data {v : V} {d : PyData} (h : Dp K H v d) (h1 : d.showable = true) (h2 : d.hasDict = false) (h3 : d.depth ≤ 60) (h4 : d.shown.length ≤ sizeLine) : Shw K H v d.shown
  | empty {a : Addr} (e : H a = some (.dK [])) : Shw K H (.ref a) (PyData.dict []).shown
def rReprV (K : PySem.W.Frag) : List V → Hp → VK → Prop := fun xs H Q => ∃ (v : V) (z : Str), xs = [v] ∧ Shw K H v z ∧ Q (.str z) H
theorem call_reprV {X : Cx} (hg : X.A.guards = some []) (hu : X.A.units + 64 < cLine) : CallR X (.builtin "repr") (rReprV X.K) := by
  intro pins s σ H xs us Q I r h
  obtain ⟨v, z, rfl, hd, q⟩ := h
  obtain ⟨u, rfl, ru⟩ := vals1 r
  cases hd with
  | @data _ d hd h1 h2 h3 h4 =>
    obtain ⟨as, rd⟩ := Dp.reads I d _ _ hd ru
    cases hd with
    | non =>
      obtain rfl : u = Value.none := ru
      exact P.repr_of_none ⟨.str _, H, I.tok _, ⟨_, rfl⟩, q⟩
    | bl b =>
      obtain rfl : u = Value.bool b := ru
      exact P.repr_of_bool ⟨.str _, H, I.tok _, ⟨_, rfl⟩, q⟩
    | int i =>
      obtain ⟨t, rfl⟩ := (show ∃ t, u = Value.int i t from ru)
      exact P.repr_of_int (of_decide_eq_true (by simpa [PyData.showable] using h1)) ⟨.str _, H, I.tok _, ⟨_, rfl⟩, q⟩
    | str x =>
      obtain ⟨t, rfl⟩ := (show ∃ t, u = Value.str x t from ru)
      exact P.repr_of_str ⟨.str _, H, I.tok _, ⟨_, rfl⟩, q⟩ h4
    | @lst a xs ds e1 e2 =>
      obtain rfl : u = Value.ref a := ru
      exact repr_of_reads' rd h1 (PyData.noDict_hsm h2) hg (by omega) (fun _ _ e => e) (fun h' u tk hk => ⟨.str _, H, I.kept (t' := tk) hk, ⟨u, rfl⟩, q⟩) h4
    | @tup a xs ds e1 e2 =>
      obtain rfl : u = Value.ref a := ru
      exact repr_of_reads' rd h1 (PyData.noDict_hsm h2) hg (by omega) (fun _ _ e => e) (fun h' u tk hk => ⟨.str _, H, I.kept (t' := tk) hk, ⟨u, rfl⟩, q⟩) h4
  | @empty a e =>
    obtain rfl : u = Value.ref a := ru
    obtain ⟨_, ns, vs, kv, o, es, ep, h1, h2, h3, h4⟩ := (show ObjOk X.prog X.w H s.heap a (.dK []) from I.hok a _ e)
    cases kv
    have es0 : es.toList = [] := by
      obtain ⟨_, hp, _⟩ := h4
      generalize es.toList = l at hp
      cases hp
      rfl
    have rd : Reads s.heap (.ref a) (.dict []) (a :: [] ++ []) := Reads.dict h1 h2.1 h3 (by rw [es0]; exact .nil) (by rw [es0]; exact .nil)
    exact repr_of_reads' rd (by decide) (fun _ hm => by
      have : sysModules = a := by simpa using hm
      rw [this] at ns
      simp at ns) hg (by show X.A.units + (PyData.depth (.dict []) + 1) < cLine; have : PyData.depth (.dict []) ≤ 60 := by decide +kernel
                         omega) (fun _ _ e => e) (fun h' u tk hk => ⟨.str _, H, I.kept (t' := tk) hk, ⟨u, rfl⟩, q⟩) (by decide +kernel)
theorem dp_same {K : PySem.W.Frag} {H H' : Hp} (s : Same H H') : ∀ {v : V} {d : PyData}, Dp K H v d → Dp K H' v d := by
  have sq : ∀ {a xs}, SqT K H a xs → SqT K H' a xs := by
    intro a xs h
    rcases h with (h | ⟨o, h⟩) | h
    · exact .inl (.inl (s _ _ h))
    · exact .inl (.inr ⟨o, s _ _ h⟩)
    · exact .inr h
  intro v d h
  induction h using Dp.rec (motive_2 := fun vs ds _ => DpAll K H' vs ds) with
  | non => exact .non
  | bl b => exact .bl b
  | int i => exact .int i
  | str x => exact .str x
  | lst h1 _ ih => exact .lst (s.seq h1) ih
  | tup h1 _ ih => exact .tup (sq h1) ih
  | nil => exact .nil
  | cons _ _ i1 i2 => exact .cons i1 i2
theorem Shw.same {K : PySem.W.Frag} {H H' : Hp} (s : Same H H') {v : V} {z : Str} (h : Shw K H v z) : Shw K H' v z := by
  cases h with
  | data h h1 h2 h3 h4 => exact .data (dp_same s h) h1 h2 h3 h4
  | empty e => exact .empty (s _ _ e)
theorem Same.upd {H : Hp} {p : Addr} {o : HO} (h : H p = none) : Same H (upd H p o) := fun b u e => by rw [upd_ne (ne_of_none e h)]; exact e
end Lc
set_option Elab.async false
set_option linter.all false
set_option maxRecDepth 100000
set_option maxHeartbeats 4000000
namespace Lc
open PySem PySem.Spec PyProof.Rows L2
/-! ## The law's tape -/
def Tape (H : Hp) (t : Addr) : Prop := ∃ (l : Addr) (ns : List Int) (pos rest mix : Int), H t = some (.lst [.ref l, .int pos, .int rest, .int mix]) ∧ H l = some (.lst (ns.map V.int)) ∧ 0 ≤ pos ∧ 0 ≤ rest ∧ 0 ≤ mix ∧ mix < 2147483647
/-- all but what stands at t is as it was -/
def SameB (t : Addr) (H H' : Hp) : Prop := ∀ b o, b ≠ t → H b = some o → H' b = some o
theorem SameB.refl (t : Addr) (H : Hp) : SameB t H H := fun _ _ _ e => e
theorem SameB.trans {t : Addr} {H H1 H2 : Hp} (a : SameB t H H1) (b : SameB t H1 H2) : SameB t H H2 := fun c o n e => b c o n (a c o n e)
theorem Same.b {H H' : Hp} (t : Addr) (s : Same H H') : SameB t H H' := fun b o _ e => s b o e
theorem SameB.upd {t : Addr} {H : Hp} {o : HO} : SameB t H (upd H t o) := fun b u n e => by rw [upd_ne n]; exact e
theorem tape_ne {l t : Addr} {H : Hp} {ns : List Int} {vs : List V} (h1 : H t = some (.lst (.ref l :: vs))) (h2 : H l = some (.lst (ns.map V.int))) : l ≠ t := by
  refine ne_of h2 h1 fun z => ?_
  cases ns with
  | nil => injection z with z; cases z
  | cons n ns => injection z with z; injection z with z; cases z
theorem Tape.same {H H' : Hp} {t : Addr} (h : Tape H t) (s : Same H H') : Tape H' t := by
  obtain ⟨l, ns, pos, rest, mix, h1, h2, h3⟩ := h
  exact ⟨l, ns, pos, rest, mix, s _ _ h1, s _ _ h2, h3⟩
theorem cut_ints (ns : List Int) (lo hi : Option Int) : ∃ ms : List Int, cutV (ns.map V.int) lo hi = ms.map V.int := by
  unfold cutV
  rw [← List.map_drop, ← List.map_take]
  exact ⟨_, rfl⟩
def spTape (K : PySem.W.Frag) : Sp := fun vs H Q _ => ∃ (a : Addr) (ns : List Int), vs = [.ref a] ∧ SqL K H a (ns.map V.int) ∧ ∀ (t : Addr) (H' : Hp), Same H H' → H t = none → Tape H' t → Q (.ref t) H'
def spDraw : Sp := fun vs H Q _ => ∃ (t : Addr) (many : Int), vs = [.ref t, .int many] ∧ Tape H t ∧ 0 < many ∧ many.natAbs < 2 ^ 4000 ∧ ∀ (k : Int) (H' : Hp), 0 ≤ k → k < many → Tape H' t → SameB t H H' → Q (.int k) H'
def New2' (H : Hp) (Q : VK) (n d : Int) : Prop := ∀ p, H p = none → Q (.ref p) (upd H p (.tup [.int n, .int d]))
def spLowest : Sp := fun vs H Q _ => ∃ n d : Int, vs = [.int n, .int d] ∧ 0 < d ∧ d.natAbs < 2 ^ 4000 ∧ New2' H Q (lowN n d) (lowD n d)
def spRational : Sp := fun vs H Q _ => ∃ (t : Addr) (b : Bool), vs = [.ref t, .bl b] ∧ Tape H t ∧ ∀ (p : Addr) (n d : Int) (H' : Hp), Rt n d → n.natAbs < 2 ^ 140 → d.natAbs < 2 ^ 140 → H' p = some (.tup [.int n, .int d]) → H p = none → Tape H' t → SameB t H H' → Q (.ref p) H'
theorem log_lt' {n : Int} (h : n.natAbs < 2 ^ 4000) : n.natAbs.log2 < 9000 := by
  by_cases z : n.natAbs = 0
  · rw [z]
    decide
  · exact Nat.lt_of_lt_of_le ((Nat.log2_lt z).mpr h) (by decide)
end Lc
namespace Lc
open PySem PySem.Spec PyProof.Rows L2
theorem SameB.free {t p : Addr} {H H' : Hp} (s : SameB t H H') (h : Tape H' t) (e : H' p = none) : H p = none := by
  cases q : H p with
  | none => rfl
  | some o =>
    by_cases z : p = t
    · subst z
      obtain ⟨_, _, _, _, _, h1, _⟩ := h
      rw [h1] at e
      cases e
    · rw [s p o z q] at e
      cases e
theorem Tape.ne {t p : Addr} {H : Hp} (h : Tape H t) (e : H p = none) : p ≠ t := by
  intro z
  subst z
  obtain ⟨_, _, _, _, _, h1, _⟩ := h
  rw [h1] at e
  cases e
theorem Tape.neT {t p : Addr} {H : Hp} {xs : List V} (h : Tape H t) (e : H p = some (.tup xs)) : p ≠ t := by
  intro z
  subst z
  obtain ⟨_, _, _, _, _, h1, _⟩ := h
  rw [h1] at e
  cases e
theorem p18 : (10 : Int) ^ (18 : Int).toNat = 1000000000000000000 := by decide
theorem p40 : (10 : Int) ^ (40 : Int).toNat = 10000000000000000000000000000000000000000 := by decide
end Lc
namespace Lc
open PySem PySem.Spec PyProof.Rows L2
/-- the tape, its list at l -/
def TapeL (l : Addr) (H : Hp) (t : Addr) : Prop := ∃ (ns : List Int) (pos rest mix : Int), H t = some (.lst [.ref l, .int pos, .int rest, .int mix]) ∧ H l = some (.lst (ns.map V.int)) ∧ 0 ≤ pos ∧ 0 ≤ rest ∧ 0 ≤ mix ∧ mix < 2147483647
theorem TapeL.tape {l : Addr} {H : Hp} {t : Addr} (h : TapeL l H t) : Tape H t := ⟨l, h⟩
theorem TapeL.same {l : Addr} {H H' : Hp} {t : Addr} (h : TapeL l H t) (s : Same H H') : TapeL l H' t := by
  obtain ⟨ns, pos, rest, mix, h1, h2, h3⟩ := h
  exact ⟨ns, pos, rest, mix, s _ _ h1, s _ _ h2, h3⟩
theorem TapeL.list {l : Addr} {H : Hp} {t : Addr} (h : TapeL l H t) : ∃ xs, H l = some (.lst xs) := by
  obtain ⟨ns, pos, rest, mix, h1, h2, h3⟩ := h
  exact ⟨_, h2⟩
/-- another object is written -/
theorem TapeL.upd {l : Addr} {H : Hp} {t a : Addr} {o : HO} (h : TapeL l H t) (n1 : a ≠ t) (n2 : a ≠ l) : TapeL l (upd H a o) t := by
  obtain ⟨ns, pos, rest, mix, h1, h2, h3⟩ := h
  exact ⟨ns, pos, rest, mix, by rw [upd_ne (Ne.symm n1)]; exact h1, by rw [upd_ne (Ne.symm n2)]; exact h2, h3⟩
def spDrawL : Sp := fun vs H Q _ => ∃ (t l : Addr) (many : Int), vs = [.ref t, .int many] ∧ TapeL l H t ∧ 0 < many ∧ many.natAbs < 2 ^ 4000 ∧ ∀ (k : Int) (H' : Hp), 0 ≤ k → k < many → TapeL l H' t → SameB t H H' → Q (.int k) H'
theorem fn_weak {P : Program} {w : World} {K : PySem.W.Frag} {mg : Str → Option Value} {base : Heap} {CX : CXT} {k : Nat} {f : Addr} {fd : FuncData} {ps : List Str} {sp sp' : Sp} (h : ∀ vs H Q E, sp vs H Q E → sp' vs H Q E) (F : FnOk P w K mg base CX k f fd ps sp') : FnOk P w K mg base CX k f fd ps sp :=
  ⟨fun vs H Q E z => F.len vs H Q E (h vs H Q E z), fun A outer s H args us vs Q E a b c d z => F.run A outer s H args us vs Q E a b c d (h vs H Q E z)⟩
theorem draw_weak {vs : List V} {H : Hp} {Q : VK} {E : XK} (h : spDraw vs H Q E) : spDrawL vs H Q E := by
  obtain ⟨t, m, e, ⟨l, hT⟩, h1, h2, k⟩ := h
  exact ⟨t, l, m, e, hT, h1, h2, fun k1 H' a b c d => k k1 H' a b c.tape d⟩
end Lc
set_option Elab.async false
set_option linter.all false
set_option maxRecDepth 100000
set_option maxHeartbeats 4000000
namespace Lc
open PySem PySem.Spec PyProof.Rows L2
/-- names of built-ins that no text binds -/
structure Bt (mg : Str → Option Value) : Prop where
  isi : mg "isinstance" = none
  int : mg "int" = none
  bool : mg "bool" = none
  str : mg "str" = none
  tuple : mg "tuple" = none
  list : mg "list" = none
  dict : mg "dict" = none
  len : mg "len" = none
  abs : mg "abs" = none
  min : mg "min" = none
  all : mg "all" = none
  repr : mg "repr" = none
  range : mg "range" = none
  enum : mg "enumerate" = none
  ve : mg "ValueError" = none
  zd : mg "ZeroDivisionError" = none
  ie : mg "IndexError" = none
  oe : mg "OverflowError" = none
def btNames : List Str := ["isinstance", "int", "bool", "str", "tuple", "list", "dict", "len", "abs", "min", "all", "repr", "range", "enumerate", "ValueError", "ZeroDivisionError", "IndexError", "OverflowError"]
/-! ## x is True, x any value -/
def rIsBA : R2 := fun x y H Q => ∃ b : Bool, y = .bl b ∧ Q (.bl (decide (x = .bl b))) H
theorem op_isBA {X : Cx} : OpR X (compareOp .Is) rIsBA := by
  intro pins s σ H x y v u Q I rx ry h
  obtain ⟨b, rfl, q⟩ := h
  cases (show u = Value.bool b from ry)
  have key : plainIs v (.bool b) = true ∧ (v == Value.bool b) = decide (x = .bl b) := by
    cases x with
    | non => cases (show v = Value.none from rx); exact ⟨rfl, by cases b <;> rfl⟩
    | bl c => cases (show v = Value.bool c from rx); exact ⟨rfl, by cases b <;> cases c <;> rfl⟩
    | int i => obtain ⟨t, rfl⟩ := (show ∃ t, v = Value.int i t from rx); exact ⟨rfl, by cases b <;> rfl⟩
    | str i => obtain ⟨t, rfl⟩ := (show ∃ t, v = Value.str i t from rx); exact ⟨rfl, by cases b <;> rfl⟩
    | byt i => obtain ⟨t, rfl⟩ := (show ∃ t, v = Value.bytes i t from rx); exact ⟨rfl, by cases b <;> rfl⟩
    | flt i => obtain ⟨t, rfl⟩ := (show ∃ t, v = Value.float i t from rx); exact ⟨rfl, by cases b <;> rfl⟩
    | ref a => cases (show v = Value.ref a from rx); exact ⟨rfl, by cases b <;> rfl⟩
    | ty n => cases (show v = Value.type n from rx); exact ⟨rfl, by cases b <;> rfl⟩
  refine wpAny_is_plain key.1 ?_
  rw [key.2]
  exact ⟨.bl _, H, I, rfl, q⟩
/-! ## Texts of few signs -/
structure Sh (n : Nat) (x : Str) : Prop where
  len : x.cps.toList.length ≤ n
  ok : ∀ c ∈ x.cps.toList, c < 1114112
theorem Sh.mono {n m : Nat} {x : Str} (h : Sh n x) (l : n ≤ m) : Sh m x := ⟨Nat.le_trans h.len l, h.ok⟩
theorem Sh.line {n : Nat} {x : Str} (h : Sh n x) (l : n ≤ 1000) : x.length ≤ sizeLine := by
  have : x.length = x.cps.toList.length := by show x.cps.size = _; simp
  rw [this]
  exact Nat.le_trans h.len (Nat.le_trans l (by decide))
theorem sh_app {n m : Nat} {x y : Str} (h : Sh n x) (g : Sh m y) : Sh (n + m) (x ++ y) := by
  have e : (x ++ y).cps.toList = x.cps.toList ++ y.cps.toList := by
    show (x.cps ++ y.cps).toList = _
    simp
  refine ⟨?_, fun c hc => ?_⟩
  · rw [e, List.length_append]
    exact Nat.add_le_add h.len g.len
  · rw [e] at hc
    rcases List.mem_append.mp hc with hc | hc
    · exact h.ok c hc
    · exact g.ok c hc
theorem sh_one {c : Nat} (h : c < 1114112) : Sh 1 ⟨#[c]⟩ := ⟨Nat.le_refl _, fun d hd => by
  have : d = c := by simpa using hd
  rw [this]
  exact h⟩
theorem sh_sub {n : Nat} {x : Str} {l : List Nat} (h : Sh n x) (s : l.Sublist x.cps.toList) : Sh n ⟨l.toArray⟩ := by
  refine ⟨?_, fun c hc => ?_⟩
  · show l.toArray.toList.length ≤ n
    exact Nat.le_trans s.length_le h.len
  · exact h.ok c (s.subset (by simpa using hc))
theorem sh_cut {n : Nat} {x : Str} (lo hi : Option Int) (h : Sh n x) : Sh n (cutS x lo hi) := sh_sub h ((List.take_sublist _ _).trans (List.drop_sublist _ _))
theorem foldl_app : ∀ (l : List (Array Nat)) (a : Array Nat), (l.foldl (· ++ ·) a).toList = a.toList ++ (l.map Array.toList).flatten
  | [], a => by simp
  | b :: l, a => by
    show ((l.foldl (· ++ ·) (a ++ b))).toList = _
    rw [foldl_app l (a ++ b)]
    simp [List.append_assoc]
theorem sh_mul {x : Str} {n k : Nat} {i : Int} (h : Sh n x) (hi : i.toNat ≤ k) (hn : n ≤ 1) : Sh k (Txt.mul x i) := by
  unfold Txt.mul
  by_cases h1 : i < 1
  · rw [if_pos h1]
    exact ⟨Nat.zero_le _, fun c hc => by cases (by simpa [Str.empty] using hc : c ∈ ([] : List Nat))⟩
  · rw [if_neg h1]
    by_cases h2 : (i == 1 || x.length == 0) = true
    · rw [if_pos h2]
      exact h.mono (by omega)
    · rw [if_neg h2]
      have e : ((List.replicate i.toNat x.cps).foldl (· ++ ·) #[]).toList = (List.replicate i.toNat x.cps.toList).flatten := by
        rw [foldl_app]
        simp
      refine ⟨?_, fun c hc => ?_⟩
      · show ((List.replicate i.toNat x.cps).foldl (· ++ ·) #[]).toList.length ≤ k
        rw [e, List.length_flatten]
        have : ((List.replicate i.toNat x.cps.toList).map List.length).sum ≤ i.toNat * 1 := by
          have key : ∀ m : Nat, ((List.replicate m x.cps.toList).map List.length).sum ≤ m * 1 := by
            intro m
            induction m with
            | zero => simp
            | succ m ih =>
              rw [List.replicate_succ, List.map_cons, List.sum_cons]
              have := Nat.le_trans h.len hn
              omega
          exact key _
        omega
      · have hc : c ∈ ((List.replicate i.toNat x.cps).foldl (· ++ ·) #[]).toList := hc
        rw [e] at hc
        obtain ⟨l, hl, hcl⟩ := List.mem_flatten.mp hc
        rw [List.eq_of_mem_replicate hl] at hcl
        exact h.ok c hcl
theorem mul_ok {x : Str} {i : Int} (h : x.cps.size ≤ 1) (h2 : i < 1000) (h3 : -1000 < i) : MulOk x i := by
  have hx : x.length ≤ 1 := h
  refine ⟨by simp; omega, fun h1 _ => ?_, fun h1 _ => ?_⟩
  · have : (2 ^ 63 - 1 : Int) / i ≥ 1 := by
      have : (1 : Int) * i ≤ 2 ^ 63 - 1 := by omega
      exact (Int.le_ediv_iff_mul_le (by omega)).mpr this
    omega
  · unfold Builtin.Str.tooLong
    have : x.length * i.toNat ≤ 1000 := by
      have : x.length * i.toNat ≤ 1 * i.toNat := Nat.mul_le_mul_right _ hx
      omega
    have : ¬ (x.length * i.toNat > sizeLine) := by
      have : (1000 : Nat) ≤ sizeLine := by decide
      omega
    simpa using this
def rMulS : R2 := fun x y H Q => ∃ (z : Str) (i : Int), x = .str z ∧ y = .int i ∧ MulOk z i ∧ Q (.str (Txt.mul z i)) H
theorem op_mulS {X : Cx} : OpR X (binaryOp .Mult) rMulS := by
  intro pins s σ H x y v u Q I rx ry h
  obtain ⟨z, i, rfl, rfl, ok, q⟩ := h
  obtain ⟨t, rfl⟩ := (show ∃ t, v = Value.str z t from rx)
  obtain ⟨t2, rfl⟩ := (show ∃ t, u = Value.int i t from ry)
  exact SB.mul ok fun t' k => ⟨.str _, H, I.tok _, ⟨_, rfl⟩, q⟩
theorem glued_sh : ∀ (ys : List Str), (∀ y ∈ ys, Sh 1 y) → Sh ys.length (Str.join Str.empty ys)
  | [], _ => ⟨Nat.le_refl _, fun c hc => by cases (by simpa [Str.join, Str.empty] using hc : c ∈ ([] : List Nat))⟩
  | [x], h => h x List.mem_cons_self
  | x :: y :: r, h => by
    have ih := glued_sh (y :: r) fun z hz => h z (List.mem_cons_of_mem _ hz)
    have e : Str.join Str.empty (x :: y :: r) = x ++ Str.empty ++ Str.join Str.empty (y :: r) := rfl
    rw [e]
    have s0 : Sh 0 Str.empty := ⟨Nat.le_refl _, fun c hc => by cases (by simpa [Str.empty] using hc : c ∈ ([] : List Nat))⟩
    exact (sh_app (sh_app (h x List.mem_cons_self) s0) ih).mono (by simp; omega)
/-! ## repr of a short text, of a bounded number -/
theorem shw_text {K : PySem.W.Frag} {H : Hp} {n : Nat} {x : Str} (h : Sh n x) (l : n ≤ 1000) : Shw K H (.str x) (PyData.str x).shown := by
  refine .data (.str x) rfl rfl (by simp [PyData.depth]) ?_
  show (reprText x).length ≤ sizeLine
  have := StrLaws.reprText_len x (fun c hc => Nat.lt_trans (h.ok c hc) (by decide))
  have e : x.length = x.cps.toList.length := by show x.cps.size = _; simp
  have := h.len
  have : (10002 : Nat) ≤ sizeLine := by decide
  omega
theorem num_len {i : Int} (h : i.natAbs < 2 ^ 1000) : (PyData.int i).showable = true ∧ (PyData.int i).shown.length ≤ 1921 := by
  have l : i.natAbs.log2 < 1920 := by
    by_cases z : i.natAbs = 0
    · rw [z]
      decide
    · exact Nat.lt_of_lt_of_le ((Nat.log2_lt z).mpr h) (by decide)
  exact ⟨decide_eq_true l, int_text_len_1921 l⟩
end Lc
namespace Lc
open PySem PySem.Spec PyProof.Rows L2
/-! ## Names -/
def letters : Str := "abcdefghijklmnopqrstuvwxyz"
def signs : Str := "abcdefghijklmnopqrstuvwxyz0123456789"
def inS (c : Nat) : Bool := decide (c ∈ signs.cps.toList)
def inL (c : Nat) : Bool := decide (c ∈ letters.cps.toList)
def nameL : List Nat → Bool
  | [] => false
  | c :: r => decide ((c :: r).length ≤ 12) && (inL c && (c :: r).all inS)
def nameB : V → Bool
  | .str x => nameL x.cps.toList
  | _ => false
abbrev rInS : R2 := fun x y H Q => ∃ (c : Nat) (z : Str), x = .str ⟨#[c]⟩ ∧ y = .str z ∧ Q (.bl (decide (c ∈ z.cps.toList))) H
def spName : Sp := fun vs H Q _ => ∃ (v : V) (t : String), vs = [v] ∧ TyN H v t ∧ (∀ x, v = .str x → x.length ≤ sizeLine) ∧ ∀ H', Same H H' → Q (.bl (nameB v)) H'
def spLName : Sp := fun vs H Q _ => ∃ t : Addr, vs = [.ref t] ∧ Tape H t ∧ ∀ (x : Str) (H' : Hp), Sh 12 x → Tape H' t → SameB t H H' → Q (.str x) H'
theorem lenL (x : Str) : x.length = x.cps.toList.length := by show x.cps.size = _; simp
theorem nil_of {x : Str} (h : x.cps.toList = []) : x = ⟨#[]⟩ := by
  obtain ⟨⟨l⟩⟩ := x
  have : l = [] := h
  rw [this]
theorem dec_empty (x : Str) : decide (V.str x = V.str "") = decide (x.cps.toList = []) := by
  rw [Bool.eq_iff_iff, decide_eq_true_iff, decide_eq_true_iff]
  constructor
  · intro h
    injection h with h
    rw [h]
    rfl
  · intro h
    rw [nil_of h]
    rfl
theorem name_nil {x : Str} (h : x.cps.toList = []) : nameB (.str x) = false := by
  show nameL x.cps.toList = false
  rw [h]
  rfl
theorem name_long {x : Str} (h : ¬ x.cps.toList.length ≤ 12) : nameB (.str x) = false := by
  show nameL x.cps.toList = false
  cases e : x.cps.toList with
  | nil => rfl
  | cons c r =>
    rw [e] at h
    show (decide ((c :: r).length ≤ 12) && _) = false
    rw [decide_eq_false h]
    rfl
theorem name_is {x : Str} {c : Nat} {r : List Nat} (e : x.cps.toList = c :: r) (h : x.cps.toList.length ≤ 12) : nameB (.str x) = (inL c && (c :: r).all inS) := by
  show nameL x.cps.toList = _
  rw [e] at h ⊢
  show (decide ((c :: r).length ≤ 12) && _) = _
  rw [decide_eq_true h]
  rfl
/-- the list of a comprehension over a text's signs, as it grows -/
theorem grow {x : Str} {i : Nat} {c : Nat} (h : x.cps[i]? = some c) (p : Nat → Bool) : (x.cps.toList.take i).map (fun c => V.bl (p c)) ++ [V.bl (p c)] = (x.cps.toList.take (i + 1)).map fun c => V.bl (p c) := by
  have h2 : x.cps.toList[i]? = some c := by rw [Array.getElem?_toList]; exact h
  rw [List.take_succ, h2, List.map_append]
  rfl
end Lc
namespace Lc
open PySem PySem.Spec PyProof.Rows L2
theorem cut26 : cutS signs none (some 26) = letters := by decide +kernel
theorem signs_ok : ∀ c ∈ signs.cps.toList, c < 1114112 := by decide +kernel
theorem signs_len : signs.cps.toList.length = 36 := by decide +kernel
theorem at_text {l : List Nat} {i : Int} (h0 : 0 ≤ i) (h1 : i < (l.length : Int)) : ∃ c, atI l i = some c ∧ c ∈ l := by
  obtain ⟨n, rfl⟩ : ∃ n : Nat, i = (n : Int) := ⟨i.toNat, by omega⟩
  have h : n < l.length := by omega
  exact ⟨l[n], atI_nat (List.getElem?_eq_getElem h), List.getElem_mem h⟩
theorem big1000 {z : Int} (h1 : 0 ≤ z) (h2 : z ≤ 1000) : z.natAbs < 2 ^ 4000 := by
  have e : (2 : Nat) ^ 10 = 1024 := by decide
  exact Nat.lt_of_lt_of_le (show z.natAbs < 2 ^ 10 by omega) (Nat.pow_le_pow_right (by decide) (by decide))
theorem sh_a : Sh 1 (PySem.Str.ofString "a") := ⟨by decide +kernel, by decide +kernel⟩
theorem a_size : (PySem.Str.ofString "a").cps.size ≤ 1 := by decide +kernel
theorem sh_len {n : Nat} {x : Str} (h : Sh n x) : x.length ≤ n := by rw [lenL]; exact h.len
end Lc
namespace Lc
open PySem PySem.Spec PyProof.Rows L2
theorem join_sh (ys : List Str) (h : ∀ y ∈ ys, Sh 1 y) : Sh ys.length (Txt.join (PySem.Str.ofString "") ys) := by
  have e : Txt.join (PySem.Str.ofString "") ys = Str.join Str.empty ys := by
    exact (StrLaws.glued_eq_join (PySem.Str.ofString "") ys).trans rfl
  rw [e]
  exact glued_sh ys h
end Lc
set_option Elab.async false
set_option linter.all false
set_option maxRecDepth 100000
set_option maxHeartbeats 4000000
namespace Lc
open PySem PySem.Spec PyProof.Rows L2
/-! ## Flat values and what they are shown as -/
structure Fl (v : V) (d : PyData) (s : String) : Prop where
  dp : ∀ (K : PySem.W.Frag) (H : Hp), Dp K H v d
  ty : ∀ H : Hp, TyN H v s
  sh : d.showable = true
  nd : d.hasDict = false
  dz : d.depth = 0
  ln : d.shown.length ≤ 20000
theorem fl_non : Fl .non .none "NoneType" := ⟨fun _ _ => .non, fun _ => .non, rfl, rfl, rfl, by decide +kernel⟩
theorem fl_bl (b : Bool) : Fl (.bl b) (.bool b) "bool" := ⟨fun _ _ => .bl b, fun _ => .bl b, rfl, rfl, rfl, by cases b <;> decide +kernel⟩
theorem fl_int {i : Int} (h : i.natAbs < 2 ^ 1000) : Fl (.int i) (.int i) "int" := ⟨fun _ _ => .int i, fun _ => .int i, (num_len h).1, rfl, rfl, Nat.le_trans (num_len h).2 (by decide)⟩
theorem fl_str {x : Str} {n : Nat} (h : Sh n x) (l : n ≤ 1930) : Fl (.str x) (.str x) "str" := by
  refine ⟨fun _ _ => .str x, fun _ => .str x, rfl, rfl, rfl, ?_⟩
  show (reprText x).length ≤ 20000
  have := StrLaws.reprText_len x (fun c hc => Nat.lt_trans (h.ok c hc) (by decide))
  have e := lenL x
  have := h.len
  omega
theorem sh_string (s : String) : ∀ c ∈ (PySem.Str.ofString s).cps.toList, c < 1114112 := by
  intro c hc
  rw [Str.ofString_eq_toList] at hc
  have hc : c ∈ s.toList.map Char.toNat := by simpa using hc
  obtain ⟨ch, _, rfl⟩ := List.mem_map.mp hc
  have := ch.valid
  rcases this with h | ⟨_, h⟩
  · exact Nat.lt_trans h (by decide)
  · exact h
theorem sh_num {i : Int} (h : i.natAbs < 2 ^ 1000) : Sh 1921 (PySem.Str.ofString (toString i)) := ⟨by rw [← lenL]; exact (num_len h).2, sh_string _⟩
/-! ## Things: is it a number within the limit, how is it shown -/
def lim : Int := 10000000000000000000000000000000000000000
def limB : V → V → Bool
  | .int n, .int d => decide ((if n < 0 then -n else n) ≤ lim) && decide (d ≤ lim)
  | _, _ => false
def numB (x y : V) : Bool := ratB x y && limB x y
inductive Thing (H : Hp) : V → Bool → Prop
  | other {v : V} {t : String} (h : TyN H v t) (n : t ≠ "tuple") (l : ∀ x, v = .str x → x.length ≤ sizeLine) : Thing H v false
  | len {a : Addr} {xs : List V} (e : H a = some (.tup xs)) (n : xs.length ≠ 2) : Thing H (.ref a) false
  | pair {a : Addr} {x y : V} {tx ty : String} (e : H a = some (.tup [x, y])) (hx : TyN H x tx) (hy : TyN H y ty) : Thing H (.ref a) (numB x y)
theorem Thing.same {H H' : Hp} {v : V} {b : Bool} (h : Thing H v b) (s : Same H H') : Thing H' v b := by
  cases h with
  | other h n l => exact .other (h.same s) n l
  | len e n => exact .len (s _ _ e) n
  | pair e hx hy => exact .pair (s _ _ e) (hx.same s) (hy.same s)
theorem Thing.ty {H : Hp} {v : V} {b : Bool} (h : Thing H v b) : ∃ t, TyN H v t ∧ ∀ x, v = .str x → x.length ≤ sizeLine := by
  cases h with
  | other h n l => exact ⟨_, h, l⟩
  | len e n => exact ⟨_, .tup e, fun x z => nomatch z⟩
  | pair e hx hy => exact ⟨_, .tup e, fun x z => nomatch z⟩
/-- whatever is done to the tape at t -/
def Thg (K : PySem.W.Frag) (t : Addr) (H : Hp) (v : V) : Prop := ∃ (b : Bool) (z : Str), ∀ H', SameB t H H' → Thing H' v b ∧ Shw K H' v z
theorem thg_flat {K : PySem.W.Frag} {t : Addr} {H : Hp} {v : V} {d : PyData} {s : String} (h : Fl v d s) (n : s ≠ "tuple") (l : ∀ x, v = .str x → x.length ≤ sizeLine) : Thg K t H v :=
  ⟨false, d.shown, fun H' _ => ⟨.other (h.ty H') n l, .data (h.dp K H') h.sh h.nd (by rw [h.dz]; decide) (Nat.le_trans h.ln (by decide))⟩⟩
/-- the items of a display -/
inductive Fls : List V → List PyData → Prop
  | nil : Fls [] []
  | cons {v : V} {d : PyData} {s : String} {vs : List V} {ds : List PyData} (h : Fl v d s) (r : Fls vs ds) : Fls (v :: vs) (d :: ds)
theorem Fls.dps {K : PySem.W.Frag} {H : Hp} : ∀ {vs : List V} {ds : List PyData}, Fls vs ds → DpAll K H vs ds
  | _, _, .nil => .nil
  | _, _, .cons h r => .cons (h.dp K H) r.dps
theorem Fls.facts : ∀ {vs : List V} {ds : List PyData}, Fls vs ds → PyData.showableAll ds = true ∧ PyData.hasDictAll ds = false ∧ PyData.depthAll ds = 0 ∧ ((PyData.shownAll ds).map (·.length)).sum ≤ 20000 * ds.length ∧ (PyData.shownAll ds).length = ds.length ∧ ds.length = vs.length
  | _, _, .nil => ⟨rfl, rfl, rfl, by simp [PyData.shownAll], rfl, rfl⟩
  | _, _, .cons (d := d) (ds := ds) h r => by
    obtain ⟨h1, h2, h3, h4, h5, h6⟩ := r.facts
    refine ⟨?_, ?_, ?_, ?_, ?_, ?_⟩
    · simp [PyData.showableAll, h.sh, h1]
    · simp [PyData.hasDictAll, h.nd, h2]
    · simp [PyData.depthAll, h.dz, h3]
    · simp only [PyData.shownAll, List.map_cons, List.sum_cons, List.length_cons]
      have := h.ln
      omega
    · simp [PyData.shownAll, h5]
    · simp [h6]
theorem shw_tup {K : PySem.W.Frag} {H : Hp} {a : Addr} {vs : List V} {ds : List PyData} (e : H a = some (.tup vs)) (h : Fls vs ds) (l : vs.length ≤ 100) : Shw K H (.ref a) (PyData.tuple ds).shown := by
  obtain ⟨h1, h2, h3, h4, h5, h6⟩ := h.facts
  refine .data (.tup (SqT.of e) h.dps) (by simpa [PyData.showable] using h1) (by simpa [PyData.hasDict] using h2) (by simp [PyData.depth, h3]) ?_
  have := tupleText_len_le (PyData.shownAll ds)
  have s : (3000000 : Nat) ≤ sizeLine := by decide
  simp only [PyData.shown]
  omega
theorem shw_lst {K : PySem.W.Frag} {H : Hp} {a : Addr} {vs : List V} {ds : List PyData} (e : H a = some (.lst vs)) (h : Fls vs ds) (l : vs.length ≤ 100) : Shw K H (.ref a) (PyData.list ds).shown := by
  obtain ⟨h1, h2, h3, h4, h5, h6⟩ := h.facts
  refine .data (.lst (SqL.of e) h.dps) (by simpa [PyData.showable] using h1) (by simpa [PyData.hasDict] using h2) (by simp [PyData.depth, h3]) ?_
  have := listText_len_le (PyData.shownAll ds)
  have s : (3000000 : Nat) ≤ sizeLine := by decide
  simp only [PyData.shown]
  omega
theorem thg_tup {K : PySem.W.Frag} {t a : Addr} {H : Hp} {vs : List V} {ds : List PyData} (n : a ≠ t) (e : H a = some (.tup vs)) (h : Fls vs ds) (l : vs.length ≤ 100) : Thg K t H (.ref a) := by
  by_cases z : vs.length = 2
  · match vs, h, z with
    | [x, y], .cons h1 (.cons h2 .nil), _ => exact ⟨numB x y, _, fun H' s => ⟨.pair (s _ _ n e) (h1.ty H') (h2.ty H'), shw_tup (s _ _ n e) (.cons h1 (.cons h2 .nil)) (by show 2 ≤ 100; decide)⟩⟩
  · exact ⟨false, _, fun H' s => ⟨.len (s _ _ n e) z, shw_tup (s _ _ n e) h l⟩⟩
theorem thg_lst {K : PySem.W.Frag} {t a : Addr} {H : Hp} {vs : List V} {ds : List PyData} (n : a ≠ t) (e : H a = some (.lst vs)) (h : Fls vs ds) (l : vs.length ≤ 100) : Thg K t H (.ref a) :=
  ⟨false, _, fun H' s => ⟨.other (.lst (s _ _ n e)) (by decide) (fun x z => nomatch z), shw_lst (s _ _ n e) h l⟩⟩
theorem thg_dct {K : PySem.W.Frag} {t a : Addr} {H : Hp} (n : a ≠ t) (e : H a = some (.dK [])) : Thg K t H (.ref a) :=
  ⟨false, _, fun H' s => ⟨.other (.dct (s _ _ n e)) (by decide) (fun x z => nomatch z), .empty (s _ _ n e)⟩⟩
theorem Thg.sameB {K : PySem.W.Frag} {t : Addr} {H H' : Hp} {v : V} (h : Thg K t H v) (s : SameB t H H') : Thg K t H' v := by
  obtain ⟨b, z, k⟩ := h
  exact ⟨b, z, fun H2 s2 => k H2 (s.trans s2)⟩
theorem thg_str {K : PySem.W.Frag} {t : Addr} {H : Hp} {n : Nat} {x : Str} (h : Sh n x) (l : n ≤ 1930) : Thg K t H (.str x) :=
  thg_flat (fl_str h l) (by decide) fun y e => by
    injection e with e
    subst e
    rw [lenL]
    exact Nat.le_trans h.len (Nat.le_trans l (by decide))
end Lc
namespace Lc
open PySem PySem.Spec PyProof.Rows L2
theorem ratB_ints {x y : V} (h : ratB x y = true) : ∃ n d : Int, x = .int n ∧ y = .int d ∧ 0 < d ∧ gd n d = 1 := by
  cases x with
  | int n =>
    cases y with
    | int d =>
      have h' : (decide (0 < d) && decide (gd n d = 1)) = true := h
      obtain ⟨h1, h2⟩ := Bool.and_eq_true_iff.mp h'
      exact ⟨n, d, rfl, rfl, of_decide_eq_true h1, of_decide_eq_true h2⟩
    | _ => cases h
  | _ => cases y <;> cases h
end Lc
namespace Lc
open PySem PySem.Spec PyProof.Rows L2
/-! ## A word behind an expression: what follows is shown once -/
def tMid (te : TE) : TE := fun σ H Q => ∃ M : V → Hp → Prop, te σ H M ∧ ∀ v H', M v H' → Q v H'
theorem pe_mid {X : Cx} {e : Expr} {te : TE} (h : PE X e te) : PE X e (tMid te) := by
  refine ⟨fun pins s σ H Q I hq => ?_⟩
  obtain ⟨M, h1, h2⟩ := hq
  exact thn (h.run pins s σ H M I h1) fun u s1 ⟨v, H1, I1, r, q⟩ => ⟨v, H1, I1, r, h2 v H1 q⟩
end Lc
set_option Elab.async false
set_option linter.all false
set_option maxRecDepth 100000
set_option maxHeartbeats 4000000
namespace Lc
open PySem PySem.Spec PyProof.Rows L2
/-! ## enumerate(v), v whatever begins; for .., .. in enumerate(tuple) -/
def itB (h : Heap) (o : Obj) : Heap := (h.push o).push { cls := .type "enumerate", data := .fields #[.none, .bool false, .ref h.objs.size, rawInt 0, .none, .none] }
theorem meets_enum1 {v : Value} {o : Obj} {H : Heap → Prop} (B : Begins v o H) :
    Meets (Builtin.«enumerate.__new__» ⟨[.type "enumerate", v], []⟩) (fun _ R s => H s.heap ∧ R (.ok (.ret (.ref (s.heap.push o).objs.size))) { s with heap := itB s.heap o }) :=
  .of_wp fun prog w A R s h => by
    obtain ⟨hp, g, d, tk, os⟩ := s
    obtain ⟨h1, h⟩ := h
    have hsub := sub_enumerate
    have it1 : ∀ {A' : Around} {E : Value → Shared → Prop} {Q : Value → Shared → Prop}, Q (.ref hp.objs.size) ⟨hp.push o, g, d, tk, os⟩ → wpAny (model prog w) A' (pyIter v) Q E ⟨hp, g, d, tk, os⟩ := fun q => B.iter prog w _ _ ⟨hp, g, d, tk, os⟩ _ h1 q
    wp_walk using it1
    refine wpAny_stack_any fun st => wpAny_pure ?_
    split
    · rename_i c _ _ _ _ _
      cases (c == Value.type "enumerate") <;> (wp_walk using it1; exact ⟨_, rfl, h⟩)
    · wp_walk using it1
      exact ⟨_, rfl, h⟩
theorem call_enum1 {prog : Program} {w : World} {A : Around} {E : Value → Shared → Prop} {s : Shared} {v : Value} {o : Obj} {H : Heap → Prop} {Q : Value → Shared → Prop} (B : Begins v o H) (h1 : H s.heap)
    (h : IsEnum (itB s.heap o) (s.heap.objs.size + 1) s.heap.objs.size 0 .none → (itB s.heap o).get? s.heap.objs.size = some o → (∀ b u, s.heap.get? b = some u → (itB s.heap o).get? b = some u) → Q (.ref (s.heap.objs.size + 1)) { s with heap := itB s.heap o }) :
    wpAny (model prog w) A (call (.type "enumerate") [v]) Q E s := by
  have sz : (s.heap.push o).objs.size = s.heap.objs.size + 1 := Heap.size_push ..
  have en : IsEnum (itB s.heap o) (s.heap.objs.size + 1) s.heap.objs.size 0 .none := by
    have z := Heap.get?_push_size (s.heap.push o) (o := { cls := .type "enumerate", data := .fields #[.none, .bool false, .ref s.heap.objs.size, rawInt 0, .none, .none] }) rfl
    rw [sz] at z
    exact z
  refine callType_new F.called_enumerate (by decide) (F.typeCall_enumerate_1 _) (F.newCall_enumerate_1 _) (fun obj => F.args_object_init_2 obj _) F.entry_enumerate_new (meets_enum1 B) ⟨h1, ?_⟩
  show _ ∧ _
  rw [sz]
  exact ⟨⟨_, en, rfl⟩, h en (Heap.get?_push_of_some _ (Heap.get?_push_size _ B.free)) fun b u e => Heap.get?_push_of_some _ (Heap.get?_push_of_some _ e)⟩
/-- the tuple at a, each item in a new pair with its number -/
def IteT (K : PySem.W.Frag) (a : Addr) : It where
  go := fun i H => ∃ (xs : List V) (x : V), SqT K H a xs ∧ xs[i]? = some x
  yld := fun i H v H' => ∃ (q : Addr) (x : V), v = .ref q ∧ H q = none ∧ H' = upd H q (.tup [.int (i : Nat), x]) ∧ ∀ xs, SqT K H a xs → xs[i]? = some x
  stop := fun i H => ∃ xs : List V, SqT K H a xs ∧ xs.length = i
structure EnT (e it a : Addr) (i : Nat) (h : Heap) : Prop where
  en : ∃ old, IsEnum h e it ((i : Nat) : Int) old
  ti : h.IsTupleIter it a i
  n1 : e ≠ it
  n2 : a ≠ it
  n3 : a ≠ e
theorem turn_enT {P : Program} {w : World} {K : PySem.W.Frag} {elts : List Expr} {kk : Nat} {tpos : Pos} (a e it : Addr) : Turn P w K (.Tuple elts kk tpos) (IteT K a) [e, it] e (EnT e it a) where
  mem := List.mem_cons_self
  obj := fun i h st b hb => by
    rcases List.mem_cons.mp hb with rfl | hb
    · obtain ⟨old, he⟩ := st.en
      exact ⟨_, he, fun v q => nomatch q⟩
    · obtain rfl := List.mem_singleton.mp hb
      obtain ⟨o, ho, _, hd⟩ := st.ti
      exact ⟨o, ho, fun v q => by rw [hd] at q; cases q⟩
  keep := fun i h h' st k => by
    obtain ⟨old, he⟩ := st.en
    obtain ⟨o, ho, r⟩ := st.ti
    exact ⟨⟨old, k e List.mem_cons_self _ he⟩, ⟨o, k it (by simp) o ho, r⟩, st.n1, st.n2, st.n3⟩
  item := by
    intro X hP hw hK hc i pins s σ H E I hf st hg
    subst hP hw hK
    obtain ⟨xs, x, hq, hx⟩ := hg
    obtain ⟨its, rv, tp, _⟩ := I.tuple hq
    obtain ⟨u, hu, ru⟩ := rv.get hx
    obtain ⟨old, he⟩ := st.en
    have hu' : its.toArray[i]? = some u := by simpa using hu
    have li : i < its.toArray.size := (Array.getElem?_eq_some_iff.mp hu').1
    refine wpAny_pyNext_enum_itemD (Draws.tuple (A := X.A.in1) (I.ok.hd hc) it a st.n2 its.toArray) he ⟨st.ti, tp⟩ li st.n1 (by simp [st.n1, Ne.symm st.n3]) fun y h' tk hy ho hs hT hz hk => ?_
    obtain rfl : u = y := Option.some.inj (hu'.symm.trans hy)
    have le : e < s.heap.objs.size := Heap.lt_size he
    have lt : it < s.heap.objs.size := by obtain ⟨_, q, _⟩ := st.ti; exact Heap.lt_size q
    refine ⟨_, rfl, wpAny_letOwnedTupleGo_enum (s := { s with heap := h', toks := tk + 1 }) ho fun h2 he2 sb => ?_⟩
    have pair : h2.get? s.heap.objs.size = some { cls := .type "tuple", data := .seq #[.int i tk, u] } := (sb.2 _ (Nat.ne_of_gt le)).trans hT
    have I2 : Inv X pins σ (upd H s.heap.objs.size (.tup [.int (i : Nat), x])) { s with heap := h2, toks := tk + 1 } := by
      refine I.turnedNew (ch := [e, it]) (fun b ob hb q => ?_) hf (Nat.le_refl _) ⟨by show 2 ≤ sizeLine; decide, [.int i tk, u], .cons ⟨_, rfl⟩ (.cons ru .nil), ⟨_, pair, rfl, _, rfl⟩⟩
      have nb : b ≠ e ∧ b ≠ it := by simpa using hb
      exact (sb.2 b nb.1).trans (hk b ob nb.1 nb.2 q)
    refine ⟨.ref s.heap.objs.size, _, I2, rfl, ⟨_, x, rfl, I.hok.fresh (Nat.le_refl _), rfl, fun ys hy => by rw [I.tuple_inj hy hq]; exact hx⟩, ⟨⟨u, ?_⟩, ?_, st.n1, st.n2, st.n3⟩, fun b hb => ?_⟩
    · rw [show ((i + 1 : Nat) : Int) = (i : Int) + 1 by omega]
      exact he2
    · obtain ⟨o, q, r⟩ := hs.1
      exact ⟨o, (sb.2 it (Ne.symm st.n1)).trans q, r⟩
    · have lb : b < s.heap.objs.size := by
        rcases List.mem_cons.mp hb with rfl | hb
        · exact le
        · rw [List.mem_singleton.mp hb]; exact lt
      rw [upd_ne (Nat.ne_of_lt lb)]
      exact (hf b hb).1
  done := by
    intro X hP hw hK hc i pins s σ H E I hf st hg
    subst hP hw hK
    obtain ⟨xs, hq, hx⟩ := hg
    obtain ⟨its, rv, tp, _⟩ := I.tuple hq
    obtain ⟨old, he⟩ := st.en
    have hl : i = its.toArray.size := by rw [List.size_toArray, ← rv.length]; exact hx.symm
    obtain ⟨f0, f1, _, f3, f4, f5⟩ := hf it (by simp)
    subst hl
    exact wpAny_pyNext_enum_endD (Draws.tuple (A := X.A.in1) (I.ok.hd hc) it a st.n2 its.toArray) he ⟨st.ti, tp⟩ fun h' eb => ⟨rfl, I.turned (t' := s.toks) (fun b o hb q => eb b o hb q) f0 f1 f3 f4 f5⟩
  self := fun A i s Q E st h => by
    obtain ⟨old, he⟩ := st.en
    exact wpAny_pyIter_enum he h
def iEnT (K : PySem.W.Frag) (ta : TA) : TI := fun σ H R => ta σ H fun vs H1 => ∃ a xs, vs = [.ref a] ∧ SqT K H1 a xs ∧ R (IteT K a) H1
theorem pi_enT {X : Cx} {e : Expr} {ta : TA} {p pos tpos : Pos} {elts : List Expr} {kk : Nat} (hg : Gl X "enumerate") (hm : X.mg "enumerate" = none) (ha : PA X [e] ta) (hs : starEach [e] X.env = [(false, eval e X.env)] := by rfl) :
    PI X (.Tuple elts kk tpos) (.Call (.Name "enumerate" p) [e] [] pos) (iEnT X.K ta) := by
  refine ⟨fun pins s σ H R I h => Call_ (ld_blt I hg hm boot_enumerate (PyProof.Rows.callWith_type1 (thn (ha.run pos pins s σ H _ I h) fun us s1 ⟨vs, H1, I1, r1, q1⟩ => ?_) hs rfl))⟩
  obtain ⟨a, xs, rfl, hq, q⟩ := q1
  obtain ⟨u, rfl, ru⟩ := vals1 r1
  cases ru
  obtain ⟨its, rv, tp, _⟩ := I1.tuple hq
  have la : a < s1.heap.objs.size := by obtain ⟨_, z, _⟩ := tp; exact Heap.lt_size z
  refine call_enum1 (begins_tuple a its.toArray) tp fun en ito kp => wpAny_pyIter_enum en ?_
  refine ⟨_, [s1.heap.objs.size + 1, s1.heap.objs.size], _, _, H1, rfl, I1.kept (t' := s1.toks) kp, turn_enT a (s1.heap.objs.size + 1) s1.heap.objs.size, ⟨⟨.none, en⟩, ⟨_, ito, rfl, rfl⟩, Nat.succ_ne_self _, Nat.ne_of_lt la, Nat.ne_of_lt (Nat.lt_succ_of_lt la)⟩, fun b hb => ?_, q⟩
  have le : s1.heap.objs.size ≤ b := by
    rcases List.mem_cons.mp hb with rfl | hb
    · exact Nat.le_add_right _ _
    · rw [List.mem_singleton.mp hb]; exact Nat.le_refl _
  exact I1.fpOk le (I1.hok.fresh le)
theorem walk_enT {K : PySem.W.Frag} {a : Addr} {xs : List V} : Walk (IteT K a) xs.length (fun H => SqT K H a xs) (YPair (fun i => some (.int (i : Nat))) (fun i => xs[i]?)) := by
  refine ⟨fun i _ hi q => ⟨xs, xs[i], q, by simp [hi]⟩, fun _ q => ⟨xs, q, rfl⟩, fun i H v H' _ q y => ?_⟩
  obtain ⟨c, x, h1, h2, h3, h4⟩ := y
  exact ⟨c, .int (i : Nat), x, h1, h2, h3, rfl, h4 xs q⟩
end Lc
set_option Elab.async false
set_option linter.all false
set_option maxRecDepth 100000
set_option maxHeartbeats 4000000
namespace Lc
open PySem PySem.Spec PyProof.Rows L2
/-! ## Deep data that stands in the abstract heap -/
mutual
inductive Dh (H : Hp) : V → PyData → Prop
  | non : Dh H .non .none
  | bl (b : Bool) : Dh H (.bl b) (.bool b)
  | int (i : Int) : Dh H (.int i) (.int i)
  | str (x : Str) : Dh H (.str x) (.str x)
  | tup {a : Addr} {xs : List V} {ds : List PyData} (e : H a = some (.tup xs)) (h : DhAll H xs ds) : Dh H (.ref a) (.tuple ds)
  | lst {a : Addr} {xs : List V} {ds : List PyData} (e : H a = some (.lst xs)) (h : DhAll H xs ds) : Dh H (.ref a) (.list ds)
  | dct {a : Addr} (e : H a = some (.dK [])) : Dh H (.ref a) (.dict [])
inductive DhAll (H : Hp) : List V → List PyData → Prop
  | nil : DhAll H [] []
  | cons {v : V} {vs : List V} {d : PyData} {ds : List PyData} (h : Dh H v d) (r : DhAll H vs ds) : DhAll H (v :: vs) (d :: ds)
end
mutual
theorem Dh.same {H H' : Hp} (s : Same H H') : ∀ {v : V} {d : PyData}, Dh H v d → Dh H' v d
  | _, _, .non => .non
  | _, _, .bl b => .bl b
  | _, _, .int i => .int i
  | _, _, .str x => .str x
  | _, _, .tup e h => .tup (s _ _ e) (DhAll.same s h)
  | _, _, .lst e h => .lst (s _ _ e) (DhAll.same s h)
  | _, _, .dct e => .dct (s _ _ e)
theorem DhAll.same {H H' : Hp} (s : Same H H') : ∀ {vs : List V} {ds : List PyData}, DhAll H vs ds → DhAll H' vs ds
  | _, _, .nil => .nil
  | _, _, .cons h r => .cons (Dh.same s h) (DhAll.same s r)
end
def tyD : PyData → String
  | .none => "NoneType"
  | .bool _ => "bool"
  | .int _ => "int"
  | .str _ => "str"
  | .tuple _ => "tuple"
  | .list _ => "list"
  | .dict _ => "dict"
theorem Dh.ty {H : Hp} {v : V} {d : PyData} (h : Dh H v d) : TyN H v (tyD d) := by
  cases h with
  | non => exact .non
  | bl b => exact .bl b
  | int i => exact .int i
  | str x => exact .str x
  | tup e _ => exact .tup e
  | lst e _ => exact .lst e
  | dct e => exact .dct e
theorem DhAll.len {H : Hp} {vs : List V} {ds : List PyData} (h : DhAll H vs ds) : vs.length = ds.length := by
  match h with
  | .nil => rfl
  | .cons _ r => rw [List.length_cons, List.length_cons, DhAll.len r]
theorem DhAll.get {H : Hp} : ∀ {vs : List V} {ds : List PyData}, DhAll H vs ds → ∀ (i : Nat) (v : V), vs[i]? = some v → ∃ d, ds[i]? = some d ∧ Dh H v d
  | _, _, .nil, i, v, e => by simp at e
  | _, _, .cons h r, 0, v, e => by
    obtain rfl := Option.some.inj e
    exact ⟨_, rfl, h⟩
  | _, _, .cons h r, i + 1, v, e => by
    obtain ⟨d, e1, e2⟩ := DhAll.get r i v (by simpa using e)
    exact ⟨d, by simpa using e1, e2⟩
theorem DhAll.append {H : Hp} : ∀ {vs : List V} {ds : List PyData} {us : List V} {es : List PyData}, DhAll H vs ds → DhAll H us es → DhAll H (vs ++ us) (ds ++ es)
  | _, _, _, _, .nil, r => r
  | _, _, _, _, .cons h t, r => .cons h (DhAll.append t r)
mutual
theorem Dh.dp {K : PySem.W.Frag} {H : Hp} : ∀ {v : V} {d : PyData}, Dh H v d → d.hasDict = false → Dp K H v d
  | _, _, .non, _ => .non
  | _, _, .bl b, _ => .bl b
  | _, _, .int i, _ => .int i
  | _, _, .str x, _ => .str x
  | _, _, .tup e h, n => .tup (SqT.of e) (DhAll.dp h (by simpa [PyData.hasDict] using n))
  | _, _, .lst e h, n => .lst (SqL.of e) (DhAll.dp h (by simpa [PyData.hasDict] using n))
  | _, _, .dct e, n => by simp [PyData.hasDict] at n
theorem DhAll.dp {K : PySem.W.Frag} {H : Hp} : ∀ {vs : List V} {ds : List PyData}, DhAll H vs ds → PyData.hasDictAll ds = false → DpAll K H vs ds
  | _, _, .nil, _ => .nil
  | _, _, .cons h r, n => by
    rw [PyData.hasDictAll, Bool.or_eq_false_iff] at n
    exact .cons (Dh.dp h n.1) (DhAll.dp r n.2)
end
theorem Dh.shw {K : PySem.W.Frag} {H : Hp} {v : V} {d : PyData} (h : Dh H v d) (h1 : d.showable = true) (h2 : d.hasDict = false) (h3 : d.depth ≤ 60) (h4 : d.shown.length ≤ sizeLine) : Shw K H v d.shown := .data (h.dp h2) h1 h2 h3 h4
/-! ## How large it is when it is shown -/
structure Tm (k n : Nat) (d : PyData) : Prop where
  sh : d.showable = true
  nd : d.hasDict = false
  dz : d.depth ≤ k
  ln : d.shown.length ≤ n
theorem Tm.mono {k n k' n' : Nat} {d : PyData} (h : Tm k n d) (a : k ≤ k') (b : n ≤ n') : Tm k' n' d := ⟨h.sh, h.nd, Nat.le_trans h.dz a, Nat.le_trans h.ln b⟩
theorem tm_fl {v : V} {d : PyData} {s : String} (h : Fl v d s) : Tm 0 20000 d := ⟨h.sh, h.nd, Nat.le_of_eq h.dz, h.ln⟩
theorem tm_all {k n : Nat} : ∀ {ds : List PyData}, (∀ d ∈ ds, Tm k n d) → PyData.showableAll ds = true ∧ PyData.hasDictAll ds = false ∧ PyData.depthAll ds ≤ k ∧ ((PyData.shownAll ds).map (·.length)).sum ≤ n * ds.length ∧ (PyData.shownAll ds).length = ds.length
  | [], _ => ⟨rfl, rfl, Nat.zero_le _, by simp [PyData.shownAll], rfl⟩
  | d :: ds, h => by
    obtain ⟨h1, h2, h3, h4, h5⟩ := tm_all (ds := ds) fun x hx => h x (List.mem_cons_of_mem _ hx)
    have hd := h d List.mem_cons_self
    refine ⟨?_, ?_, ?_, ?_, ?_⟩
    · simp [PyData.showableAll, hd.sh, h1]
    · simp [PyData.hasDictAll, hd.nd, h2]
    · simp only [PyData.depthAll]
      have := hd.dz
      omega
    · simp only [PyData.shownAll, List.map_cons, List.sum_cons, List.length_cons]
      have := hd.ln
      rw [Nat.mul_succ]
      omega
    · simp [PyData.shownAll, h5]
theorem tm_tup {k n : Nat} {ds : List PyData} (h : ∀ d ∈ ds, Tm k n d) : Tm (k + 1) (n * ds.length + 2 * ds.length + 4) (.tuple ds) := by
  obtain ⟨h1, h2, h3, h4, h5⟩ := tm_all h
  refine ⟨by simpa [PyData.showable] using h1, by simpa [PyData.hasDict] using h2, ?_, ?_⟩
  · simp only [PyData.depth]
    omega
  · have := tupleText_len_le (PyData.shownAll ds)
    simp only [PyData.shown]
    omega
theorem tm_lst {k n : Nat} {ds : List PyData} (h : ∀ d ∈ ds, Tm k n d) : Tm (k + 1) (n * ds.length + 2 * ds.length + 4) (.list ds) := by
  obtain ⟨h1, h2, h3, h4, h5⟩ := tm_all h
  refine ⟨by simpa [PyData.showable] using h1, by simpa [PyData.hasDict] using h2, ?_, ?_⟩
  · simp only [PyData.depth]
    omega
  · have := listText_len_le (PyData.shownAll ds)
    simp only [PyData.shown]
    omega
theorem Dh.shwT {K : PySem.W.Frag} {H : Hp} {v : V} {d : PyData} {k n : Nat} (h : Dh H v d) (t : Tm k n d) (a : k ≤ 60) (b : n ≤ 3000000) : Shw K H v d.shown := h.shw t.sh t.nd (Nat.le_trans t.dz a) (Nat.le_trans t.ln (Nat.le_trans b (by decide)))
end Lc
set_option Elab.async false
set_option linter.all false
set_option maxRecDepth 100000
set_option maxHeartbeats 4000000
namespace Lc
open PySem PySem.Spec PyProof.Rows L2
/-! ## (x, y) * 0, (x, y) * 1 -/
theorem tuple_mul1 (l : Addr) (items : Array Value) (n : Nat) (dd : Option Addr) (sl : Array (Option Value)) (u : Tok) :
    Meets (Builtin.«tuple.__mul__» ⟨[.ref l, .int 1 u], []⟩) (fun _ R s => s.heap.get? l = some { cls := .type "tuple", dict := dd, data := .seq items n, slots := sl } ∧ R (.ok (.ret (Value.ref l))) s) :=
  .of_wp fun prog w A R s h => by
    obtain ⟨hp, g, d, tk, os⟩ := s
    obtain ⟨hl, h⟩ := h
    have f1 := AutoSeq1.idx_int
    have c0 : (decide ((1 : Int) < -(2 ^ 63)) || decide ((1 : Int) ≥ 2 ^ 63)) = false := by decide
    have c1 : (items.isEmpty || (1 : Int) == 1) = true := by simp
    wp_walk using wpAny_loadPart' hl
    repeat (first
      | (refine wpAny_ite_false (decide_eq_false (by rw [c0]; exact Bool.false_ne_true)) ?_; wp_walk using wpAny_loadPart' hl)
      | (refine wpAny_ite_true (decide_eq_true c1) ?_; wp_walk using wpAny_loadPart' hl))
    exact ⟨_, rfl, h⟩
theorem tuple_mul0 (l : Addr) (items : Array Value) (n : Nat) (dd : Option Addr) (sl : Array (Option Value)) (u : Tok) (hne : items.isEmpty = false) :
    Meets (Builtin.«tuple.__mul__» ⟨[.ref l, .int 0 u], []⟩) (fun _ R s => s.heap.get? l = some { cls := .type "tuple", dict := dd, data := .seq items n, slots := sl } ∧
      R (.ok (.ret (Value.ref s.heap.objs.size))) { s with heap := s.heap.push { cls := Value.type "tuple", data := Data.seq #[] } }) :=
  .of_wp fun prog w A R s h => by
    obtain ⟨hp, g, d, tk, os⟩ := s
    obtain ⟨hl, h⟩ := h
    have f1 := AutoSeq1.idx_int
    have c0 : (decide ((0 : Int) < -(2 ^ 63)) || decide ((0 : Int) ≥ 2 ^ 63)) = false := by decide
    have c1 : (items.isEmpty || (0 : Int) == 1) = false := by rw [hne]; rfl
    have c2 : (decide ((0 : Int) ≤ 0) || items.isEmpty) = true := by simp
    wp_walk using wpAny_loadPart' hl
    repeat (first
      | (refine wpAny_ite_false (decide_eq_false (by rw [c0]; exact Bool.false_ne_true)) ?_; wp_walk using wpAny_loadPart' hl)
      | (refine wpAny_ite_false (decide_eq_false (by rw [c1]; exact Bool.false_ne_true)) ?_; wp_walk using wpAny_loadPart' hl)
      | (refine wpAny_ite_true (decide_eq_true c2) ?_; wp_walk using wpAny_loadPart' hl))
    exact ⟨_, rfl, h⟩
def rRep01 (K : PySem.W.Frag) : R2 := fun x y H Q => ∃ l k xs, x = .ref l ∧ y = .int k ∧ SqT K H l xs ∧ xs ≠ [] ∧ ((k = 1 ∧ Q (.ref l) H) ∨ (k = 0 ∧ ∀ p, H p = none → Q (.ref p) (upd H p (.tup []))))
section
variable {X : Cx}
theorem op_rep01 : OpR X (binaryOp .Mult) (rRep01 X.K) := by
  intro pins s σ H x y v u Q I rx ry h
  obtain ⟨l, k, xs, rfl, rfl, hT, hne, h⟩ := h
  cases rx
  obtain ⟨t, rfl⟩ := ry
  obtain ⟨its, r, ⟨⟨cls, dd, data, sl⟩, ho, hc, n, hd⟩, hs⟩ := I.tuple hT
  simp only at hc hd
  subst hc hd
  have hle : its.length = xs.length := r.length.symm
  have hn : its ≠ [] := fun e => hne (by
    rw [e] at hle
    exact List.eq_nil_of_length_eq_zero hle.symm)
  have hi : its.toArray.isEmpty = false := by
    cases its with
    | nil => exact absurd rfl hn
    | cons a b => rfl
  rcases h with ⟨rfl, q⟩ | ⟨rfl, q⟩
  · exact wpAny_binaryOp_repeat_ref (T := "tuple") (U := "int") (by decide) ⟨_, ho, rfl⟩ (fun s' => typeIs_int s' 1 t) noFill_tuple_mul F.fills_int_mul F.slot_int_rmul repeat_tuple F.slot_int_index.lookup
      (call_meets F.slot_int_rmul (typeIs_int s 1 t) F.entry_int_rmul (F.args_int_rmul_2 _ _) (int_rmul_tuple 1 t l its.toArray n dd sl)
        ⟨ho, rfl, ⟨_, ho, rfl⟩, call_meets F.slot_tuple_mul ⟨_, ho, rfl⟩ F.entry_tuple_mul (F.args_tuple_mul_2 _ _) (tuple_mul1 l its.toArray n dd sl t) ⟨ho, .ref l, H, I, rfl, q⟩⟩)
  · refine wpAny_binaryOp_repeat_ref (T := "tuple") (U := "int") (by decide) ⟨_, ho, rfl⟩ (fun s' => typeIs_int s' 0 t) noFill_tuple_mul F.fills_int_mul F.slot_int_rmul repeat_tuple F.slot_int_index.lookup
      (call_meets F.slot_int_rmul (typeIs_int s 0 t) F.entry_int_rmul (F.args_int_rmul_2 _ _) (int_rmul_tuple 0 t l its.toArray n dd sl)
        ⟨ho, rfl, ⟨_, ho, rfl⟩, call_meets F.slot_tuple_mul ⟨_, ho, rfl⟩ F.entry_tuple_mul (F.args_tuple_mul_2 _ _) (tuple_mul0 l its.toArray n dd sl t hi) ⟨ho, ?_⟩⟩)
    refine ⟨.ref s.heap.objs.size, _, I.laid (t' := s.toks) (o := .tup []) (fun b ob q => Heap.get?_push_of_some _ q) (Nat.le_refl _) ?_, rfl, q _ (I.hok.fresh (Nat.le_refl _))⟩
    exact ⟨Nat.zero_le _, [], .nil, IsTup.new _ _⟩
/-! ## What is never reached -/
theorem pss_dead {b : List Stmt} : PSs X b (fun _ _ _ => False) := ⟨fun _ _ _ _ _ _ h => h.elim⟩
theorem pg_dead {e : Expr} : PG X e (fun _ _ _ _ => False) := ⟨fun _ _ _ _ _ _ _ _ _ h => h.elim⟩
/-! ## C(e, ..) in a try -/
def tMakeS (C : Addr) (sp : Sp) (E : L2.St → XK) (t : TA) : TE := fun σ H Q => t σ H fun vs H1 => ∀ x dx, H1 x = none → H1 dx = none → dx ≠ x →
  sp (.ref x :: vs) (upd (upd H1 dx (.own x)) x (.ins C dx [])) (fun v H2 => v = .non ∧ Q (.ref x) H2) (E σ)
theorem pe_makeS {CX : CXT} {k : Nat} {C f : Addr} {fd : FuncData} {ps : List Str} {sp : Sp} {E : L2.St → XK} {x : Str} {p pos : Pos} {e : Expr} {es : List Expr} {t : TA}
    (M : Mk X.K C f) (F : FnOk X.prog X.w X.K X.mg X.base CX k f fd ps sp) (hr : Room (k + 1) X.A) (hg : Gl X x) (hm : X.mg x = some (.ref C)) (hb : Binds X.K fd ps []) (hx : ∀ σ, PassesAt CX X σ (E σ))
    (ha : PA X (e :: es) t) (hdb : (x == ("__debug__" : Str)) = false := by decide) (he : starEach (e :: es) X.env = (false, eval e X.env) :: starEach es X.env := by rfl) (hpl : (backTo pos (starEach es X.env)).any (·.1) = false := by rfl) :
    PE X (.Call (.Name x p) (e :: es) [] pos) (tMakeS C sp E t) := by
  refine ⟨fun pins s0 σ H0 Q I0 h0 => ?_⟩
  refine wpAny_Call_Name_kw (ld_glob I0 hg hm ?_ hdb)
  refine PySem.W.callWith_K (h₀ := X.base) I0.ok.mod.kin M.kp (thn (ha.run pos pins s0 σ H0 _ I0 h0) fun us s ⟨vs, H, I, r, h⟩ => ⟨I.kIn, ?_⟩) he hpl
  have hq := h (s.heap.objs.size + 1) s.heap.objs.size (I.hok.fresh (Nat.le_succ _)) (I.hok.fresh (Nat.le_refl _)) (Nat.ne_of_lt (Nat.lt_succ_self _))
  have I2 := Inv.made (C := C) I
  have r2 : Vals (V.ref (s.heap.objs.size + 1) :: vs) (Value.ref (s.heap.objs.size + 1) :: us) := .cons rfl r
  have hl : (Value.ref (s.heap.objs.size + 1) :: us).length = ps.length := by
    have e := r2.length
    rw [F.len _ _ _ _ hq] at e
    exact e.symm
  refine wpAny_call (make_map (f := f) I.kIn M.makes M.init (beq_iff_eq.mp M.fn) (codeAny_mono (F.run _ X.stack _ _ ⟨Value.ref (s.heap.objs.size + 1) :: us, []⟩ (Value.ref (s.heap.objs.size + 1) :: us) _ _ (E σ) (hr.make C us [])
    (I2.env0.make C us []) (by
      have z := hb _ (Value.ref (s.heap.objs.size + 1) :: us) I2.kIn (by rw [List.append_nil]; exact hl)
      rw [List.append_nil] at z
      exact z) r2 hq) fun r s' hq' => ?_))
  cases r with
  | error e => exact hx σ pins _ _ e s' I2 hq'
  | ok fl =>
    cases fl with
    | ret u =>
      obtain ⟨v, H', I3, rv, ev, q3⟩ := I2.after hq'
      subst ev
      exact ⟨rv, ⟨V.ref (s.heap.objs.size + 1), H', I3, rfl, q3⟩⟩
    | next => exact False.elim hq'
    | brk => exact False.elim hq'
    | cont => exact False.elim hq'
/-! ## len(o), o of an own class -/
structure LenC (K : PySem.W.Frag) (C f : Addr) : Prop where
  at_ : PySem.W.findIn K (.ref C) "__len__" = some (some (.ref f))
  fn : PySem.W.isFn K (.ref f) = true
def rLenI (C : Addr) (sp : Sp) : List V → Hp → VK → Prop := fun xs H Q => ∃ a dx fs, xs = [.ref a] ∧ H a = some (.ins C dx fs) ∧ sp [.ref a] H (fun v H' => ∃ n : Int, v = .int n ∧ 0 ≤ n ∧ n < 2 ^ 63 ∧ Q (.int n) H') E0
theorem call_lenI {k : Nat} {C f : Addr} {fd : FuncData} {ps : List Str} {sp : Sp} (c : LenC X.K C f) (F : FnOk X.prog X.w X.K X.mg X.base CX0 k f fd ps sp) (hr : Room (k + 1) X.A) (hb : Binds X.K fd ps []) : CallR X (.builtin "len") (rLenI C sp) := by
  intro pins s σ H xs us Q I rv h
  obtain ⟨a, dx, fs, rfl, ha, hsp⟩ := h
  obtain ⟨u, rfl, ru⟩ := vals1 rv
  cases ru
  obtain ⟨mA, J, _⟩ := ins_get I.hok ha
  obtain ⟨od, J, _⟩ := J.look
  refine Calls.call_function_entry kind_len plain_len entry_len (args_len1 _) ?_
  unfold Builtin.«len»
  refine wpAny_bind (m := oneArg "len" _) (wpAny_pure ?_)
  refine wpAny_bind (m := callSpecial? (.ref a) (Str.ofString "__len__")) (PySem.W.special_fn I.kIn J c.at_ (beq_iff_eq.mp c.fn) ?_)
  have e0 : Env0 X.prog X.w X.K X.mg X.base X.A.in1 X.stack s H := by
    have e := I.env0
    exact ⟨e.frames, e.mod, e.bs, e.bsz, e.funs, e.frf, e.hok, e.bare⟩
  have hl := F.len _ _ _ _ hsp
  have r2 : Vals [V.ref a] [Value.ref a] := .cons rfl .nil
  refine wpAny_call (codeAny_mono (F.run X.A.in1 X.stack s H ⟨[.ref a], []⟩ [.ref a] [.ref a] _ _ hr.in1 e0 (by
    have := hb s [.ref a] I.kIn (by simpa using hl)
    simpa using this) r2 hsp) fun r s' hq => ?_)
  cases r with
  | error e => exact hq.elim
  | ok fl =>
    cases fl with
    | ret u =>
      obtain ⟨v, H', I3, rv, n, rfl, h0, h1, q3⟩ := I.after hq
      obtain ⟨t, rfl⟩ := rv
      refine wpAny_bind (wpAny_holding (wpAny_pure ?_))
      refine wpAny_bind (wpAny_letGo ?_)
      show wpAny _ _ (if n < 0 then _ else _) _ _ _
      rw [if_neg (by omega)]
      show wpAny _ _ (if n ≥ 2 ^ 63 then _ else _) _ _ _
      rw [if_neg (by omega)]
      exact wpAny_bind (wpAny_mkInt (wpAny_pure ⟨_, rfl, .int n, H', I3.tok _, ⟨_, rfl⟩, q3⟩))
    | next => exact False.elim hq
    | brk => exact False.elim hq
    | cont => exact False.elim hq
end
end Lc
set_option Elab.async false
set_option linter.all false
set_option maxRecDepth 100000
set_option maxHeartbeats 4000000
namespace Lc
open PySem PySem.Spec PyProof.Rows L2
/-! ## Names that are drawn are names -/
theorem name_of {l : List Nat} {x : Str} (e : x.cps.toList = l) (ne : l ≠ []) (ln : l.length ≤ 12) (h1 : ∀ c r, l = c :: r → inL c = true) (h2 : ∀ c ∈ l, inS c = true) : nameB (.str x) = true := by
  show nameL x.cps.toList = true
  rw [e]
  cases l with
  | nil => exact absurd rfl ne
  | cons c r =>
    show (decide ((c :: r).length ≤ 12) && (inL c && (c :: r).all inS)) = true
    rw [decide_eq_true ln, h1 c r rfl, List.all_eq_true.mpr h2]
    rfl
theorem name_has {x : Str} (h : nameB (.str x) = true) : x.cps.toList ≠ [] ∧ x.cps.toList.length ≤ 12 ∧ (∀ c r, x.cps.toList = c :: r → inL c = true) ∧ ∀ c ∈ x.cps.toList, inS c = true := by
  have h : nameL x.cps.toList = true := h
  generalize x.cps.toList = l at h
  cases l with
  | nil => cases h
  | cons c r =>
    have h : (decide ((c :: r).length ≤ 12) && (inL c && (c :: r).all inS)) = true := h
    obtain ⟨a, h⟩ := Bool.and_eq_true_iff.mp h
    obtain ⟨b, h⟩ := Bool.and_eq_true_iff.mp h
    exact ⟨List.cons_ne_nil _ _, of_decide_eq_true a, fun c' r' e => by cases e; exact b, List.all_eq_true.mp h⟩
theorem app_list (x y : Str) : (x ++ y).cps.toList = x.cps.toList ++ y.cps.toList := by
  show (x.cps ++ y.cps).toList = _
  simp
theorem mul_list (i : Int) : (Txt.mul (PySem.Str.ofString "a") i).cps.toList = List.replicate i.toNat 97 := by
  have ea : (PySem.Str.ofString "a").cps.toList = [97] := by decide +kernel
  have el : ((PySem.Str.ofString "a").length == 0) = false := by decide +kernel
  unfold Txt.mul
  by_cases h1 : i < 1
  · rw [if_pos h1, show i.toNat = 0 by omega]
    rfl
  · rw [if_neg h1, el, Bool.or_false]
    by_cases h2 : (i == 1) = true
    · rw [if_pos h2, ea, show i.toNat = 1 by have := beq_iff_eq.mp h2; omega]
      rfl
    · rw [if_neg h2]
      show ((List.replicate i.toNat (PySem.Str.ofString "a").cps).foldl (· ++ ·) #[]).toList = _
      rw [foldl_app]
      simp only [List.map_replicate, ea]
      generalize i.toNat = n
      induction n with
      | zero => rfl
      | succ n ih =>
        rw [List.replicate_succ, List.replicate_succ]
        simpa using ih
theorem sgn_at {i : Int} (h0 : 0 ≤ i) (h1 : i < 36) : ∃ c, atI signs.cps.toList i = some c ∧ c ∈ signs.cps.toList ∧ inS c = true ∧ (i < 26 → inL c = true) := by
  obtain ⟨n, rfl⟩ : ∃ n : Nat, i = (n : Int) := ⟨i.toNat, by omega⟩
  have h : n < signs.cps.toList.length := by rw [signs_len]; omega
  have m := List.getElem_mem h
  refine ⟨signs.cps.toList[n], atI_nat (List.getElem?_eq_getElem h), m, decide_eq_true m, fun l => ?_⟩
  have all : ∀ k : Fin 26, (signs.cps.toList[k.1]?).all inL = true := by decide +kernel
  have z := all ⟨n, by omega⟩
  rw [List.getElem?_eq_getElem h] at z
  exact z
theorem in97 : inL 97 = true ∧ inS 97 = true := by decide +kernel
theorem name_one {k m : Int} {c : Nat} (h0 : 0 ≤ k) (hm : 0 ≤ m) (l : k + m ≤ 11) (hs : inS c = true) (hl : k = 0 → inL c = true) : nameB (.str (Txt.mul (PySem.Str.ofString "a") k ++ ⟨#[c]⟩ ++ Txt.mul (PySem.Str.ofString "a") m)) = true := by
  have e : (Txt.mul (PySem.Str.ofString "a") k ++ (⟨#[c]⟩ : Str) ++ Txt.mul (PySem.Str.ofString "a") m).cps.toList = List.replicate k.toNat 97 ++ [c] ++ List.replicate m.toNat 97 := by
    rw [app_list, app_list, mul_list, mul_list]
  refine name_of e (by simp) (by simp; omega) (fun c' r' q => ?_) (fun c' q => ?_)
  · by_cases z : k = 0
    · subst z
      have q : c :: List.replicate m.toNat 97 = c' :: r' := q
      cases q
      exact hl rfl
    · obtain ⟨n, hn⟩ : ∃ n, k.toNat = n + 1 := ⟨k.toNat - 1, by omega⟩
      rw [hn, List.replicate_succ] at q
      cases q
      exact in97.1
  · rcases List.mem_append.mp q with q | q
    · rcases List.mem_append.mp q with q | q
      · rw [List.eq_of_mem_replicate q]; exact in97.2
      · rw [List.mem_singleton.mp q]; exact hs
    · rw [List.eq_of_mem_replicate q]; exact in97.2
theorem glued_list : ∀ (cs : List Nat), (Str.join Str.empty (cs.map fun c => (⟨#[c]⟩ : Str))).cps.toList = cs
  | [] => rfl
  | [c] => rfl
  | c :: d :: r => by
    have ih := glued_list (d :: r)
    have e : Str.join Str.empty ((c :: d :: r).map fun c => (⟨#[c]⟩ : Str)) = (⟨#[c]⟩ : Str) ++ Str.empty ++ Str.join Str.empty ((d :: r).map fun c => (⟨#[c]⟩ : Str)) := rfl
    rw [e, app_list, app_list, ih]
    rfl
theorem name_join {cs : List Nat} (ne : cs ≠ []) (ln : cs.length ≤ 12) (h1 : ∀ c r, cs = c :: r → inL c = true) (h2 : ∀ c ∈ cs, inS c = true) : nameB (.str (Txt.join (PySem.Str.ofString "") (cs.map fun c => (⟨#[c]⟩ : Str)))) = true := by
  have e : Txt.join (PySem.Str.ofString "") (cs.map fun c => (⟨#[c]⟩ : Str)) = Str.join Str.empty (cs.map fun c => (⟨#[c]⟩ : Str)) := (StrLaws.glued_eq_join (PySem.Str.ofString "") _).trans rfl
  rw [e]
  exact name_of (glued_list cs) ne ln h1 h2
theorem cut_list (x : Str) : (cutS x none (some 11)).cps.toList = x.cps.toList.take 11 := by
  unfold cutS
  rw [lenL]
  simp [HT.sIx]
theorem name_cut {x : Str} {c : Nat} (h : nameB (.str x) = true) (hc : inS c = true) : nameB (.str (cutS x none (some 11) ++ ⟨#[c]⟩)) = true := by
  obtain ⟨a1, a2, a3, a4⟩ := name_has h
  have e : (cutS x none (some 11) ++ (⟨#[c]⟩ : Str)).cps.toList = x.cps.toList.take 11 ++ [c] := by rw [app_list, cut_list]
  refine name_of e (by simp) (by simp; omega) (fun c' r' q => ?_) (fun c' q => ?_)
  · cases z : x.cps.toList with
    | nil => exact absurd z a1
    | cons d r =>
      rw [z] at q
      have q : d :: (r.take 10 ++ [c]) = c' :: r' := q
      injection q with q1 _
      rw [← q1]
      exact a3 d r z
  · rcases List.mem_append.mp q with q | q
    · exact a4 c' (List.mem_of_mem_take q)
    · rw [List.mem_singleton.mp q]; exact hc
/-! ## Some letter is free -/
theorem pigeon {α : Type} [DecidableEq α] : ∀ {l m : List α}, l.Nodup → (∀ x ∈ l, x ∈ m) → l.length ≤ m.length
  | [], _, _, _ => Nat.zero_le _
  | x :: l, m, n, h => by
    obtain ⟨n1, n2⟩ := List.nodup_cons.mp n
    have hx := h x List.mem_cons_self
    have := pigeon (l := l) (m := m.erase x) n2 fun y hy => (List.mem_erase_of_ne (fun e => n1 (by rw [← e]; exact hy))).mpr (h y (List.mem_cons_of_mem _ hy))
    rw [List.length_erase_of_mem hx] at this
    have := List.length_pos_of_mem hx
    rw [List.length_cons]
    omega
theorem in_strs {z : Str} {ss : List Str} : inV (.str z) (ss.map V.str) = decide (z ∈ ss) := by
  rw [Bool.eq_iff_iff, decide_eq_true_iff]
  unfold inV
  rw [List.any_eq_true]
  constructor
  · rintro ⟨y, hy, e⟩
    obtain ⟨s, hs, rfl⟩ := List.mem_map.mp hy
    have : s = z := by simpa [eqV] using e
    rw [← this]; exact hs
  · intro h
    exact ⟨.str z, List.mem_map.mpr ⟨z, h, rfl⟩, by simp [eqV]⟩
theorem free_letter {x : Str} {ss : List Str} (l : ss.length < 36) (h : ∀ c ∈ signs.cps.toList, cutS x none (some 11) ++ (⟨#[c]⟩ : Str) ∈ ss) : False := by
  have inj : ∀ c d : Nat, cutS x none (some 11) ++ (⟨#[c]⟩ : Str) = cutS x none (some 11) ++ (⟨#[d]⟩ : Str) → c = d := fun c d e => by
    have e := congrArg (fun s : Str => s.cps.toList) e
    simp only [app_list] at e
    have := List.append_cancel_left e
    simpa using this
  have nd : signs.cps.toList.Nodup := by decide +kernel
  have := pigeon (l := signs.cps.toList.map fun c => cutS x none (some 11) ++ (⟨#[c]⟩ : Str)) (m := ss) (List.Pairwise.map _ (fun a b n e => n (inj a b e)) nd) fun y hy => by
    obtain ⟨c, hc, rfl⟩ := List.mem_map.mp hy
    exact h c hc
  rw [List.length_map, signs_len] at this
  omega
end Lc
set_option Elab.async false
set_option linter.all false
set_option maxRecDepth 100000
set_option maxHeartbeats 4000000
namespace Lc
open PySem PySem.Spec PyProof.Rows L2
/-! ## o.m(e, .., k = v, ..) -/
def tMethK (C : Addr) (m : Str) (n l : Nat) (sp : Sp) (gV : List V → List V → List V) (E : XK) (ta : TE) (t tk : TA) : TE := fun σ H Q => ta σ H fun x H1 => ∃ a dx fs, x = .ref a ∧ H1 a = some (.ins C dx fs) ∧ fs.lookup m = none ∧
  t σ H1 fun vs H2 => tk σ H2 fun zs H3 => vs.length = n ∧ zs.length = l ∧ sp (gV (x :: vs) zs) H3 Q E
section
variable {X : Cx} {CX : CXT} {k n : Nat} {f C : Addr} {fd : FuncData} {ps ks : List Str} {sp : Sp} {E : XK} {m : Str} {pos apos : Pos} {e o : Expr} {es : List Expr} {kws : List Keyword} {ta : TE} {t tk : TA} {g : List Value → List Value → List Value} {gV : List V → List V → List V}
theorem pe_methK {pl : Sem Bool} (he : PE X o ta) (c : Cls X.K C) (hm : Meth X.K C m f) (F : FnOk X.prog X.w X.K X.mg X.base CX k f fd ps sp) (hr : Room k X.A) (hb : KBn X.K fd ps (n + 1) ks g gV) (hx : Passes CX X E) (ha : PA X (e :: es) t) (hkw : PK X kws tk)
    (hall : (backToKw pos (keywordEach kws X.env)).all (·.1.isSome) = true := by rfl) (hks : (backToKw pos (keywordEach kws X.env)).filterMap (·.1) = ks := by rfl) (hst : starEach (e :: es) X.env = (false, eval e X.env) :: starEach es X.env := by rfl)
    (hpl : ((backTo pos (starEach (e :: es) X.env)).any (·.1) || (backToKw pos (keywordEach kws X.env)).any (·.1.isNone)) = false := by rfl)
    (ht : eval (.Call (.Attribute o m apos) (e :: es) kws pos) X.env = (do
      let ov ← eval o X.env
      standAt apos.atName
      let (f, first) ← holding [ov] (getMethod ov m pl)
      callWith pos f first (backTo pos (starEach (e :: es) X.env)) (backToKw pos (keywordEach kws X.env))) := by rfl) :
    PE X (.Call (.Attribute o m apos) (e :: es) kws pos) (tMethK C m n ks.length sp gV E ta t tk) := by
  refine ⟨fun pins s σ H Q I h => ?_⟩
  refine PySem.W.methodCall_KW (pl := pl) (thn (he.run pins s σ H _ I h) fun u s1 ⟨x, H1, I1, rx, a, dx, fs, ex, ea, l, q⟩ => ?_) ht
  subst ex
  obtain rfl : u = Value.ref a := rx
  refine getmeth_ok I1 ea c hm l ?_
  refine PySem.W.callWith_KW (first := [.ref a]) (h₀ := X.base) I.ok.mod.kin hm.kp hall (thn (ha.run pos pins s1 σ H1 _ I1 q) fun us s2 ⟨vs, H2, I2, r, q2⟩ => ?_) hpl hst
  refine thn (hkw.run pos pins s2 σ H2 _ I2 q2) fun ws s3 ⟨zs, H3, I3, rz, l1, l2, q3⟩ => ⟨I3.kIn, ?_⟩
  rw [hks]
  exact run_fnN (us := .ref a :: us) (vs := .ref a :: vs) F hr hb hx I3 (.cons rfl r) rz (by rw [List.length_cons, l1]) l2 q3
end
theorem kbN {K : PySem.W.Frag} {x qual : Str} {params : Arguments} {body : List Stmt} {scope : Scope} {kws : List (Str × V)} {f : Addr} {fd : FuncData} {ps ks : List Str} {n : Nat} (F : FunD K x qual params body scope [] kws f fd)
    (h : ∀ (kV doc pm : Value) (an : Option Addr) (cdv ct : Value) (us ws : List Value), us.length = n → ws.length = ks.length → bindArgs (PySem.W.fnOf x qual params body scope .none kV doc pm an cdv ct) ⟨us, ks.zip ws⟩ = pure (ps.zip (us ++ ws))) : KBn K fd ps n ks (fun us ws => us ++ ws) (fun vs zs => vs ++ zs) := by
  obtain ⟨oc, od, dV, kV, doc, pm, an, cdv, ct, osl, rfl, lk, hcd, hD, hK⟩ := F.ex
  rcases hD with ⟨_, rfl⟩ | ⟨e, _⟩
  · exact ⟨fun s us ws X l1 l2 => .of_eq (h kV doc pm an cdv ct us ws l1 l2), fun r1 r2 => r1.append r2⟩
  · exact absurd rfl e
/-! ## Data without lists: it stands as long as the tuples stand -/
def SameT (H H' : Hp) : Prop := ∀ b xs, H b = some (.tup xs) → H' b = some (.tup xs)
theorem SameT.refl (H : Hp) : SameT H H := fun _ _ e => e
theorem SameT.trans {H H1 H2 : Hp} (a : SameT H H1) (b : SameT H1 H2) : SameT H H2 := fun c xs e => b c xs (a c xs e)
theorem SameT.of {H H' : Hp} (s : Same H H') : SameT H H' := fun b xs e => s _ _ e
theorem SameT.b {t : Addr} {H H' : Hp} (T : Tape H t) (s : SameB t H H') : SameT H H' := fun b xs e => s _ _ (T.neT e) e
theorem SameT.at {a : Addr} {H H' : Hp} {o : HO} (h : H a = some o) (n : ∀ xs, o ≠ .tup xs) (s : SameB a H H') : SameT H H' := fun b xs e => s _ _ (fun z => by rw [z, h] at e; exact n xs (Option.some.inj e)) e
theorem SameT.lst {H : Hp} {a : Addr} {ys : List V} {o : HO} (h : H a = some (.lst ys)) : SameT H (upd H a o) := fun b xs e => by rw [upd_ne (ne_of e h nofun)]; exact e
mutual
def noL : PyData → Bool
  | .list _ => false
  | .dict _ => false
  | .tuple ds => noLs ds
  | _ => true
def noLs : List PyData → Bool
  | [] => true
  | d :: ds => noL d && noLs ds
end
mutual
theorem Dh.t {H H' : Hp} (s : SameT H H') : ∀ {v : V} {d : PyData}, Dh H v d → noL d = true → Dh H' v d
  | _, _, .non, _ => .non
  | _, _, .bl b, _ => .bl b
  | _, _, .int i, _ => .int i
  | _, _, .str x, _ => .str x
  | _, _, .tup e h, n => .tup (s _ _ e) (DhAll.t s h (by simpa [noL] using n))
  | _, _, .lst e h, n => by simp [noL] at n
  | _, _, .dct e, n => by simp [noL] at n
theorem DhAll.t {H H' : Hp} (s : SameT H H') : ∀ {vs : List V} {ds : List PyData}, DhAll H vs ds → noLs ds = true → DhAll H' vs ds
  | _, _, .nil, _ => .nil
  | _, _, .cons h r, n => by
    rw [noLs, Bool.and_eq_true_iff] at n
    exact .cons (Dh.t s h n.1) (DhAll.t s r n.2)
end
theorem noLs_app {a b : List PyData} : noLs (a ++ b) = (noLs a && noLs b) := by
  induction a with
  | nil => rfl
  | cons x a ih => rw [List.cons_append, noLs, noLs, ih, Bool.and_assoc]
theorem noLs_all {a : List PyData} : noLs a = true ↔ ∀ d ∈ a, noL d = true := by
  induction a with
  | nil => exact ⟨fun _ => nofun, fun _ => rfl⟩
  | cons x a ih =>
    rw [noLs, Bool.and_eq_true_iff, ih]
    constructor
    · rintro ⟨h1, h2⟩ d hd
      rcases List.mem_cons.mp hd with rfl | hd
      · exact h1
      · exact h2 d hd
    · exact fun h => ⟨h x List.mem_cons_self, fun d hd => h d (List.mem_cons_of_mem _ hd)⟩
end Lc
set_option Elab.async false
set_option linter.all false
set_option maxRecDepth 100000
set_option maxHeartbeats 4000000
namespace Lc
open PySem PySem.Spec PyProof.Rows L2
/-! ## == and != of an instance whose class has an own __eq__ and no own __ne__ -/
structure EqC (K : PySem.W.Frag) (C f : Addr) : Prop where
  eq : PySem.W.findIn K (.ref C) "__eq__" = some (some (.ref f))
  fn : PySem.W.isFn K (.ref f) = true
  ne : PySem.W.findIn K (.ref C) "__ne__" = some (some (.builtin "object.__ne__"))
  ob : PySem.W.subIn K (.ref C) (.type "object") = some true
section
variable {prog : Program} {w : World} {A : Around} {E : Value → Shared → Prop} {s : Shared} {K : PySem.W.Frag} {x C L f : Addr} {h₀ : Heap} {m : Str → Option Value} {ox : Obj} {od : Option Obj} {b tb : Value}
/-- object.__ne__ asks the own __eq__ -/
theorem ne_bodyK {Q : Value → Shared → Prop} (hu : A.units < cLine) (X : K.In s.heap) (I : PySem.W.InstAt s.heap x ox C od) (c : EqC K C f)
    (h : wpAny (model prog w) A (call (.ref f) [.ref x, b]) (fun v s' => ∃ k, v = .bool k ∧ Q (.bool (!k)) s') E s) :
    wpAny (model prog w) A (Builtin.«object.__ne__» ⟨[.ref x, b], []⟩) (fun fin s' => ∃ v, fin = .done (.ret v) ∧ Q v s') E s := by
  unfold Builtin.«object.__ne__»
  refine wpAny_bind (m := slotArgs "__ne__" 1 ⟨[.ref x, b], []⟩) (wpAny_pure ?_)
  refine wpAny_bind (wpAny_cRoomFor hu ?_)
  refine wpAny_bind (m := callSpecialIfBound? (.ref x) (Str.ofString "__eq__") [b]) (PySem.W.ifBound_K X I c.eq c.fn (wpAny_mono h (fun r s' hr => ?_) fun _ _ e => e))
  obtain ⟨k, rfl, hq⟩ := hr
  refine wpAny_bind (m := truthy (.bool k)) (wpAny_truthy_bool ?_)
  exact wpAny_pure ⟨_, rfl, hq⟩
theorem ne_K {Q : Value → Shared → Prop} (hu : A.units + 1 < cLine) (X : K.In s.heap) (I : PySem.W.InstAt s.heap x ox C od) (hb : PySem.W.Looks (model prog w) s.heap (typeOf b) tb) (hn : PySem.W.notFirst K C tb = true) (c : EqC K C f)
    (h : wpAny (model prog w) A.in1 (call (.ref f) [.ref x, b]) (fun v s' => ∃ k, v = .bool k ∧ Q (.bool (!k)) s') E s) : wpAny (model prog w) A (richCompare .NotEq (.ref x) b) Q E s := by
  have iob : PySem.W.Looks (model prog w) s.heap (isInstance (.ref x) (.type "object")) true := I.type.andThen (PySem.W.looks_subIn X c.ob)
  have sp : PySem.W.Looks (model prog w) s.heap (specialOf (.ref x) "__ne__") (some (.builtin "object.__ne__")) := I.type.andThen (PySem.W.looks_findIn X c.ne)
  have hcall : wpAny (model prog w) A (call (.builtin "object.__ne__") [.ref x, b]) (fun v s' => ∃ k, v = .bool k ∧ Q (.bool k) s') E s := by
    refine wpAny_call (codeAny_call_builtin F.cmp_object.ne.plain F.cmpEntry_ne (PySem.W.check_slot F.cmpKind_ne F.cmpSplit_ne iob (F.cmpArgs_ne _ _) ?_))
    refine wpAny_mono (ne_bodyK (A := A.in1) (Q := fun v s' => ∃ k, v = .bool k ∧ Q (.bool k) s') hu X I c (wpAny_mono h (fun v s' hv => ?_) fun _ _ e => e)) (fun fin s' hf => ?_) fun _ _ e => e
    · obtain ⟨k, rfl, q⟩ := hv
      exact ⟨k, rfl, _, rfl, q⟩
    · obtain ⟨v, rfl, q⟩ := hf
      exact q
  have hbs : bindSpecial (.builtin "object.__ne__") (.ref x) = pure (.builtin "object.__ne__", [.ref x]) := by rfl
  have one : wpAny (model prog w) A (tryCompare (.ref x) "__ne__" b) (fun r s' => ∃ v, r = some v ∧ Q v s') E s := by
    unfold tryCompare
    refine wpAny_bind ?_
    simp only [callSpecialIfBound?, bindSpecialIfBound?]
    refine wpAny_holding (wpAny_bind (wpAny_bind (sp.here ?_)))
    refine wpAny_bind (wpAny_askSetting (wpAny_ite ?_))
    have fin : wpAny (model prog w) A (call (.builtin "object.__ne__") ([.ref x] ++ [b]) >>= fun v => pure (some v)) (fun r s' => wpAny (model prog w) A (match r with
        | some .notImplemented | none => pure none
        | some v => pure (some v)) (fun r s' => ∃ v, r = some v ∧ Q v s') E s') E s :=
      wpAny_bind (wpAny_mono hcall (fun v s' h' => by
        obtain ⟨k, rfl, q⟩ := h'
        exact wpAny_pure (wpAny_pure ⟨_, rfl, q⟩)) fun _ _ h' => h')
    split
    · exact wpAny_bind (wpAny_of_eq hbs (wpAny_pure (by exact fin)))
    · exact wpAny_tryCatch (wpAny_bind (wpAny_of_eq hbs (wpAny_pure (by exact fin))))
  unfold richCompare
  simp only [oneThing_ref]
  refine wpAny_holding (wpAny_bind (wpAny_cRoomFor (Nat.lt_of_succ_lt hu) ?_))
  refine wpAny_bind (I.type.here (wpAny_bind (hb.here ?_)))
  split
  · rename_i q
    have e : PySem.W.subIn K tb (.ref C) = some false := by
      rcases Bool.or_eq_true_iff.mp hn with e | e
      · rw [beq_iff_eq.mp e] at q; simp at q
      · exact beq_iff_eq.mp e
    refine wpAny_bind ((PySem.W.looks_subIn X e).here ?_)
    simp only [Bool.false_eq_true, if_false]
    refine wpAny_bind (wpAny_mono one (fun r s' z => ?_) fun _ _ e => e)
    obtain ⟨v, rfl, hq⟩ := z
    exact wpAny_pure hq
  · refine wpAny_bind (wpAny_pure ?_)
    simp only [Bool.false_eq_true, if_false]
    refine wpAny_bind (wpAny_mono one (fun r s' z => ?_) fun _ _ e => e)
    obtain ⟨v, rfl, hq⟩ := z
    exact wpAny_pure hq
end
/-- the right one: None, a list, an instance -/
inductive Rt3 (H : Hp) : V → Value → Prop
  | non : Rt3 H .non (.type "NoneType")
  | lst {a : Addr} {xs : List V} (e : H a = some (.lst xs)) : Rt3 H (.ref a) (.type "list")
  | ins {b C dx : Addr} {fs : List (Str × V)} (e : H b = some (.ins C dx fs)) : Rt3 H (.ref b) (.ref C)
section
variable {X : Cx}
theorem looks_rt3 {pins : List (Addr × Obj)} {σ : L2.St} {H : Hp} {s : Shared} {y : V} {u tb : Value} (I : Inv X pins σ H s) (ry : RelV y u) (h : Rt3 H y tb) : PySem.W.Looks (model X.prog X.w) s.heap (typeOf u) tb := by
  cases h with
  | non =>
    obtain rfl : u = Value.none := ry
    exact PySem.W.Looks.of_pure rfl
  | @lst a xs e =>
    obtain rfl : u = Value.ref a := ry
    obtain ⟨_, its, n, _, ho⟩ := (show ObjOk X.prog X.w H s.heap a (.lst xs) from I.hok a _ e)
    exact (PySem.W.Looks.ld ho).andThen .now
  | @ins b C dx fs e =>
    obtain rfl : u = Value.ref b := ry
    obtain ⟨mA, J, _⟩ := ins_get I.hok e
    obtain ⟨od, J, _⟩ := J.look
    exact J.type
def rEqI (K : PySem.W.Frag) (C : Addr) (sp : Sp) (neg : Bool) : R2 := fun x y H Q => ∃ a dx fs tb, x = .ref a ∧ H a = some (.ins C dx fs) ∧ Rt3 H y tb ∧ PySem.W.notFirst K C tb = true ∧ sp [.ref a, y] H (fun v H' => ∃ k, v = .bl k ∧ Q (.bl (if neg then !k else k)) H') E0
theorem call_own2 {k : Nat} {f a : Addr} {fd : FuncData} {ps : List Str} {sp : Sp} {A1 : Around} {pins : List (Addr × Obj)} {σ : L2.St} {H : Hp} {s : Shared} {y : V} {u : Value} {N : V → Hp → Prop} (F : FnOk X.prog X.w X.K X.mg X.base CX0 k f fd ps sp) (hb : Binds X.K fd ps []) (sb : Sub X k A1)
    (I : Inv X pins σ H s) (ry : RelV y u) (h : sp [.ref a, y] H N E0) : wpAny (model X.prog X.w) A1 (call (.ref f) [.ref a, u]) (fun v s' => ∃ z H', Inv X pins σ H' s' ∧ RelV z v ∧ N z H') X.xe s := by
  have e0 : Env0 X.prog X.w X.K X.mg X.base A1 X.stack s H := by
    have e := I.env0
    exact ⟨by rw [sb.fr]; exact e.frames, e.mod, e.bs, e.bsz, e.funs, e.frf, e.hok, e.bare⟩
  have hl := F.len _ _ _ _ h
  have r2 : Vals [V.ref a, y] [Value.ref a, u] := .cons rfl (.cons ry .nil)
  refine wpAny_call (codeAny_mono (F.run A1 X.stack s H ⟨[.ref a, u], []⟩ [.ref a, u] [.ref a, y] _ _ sb.room e0 (by
    have := hb s [.ref a, u] I.kIn (by simpa using hl)
    simpa using this) r2 h) fun r s' hq => ?_)
  cases r with
  | error e => exact hq.elim
  | ok fl =>
    cases fl with
    | ret w =>
      obtain ⟨z, H', I', rz, ez⟩ := I.after hq
      exact ⟨z, H', I', rz, ez⟩
    | next => exact False.elim hq
    | brk => exact False.elim hq
    | cont => exact False.elim hq
theorem op_eqI {k : Nat} {C f : Addr} {fd : FuncData} {ps : List Str} {sp : Sp} (c : EqC X.K C f) (F : FnOk X.prog X.w X.K X.mg X.base CX0 k f fd ps sp) (hb : Binds X.K fd ps []) (hr : Room (k + 1) X.A) : OpR X (compareOp .Eq) (rEqI X.K C sp false) := by
  intro pins s σ H x y v u Q I rx ry h
  obtain ⟨a, dx, fs, tb, rfl, ha, ht, hn, hsp⟩ := h
  obtain rfl : v = Value.ref a := rx
  obtain ⟨mA, J, _⟩ := ins_get I.hok ha
  obtain ⟨od, J, _⟩ := J.look
  obtain ⟨m, hF⟩ := I.fr
  have sb : Sub X k X.A := ⟨hr.mono (Nat.le_succ _), rfl⟩
  unfold compareOp
  refine PySem.W.cmp_K (op := .Eq) (tb := tb) sb.room.units0 hF I.ok.mod.kin J (looks_rt3 I ry ht) hn c.eq c.fn ?_
  refine wpAny_mono (call_own2 F hb sb I ry hsp) (fun w s' hw => ?_) fun _ _ e => e
  obtain ⟨z, H', I', rz, kk, rfl, q⟩ := hw
  obtain rfl : w = Value.bool kk := rz
  exact ⟨.bl kk, H', I', rfl, q⟩
theorem op_neI {k : Nat} {C f : Addr} {fd : FuncData} {ps : List Str} {sp : Sp} (c : EqC X.K C f) (F : FnOk X.prog X.w X.K X.mg X.base CX0 k f fd ps sp) (hb : Binds X.K fd ps []) (hr : Room (k + 1) X.A) : OpR X (compareOp .NotEq) (rEqI X.K C sp true) := by
  intro pins s σ H x y v u Q I rx ry h
  obtain ⟨a, dx, fs, tb, rfl, ha, ht, hn, hsp⟩ := h
  obtain rfl : v = Value.ref a := rx
  obtain ⟨mA, J, _⟩ := ins_get I.hok ha
  obtain ⟨od, J, _⟩ := J.look
  have sb : Sub X k X.A.in1 := Sub.in1 (⟨hr, rfl⟩ : Sub X (k + 1) X.A)
  unfold compareOp
  refine ne_K (tb := tb) (Nat.lt_of_le_of_lt (Nat.add_le_add_left (show 1 ≤ 64 by decide) _) hr.units) I.kIn J (looks_rt3 I ry ht) hn c ?_
  refine wpAny_mono (call_own2 F hb sb I ry hsp) (fun w s' hw => ?_) fun _ _ e => e
  obtain ⟨z, H', I', rz, kk, rfl, q⟩ := hw
  obtain rfl : w = Value.bool kk := rz
  exact ⟨kk, rfl, .bl (!kk), H', I', rfl, q⟩
end
/-! ## a test, what follows is shown once -/
def tMidT (t : TT) : TT := fun σ H Q => ∃ M : Bool → Hp → Prop, t σ H M ∧ ∀ b H', M b H' → Q b H'
theorem pt_mid {X : Cx} {e : Expr} {t : TT} (h : PT X e t) : PT X e (tMidT t) := by
  refine ⟨fun pins s σ H Q I hq => ?_⟩
  obtain ⟨M, h1, h2⟩ := hq
  exact thn (h.run pins s σ H M I h1) fun b s1 ⟨H1, I1, q⟩ => ⟨H1, I1, h2 b H1 q⟩
end Lc
set_option Elab.async false
set_option linter.all false
set_option maxRecDepth 100000
set_option maxHeartbeats 4000000
namespace Lc
open PySem PySem.Spec PyProof.Rows L2
/-! ## o.m(e, ..) and o.m(e, .., k = v, ..), where m may raise -/
def tMethS (C : Addr) (m : Str) (sp : Sp) (E : L2.St → XK) (ta : TE) (t : TA) : TE := fun σ H Q => ta σ H fun x H1 => ∃ a dx fs, x = .ref a ∧ H1 a = some (.ins C dx fs) ∧ fs.lookup m = none ∧
  t σ H1 fun vs H2 => sp (x :: vs) H2 Q (E σ)
def tMethKS (C : Addr) (m : Str) (n l : Nat) (sp : Sp) (gV : List V → List V → List V) (E : L2.St → XK) (ta : TE) (t tk : TA) : TE := fun σ H Q => ta σ H fun x H1 => ∃ a dx fs, x = .ref a ∧ H1 a = some (.ins C dx fs) ∧ fs.lookup m = none ∧
  t σ H1 fun vs H2 => tk σ H2 fun zs H3 => vs.length = n ∧ zs.length = l ∧ sp (gV (x :: vs) zs) H3 Q (E σ)
section
variable {X : Cx} {CX : CXT} {k n : Nat} {f C : Addr} {fd : FuncData} {ps ks : List Str} {sp : Sp} {E : L2.St → XK} {m : Str} {pos apos : Pos} {e o : Expr} {es : List Expr} {kws : List Keyword} {ta : TE} {t tk : TA} {g : List Value → List Value → List Value} {gV : List V → List V → List V}
theorem pe_methS {pl : Sem Bool} (he : PE X o ta) (c : Cls X.K C) (hm : Meth X.K C m f) (F : FnOk X.prog X.w X.K X.mg X.base CX k f fd ps sp) (hr : Room k X.A) (hb : Binds X.K fd ps []) (hx : ∀ σ, PassesAt CX X σ (E σ)) (ha : PA X (e :: es) t)
    (hst : starEach (e :: es) X.env = (false, eval e X.env) :: starEach es X.env := by rfl) (hpl : (backTo pos (starEach es X.env)).any (·.1) = false := by rfl)
    (ht : eval (.Call (.Attribute o m apos) (e :: es) [] pos) X.env = (do
      let ov ← eval o X.env
      standAt apos.atName
      let (f, first) ← holding [ov] (getMethod ov m pl)
      callWith pos f first (backTo pos (starEach (e :: es) X.env)) (backToKw pos (keywordEach [] X.env))) := by rfl) :
    PE X (.Call (.Attribute o m apos) (e :: es) [] pos) (tMethS C m sp E ta t) := by
  refine ⟨fun pins s σ H Q I h => ?_⟩
  refine PySem.W.methodCall_KW (pl := pl) (thn (he.run pins s σ H _ I h) fun u s1 ⟨x, H1, I1, rx, a, dx, fs, ex, ea, l, q⟩ => ?_) ht
  subst ex
  obtain rfl : u = Value.ref a := rx
  refine getmeth_ok I1 ea c hm l ?_
  refine PySem.W.callWith_K (first := [.ref a]) (h₀ := X.base) I.ok.mod.kin hm.kp (thn (ha.run pos pins s1 σ H1 _ I1 q) fun us s2 ⟨vs, H2, I2, r, q2⟩ => ⟨I2.kIn, ?_⟩) hst hpl
  exact run_fnS (us := .ref a :: us) (vs := .ref a :: vs) F hr hb (hx σ) I2 (.cons rfl r) q2
theorem pe_methKS {pl : Sem Bool} (he : PE X o ta) (c : Cls X.K C) (hm : Meth X.K C m f) (F : FnOk X.prog X.w X.K X.mg X.base CX k f fd ps sp) (hr : Room k X.A) (hb : KBn X.K fd ps (n + 1) ks g gV) (hx : ∀ σ, PassesAt CX X σ (E σ)) (ha : PA X (e :: es) t) (hkw : PK X kws tk)
    (hall : (backToKw pos (keywordEach kws X.env)).all (·.1.isSome) = true := by rfl) (hks : (backToKw pos (keywordEach kws X.env)).filterMap (·.1) = ks := by rfl) (hst : starEach (e :: es) X.env = (false, eval e X.env) :: starEach es X.env := by rfl)
    (hpl : ((backTo pos (starEach (e :: es) X.env)).any (·.1) || (backToKw pos (keywordEach kws X.env)).any (·.1.isNone)) = false := by rfl)
    (ht : eval (.Call (.Attribute o m apos) (e :: es) kws pos) X.env = (do
      let ov ← eval o X.env
      standAt apos.atName
      let (f, first) ← holding [ov] (getMethod ov m pl)
      callWith pos f first (backTo pos (starEach (e :: es) X.env)) (backToKw pos (keywordEach kws X.env))) := by rfl) :
    PE X (.Call (.Attribute o m apos) (e :: es) kws pos) (tMethKS C m n ks.length sp gV E ta t tk) := by
  refine ⟨fun pins s σ H Q I h => ?_⟩
  refine PySem.W.methodCall_KW (pl := pl) (thn (he.run pins s σ H _ I h) fun u s1 ⟨x, H1, I1, rx, a, dx, fs, ex, ea, l, q⟩ => ?_) ht
  subst ex
  obtain rfl : u = Value.ref a := rx
  refine getmeth_ok I1 ea c hm l ?_
  refine PySem.W.callWith_KW (first := [.ref a]) (h₀ := X.base) I.ok.mod.kin hm.kp hall (thn (ha.run pos pins s1 σ H1 _ I1 q) fun us s2 ⟨vs, H2, I2, r, q2⟩ => ?_) hpl hst
  refine thn (hkw.run pos pins s2 σ H2 _ I2 q2) fun ws s3 ⟨zs, H3, I3, rz, l1, l2, q3⟩ => ⟨I3.kIn, ?_⟩
  rw [hks]
  have r1 : Vals (V.ref a :: vs) (Value.ref a :: us) := .cons rfl r
  have done := F.run X.A X.stack s3 H3 ⟨.ref a :: us, ks.zip ws⟩ (g (.ref a :: us) ws) (gV (.ref a :: vs) zs) Q (E σ) hr I3.env0 (hb.to s3 (.ref a :: us) ws I3.kIn (by rw [List.length_cons, ← r.length, l1]) (rz.length.symm.trans l2)) (hb.rel r1 rz) q3
  refine wpAny_call (codeAny_mono done fun rr s' hq => ?_)
  match rr, hq with
  | .error er, hq => exact hx σ pins H3 s3 er s' I3 hq
  | .ok (.ret u), hq => exact I3.after hq
  | .ok .next, hq => exact False.elim hq
  | .ok .brk, hq => exact False.elim hq
  | .ok .cont, hq => exact False.elim hq
end
end Lc
set_option Elab.async false
set_option linter.all false
set_option maxRecDepth 100000
set_option maxHeartbeats 4000000
/-! An own error class right over any built-in one (not only ValueError), with an __init__ of its own that keeps a field. -/
namespace PySem
namespace LcOex
open PySem.W PySem.Calls PyProof.Rows PySem.HandSPX
section
open Builtin Builtin.ObjectAttr
variable {pr : Program} {wd : World} {Ar : Around} {Rr : Result → Shared → Prop} {hh : Heap} {gn : Array GenState} {dn : Drawn} {tn : Nat} {on : OsState}
theorem first_field {K : W.Frag} {fld : Str} {tok : Tok} {val : Value} {me C : Addr} {parts : Array Value} {cl : ClassData} {B : String} {tail : List Value} (SB : StoreFacts B tail "object.__setattr__" "object")
    (kin : K.In hh) (obj : hh.get? me = some { cls := .ref C, data := .fields parts }) (hcl : W.clsIn K C = some cl) (line : cl.mro = .ref C :: tail) (dct : cl.hasDict = true) (no : W.findIn K (.ref C) fld = some none)
    (go : ∀ h2 tok2 box, (∀ b ob, b ≠ me → hh.get? b = some ob → h2.get? b = some ob) → hh.objs.size ≤ box → box ≠ me → h2.get? me = some { cls := .ref C, dict := some box, data := .fields parts } → h2.Ns1 box (fun z => if z = fld then some val else none) → Rr (.ok (.ret .none)) ⟨h2, gn, dn, tok2, on⟩) :
    codeAny (model pr wd) Ar (.call (.builtin "object.__setattr__") ⟨[.ref me, .str fld tok, val], []⟩) Rr ⟨hh, gn, dn, tn, on⟩ := by
  have at1 : W.InstAt hh me { cls := .ref C, data := .fields parts } C none := ⟨obj, rfl, rfl, trivial⟩
  have so := F.store_object
  have full : cl.mro.isEmpty = false := by rw [line]; rfl
  have top : cl.mro.contains (.type "object") = true := by rw [line, List.contains_cons, SB.hasOwner, Bool.or_true]
  have apart : me ≠ hh.objs.size := Nat.ne_of_lt (Heap.lt_size obj)
  have isi : W.Looks (model pr wd) hh (isInstance (.ref me) (.type "object")) true := at1.type.andThen (W.looks_mroIn kin (by unfold W.mroIn; rw [hcl, Option.bind_some, if_neg (by rw [full]; decide), top]))
  refine codeAny_call_builtin so.slot.plain so.entry (@W.check_slot (model pr wd) _ _ ⟨hh, gn, dn, tn, on⟩ "object.__setattr__" "object" "__setattr__" (.ref me) [.str fld tok, val] [] _ so.kind so.split isi (so.args (.ref me) (.str fld tok) val) ?_)
  have walk : W.Looks (model pr wd) hh (mroOf (.ref C)) cl.mro := (W.looks_clsIn kin hcl).andThen .now
  have nobody : W.Looks (model pr wd) hh (storeTaker? none) none := .now
  have dataC : W.Looks (model pr wd) hh (classData C) cl := W.looks_clsIn kin hcl
  have pass : refuseLoop (.ref me) "__setattr__" cl.mro = pure () := by rw [line, refuseLoop_ref]; exact SB.passes _
  rw [W.osa_eq, refuse_eq]
  refine wpAny_bind (wpAny_bind (at1.type.at (wpAny_bind (walk.at ?_))))
  rw [pass]
  refine wpAny_pure (wpAny_bind (at1.type.at (wpAny_bind ((W.looks_findIn kin no).at (wpAny_bind (nobody.at ?_))))))
  show wpAny _ _ (storeInOwnDict (.ref me) (.ref C) (.str fld tok) fld val false) _ _ _
  obtain ⟨c1, c2, c3, c4, c5, c6, c7, c8, c9, c10, c11⟩ := cl
  dsimp only at dct
  subst dct
  unfold storeInOwnDict ownDictForStores
  repeat (first | with_reducible refine store_in_new ?_ ?_ | with_reducible refine wpAny_loadPart_at obj ?_ | with_reducible refine dataC.at ?_ | wp_step)
  · refine ⟨_, #[], _, (Heap.get?_update_ne _ _ _ _ apart.symm).trans (Heap.get?_push_at rfl rfl), rfl, fun e he => ?_, fun _ => rfl⟩
    exact absurd he (by simp)
  · intro h2 tok2 hn hs
    have obj2 : (hh.push { cls := .type "dict", data := .dict #[] }).get? me = some { cls := .ref C, data := .fields parts } := Heap.get?_push_of_some _ obj
    refine go h2 tok2 hh.objs.size (fun b ob nb eb => ?_) (Nat.le_refl _) apart.symm ?_ hn
    · refine (hs.2 b (Nat.ne_of_lt (Heap.lt_size eb))).trans ?_
      exact (Heap.get?_update_ne _ _ _ _ nb).trans (Heap.get?_push_of_some _ eb)
    · exact (hs.2 me apart).trans (Heap.get?_update_self _ obj2 rfl)
end
end LcOex
end PySem
namespace Lc
open PySem PySem.Spec PyProof.Rows L2
/-- an own error class right over a built-in one -/
structure OexG (K : PySem.W.Frag) (C : Addr) (new : String) (tail : List Value) : Prop where
  at_ : ∃ c1 c2 c3 c4 c5 c6 c7 c8 c9 c10 c11 c12 c13 c14, K.lookup C = some (excClassObj c1 c2 C c3 c4 tail true c5 c6 c7 c8 c9 c10 c11 c12 c13 c14 new)
  put : PySem.W.findIn K (.ref C) "__setattr__" = some (some (.builtin "object.__setattr__"))
  exc : PySem.W.subIn K (.ref C) (.type "BaseException") = some true
  typ : PySem.W.typeIn K (.ref C) = some (.type "type")
  kept : PySem.W.keepIn K (.ref C) = true
section
variable {X : Cx} {pins : List (Addr × Obj)} {σ : L2.St} {H : Hp} {sh : Shared} {a C : Addr} {fld new B : String} {tail : List Value} {y : V} {u : Value} {Qu : Unit → Shared → Prop} {Eu : Value → Shared → Prop} {Au : Around}
theorem put_new {fld : Str} (SB : StoreFacts B tail "object.__setattr__" "object") (T : OexG X.K C new tail) (I : Inv X pins σ H sh) (ea : H a = some (exo a C none)) (no : PySem.W.findIn X.K (.ref C) fld = some none) (ry : RelV y u)
    (go : ∀ box s2, H box = none → box ≠ a → Inv X pins σ (upd (upd H box (exd box [(fld, y)])) a (exo a C (some box))) s2 → Qu () s2) : wpAny (model X.prog X.w) Au (setAttr (.ref a) fld u) Qu Eu sh := by
  obtain ⟨c1, c2, c3, c4, c5, c6, c7, c8, c9, c10, c11, c12, c13, c14, lk⟩ := T.at_
  have data : PySem.W.clsIn X.K C = some { name := c1, bases := c4, mro := .ref C :: tail, ns := c3, qualname := c2, hasDict := true, slotNames := c5, subclasses := c6, abstract := c7, collection := c8, hasDel := false } := by
    unfold PySem.W.clsIn
    rw [lk] <;> rfl
  obtain ⟨args, there⟩ := exo_at I.hok ea
  obtain ⟨hp, g, d, t, os⟩ := sh
  refine PySem.W.set_plain I.kIn (ox := { cls := .ref C, dict := none, data := .fields #[.ref args, .none, .none, .none, .bool false, .none] }) (od := none) ⟨there, rfl, rfl, trivial⟩ T.put ?_
  refine PySem.LcOex.first_field SB I.kIn there data rfl rfl no fun h2 tok2 box keep1 big apart self2 names => ?_
  have nbox : H box = none := I.hok.fresh big
  have old : ∀ {b : Addr} {ob : Obj}, hp.get? b = some ob → b ≠ box := fun {b ob} e => Nat.ne_of_lt (Nat.lt_of_lt_of_le (Heap.lt_size e) big)
  have nota : ∀ {b : Addr}, H b = none → b ≠ a := fun {b} n z => by rw [z, ea] at n; cases n
  have un : Un X.fs [] H (upd (upd H box (exd box [(fld, y)])) a (exo a C (some box))) hp h2 := by
    refine { keep := ?k1, slot := ?k2, free := ?k3, there := ?k4, tups := ?k5, frzs := ?k6, tbls := ?k7 }
    case k1 => exact fun b ob e n _ _ => keep1 b ob (nota n) e
    case k2 => exact fun b ob e n _ _ => ⟨ob.slots, keep1 b ob (nota n) e⟩
    case k3 =>
      intro b ob e n _
      rw [upd_ne (nota n), upd_ne (old e)]
      exact n
    case k4 =>
      intro b ob e _
      by_cases z : b = a
      · rw [z]
        exact ⟨_, self2⟩
      · exact ⟨ob, keep1 b ob z e⟩
    case k5 =>
      intro b zs e
      rw [upd_ne (at_ne ea e exo_tup), upd_ne (ne_of_none e nbox)]
      exact e
    case k6 =>
      intro b ob z e
      rw [upd_ne (at_ne ea e exo_frz), upd_ne (ne_of_none e nbox)]
      exact e
    case k7 =>
      intro b zs e
      refine ⟨#[], ?_⟩
      rw [upd_ne (at_ne ea e exo_tbl), upd_ne (ne_of_none e nbox), e]
      simp
  refine go box _ nbox apart (I.un (t' := tok2) un fun b ob e => ?_)
  by_cases z : b = a
  · subst z
    rw [upd_same] at e
    cases e
    exact exo_ok self2
  · rw [upd_ne z] at e
    by_cases z2 : b = box
    · subst z2
      rw [upd_same] at e
      cases e
      exact exd_ok names (relO_put (fs := []) ry fun _ => True.intro)
    · rw [upd_ne z2] at e
      have off : ∀ {c : Addr}, H c = some (.own b) → c ≠ a := fun {c} ec => at_ne ea ec exo_own
      refine (I.hok b ob e).stay (fun c w hc ec => keep1 c w ?_ ec) (fun c ec => ?_) (fun c zs ec => ?_)
      · rcases hc with hc | hc
        · rw [hc]; exact z
        · exact off hc
      · rw [upd_ne (off ec), upd_ne (ne_of_none ec nbox)]
        exact ec
      · rw [upd_ne (at_ne ea ec exo_tup), upd_ne (ne_of_none ec nbox)]
        exact ec
end
/-- self.f = e in the __init__ of such a class, the first field -/
def tPut (C : Addr) (f : Str) (to te : TE) : TS := fun D σ H => te σ H fun y H1 => to σ H1 fun x H2 => ∃ a : Addr, x = .ref a ∧ H2 a = some (exo a C none) ∧ ∀ box, H2 box = none → box ≠ a → D.nx σ (upd (upd H2 box (exd box [(f, y)])) a (exo a C (some box)))
section
variable {X : Cx} {B new : String} {tail : List Value} {C : Addr} {f : Str} {o e : Expr} {to te : TE} {p' pos : Pos}
theorem ps_put (SB : StoreFacts B tail "object.__setattr__" "object") (T : OexG X.K C new tail) (no : PySem.W.findIn X.K (.ref C) f = some none) (ho : PE X o to) (he : PE X e te) (hs : swapsWith e (some (.Attribute o f p')) pos.line X.env = pure false := by rfl) :
    PS X (.Assign [.Attribute o f p'] e pos) (tPut C f to te) := by
  refine ⟨fun pins s σ H D I h => ?_⟩
  refine plainObj_wpAny_Assign_Attribute (thn (he.run pins s σ H _ I h) fun v s1 ⟨y, H1, I1, ry, q1⟩ => thn (ho.run pins s1 σ H1 _ I1 q1) fun u s2 ⟨x, H2, I2, rx, a, ex, ea, q⟩ => ?_) hs
  subst ex
  obtain rfl : u = Value.ref a := rx
  exact put_new SB T I2 ea no ry fun box s' n ne J => ⟨σ, _, J, q box n ne⟩
end
section
variable {X : Cx} {B new ini : String} {tail : List Value} {CX : CXT} {x : Str} {C fI : Addr} {k : Nat} {fd : FuncData} {ps : List Str} {sp : Sp} {e : Expr} {es : List Expr} {ta : TA} {p pos : Pos}
theorem pmk_oexG {more : List Value} {moreV : List V} (FB : ExcBaseFacts B new ini tail) (T : OexG X.K C new tail) (iC : PySem.W.findIn X.K (.ref C) "__init__" = some (some (.ref fI))) (tI : PySem.W.typeIn X.K (.ref fI) = some (.type "function"))
    (FI : FnOk X.prog X.w X.K X.mg X.base CX k fI fd ps sp) (hr : Room (k + 1) X.A) (hb : Binds X.K fd ps more) (hmore : Vals moreV more) (hx : Passes CX X (fun _ _ _ => False)) (hg : Gl X x) (hm : X.mg x = some (.ref C)) (ha : PA X (e :: es) ta)
    (hdb : (x == ("__debug__" : Str)) = false := by decide) (he : starEach (e :: es) X.env = (false, eval e X.env) :: starEach es X.env := by rfl) (hpl : (backTo pos (starEach es X.env)).any (·.1) = false := by rfl) :
    PMk X (.Call (.Name x p) (e :: es) [] pos) (tMkO C sp moreV ta) := by
  intro pins s σ H Q I h
  obtain ⟨c1, c2, c3, c4, c5, c6, c7, c8, c9, c10, c11, c12, c13, c14, lk⟩ := T.at_
  refine wpAny_Call_Name_kw (ld_glob I hg hm ?_ hdb)
  refine PySem.W.callWith_K (h₀ := X.base) I.ok.mod.kin T.kept (thn (ha.run pos pins s σ H _ I h) fun us s1 ⟨vs, H1, I1, rv1, short, q1⟩ => ⟨I1.kIn, ?_⟩) he hpl
  show wpAny _ _ (call (.ref C) us) _ _ _
  obtain ⟨hp, g, dr, tk, os⟩ := s1
  have nme : H1 (hp.objs.size + 1) = none := I1.hok.fresh (Nat.le_succ _)
  have sp1 := q1 (hp.objs.size + 1) nme
  have grow : ∀ b ob, hp.get? b = some ob → ((hp.push (PySem.W.kdv_tup us)).push (PySem.HandSPX.excO C hp.objs.size)).get? b = some ob := fun b ob eb => Heap.get?_push_of_some _ (Heap.get?_push_of_some _ eb)
  have here : ((hp.push (PySem.W.kdv_tup us)).push (PySem.HandSPX.excO C hp.objs.size)).get? (hp.objs.size + 1) = some (PySem.HandSPX.excO C hp.objs.size) := by heap_get
  have I2 := I1.laid (t' := tk) (a := hp.objs.size + 1) (o := exo (hp.objs.size + 1) C none) grow (Nat.le_succ _) (exo_ok here)
  have rv2 : Vals (V.ref (hp.objs.size + 1) :: (vs ++ moreV)) (Value.ref (hp.objs.size + 1) :: (us ++ more)) := .cons rfl (rv1.append hmore)
  have len : (Value.ref (hp.objs.size + 1) :: us ++ more).length = ps.length := by
    have z := rv2.length
    rw [FI.len _ _ _ _ sp1] at z
    exact z.symm
  have few : us.length ≤ sizeLine := by rw [← Paired.length rv1, sizeLine_eq]; omega
  refine wpAny_call (PySem.HandSPX.call_own FB (fun _ => rfl) (I1.kIn _ _ lk) (PySem.W.looks_findIn I1.kIn iC) (fun self => PySem.W.bind_fn I1.kIn self tI) few ?_)
  refine codeAny_mono (FI.run _ X.stack _ _ ⟨Value.ref (hp.objs.size + 1) :: us, []⟩ (Value.ref (hp.objs.size + 1) :: (us ++ more)) _ _ (fun _ _ _ => False) (hr.make C us []) (I2.env0.make C us []) (hb _ (Value.ref (hp.objs.size + 1) :: us) I2.kIn len) rv2 sp1) fun res s' hq => ?_
  match res, hq with
  | .error er, hq => exact hx pins σ _ _ er s' I2 hq
  | .ok (.ret u), hq =>
    obtain ⟨v, H2, os2, bare2, un2, ok2, rv, ev, dd, fs, ea, ed, nd, q2⟩ := hq
    subst ev
    obtain ⟨h2, g2, d2, t2, os'⟩ := s'
    exact ⟨rv, mk_end (raises_own T.exc T.typ) I1 (Nat.le_succ _) grow un2 ok2 os2 bare2 ea ed nd q2⟩
  | .ok .next, hq => exact False.elim hq
  | .ok .brk, hq => exact False.elim hq
  | .ok .cont, hq => exact False.elim hq
end
end Lc
set_option Elab.async false
set_option linter.all false
set_option maxRecDepth 100000
set_option maxHeartbeats 4000000
namespace K07
open PySem PySem.Spec PyProof.Rows L2 Lc
def top (i : Nat) : Stmt := PySem.Challenge.pw_liveclaims_k07_refused_entries_change_no.main.body.getD i (.Pass ⟨0, 0, 0, 0⟩)
/-! ## is_whole, common_divisor, is_rational -/
abbrev sWhole : Stmt := top 9
abbrev sCd : Stmt := top 10
abbrev sIsR : Stmt := top 11
def spWhole : Sp := fun vs H Q _ => ∃ (v : V) (t : String), vs = [v] ∧ TyN H v t ∧ Q (.bl (t == "int")) H
def spCd : Sp := fun vs H Q _ => ∃ a b : Int, vs = [.int a, .int b] ∧ 0 ≤ a ∧ 0 ≤ b ∧ Q (.int (gd a b)) H
def spIsR : Sp := fun vs H Q _ => ∃ (v : V) (b : Bool), vs = [v] ∧ Rk H v b ∧ Q (.bl b) H
section
variable {P : Program} {w : World} {K : PySem.W.Frag} {mg : Str → Option Value} {base : Heap} {f C : Addr} {fd : FuncData}
theorem scWhole : FnScope ["value"] ["value"] (defScope sWhole) := ⟨rfl, rfl, rfl, by decide +kernel, rfl, by decide +kernel, by decide +kernel⟩
theorem ok_whole (F : Fun K "is_whole" "is_whole" sWhole f fd) (T : Bt mg) : FnOk P w K mg base CX0 1 f fd ["value"] spWhole := by
  refine F.ok scWhole (fun vs H Q E h => ?_) (fun cdv A outer s H vs Q E hr h => ?_)
  · obtain ⟨v, t, rfl, _⟩ := h
    rfl
  · obtain ⟨v, t, rfl, ty, k⟩ := h
    refine ⟨_, pss_one (ps_ret (pe_and (pe_callB call_isi (by rfl) T.isi boot_isinstance (pa_cons (pv 0) (pa_cons (pe_bltn (v := .ty "int") (by rfl) T.int boot_int rfl) pa_nil)))
      (pe_one (pe_not (pe_callB call_isi (by rfl) T.isi boot_isinstance (pa_cons (pv 0) (pa_cons (pe_bltn (v := .ty "bool") (by rfl) T.bool boot_bool rfl) pa_nil))))))), ?_⟩
    refine ⟨_, rfl, v, .ty "int", _, _, _, rfl, .ty "int", ty.x, kit_int ty.mem, _, rfl, ?_⟩
    refine ite2 (fun hi => ?_) (fun hi => ?_)
    · refine ⟨_, rfl, v, .ty "bool", _, _, _, rfl, .ty "bool", ty.x, kit_bool ty.mem, _, rfl, ?_⟩
      have e : (!(t == "bool")) = (t == "int") := by cases ty <;> first | rfl | exact absurd hi (by decide)
      show Q (.bl (!(t == "bool"))) H
      rw [e]
      exact k
    · have e : false = (t == "int") := by cases ty <;> first | rfl | exact absurd rfl hi
      show Q (.bl false) H
      rw [e]
      exact k
theorem scCd : FnScope ["a", "b"] ["a", "b"] (defScope sCd) := ⟨rfl, rfl, rfl, by decide +kernel, rfl, by decide +kernel, by decide +kernel⟩
theorem ok_cd (F : Fun K "common_divisor" "common_divisor" sCd f fd) : FnOk P w K mg base CX0 1 f fd ["a", "b"] spCd := by
  refine F.ok scCd (fun vs H Q E h => ?_) (fun cdv A outer s H vs Q E hr h => ?_)
  · obtain ⟨a, b, rfl, _⟩ := h
    rfl
  · obtain ⟨a, b, rfl, ha, hb, k⟩ := h
    refine ⟨_, pss_cons (ps_while PassesOwn.never (pt_cmpR op_ne (pv 1) pe_int (nomark _)) (pss_one (ps_par (i := 0) (j := 1) (by rfl) scCd.nd rfl rfl (by decide) rfl rfl (pa_cons (pv 1) (pa_cons (pe_op op_mod (pv 0) (pv 1)) pa_nil)) (by rfl))))
      (pss_one (ps_ret (pv 0))), ?_⟩
    refine ⟨fun m σ H' => ∃ a' b' : Int, σ = [some (.int a'), some (.int b')] ∧ 0 ≤ a' ∧ 0 ≤ b' ∧ b'.toNat = m ∧ gd a' b' = gd a b ∧ H' = H, ⟨_, a, b, rfl, ha, hb, rfl, rfl, rfl⟩, ?_⟩
    rintro m σ H' ⟨a', b', rfl, ha', hb', rfl, e, rfl⟩
    refine ⟨_, rfl, rfl, _, rfl, ?_⟩
    rw [show (decide (V.int b' = V.int 0)) = decide (b' = 0) from dec_int.trans (by rw [Bool.eq_iff_iff]; simp)]
    by_cases z : b' = 0
    · rw [decide_eq_true z]
      refine iteF ⟨_, rfl, ?_⟩
      rw [← e, z, gd_zero ha'] at k
      exact k
    · rw [decide_eq_false z]
      have pb : 0 < b' := by omega
      refine iteT ⟨fun σ' H'' => ∃ a2 b2 : Int, σ' = [some (.int a2), some (.int b2)] ∧ 0 ≤ a2 ∧ 0 ≤ b2 ∧ b2.toNat < b'.toNat ∧ gd a2 b2 = gd a b ∧ H'' = H', ?_, ?_⟩
      · rintro σ' H'' ⟨a2, b2, h1, h2, h3, h4, h5, h6⟩
        exact ⟨_, h4, a2, b2, h1, h2, h3, rfl, h5, h6⟩
      · refine ⟨_, rfl, _, rfl, _, rfl, _, _, rfl, rfl, pb, _, _, rfl, b', a' % b', rfl, hb', Int.emod_nonneg _ (by omega), ?_, ?_, rfl⟩
        · have := Int.emod_lt_of_pos a' pb
          have := Int.emod_nonneg a' (by omega : b' ≠ 0)
          omega
        · rw [gd_step ha' pb]
          exact e
theorem scIsR : FnScope ["value", "n", "d"] ["value"] (defScope sIsR) := ⟨rfl, rfl, rfl, by decide +kernel, rfl, by decide +kernel, by decide +kernel⟩
theorem ok_isr {fW fC : Addr} {fdW fdC : FuncData} (F : Fun K "is_rational" "is_rational" sIsR f fd) (T : Bt mg) (GW : FnOk P w K mg base CX0 1 fW fdW ["value"] spWhole) (mW : mg "is_whole" = some (.ref fW)) (kW : PySem.W.keepIn K (.ref fW) = true) (bW : Binds K fdW ["value"] [])
    (GC : FnOk P w K mg base CX0 1 fC fdC ["a", "b"] spCd) (mC : mg "common_divisor" = some (.ref fC)) (kC : PySem.W.keepIn K (.ref fC) = true) (bC : Binds K fdC ["a", "b"] []) : FnOk P w K mg base CX0 2 f fd ["value"] spIsR := by
  refine F.ok scIsR (fun vs H Q E h => ?_) (fun cdv A outer s H vs Q E hr h => ?_)
  · obtain ⟨v, b, rfl, _⟩ := h
    rfl
  · obtain ⟨v, b, rfl, hk, k⟩ := h
    refine ⟨_, pss_cons (ps_if (PW.pt (pw_or (pt_not (pt_val (pe_callB call_isi (by rfl) T.isi boot_isinstance (pa_cons (pv 0) (pa_cons (pe_bltn (v := .ty "tuple") (by rfl) T.tuple boot_tuple rfl) pa_nil)))))
        (pw_or1 (pt_cmpR op_ne (pe_callB call_len_seq (by rfl) T.len PySem.boot_len (pa_cons (pv 0) pa_nil)) pe_int (nomark _))))) (pss_one (ps_ret pe_bl)) pss_nil)
      (pss_cons (ps_asg (pv 0) (pg_tup rfl (pgs_cons (pg_name (i := 1) scIsR.nd rfl (.inl rfl)) (pgs_cons (pg_name (i := 2) scIsR.nd rfl (.inl rfl)) pgs_nil))))
      (pss_cons (ps_if (PW.pt (pw_or (pt_not (pt_val (pe_call GW hr (by rfl) mW kW bW .nil pass0 (pa_cons (pv 1) pa_nil)))) (pw_or (pt_not (pt_val (pe_call GW hr (by rfl) mW kW bW .nil pass0 (pa_cons (pv 2) pa_nil))))
        (pw_or1 (pt_cmpR op_lt (pv 2) pe_int (nomark _)))))) (pss_one (ps_ret pe_bl)) pss_nil)
      (pss_one (ps_ret (pe_cmpR op_eq (pe_call GC hr (by rfl) mC kC bC .nil pass0 (pa_cons (pe_callB call_abs (by rfl) T.abs boot_abs (pa_cons (pv 1) pa_nil)) (pa_cons (pv 2) pa_nil))) pe_int (nomark _)))))), ?_⟩
    cases hk with
    | @other _ t ty n =>
      refine ⟨_, rfl, v, .ty "tuple", _, _, _, rfl, .ty "tuple", ty.x, kit_tuple ty.mem, _, rfl, ?_⟩
      have e : (t == "tuple") = false := by simpa using n
      rw [e]
      exact iteT (iteT k)
    | @len a xs e n =>
      refine ⟨_, rfl, .ref a, .ty "tuple", _, _, _, rfl, .ty "tuple", (TyN.tup e).x, kit_tuple (by decide), _, rfl, ?_⟩
      refine iteF ⟨_, rfl, a, xs, rfl, .inr (SqT.of e), rfl, _, rfl, ?_⟩
      have z : decide (V.int (xs.length : Int) = V.int 2) = false := decide_eq_false (fun q => n (by injection q with q; omega))
      rw [z]
      exact iteT k
    | @pair a x y tx ty e hx hy =>
      refine ⟨_, rfl, .ref a, .ty "tuple", _, _, _, rfl, .ty "tuple", (TyN.tup e).x, kit_tuple (by decide), _, rfl, ?_⟩
      refine iteF ⟨_, rfl, a, _, rfl, .inr (SqT.of e), rfl, _, rfl, ?_⟩
      refine iteF ?_
      refine ⟨_, rfl, a, _, rfl, SqT.of e, rfl, _, _, rfl, _, _, rfl, rfl, ?_⟩
      refine ⟨_, rfl, x, tx, rfl, hx, _, rfl, ?_⟩
      by_cases ix : tx = "int"
      · obtain ⟨n, rfl⟩ := hx.isInt ix
        subst ix
        · refine iteF ⟨_, rfl, y, ty, rfl, hy, _, rfl, ?_⟩
          by_cases iy : ty = "int"
          · obtain ⟨d, rfl⟩ := hy.isInt iy
            subst iy
            · refine iteF ⟨_, rfl, _, _, rfl, rfl, _, rfl, ?_⟩
              by_cases hd : d < 1
              · rw [decide_eq_true hd]
                have z : ratB (.int n) (.int d) = false := by
                  show (decide (0 < d) && _) = false
                  rw [decide_eq_false (by omega : ¬ 0 < d)]
                  rfl
                rw [z] at k
                exact iteT k
              · rw [decide_eq_false hd]
                refine iteF ?_
                refine ⟨_, rfl, n, rfl, _, rfl, _, d, rfl, by split <;> omega, by omega, rfl, ?_⟩
                have z : ratB (.int n) (.int d) = decide (V.int (gd (if n < 0 then -n else n) d) = V.int 1) := by
                  show (decide (0 < d) && decide (gd n d = 1)) = _
                  rw [decide_eq_true (by omega : 0 < d), gd_abs]
                  rw [Bool.eq_iff_iff]
                  simp
                rw [z] at k
                exact k
          · have z : (ty == "int") = false := by simpa using iy
            have z2 : ratB (.int n) y = false := by
              cases hy <;> first | rfl | exact absurd rfl iy
            rw [z2] at k
            rw [z]
            exact iteT (iteT k)
      · have z : (tx == "int") = false := by simpa using ix
        have z2 : ratB x y = false := by
          cases hx <;> first | rfl | exact absurd rfl ix
        rw [z2] at k
        rw [z]
        exact iteT (iteT k)
end
abbrev sTape : Stmt := top 31
section
variable {P : Program} {w : World} {K : PySem.W.Frag} {mg : Str → Option Value} {base : Heap} {f : Addr} {fd : FuncData}
theorem scTape : FnScope ["_law_script"] ["_law_script"] (defScope sTape) := ⟨rfl, rfl, rfl, by decide +kernel, rfl, by decide +kernel, by decide +kernel⟩
theorem ok_tape (F : Fun K "_law_tape" "_law_tape" sTape f fd) (T : Bt mg) : FnOk P w K mg base CX0 1 f fd ["_law_script"] (spTape K) := by
  refine F.ok scTape (fun vs H Q E h => ?_) (fun cdv A outer s H vs Q E hr h => ?_)
  · obtain ⟨a, ns, rfl, _⟩ := h
    rfl
  · obtain ⟨a, ns, rfl, hS, k⟩ := h
    refine ⟨_, pss_one (ps_ret (pe_lst (pa_cons (pe_callTy call_list_of (by rfl) T.list boot_list (pa_cons (pe_slice sl_list (pv 0) po_none (po_some pe_int)) pa_nil)) (pa_cons pe_int (pa_cons pe_int (pa_cons pe_int pa_nil)))))), ?_⟩
    obtain ⟨ms, e⟩ := cut_ints ns none (some 63)
    refine ⟨_, rfl, _, rfl, a, _, rfl, hS, fun p hp => ⟨p, _, rfl, .inl (SqL.of upd_same), fun l hl => ⟨by show 4 ≤ sizeLine; decide, fun t ht => ?_⟩⟩⟩
    have s1 : Same H (upd H p (.lst (cutV (ns.map V.int) none (some 63)))) := Same.upd hp
    have s2 := Same.upd (o := .lst (cutV (ns.map V.int) none (some 63))) hl
    have s3 := Same.upd (o := .lst [.ref l, .int 0, .int 0, .int 17]) ht
    refine k t _ ((s1.trans s2).trans s3) ((s1.trans s2).free ht) ⟨l, ms, 0, 0, 17, upd_same, ?_, by decide, by decide, by decide, by decide⟩
    rw [← e]
    exact s3 _ _ upd_same
end
abbrev sDraw : Stmt := top 32
section
variable {P : Program} {w : World} {K : PySem.W.Frag} {mg : Str → Option Value} {base : Heap} {f : Addr} {fd : FuncData}
theorem scDraw : FnScope ["_law_tape_here", "_law_many", "_law_digit", "_law_cell", "_law_near"] ["_law_tape_here", "_law_many"] (defScope sDraw) := ⟨rfl, rfl, rfl, by decide +kernel, rfl, by decide +kernel, by decide +kernel⟩
theorem ok_draw (F : Fun K "_law_draw" "_law_draw" sDraw f fd) (T : Bt mg) : FnOk P w K mg base CX0 1 f fd ["_law_tape_here", "_law_many"] spDrawL := by
  refine F.ok scDraw (fun vs H Q E h => ?_) (fun cdv A outer s H vs Q E hr h => ?_)
  · obtain ⟨t, l, m, rfl, _⟩ := h
    rfl
  · obtain ⟨t, l, m, rfl, ⟨ns, pos, rest, mix, ht, hl, p0, r0, m0, m1⟩, hm, hm2, k⟩ := h
    refine ⟨_, pss_cons (ps_if (pt_cmpR op_gt (pe_ix ix_list (pv 0) pe_int (fun _ _ => rfl)) pe_int (nomark _))
        (pss_cons (ps_set (i := 2) scDraw.nd rfl (Or.inl rfl) (pe_op op_mod (pe_ix ix_list (pv 0) pe_int (fun _ _ => rfl)) (pv 1)))
        (pss_cons (ps_asg (pe_op op_fdivW (pe_ix ix_list (pv 0) pe_int (fun _ _ => rfl)) (pv 1)) (pg_sub (pv 0) pe_int set_list)) (pss_one (ps_ret (pv 2))))) pss_nil)
      (pss_cons (ps_set (i := 3) scDraw.nd rfl (Or.inl rfl) pe_int)
      (Evl.pss_cut (ps_if (pt_cmpR op_lt (pe_ix ix_list (pv 0) pe_int (fun _ _ => rfl)) (pe_callB call_len_seq (by rfl) T.len PySem.boot_len (pa_cons (pe_ix ix_list (pv 0) pe_int (fun _ _ => rfl)) pa_nil)) (nomark _))
        (pss_one (ps_set (i := 3) scDraw.nd rfl (Or.inl rfl) (pe_ix ix_list (pe_ix ix_list (pv 0) pe_int (fun _ _ => rfl)) (pe_ix ix_list (pv 0) pe_int (fun _ _ => rfl)) (fun _ _ => rfl)))) pss_nil)
      (pss_cons (ps_asg (pe_op op_add (pe_ix ix_list (pv 0) pe_int (fun _ _ => rfl)) pe_int) (pg_sub (pv 0) pe_int set_list))
      (pss_cons (ps_if (pt_cmpR op_ge (pv 3) (pe_op op_pow pe_int pe_int) (nomark _))
        (pss_cons (ps_asg (pe_op op_fdivW (pv 3) (pv 1)) (pg_sub (pv 0) pe_int set_list)) (pss_one (ps_ret (pe_op op_mod (pv 3) (pv 1))))) pss_nil)
      (pss_cons (ps_set (i := 4) scDraw.nd rfl (Or.inl rfl) (pe_op op_add (pe_op op_add (pe_op op_mod (pv 3) pe_int) (pe_op op_mul pe_int (pe_ix ix_list (pv 0) pe_int (fun _ _ => rfl)))) pe_int))
      (pss_cons (ps_asg (pe_op op_mod (pe_op op_add (pe_op op_mul (pe_ix ix_list (pv 0) pe_int (fun _ _ => rfl)) pe_int) (pv 4)) pe_int) (pg_sub (pv 0) pe_int set_list))
      (pss_one (ps_ret (pe_op op_mod (pe_op op_mod (pe_op op_pow (pe_ix ix_list (pv 0) pe_int (fun _ _ => rfl)) pe_int) pe_int) (pv 1)))))))))), ?_⟩
    have nl := tape_ne ht hl
    have dv : ∀ c : Int, CDivW c m := fun c => ⟨hm, log_lt' hm2⟩
    have M0 : (0 : Int) < 2147483647 := by decide
    refine ⟨_, rfl, t, _, _, _, rfl, rfl, SqL.of ht, rfl, _, _, rfl, rfl, _, rfl, ?_⟩
    refine ite2 (fun z => ?_) (fun z => ?_)
    · have z' : 0 < rest := of_decide_eq_true z
      refine ⟨_, rfl, t, _, _, _, rfl, rfl, SqL.of ht, rfl, _, rfl, _, _, rfl, rfl, hm, ?_⟩
      refine ⟨_, rfl, t, _, _, _, rfl, rfl, SqL.of ht, rfl, _, rfl, _, _, rfl, rfl, dv _, _, rfl, t, _, _, 2, rfl, rfl, ht, rfl, ?_⟩
      refine ⟨_, rfl, ?_⟩
      refine k _ _ (Int.emod_nonneg _ (by omega)) (Int.emod_lt_of_pos _ hm) ⟨ns, pos, rest / m, mix, upd_same, by rw [upd_ne nl]; exact hl, p0, Int.ediv_nonneg r0 (by omega), m0, m1⟩ SameB.upd
    · refine ⟨fun σ' H' => ∃ c : Int, σ' = [some (.ref t), some (.int m), none, some (.int c), none] ∧ H' = H, ?_, ?_⟩
      · refine ⟨_, rfl, t, _, _, _, rfl, rfl, SqL.of ht, rfl, _, rfl, t, _, _, _, rfl, rfl, SqL.of ht, rfl, l, _, rfl, .inl (SqL.of hl), _, _, rfl, rfl, _, rfl, ?_⟩
        refine ite2 (fun y => ?_) (fun y => ?_)
        · have y' : pos < ((ns.map V.int).length : Int) := of_decide_eq_true y
          rw [List.length_map] at y'
          have g : (ns.map V.int)[pos.toNat]? = some (.int (ns[pos.toNat]'(by omega))) := by
            rw [List.getElem?_map, List.getElem?_eq_getElem (by omega : pos.toNat < ns.length)]
            rfl
          exact ⟨_, rfl, t, _, _, _, rfl, rfl, SqL.of ht, rfl, _, rfl, t, _, _, _, rfl, rfl, SqL.of ht, rfl, l, _, _, _, rfl, rfl, SqL.of hl, at_of (by omega) g, _, rfl, rfl⟩
        · exact ⟨0, rfl, rfl⟩
      · rintro σ' H' ⟨c, rfl, rfl⟩
        refine ⟨_, rfl, t, _, _, _, rfl, rfl, SqL.of ht, rfl, _, _, rfl, rfl, _, rfl, t, _, _, 1, rfl, rfl, ht, rfl, ?_⟩
        refine ⟨_, rfl, _, _, rfl, rfl, ⟨by decide, by decide, by decide⟩, _, _, rfl, rfl, _, rfl, ?_⟩
        refine ite2 (fun y => ?_) (fun y => ?_)
        · have y' : (10 : Int) ^ (18 : Int).toNat ≤ c := of_decide_eq_true y
          have c0 : 0 ≤ c := Int.le_trans (by decide) y'
          refine ⟨_, rfl, _, rfl, _, _, rfl, rfl, dv _, _, rfl, t, _, _, 2, rfl, rfl, upd_same, rfl, ?_⟩
          refine ⟨_, rfl, _, rfl, _, _, rfl, rfl, hm, ?_⟩
          exact k _ _ (Int.emod_nonneg _ (by omega)) (Int.emod_lt_of_pos _ hm) ⟨ns, pos + 1, c / m, mix, upd_same, by rw [upd_ne nl, upd_ne nl]; exact hl, by omega, Int.ediv_nonneg c0 (by omega), m0, m1⟩ (SameB.upd.trans SameB.upd)
        · refine ⟨_, rfl, _, _, rfl, rfl, M0, _, rfl, t, _, _, _, rfl, rfl, SqL.of upd_same, rfl, _, _, rfl, rfl, .inl ⟨by decide, by decide⟩, _, _, rfl, rfl, _, _, rfl, rfl, ?_⟩
          refine ⟨_, rfl, t, _, _, _, rfl, rfl, SqL.of upd_same, rfl, _, _, rfl, rfl, .inl ⟨by omega, by omega⟩, _, rfl, _, _, rfl, rfl, _, _, rfl, rfl, M0, _, rfl, t, _, _, 3, rfl, rfl, upd_same, rfl, ?_⟩
          have q0 := Int.emod_nonneg (mix * 48271 + (c % 2147483647 + 7919 * (pos + 1) + 11)) (by decide : (2147483647 : Int) ≠ 0)
          have q1 := Int.emod_lt_of_pos (mix * 48271 + (c % 2147483647 + 7919 * (pos + 1) + 11)) M0
          refine ⟨_, rfl, t, _, _, _, rfl, rfl, SqL.of upd_same, rfl, _, _, rfl, rfl, ⟨by decide, by decide, ?_⟩, _, _, rfl, rfl, M0, _, rfl, _, _, rfl, rfl, hm, ?_⟩
          · omega
          · exact k _ _ (Int.emod_nonneg _ (by omega)) (Int.emod_lt_of_pos _ hm) ⟨ns, pos + 1, rest, _, upd_same, by rw [upd_ne nl, upd_ne nl]; exact hl, by omega, r0, q0, q1⟩ (SameB.upd.trans SameB.upd)
end
abbrev sLst : Stmt := top 33
section
variable {P : Program} {w : World} {K : PySem.W.Frag} {mg : Str → Option Value} {base : Heap} {f : Addr} {fd : FuncData}
theorem scLst : FnScope ["_law_n", "_law_d", "_law_a", "_law_b", "_law_rest"] ["_law_n", "_law_d"] (defScope sLst) := ⟨rfl, rfl, rfl, by decide +kernel, rfl, by decide +kernel, by decide +kernel⟩
theorem ok_lst (F : Fun K "_law_lowest" "_law_lowest" sLst f fd) (T : Bt mg) : FnOk P w K mg base CX0 1 f fd ["_law_n", "_law_d"] spLowest := by
  refine F.ok scLst (fun vs H Q E h => ?_) (fun cdv A outer s H vs Q E hr h => ?_)
  · obtain ⟨n, d, rfl, _⟩ := h
    rfl
  · obtain ⟨n, d, rfl, hd, hd2, k⟩ := h
    refine ⟨_, pss_cons (ps_set (i := 2) scLst.nd rfl (Or.inl rfl) (pe_callB call_abs (by rfl) T.abs boot_abs (pa_cons (pv 0) pa_nil)))
      (pss_cons (ps_set (i := 3) scLst.nd rfl (Or.inl rfl) (pv 1))
      (pss_cons (ps_while PassesOwn.never (pt_cmpR op_gt (pv 3) pe_int (nomark _))
        (pss_cons (ps_set (i := 4) scLst.nd rfl (Or.inl rfl) (pe_op op_mod (pv 2) (pv 3))) (pss_cons (ps_set (i := 2) scLst.nd rfl (Or.inl rfl) (pv 3)) (pss_one (ps_set (i := 3) scLst.nd rfl (Or.inl rfl) (pv 4))))))
      (pss_one (ps_ret (pe_tup (pa_cons (pe_op op_fdivW (pv 0) (pv 2)) (pa_cons (pe_op op_fdivW (pv 1) (pv 2)) pa_nil))))))), ?_⟩
    refine ⟨_, rfl, n, rfl, _, rfl, ?_⟩
    refine ⟨fun m σ H' => ∃ (a' b' : Int) (r : Option V), σ = [some (.int n), some (.int d), some (.int a'), some (.int b'), r] ∧ 0 ≤ a' ∧ 0 ≤ b' ∧ b'.toNat = m ∧ gd a' b' = gd n d ∧ H' = H, ⟨_, _, d, none, rfl, by split <;> omega, by omega, rfl, gd_abs n d, rfl⟩, ?_⟩
    rintro m σ H' ⟨a', b', r, rfl, ha', hb', rfl, e, rfl⟩
    refine ⟨_, rfl, _, _, rfl, rfl, _, rfl, ?_⟩
    refine ite2 (fun z => ?_) (fun z => ?_)
    · have pb : 0 < b' := of_decide_eq_true z
      refine ⟨fun σ' H'' => ∃ (a2 b2 : Int) (r : Option V), σ' = [some (.int n), some (.int d), some (.int a2), some (.int b2), r] ∧ 0 ≤ a2 ∧ 0 ≤ b2 ∧ b2.toNat < b'.toNat ∧ gd a2 b2 = gd n d ∧ H'' = H', ?_, ?_⟩
      · rintro σ' H'' ⟨a2, b2, r2, h1, h2, h3, h4, h5, h6⟩
        exact ⟨_, h4, a2, b2, r2, h1, h2, h3, rfl, h5, h6⟩
      · refine ⟨_, rfl, _, rfl, _, _, rfl, rfl, pb, _, rfl, _, rfl, b', a' % b', _, rfl, hb', Int.emod_nonneg _ (by omega), ?_, ?_, rfl⟩
        · have := Int.emod_lt_of_pos a' pb
          have := Int.emod_nonneg a' (by omega : b' ≠ 0)
          omega
        · rw [gd_step ha' pb]
          exact e
    · have zb : ¬ 0 < b' := fun q => z (decide_eq_true q)
      have z0 : b' = 0 := by omega
      rw [z0, gd_zero ha'] at e
      subst e
      have g0 : 0 < gd n d := gd_pos (by omega)
      have gl : (gd n d).natAbs < 2 ^ 4000 := Nat.lt_of_le_of_lt (gd_natAbs_le (by omega)) hd2
      exact ⟨_, rfl, _, rfl, _, _, rfl, rfl, ⟨g0, log_lt' gl⟩, _, rfl, _, rfl, _, _, rfl, rfl, ⟨g0, log_lt' gl⟩, by show 2 ≤ sizeLine; decide, k⟩
end
abbrev sName : Stmt := top 20
section
variable {P : Program} {w : World} {K : PySem.W.Frag} {mg : Str → Option Value} {base : Heap} {f : Addr} {fd : FuncData} {u1 u2 : Tok} {u3 : Tok}
theorem scName : FnScope ["value", "sign"] ["value"] (defScope sName) := ⟨rfl, rfl, rfl, by decide +kernel, rfl, by decide +kernel, by decide +kernel⟩
theorem ok_name (F : Fun K "is_name" "is_name" sName f fd) (T : Bt mg) (m1 : mg "LETTERS" = some (.str letters u1)) (m2 : mg "NAME_SIGNS" = some (.str signs u2)) (m3 : mg "LONGEST_NAME" = some (.int 12 u3)) : FnOk P w K mg base CX0 1 f fd ["value"] spName := by
  refine F.ok scName (fun vs H Q E h => ?_) (fun cdv A outer s H vs Q E hr h => ?_)
  · obtain ⟨v, t, rfl, _⟩ := h
    rfl
  · obtain ⟨v, t, rfl, ty, hl, k⟩ := h
    refine ⟨_, pss_cons (ps_if (PW.pt (pw_or (pt_not (pt_val (pe_callB call_isi (by rfl) T.isi boot_isinstance (pa_cons (pv 0) (pa_cons (pe_bltn (v := .ty "str") (by rfl) T.str boot_str rfl) pa_nil))))) (pw_or (pt_cmpR op_eq (pv 0) pe_str (nomark _))
        (pw_or1 (pt_cmpR op_gt (pe_callB call_len_str (by rfl) T.len PySem.boot_len (pa_cons (pv 0) pa_nil)) (pe_glob (v := .int 12) (by rfl) m3 ⟨_, rfl⟩) (nomark _)))))) (pss_one (ps_ret pe_bl)) pss_nil)
      (pss_one (ps_ret (pe_and (pe_cmpR op_in_sign (pe_ix ix_str (pv 0) pe_int (fun _ _ => rfl)) (pe_glob (v := .str letters) (by rfl) m1 ⟨_, rfl⟩) (by rfl))
        (pe_one (pe_callB (cr_all rfl) (by rfl) T.all (by decide +kernel) (pa_cons (pe_lc (own := [("sign", 1)]) (g := gName 1) (tt := tYes) (te := tOp rInS (tVar 1) (tC (.str signs))) (by rfl) scName.nd (pi_str (pv 0)) (blkOk_by (own := [("sign", 1)]) (N := ["value", "sign"]) (sc := defScope sName) (by decide +kernel))
          (fun _ _ _ _ _ => pg_name (i := 1) scName.nd rfl (Or.inl rfl)) (fun _ _ _ _ _ => pts_nil) (fun _ _ _ _ _ => pe_cmpR op_in_sign (pv 1) (pe_glob (v := .str signs) (by rfl) m2 ⟨_, rfl⟩) (by rfl))) pa_nil)))))), ?_⟩
    refine ⟨_, rfl, v, .ty "str", _, _, _, rfl, .ty "str", ty.x, kit_str ty.mem, _, rfl, ?_⟩
    by_cases ts : t = "str"
    · obtain ⟨x, rfl⟩ := ty.isStr ts
      subst ts
      have hx := hl x rfl
      refine iteF ⟨_, rfl, rfl, _, rfl, ?_⟩
      rw [dec_empty]
      cases e : x.cps.toList with
      | nil =>
        rw [decide_eq_true rfl]
        have k0 := k H (Same.refl H)
        rw [name_nil e] at k0
        exact iteT (iteT k0)
      | cons c r =>
        rw [decide_eq_false (by simp)]
        refine iteF ⟨_, rfl, x, rfl, hx, _, _, rfl, rfl, _, rfl, ?_⟩
        rw [lenL x]
        by_cases l12 : x.cps.toList.length ≤ 12
        · rw [decide_eq_false (by omega)]
          refine iteF ?_
          have ni := name_is e l12
          refine ⟨_, rfl, x, 0, c, rfl, rfl, hx, (show atI x.cps.toList ((0 : Nat) : Int) = some c from atI_nat (by rw [e]; rfl)), c, letters, rfl, rfl, _, rfl, ?_⟩
          show if inL c = true then _ else _
          refine ite2 (fun z => ?_) (fun z => ?_)
          · refine ⟨_, rfl, x, rfl, fun D hD => lc_it walk_str (fun i H' => H' = upd H D (.lst ((x.cps.toList.take i).map fun c => .bl (inS c)))) rfl (fun _ _ _ _ => True.intro) ?_ ?_⟩
            · rintro i y H' H'' hi rfl ⟨rfl, c', hc', rfl⟩
              refine ⟨rfl, ?_⟩
              change tOp rInS (tVar 1) (tC (.str signs)) _ _ _
              refine ⟨_, rfl, c', signs, rfl, rfl, _, upd_same, ?_, ?_⟩
              · rw [List.length_map, List.length_take]
                exact Nat.lt_of_le_of_lt (Nat.min_le_right _ _) (Nat.lt_of_le_of_lt l12 (by decide))
              · rw [upd_upd]
                exact congrArg (fun z => upd H D (.lst z)) (grow hc' inS)
            · rintro H' rfl
              have ez : x.cps.size = x.cps.toList.length := by simp
              refine ⟨D, x.cps.toList.map inS, rfl, SqL.of (by rw [upd_same, ez, List.take_length, List.map_map]; rfl), ?_⟩
              have k1 := k _ (Same.upd (o := .lst ((x.cps.toList.take x.cps.size).map fun c => .bl (inS c))) hD)
              rw [ni, z, ← e] at k1
              rw [List.all_map]
              exact k1
          · have k0 := k H (Same.refl H)
            rw [ni, show inL c = false by simpa using z] at k0
            exact k0
        · rw [decide_eq_true (by omega)]
          have k0 := k H (Same.refl H)
          rw [name_long l12] at k0
          exact iteT k0
    · have z : (t == "str") = false := by simpa using ts
      rw [z]
      have k0 := k H (Same.refl H)
      have nb : nameB v = false := by cases ty <;> first | rfl | exact absurd rfl ts
      rw [nb] at k0
      exact iteT (iteT k0)
end
end K07
set_option Elab.async false
set_option linter.all false
set_option maxRecDepth 100000
set_option maxHeartbeats 4000000
namespace K07
open PySem PySem.Spec PyProof.Rows L2 Lc
def spLNm : Sp := fun vs H Q _ => ∃ (t l : Addr), vs = [.ref t] ∧ TapeL l H t ∧ ∀ (x : Str) (H' : Hp), Sh 12 x → nameB (.str x) = true → TapeL l H' t → SameB t H H' → Q (.str x) H'
abbrev sLnm : Stmt := top 35
section
variable {P : Program} {w : World} {K : PySem.W.Frag} {mg : Str → Option Value} {base : Heap} {f fD : Addr} {fd fdD : FuncData}
theorem scLnm : FnScope ["_law_tape_here", "_law_letters", "_law_size", "_law_place", "_law_sign", "_law_k"] ["_law_tape_here"] (defScope sLnm) := ⟨rfl, rfl, rfl, by decide +kernel, rfl, by decide +kernel, by decide +kernel⟩
theorem ok_lnm (F : Fun K "_law_name" "_law_name" sLnm f fd) (T : Bt mg) (GD : FnOk P w K mg base CX0 1 fD fdD ["_law_tape_here", "_law_many"] spDrawL) (mD : mg "_law_draw" = some (.ref fD)) (kD : PySem.W.keepIn K (.ref fD) = true) (bD : Binds K fdD ["_law_tape_here", "_law_many"] []) :
    FnOk P w K mg base CX0 2 f fd ["_law_tape_here"] spLNm := by
  refine F.ok scLnm (fun vs H Q E h => ?_) (fun cdv A outer s H vs Q E hr h => ?_)
  · obtain ⟨t, l, rfl, _⟩ := h
    rfl
  · obtain ⟨t, l, rfl, hT, k⟩ := h
    replace hT : TapeL l H t := hT
    refine ⟨_, pss_cons (ps_set (i := 1) scLnm.nd rfl (Or.inr rfl) pe_str)
      (pss_cons (ps_set (i := 2) scLnm.nd rfl (Or.inl rfl) (pe_op op_add pe_int (pe_call GD hr (by rfl) mD kD bD .nil pass0 (pa_cons (pv 0) (pa_cons pe_int pa_nil)))))
      (pss_cons (ps_if (pt_cmpR op_eq (pe_call GD hr (by rfl) mD kD bD .nil pass0 (pa_cons (pv 0) (pa_cons pe_int pa_nil))) pe_int (nomark _))
        (pss_cons (ps_set (i := 3) scLnm.nd rfl (Or.inl rfl) (pe_call GD hr (by rfl) mD kD bD .nil pass0 (pa_cons (pv 0) (pa_cons (pv 2) pa_nil))))
        (pss_cons (ps_set (i := 4) scLnm.nd rfl (Or.inl rfl) (pe_ix ix_str (pv 1) (pe_call GD hr (by rfl) mD kD bD .nil pass0 (pa_cons (pv 0) (pa_cons (pe_op op_add pe_int (pe_op op_mul pe_int (pe_callTy call_int1 (by rfl) T.int boot_int (pa_cons (pe_cmpR op_gt (pv 3) pe_int (nomark _)) pa_nil)))) pa_nil))) (fun _ _ => rfl)))
        (pss_one (ps_ret (pe_op op_add_str (pe_op op_add_str (pe_op op_mulS pe_str (pv 3)) (pv 4)) (pe_op op_mulS pe_str (pe_op op_sub (pe_op op_sub (pv 2) pe_int) (pv 3)))))))) pss_nil)
      (pss_one (ps_ret (pe_join pe_str (pe_lc (own := [("_law_k", 5)]) (g := gName 5) (tt := tYes) (te := tOp rIxS (tVar 1) (tCall spDrawL [] E0 (tCons (tVar 0) (tCons (tOp (rI0 fun i j => .int (i + j)) (tC (.int 26)) (tOp (rI CMul fun i j => .int (i * j)) (tC (.int 10)) (tCB (fun xs H Q => (∃ i, xs = [.int i] ∧ Q (.int i) H) ∨ ∃ k, xs = [.bl k] ∧ Q (.int (if k then 1 else 0)) H) (tCons (tOp (rI0 fun i j => .bl (decide (j < i))) (tVar 5) (tC (.int 0))) tNil)))) tNil)))) (by rfl) scLnm.nd (pi_range1 (by rfl) T.range (pa_cons (pv 2) pa_nil))
        (blkOk_by (own := [("_law_k", 5)]) (N := ["_law_tape_here", "_law_letters", "_law_size", "_law_place", "_law_sign", "_law_k"]) (sc := defScope sLnm) (by decide +kernel)) (fun _ _ _ _ _ => pg_name (i := 5) scLnm.nd rfl (Or.inl rfl)) (fun _ _ _ _ _ => pts_nil)
        (fun _ _ _ _ _ => pe_ix ix_str (pv 1) (pe_call GD hr (by rfl) mD kD bD .nil pass0 (pa_cons (pv 0) (pa_cons (pe_op op_add pe_int (pe_op op_mul pe_int (pe_callTy call_int1 (by rfl) T.int boot_int (pa_cons (pe_cmpR op_gt (pv 5) pe_int (nomark _)) pa_nil)))) pa_nil))) (fun _ _ => rfl)))))))), ?_⟩
    have big : ∀ z : Int, 0 ≤ z → z ≤ 1000 → z.natAbs < 2 ^ 4000 := fun z h1 h2 => big1000 h1 h2
    have sl : (signs.cps.toList.length : Int) = 36 := by rw [signs_len]; rfl
    have sz : signs.length ≤ sizeLine := by rw [lenL, signs_len]; decide
    refine ⟨_, rfl, t, l, _, rfl, hT, by decide, big _ (by decide) (by decide), fun k1 H1 u1 v1 T1 S1 => ⟨_, _, rfl, rfl, ?_⟩⟩
    refine ⟨_, rfl, t, l, _, rfl, T1, by decide, big _ (by decide) (by decide), fun k2 H2 u2 v2 T2 S2 => ⟨rfl, _, rfl, ?_⟩⟩
    refine ite2 (fun _ => ?_) (fun _ => ?_)
    · refine ⟨_, rfl, _, rfl, t, l, _, rfl, T2, by omega, big _ (by omega) (by omega), fun k3 H3 u3 v3 T3 S3 => ?_⟩
      refine ⟨_, rfl, _, rfl, _, rfl, _, _, rfl, rfl, .inr ⟨_, rfl, _, _, rfl, rfl, .inl ⟨by decide, by decide⟩, _, _, rfl, rfl, t, l, _, rfl, T3, by split <;> decide, big _ (by split <;> decide) (by split <;> decide), fun k4 H4 u4 v4 T4 S4 => ?_⟩⟩
      obtain ⟨c, hc, mc, isc, ilc⟩ := sgn_at (i := k4) u4 (by split at v4 <;> omega)
      refine ⟨signs, k4, c, rfl, rfl, sz, hc, ?_⟩
      have m1 : Sh k3.toNat (Txt.mul (PySem.Str.ofString "a") k3) := sh_mul sh_a (Nat.le_refl _) (Nat.le_refl _)
      have m2 : Sh 1 (⟨#[c]⟩ : Str) := sh_one (signs_ok c mc)
      have m3 : Sh (1 + k1 - 1 - k3).toNat (Txt.mul (PySem.Str.ofString "a") (1 + k1 - 1 - k3)) := sh_mul sh_a (Nat.le_refl _) (Nat.le_refl _)
      have ss : (100 : Nat) ≤ sizeLine := by decide
      refine ⟨_, rfl, _, _, rfl, rfl, mul_ok a_size (by omega) (by omega), _, rfl, _, _, rfl, rfl, ?_, _, rfl, _, _, rfl, rfl, _, rfl, _, _, rfl, rfl, _, _, rfl, rfl, mul_ok a_size (by omega) (by omega), _, _, rfl, rfl, ?_, ?_⟩
      · have := sh_len m1
        have := sh_len m2
        omega
      · have := sh_len (sh_app m1 m2)
        have := sh_len m3
        omega
      · exact k _ _ ((sh_app (sh_app m1 m2) m3).mono (by omega)) (name_one u3 (by omega) (by omega) isc (fun z => ilc (by rw [z] at v4; simpa using v4))) T4 (((S1.trans S2).trans S3).trans S4)
    · refine ⟨⟨_, rfl⟩, _, rfl, _, rfl, by omega, by omega, fun D hD => ?_⟩
      have nD : D ≠ t := T2.tape.ne hD
      have nL : D ≠ l := by
        obtain ⟨xs, z⟩ := T2.list
        exact Ne.symm (ne_of_none z hD)
      let one : Nat → Str := fun c => ⟨#[c]⟩
      refine lc_it walk_range (fun i H' => ∃ cs : List Nat, H' D = some (.lst ((cs.map one).map V.str)) ∧ cs.length = i ∧ (∀ c ∈ cs, c ∈ signs.cps.toList ∧ inS c = true) ∧ (∀ c r, cs = c :: r → inL c = true) ∧ TapeL l H' t ∧ SameB t H2 H') ⟨[], upd_same, rfl, by simp, nofun, T2.same (Same.upd hD), Same.b t (Same.upd hD)⟩ (fun _ _ _ _ => True.intro) ?_ ?_
      · rintro i y H' H'' hi ⟨cs, h1, h2, h3, h3b, h4, h5⟩ ⟨rfl, rfl⟩
        refine ⟨rfl, ?_⟩
        change tOp rIxS (tVar 1) _ _ _ _
        refine ⟨_, rfl, _, rfl, _, rfl, _, _, rfl, rfl, .inr ⟨_, rfl, _, _, rfl, rfl, .inl ⟨by decide, by decide⟩, _, _, rfl, rfl, t, l, _, rfl, h4, by split <;> decide, big _ (by split <;> decide) (by split <;> decide), fun k4 H4 u4 v4 T4 S4 => ?_⟩⟩
        obtain ⟨c, hc, mc, isc, ilc⟩ := sgn_at (i := k4) u4 (by split at v4 <;> omega)
        refine ⟨signs, k4, c, rfl, rfl, sz, hc, _, S4 _ _ nD h1, by rw [List.length_map, List.length_map, h2]; exact Nat.lt_trans hi (Nat.lt_of_le_of_lt (show (1 + k1).toNat ≤ 12 by omega) (by decide)), ?_⟩
        refine ⟨cs ++ [c], by rw [upd_same, List.map_append, List.map_append]; rfl, by rw [List.length_append, h2]; rfl, fun y hy => ?_, fun c' r' e => ?_, T4.upd nD nL, fun b o n e => ?_⟩
        · rcases List.mem_append.mp hy with hy | hy
          · exact h3 y hy
          · rw [List.mem_singleton.mp hy]
            exact ⟨mc, isc⟩
        · cases cs with
          | nil =>
            have e : c = c' := by injection e
            rw [← e]
            have i0 : i = 0 := by rw [← h2]; rfl
            subst i0
            exact ilc (by simpa using v4)
          | cons d r =>
            injection e with e _
            rw [← e]
            exact h3b d r rfl
        · rw [upd_ne (ne_of_none e hD)]
          exact (h5.trans S4) b o n e
      · rintro H' ⟨cs, h1, h2, h3, h3b, h4, h5⟩
        have e12 : cs.length ≤ 12 := by omega
        have s1 : ∀ y ∈ cs.map one, Sh 1 y := fun y hy => by
          obtain ⟨c, hc, rfl⟩ := List.mem_map.mp hy
          exact sh_one (signs_ok c (h3 c hc).1)
        have sum : ∀ l : List Str, (∀ y ∈ l, Sh 1 y) → (l.map (·.length)).sum ≤ l.length := by
          intro l
          induction l with
          | nil => intro _; simp
          | cons y l ih =>
            intro h
            have := ih fun z hz => h z (List.mem_cons_of_mem _ hz)
            have := sh_len (h y List.mem_cons_self)
            simp only [List.map_cons, List.sum_cons, List.length_cons]
            omega
        have lm : (cs.map one).length = cs.length := List.length_map ..
        refine ⟨_, D, cs.map one, rfl, rfl, .inl (SqL.of h1), by have := sum _ s1; show _ + (cs.map one).length * 0 ≤ _; omega, ?_⟩
        exact k _ _ ((join_sh _ s1).mono (by omega)) (name_join (fun z => by rw [z] at h2; have : (0 : Nat) = (1 + k1).toNat := h2; omega) e12 h3b (fun c hc => (h3 c hc).2)) h4 ((S1.trans S2).trans h5)
end
end K07
set_option Elab.async false
set_option linter.all false
set_option maxRecDepth 100000
set_option maxHeartbeats 4000000
namespace K07
open PySem PySem.Spec PyProof.Rows L2 Lc
abbrev sFr : Stmt := top 36
def spFr : Sp := fun vs H Q _ => ∃ (t c l : Addr) (ss : List Str), vs = [.ref t, .ref l] ∧ TapeL c H t ∧ H l = some (.lst (ss.map V.str)) ∧ ss.length < 36 ∧ ∀ (x : Str) (H' : Hp), Sh 12 x → nameB (.str x) = true → x ∉ ss → TapeL c H' t → SameB t H H' → Q (.str x) H'
theorem ne_tape {H : Hp} {t l : Addr} {ss : List Str} (T : Tape H t) (h : H l = some (.lst (ss.map V.str))) : l ≠ t := fun z => by
  obtain ⟨a, _, _, _, _, ht, _⟩ := T
  rw [z, ht] at h
  cases ss with
  | nil => cases h
  | cons x r =>
    injection h with h
    injection h with h
    injection h with h1 _
    cases h1
section
variable {P : Program} {w : World} {K : PySem.W.Frag} {mg : Str → Option Value} {base : Heap} {f fN : Addr} {fd fdN : FuncData}
theorem scFr : FnScope ["_law_tape_here", "_law_taken", "_law_name_here", "_law_letter"] ["_law_tape_here", "_law_taken"] (defScope sFr) := ⟨rfl, rfl, rfl, by decide +kernel, rfl, by decide +kernel, by decide +kernel⟩
theorem ok_fr (F : Fun K "_law_fresh" "_law_fresh" sFr f fd) (GN : FnOk P w K mg base CX0 2 fN fdN ["_law_tape_here"] spLNm) (mN : mg "_law_name" = some (.ref fN)) (kN : PySem.W.keepIn K (.ref fN) = true) (bN : Binds K fdN ["_law_tape_here"] []) :
    FnOk P w K mg base CX0 3 f fd ["_law_tape_here", "_law_taken"] spFr := by
  refine F.ok scFr (fun vs H Q E h => ?_) (fun cdv A outer s H vs Q E hr h => ?_)
  · obtain ⟨t, c, l, ss, rfl, _⟩ := h
    rfl
  · obtain ⟨t, tl, l, ss, rfl, hT, hl, l36, k⟩ := h
    refine ⟨_, pss_cons (ps_set (i := 2) scFr.nd rfl (Or.inl rfl) (pe_call GN hr (by rfl) mN kN bN .nil pass0 (pa_cons (pv 0) pa_nil)))
      (pss_cons (ps_if (pt_cmpR op_notIn_seq (pv 2) (pv 1) (by rfl)) (pss_one (ps_ret (pv 2))) pss_nil)
      (pss_cons (ps_for PassesOwn.never rfl (pi_str pe_str) (pg_name (i := 3) scFr.nd rfl (Or.inl rfl))
        (pss_one (ps_if (pt_cmpR op_notIn_seq (pe_op op_add_str (pe_slice sl_str (pv 2) po_none (po_some pe_int)) (pv 3)) (pv 1) (by rfl)) (pss_one (ps_ret (pe_op op_add_str (pe_slice sl_str (pv 2) po_none (po_some pe_int)) (pv 3)))) pss_nil)))
      (pss_one (ps_ret (pv 2))))), ?_⟩
    refine ⟨_, rfl, t, tl, rfl, hT, fun x H1 hx nx T1 S1 => ?_⟩
    have hl1 := S1 _ _ (ne_tape hT.tape hl) hl
    have fl : (ss.map V.str).all flatV = true := by simp [flatV]
    have ln := hx.line (by decide)
    refine ⟨_, rfl, _, rfl, l, _, rfl, .inl (SqL.of hl1), rfl, fl, _, rfl, ite2 (fun y => ?_) (fun y => ?_)⟩
    · refine ⟨_, rfl, k x H1 hx nx (fun m => ?_) T1 S1⟩
      rw [if_pos rfl, in_strs, decide_eq_true m] at y
      cases y
    · refine ⟨_, rfl, for_it walk_str (fun i σ H' => (∃ x3 : Option V, σ = [some (.ref t), some (.ref l), some (.str x), x3]) ∧ H' = H1 ∧ ∀ (j : Nat) (c : Nat), j < i → signs.cps[j]? = some c → cutS x none (some 11) ++ (⟨#[c]⟩ : Str) ∈ ss) ⟨⟨_, rfl⟩, rfl, fun j c h => absurd h (Nat.not_lt_zero _)⟩ (fun _ _ _ _ _ => trivial) ?_ ?_⟩
      · rintro i v σ Ha Hb hi ⟨⟨x3, rfl⟩, rfl, all⟩ ⟨rfl, c, hc, rfl⟩
        have hc : signs.cps[i]? = some c := hc
        have mc : c ∈ signs.cps.toList := Array.mem_toList_iff.mpr (Array.mem_of_getElem? hc)
        have isc : inS c = true := decide_eq_true mc
        have cs : c < 1114112 := signs_ok c mc
        have sc : Sh 11 (cutS x none (some 11)) := ⟨by rw [cut_list, List.length_take]; omega, (sh_cut none (some 11) hx).ok⟩
        have so : Sh 1 (⟨#[c]⟩ : Str) := sh_one cs
        have lt : (cutS x none (some 11)).length + (⟨#[c]⟩ : Str).length ≤ sizeLine := Nat.le_trans (Nat.add_le_add (sh_len sc) (sh_len so)) (by decide)
        refine ⟨_, rfl, 11, rfl, x, rfl, ln, _, rfl, _, _, rfl, rfl, lt, _, rfl, l, _, rfl, .inl (SqL.of hl1), rfl, fl, _, rfl, ite2 (fun y => ?_) (fun y => ?_)⟩
        · refine ⟨_, rfl, 11, rfl, x, rfl, ln, _, rfl, _, _, rfl, rfl, lt, k _ _ (sh_app sc so) (name_cut nx isc) (fun m => ?_) T1 S1⟩
          rw [if_pos rfl, in_strs, decide_eq_true m] at y
          cases y
        · refine ⟨⟨_, rfl⟩, rfl, fun j c' hj hc' => ?_⟩
          by_cases e : j = i
          · subst e
            rw [hc] at hc'
            cases hc'
            rw [if_pos rfl, in_strs] at y
            exact of_decide_eq_true (by simpa using y)
          · exact all j c' (by omega) hc'
      · rintro σ H' ⟨⟨x3, rfl⟩, rfl, all⟩
        refine (free_letter (x := x) l36 fun c mc => ?_).elim
        obtain ⟨j, hj⟩ := List.mem_iff_getElem?.mp mc
        rw [Array.getElem?_toList] at hj
        exact all j c (Array.getElem?_eq_some_iff.mp hj).1 hj
end
theorem Same.gone {H H' : Hp} {p : Addr} (s : Same H H') (e : H' p = none) : H p = none := by
  cases q : H p with
  | none => rfl
  | some o => rw [s p o q] at e; cases e
abbrev sCls : Stmt := top 37
/-! ## columns: pairs of texts -/
inductive Cols (H : Hp) : List V → List (Str × Str) → Prop
  | nil : Cols H [] []
  | cons {a : Addr} {z k : Str} {xs : List V} {ps : List (Str × Str)} (e : H a = some (.tup [.str z, .str k])) (r : Cols H xs ps) : Cols H (.ref a :: xs) ((z, k) :: ps)
theorem Cols.t {H H' : Hp} (s : SameT H H') : ∀ {xs : List V} {ps : List (Str × Str)}, Cols H xs ps → Cols H' xs ps
  | _, _, .nil => .nil
  | _, _, .cons e r => .cons (s _ _ e) (Cols.t s r)
theorem Cols.app {H : Hp} : ∀ {xs ys : List V} {ps qs : List (Str × Str)}, Cols H xs ps → Cols H ys qs → Cols H (xs ++ ys) (ps ++ qs)
  | _, _, _, _, .nil, r => r
  | _, _, _, _, .cons e h, r => .cons e (Cols.app h r)
theorem Cols.len {H : Hp} : ∀ {xs : List V} {ps : List (Str × Str)}, Cols H xs ps → xs.length = ps.length
  | _, _, .nil => rfl
  | _, _, .cons _ r => by rw [List.length_cons, List.length_cons, Cols.len r]
def colP (p : Str × Str) : PyData := .tuple [.str p.1, .str p.2]
theorem Cols.dh {H : Hp} : ∀ {xs : List V} {ps : List (Str × Str)}, Cols H xs ps → DhAll H xs (ps.map colP)
  | _, _, .nil => .nil
  | _, _, .cons e r => .cons (.tup e (.cons (.str _) (.cons (.str _) .nil))) (Cols.dh r)
def KindS (k : Str) : Prop := k = "number" ∨ k = "word" ∨ k = "flag"
theorem KindS.sh {k : Str} (h : KindS k) : Sh 100 k := by
  rcases h with rfl | rfl | rfl <;> exact ⟨by decide +kernel, by decide +kernel⟩
def spCls : Sp := fun vs H Q _ => ∃ (t c l n : Addr) (m : Int) (lead : List Str), vs = [.ref t, .ref l, .int m, .ref n] ∧ TapeL c H t ∧ H l = some (.lst (lead.map V.str)) ∧ H n = some (.lst []) ∧ 0 ≤ m ∧ m ≤ 7 ∧ 1 ≤ lead.length ∧ lead.length + m.toNat ≤ 8 ∧ (∀ k ∈ lead, KindS k) ∧
  ∀ (r : Addr) (xs : List V) (ps : List (Str × Str)) (H' : Hp), H' r = some (.tup xs) → Cols H' xs ps → (∀ p ∈ ps, Sh 12 p.1 ∧ nameB (.str p.1) = true ∧ KindS p.2) → (ps.map (·.1)).Nodup → lead.length ≤ ps.length → ps.length ≤ lead.length + m.toNat → TapeL c H' t → SameB t H H' → Q (.ref r) H'
section
variable {P : Program} {w : World} {K : PySem.W.Frag} {mg : Str → Option Value} {base : Heap} {f fD fF : Addr} {fd fdD fdF : FuncData}
theorem scCls : FnScope ["_law_tape_here", "_law_lead", "_law_many", "_law_taken", "_law_names", "_law_columns_here", "_law_kinds", "_law_k", "_law_kind"] ["_law_tape_here", "_law_lead", "_law_many", "_law_taken"] (defScope sCls) := ⟨rfl, rfl, rfl, by decide +kernel, rfl, by decide +kernel, by decide +kernel⟩
theorem ok_cls (F : Fun K "_law_columns" "_law_columns" sCls f fd) (T : Bt mg) (GD : FnOk P w K mg base CX0 1 fD fdD ["_law_tape_here", "_law_many"] spDrawL) (mD : mg "_law_draw" = some (.ref fD)) (kD : PySem.W.keepIn K (.ref fD) = true) (bD : Binds K fdD ["_law_tape_here", "_law_many"] [])
    (GF : FnOk P w K mg base CX0 3 fF fdF ["_law_tape_here", "_law_taken"] spFr) (mF : mg "_law_fresh" = some (.ref fF)) (kF : PySem.W.keepIn K (.ref fF) = true) (bF : Binds K fdF ["_law_tape_here", "_law_taken"] []) :
    FnOk P w K mg base CX0 4 f fd ["_law_tape_here", "_law_lead", "_law_many", "_law_taken"] spCls := by
  refine F.ok scCls (fun vs H Q E h => ?_) (fun cdv A outer s H vs Q E hr h => ?_)
  · obtain ⟨t, c, l, n, m, lead, rfl, _⟩ := h
    rfl
  · obtain ⟨t, c, l, n, m, lead, rfl, hT, hl, hn, m0, m7, ld1, ld8, hkl, k⟩ := h
    have hr1 : Room 1 _ := hr.mono (by decide)
    refine ⟨_, pss_cons (ps_set (i := 4) scCls.nd rfl (Or.inl rfl) (pe_callTy call_list_of (by rfl) T.list boot_list (pa_cons (pv 3) pa_nil)))
      (pss_cons (ps_set (i := 5) scCls.nd rfl (Or.inl rfl) (pe_lst pa_nil))
      (pss_cons (ps_set (i := 6) scCls.nd rfl (Or.inl rfl) (pe_callTy call_list_of (by rfl) T.list boot_list (pa_cons (pv 1) pa_nil)))
      (Evl.pss_cut (ps_for PassesOwn.never rfl (pi_range1 (by rfl) T.range (pa_cons (pe_call GD hr1 (by rfl) mD kD bD .nil pass0 (pa_cons (pv 0) (pa_cons (pe_op op_add (pv 2) pe_int) pa_nil))) pa_nil)) (pg_name (i := 7) scCls.nd rfl (Or.inl rfl))
        (pss_one (ps_expr (pe_bm PySem.F.plainAttrs_list PySem.F.slot_list_append PySem.F.type_list_append mt_append (pv 6) (pa_cons (pe_ix ix_list (pe_lst (pa_cons pe_str (pa_cons pe_str (pa_cons pe_str pa_nil)))) (pe_call GD hr1 (by rfl) mD kD bD .nil pass0 (pa_cons (pv 0) (pa_cons pe_int pa_nil))) (fun _ _ => rfl)) pa_nil)))))
      (pss_cons (ps_for PassesOwn.never rfl (pi_list (pv 6)) (pg_name (i := 8) scCls.nd rfl (Or.inl rfl))
        (pss_cons (ps_expr (pe_bm PySem.F.plainAttrs_list PySem.F.slot_list_append PySem.F.type_list_append mt_append (pv 4) (pa_cons (pe_call GF hr (by rfl) mF kF bF .nil pass0 (pa_cons (pv 0) (pa_cons (pv 4) pa_nil))) pa_nil)))
        (pss_one (ps_expr (pe_bm PySem.F.plainAttrs_list PySem.F.slot_list_append PySem.F.type_list_append mt_append (pv 5) (pa_cons (pe_tup (pa_cons (pe_ix ix_list (pv 4) (pe_un un_neg pe_int) (fun _ _ => rfl)) (pa_cons (pv 8) pa_nil))) pa_nil))))))
      (pss_one (ps_ret (pe_callTy call_tuple_of (by rfl) T.tuple boot_tuple (pa_cons (pv 5) pa_nil)))))))), ?_⟩
    refine ⟨_, rfl, n, _, rfl, .inl (SqL.of hn), fun L hL => ⟨by show 0 ≤ sizeLine; decide, fun M hM => ?_⟩⟩
    have yL := Same.upd (o := .lst []) hL
    have yM := Same.upd (o := .lst []) hM
    refine ⟨_, rfl, l, _, rfl, .inl (SqL.of ((yL.trans yM) _ _ hl)), fun N hN => ?_⟩
    have yN := Same.upd (o := .lst (lead.map V.str)) hN
    have nLt := hT.tape.ne hL
    have nMt := (hT.same yL).tape.ne hM
    have nNt := (hT.same (yL.trans yM)).tape.ne hN
    obtain ⟨ys, hc⟩ := hT.list
    have nLc : L ≠ c := Ne.symm (ne_of_none hc hL)
    have nMc : M ≠ c := Ne.symm (ne_of_none (yL _ _ hc) hM)
    have nNc : N ≠ c := Ne.symm (ne_of_none ((yL.trans yM) _ _ hc) hN)
    have eL : upd H L (.lst []) L = some (.lst []) := upd_same
    have nML : L ≠ M := ne_of_none eL hM
    have nNL : L ≠ N := ne_of_none (yM _ _ eL) hN
    have nNM : M ≠ N := ne_of_none (show upd (upd H L (.lst [])) M (.lst []) M = some (.lst []) from upd_same) hN
    have hL3 := (yM.trans yN) _ _ eL
    have hM3 := yN _ _ (show upd (upd H L (.lst [])) M (.lst []) M = some (.lst []) from upd_same)
    have hN3 : upd (upd (upd H L (.lst [])) M (.lst [])) N (.lst (lead.map V.str)) N = some (.lst (lead.map V.str)) := upd_same
    have s3 := yL.trans (yM.trans yN)
    have gM := Same.gone yL hM
    have gN := Same.gone (yL.trans yM) hN
    have hT3 := hT.same s3
    generalize upd (upd (upd H L (.lst [])) M (.lst [])) N (.lst (lead.map V.str)) = H3 at hL3 hM3 hN3 s3 hT3 yN ⊢
    clear yN yM yL eL
    have o3 : 3 ≤ sizeLine := by decide
    let Md : Option V → Option V → List Str → L2.St → Hp → Prop := fun x7 x8 ks σ H' => σ = [some (.ref t), some (.ref l), some (.int m), some (.ref n), some (.ref L), some (.ref M), some (.ref N), x7, x8] ∧ H' N = some (.lst (ks.map V.str)) ∧ (∀ k ∈ ks, KindS k) ∧ TapeL c H' t ∧ SameB t H H'
    refine ⟨fun σ H' => ∃ x7 ks, Md x7 none ks σ H' ∧ H' L = some (.lst []) ∧ H' M = some (.lst []) ∧ lead.length ≤ ks.length ∧ ks.length ≤ lead.length + m.toNat, ?_, ?_⟩
    · refine ⟨_, rfl, _, rfl, _, _, rfl, rfl, t, c, _, rfl, hT3, by omega, big1000 (by omega) (by omega), fun k2 H4 u2 w2 T4 S4 => ⟨k2, rfl, by omega, by omega, for_range (n := k2.toNat) (fun i σ H' => ∃ x7 ks, Md x7 none ks σ H' ∧ H' L = some (.lst []) ∧ H' M = some (.lst []) ∧ ks.length = i + lead.length)
        ⟨_, lead, ⟨rfl, S4 _ _ nNt hN3, hkl, T4, (Same.b t s3).trans S4⟩, S4 _ _ nLt hL3, S4 _ _ nMt hM3, (Nat.zero_add _).symm⟩ ?_ ?_⟩⟩
      · rintro i σ H5 hi ⟨x7, ks, ⟨rfl, hN5, hk5, T5, S5⟩, hL5, hM5, e5⟩
        refine ⟨_, rfl, .inl ⟨rfl, _, SqL.of hN5⟩, o3, fun q hq => ?_⟩
        have zq := Same.upd (o := .lst [.str "number", .str "word", .str "flag"]) hq
        have nq := T5.tape.ne hq
        refine ⟨_, rfl, t, c, _, rfl, T5.same zq, by decide, big1000 (by decide) (by decide), fun k3 H6 u3 w3 T6 S6 => ?_⟩
        obtain ⟨kk, hkk, skk⟩ : ∃ kk : Str, ([.str "number", .str "word", .str "flag"] : List V)[k3.toNat]? = some (.str kk) ∧ KindS kk := by
          have : k3.toNat = 0 ∨ k3.toNat = 1 ∨ k3.toNat = 2 := by omega
          rcases this with e | e | e <;> rw [e]
          · exact ⟨_, rfl, .inl rfl⟩
          · exact ⟨_, rfl, .inr (.inl rfl)⟩
          · exact ⟨_, rfl, .inr (.inr rfl)⟩
        have S7 : SameB t H5 H6 := (Same.b t zq).trans S6
        have hN6 := S7 _ _ nNt hN5
        refine ⟨q, _, _, _, rfl, rfl, SqL.of (S6 _ _ nq upd_same), at_of (j := k3.toNat) (by omega) hkk, N, _, _, rfl, rfl, hN6, ?_, ?_⟩
        · rw [List.length_map, e5]
          exact Nat.lt_of_le_of_lt (show i + lead.length ≤ 8 by omega) (by decide)
        · refine ⟨_, ks ++ [kk], ⟨rfl, by rw [upd_same, List.map_append]; rfl, fun k hk => ?_, T6.upd nNt nNc, fun b o n e => ?_⟩, by rw [upd_ne nNL]; exact S7 _ _ nLt hL5, by rw [upd_ne nNM]; exact S7 _ _ nMt hM5, by rw [List.length_append, e5, List.length_singleton]; omega⟩
          · rcases List.mem_append.mp hk with hk | hk
            · exact hk5 k hk
            · rw [List.mem_singleton.mp hk]; exact skk
          · rw [upd_ne (fun z => by rw [z, gN] at e; cases e)]
            exact (S5.trans S7) b o n e
      · rintro σ H5 ⟨x7, ks, h5, hL5, hM5, e5⟩
        exact ⟨x7, ks, h5, hL5, hM5, by omega, by omega⟩
    · rintro σ H5 ⟨x7, ks, ⟨rfl, hN5, hk5, T5, S5⟩, hL5, hM5, e5, e6⟩
      refine ⟨_, rfl, N, rfl, ⟨_, SqL.of hN5⟩, for_list (K := K) (a := N) (xs := ks.map V.str) (fun i σ H' => ∃ (x8 : Option V) (ns : List Str) (xs : List V) (ps : List (Str × Str)), Md x7 x8 ks σ H' ∧ H' L = some (.lst (ns.map V.str)) ∧ H' M = some (.lst xs) ∧ Cols H' xs ps ∧ (∀ p ∈ ps, Sh 12 p.1 ∧ nameB (.str p.1) = true ∧ KindS p.2) ∧ ns.length = i ∧ ps.length = i ∧ ps.map (·.1) = ns ∧ ns.Nodup)
        ⟨_, [], [], [], ⟨rfl, hN5, hk5, T5, S5⟩, hL5, hM5, .nil, nofun, rfl, rfl, rfl, List.nodup_nil⟩ (fun i σ H' _ p => by obtain ⟨_, _, _, _, ⟨_, z, _⟩, _⟩ := p; exact SqL.of z) ?_ ?_⟩
      · rintro i x σ H6 hx ⟨x8, ns, xs, ps, ⟨rfl, hN6, _, T6, S6⟩, hL6, hM6, hc6, hp6, e7, e8, en, nd⟩
        obtain ⟨kk, hkk, rfl⟩ : ∃ kk, ks[i]? = some kk ∧ V.str kk = x := by
          rw [List.getElem?_map] at hx
          cases q : ks[i]? with
          | none => rw [q] at hx; cases hx
          | some kk => rw [q] at hx; exact ⟨kk, rfl, Option.some.inj hx⟩
        have hi8 : i < 8 := Nat.lt_of_lt_of_le (List.getElem?_eq_some_iff.mp hkk).1 (show ks.length ≤ 8 by omega)
        have skk := hk5 kk (List.mem_of_getElem? hkk)
        have lim : ∀ {m : Nat}, m ≤ 8 → m < sizeLine := fun h => Nat.lt_of_le_of_lt h (by decide)
        refine ⟨_, rfl, .inl ⟨rfl, _, SqL.of hL6⟩, _, rfl, _, rfl, t, c, L, ns, rfl, T6, hL6, by omega, fun z H7 hz nz fz T7 S7 => ?_⟩
        have hL7 := S7 _ _ nLt hL6
        have hM7 := S7 _ _ nMt hM6
        have hN7 := S7 _ _ nNt hN6
        have hc7 := hc6.t (SameT.b T6.tape S7)
        refine ⟨L, _, _, rfl, rfl, hL7, by rw [List.length_map, e7]; exact lim (by omega), ?_⟩
        have hc8 := hc7.t (SameT.lst (o := .lst (ns.map V.str ++ [.str z])) hL7)
        have T8 := T7.upd (o := .lst (ns.map V.str ++ [.str z])) nLt nLc
        have hL8 : upd H7 L (.lst (ns.map V.str ++ [.str z])) L = some (.lst (ns.map V.str ++ [.str z])) := upd_same
        have hM8 : upd H7 L (.lst (ns.map V.str ++ [.str z])) M = some (.lst xs) := by rw [upd_ne (Ne.symm nML)]; exact hM7
        have hN8 : upd H7 L (.lst (ns.map V.str ++ [.str z])) N = some (.lst (ks.map V.str)) := by rw [upd_ne (Ne.symm nNL)]; exact hN7
        have S8 : SameB t H (upd H7 L (.lst (ns.map V.str ++ [.str z]))) := fun b o n e => by
          rw [upd_ne (fun z => by rw [z, hL] at e; cases e)]
          exact (S6.trans S7) b o n e
        generalize upd H7 L (.lst (ns.map V.str ++ [.str z])) = H8 at hc8 T8 hL8 hM8 hN8 S8 ⊢
        refine ⟨_, rfl, .inl ⟨rfl, _, SqL.of hM8⟩, _, rfl, _, rfl, L, _, _, _, rfl, rfl, SqL.of hL8, (show atI (ns.map V.str ++ [.str z]) (-1) = some (.str z) from ?_), _, rfl, by show 2 ≤ sizeLine; decide, fun q hq => ?_⟩
        · unfold atI
          rw [show ixN (ns.map V.str ++ [V.str z]).length (-1) = some ns.length from ?_]
          · simp
          · have hl : (ns.map V.str ++ [V.str z]).length = ns.length + 1 := by rw [List.length_append, List.length_map]; rfl
            unfold ixN
            rw [hl, if_neg (by decide), if_pos (by omega)]
            exact congrArg some (by omega)
        have zq := Same.upd (o := .tup [.str z, .str kk]) hq
        have hM9 := zq _ _ hM8
        have lx := hc6.len
        refine ⟨M, _, _, rfl, rfl, hM9, lim (by omega), ?_⟩
        refine ⟨_, ns ++ [z], xs ++ [.ref q], ps ++ [(z, kk)], ⟨rfl, by rw [upd_ne (Ne.symm nNM)]; exact zq _ _ hN8, hk5, (T8.same zq).upd nMt nMc, fun b o n e => ?_⟩, by rw [upd_ne nML, zq _ _ hL8, List.map_append]; rfl, upd_same, ?_, ?_, by rw [List.length_append, e7]; rfl, by rw [List.length_append, e8]; rfl, by rw [List.map_append, en]; rfl, List.nodup_append.mpr ⟨nd, List.nodup_cons.mpr ⟨nofun, List.nodup_nil⟩, fun a ha b hb => by rw [List.mem_singleton.mp hb]; exact fun e => fz (by rw [← e]; exact ha)⟩⟩
        · rw [upd_ne (fun z => by rw [z, gM] at e; cases e)]
          exact (S8.trans (Same.b t zq)) b o n e
        · have eq : upd H8 q (.tup [.str z, .str kk]) q = some (.tup [.str z, .str kk]) := upd_same
          have hc9 := (hc8.t (SameT.of zq)).app (.cons eq .nil)
          exact hc9.t (SameT.lst hM9)
        · intro p hp
          rcases List.mem_append.mp hp with hp | hp
          · exact hp6 p hp
          · rw [List.mem_singleton.mp hp]; exact ⟨hz, nz, skk⟩
      · rintro σ H6 ⟨x8, ns, xs, ps, ⟨rfl, hN6, _, T6, S6⟩, hL6, hM6, hc6, hp6, e7, e8, en, nd⟩
        rw [List.length_map] at e8
        refine ⟨_, rfl, M, xs, rfl, .inl ⟨SqL.of hM6, fun r hr => ?_⟩⟩
        have zr := Same.upd (o := .tup xs) hr
        exact k r xs ps _ upd_same (hc6.t (SameT.of zr)) hp6 (by rw [en]; exact nd) (by omega) (by omega) (T6.same zr) (S6.trans (Same.b t zr))
end
end K07
set_option Elab.async false
set_option linter.all false
set_option maxRecDepth 100000
set_option maxHeartbeats 4000000
namespace K07
open PySem PySem.Spec PyProof.Rows L2 Lc
def spRatL : Sp := fun vs H Q _ => ∃ (t c : Addr) (b : Bool), vs = [.ref t, .bl b] ∧ TapeL c H t ∧ ∀ (p : Addr) (n d : Int) (H' : Hp), Rt n d → n.natAbs ≤ 10000000000000000000000000000000000000000 → d.natAbs ≤ 10000000000000000000000000000000000000000 → H' p = some (.tup [.int n, .int d]) → H p = none → TapeL c H' t → SameB t H H' → Q (.ref p) H'
abbrev sRat : Stmt := top 34
section
variable {P : Program} {w : World} {K : PySem.W.Frag} {mg : Str → Option Value} {base : Heap} {f : Addr} {fd : FuncData}
theorem scRat : FnScope ["_law_tape_here", "_law_wide", "_law_size", "_law_number", "_law_edge"] ["_law_tape_here", "_law_wide"] (defScope sRat) := ⟨rfl, rfl, rfl, by decide +kernel, rfl, by decide +kernel, by decide +kernel⟩
theorem ok_rat {fD fL : Addr} {fdD fdL : FuncData} (F : Fun K "_law_rational" "_law_rational" sRat f fd) (T : Bt mg) (GD : FnOk P w K mg base CX0 1 fD fdD ["_law_tape_here", "_law_many"] spDrawL) (mD : mg "_law_draw" = some (.ref fD)) (kD : PySem.W.keepIn K (.ref fD) = true) (bD : Binds K fdD ["_law_tape_here", "_law_many"] [])
    (GL : FnOk P w K mg base CX0 1 fL fdL ["_law_n", "_law_d"] spLowest) (mL : mg "_law_lowest" = some (.ref fL)) (kL : PySem.W.keepIn K (.ref fL) = true) (bL : Binds K fdL ["_law_n", "_law_d"] []) : FnOk P w K mg base CX0 2 f fd ["_law_tape_here", "_law_wide"] spRatL := by
  refine F.ok scRat (fun vs H Q E h => ?_) (fun cdv A outer s H vs Q E hr h => ?_)
  · obtain ⟨t, c, b, rfl, _⟩ := h
    rfl
  · obtain ⟨t, c, b, rfl, hT, k⟩ := h
    refine ⟨_, pss_cons (ps_set (i := 2) scRat.nd rfl (Or.inl rfl) (pe_call GD hr (by rfl) mD kD bD .nil pass0 (pa_cons (pv 0) (pa_cons (pe_op op_add pe_int (pe_op op_mul pe_int (pe_callTy call_int1 (by rfl) T.int boot_int (pa_cons (pv 1) pa_nil)))) pa_nil))))
      (pss_cons (ps_if (pt_cmpR op_lt (pv 2) pe_int (nomark _)) (pss_one (ps_ret (pe_tup (pa_cons (pe_op op_sub (pe_call GD hr (by rfl) mD kD bD .nil pass0 (pa_cons (pv 0) (pa_cons pe_int pa_nil))) pe_int) (pa_cons pe_int pa_nil))))) pss_nil)
      (pss_cons (ps_if (pt_cmpR op_lt (pv 2) pe_int (nomark _)) (pss_one (ps_ret (pe_call GL hr (by rfl) mL kL bL .nil pass0 (pa_cons (pe_op op_sub (pe_call GD hr (by rfl) mD kD bD .nil pass0 (pa_cons (pv 0) (pa_cons pe_int pa_nil))) pe_int) (pa_cons (pe_op op_add pe_int (pe_call GD hr (by rfl) mD kD bD .nil pass0 (pa_cons (pv 0) (pa_cons pe_int pa_nil)))) pa_nil))))) pss_nil)
      (pss_cons (ps_if (pt_cmpR op_eq (pv 2) pe_int (nomark _)) (pss_cons (ps_set (i := 3) scRat.nd rfl (Or.inl rfl) (pe_op op_sub (pe_call GD hr (by rfl) mD kD bD .nil pass0 (pa_cons (pv 0) (pa_cons (pe_op op_add (pe_op op_mul pe_int (pe_op op_pow pe_int pe_int)) pe_int) pa_nil))) (pe_op op_pow pe_int pe_int)))
          (pss_one (ps_ret (pe_call GL hr (by rfl) mL kL bL .nil pass0 (pa_cons (pv 3) (pa_cons (pe_op op_add pe_int (pe_call GD hr (by rfl) mD kD bD .nil pass0 (pa_cons (pv 0) (pa_cons (pe_op op_pow pe_int pe_int) pa_nil)))) pa_nil)))))) pss_nil)
      (pss_cons (ps_set (i := 4) scRat.nd rfl (Or.inl rfl) (pe_op op_sub (pe_op op_pow pe_int pe_int) (pe_call GD hr (by rfl) mD kD bD .nil pass0 (pa_cons (pv 0) (pa_cons pe_int pa_nil)))))
      (pss_one (ps_ret (pe_ix ix_list (pe_lst (pa_cons (pe_tup (pa_cons (pv 4) (pa_cons pe_int pa_nil))) (pa_cons (pe_tup (pa_cons (pe_op op_sub pe_int (pv 4)) (pa_cons pe_int pa_nil))) (pa_cons (pe_tup (pa_cons pe_int (pa_cons (pv 4) pa_nil))) (pa_cons (pe_tup (pa_cons (pe_un un_neg pe_int) (pa_cons (pv 4) pa_nil))) pa_nil)))))
        (pe_call GD hr (by rfl) mD kD bD .nil pass0 (pa_cons (pv 0) (pa_cons pe_int pa_nil))) (fun _ _ => rfl)))))))), ?_⟩
    have two : 2 ≤ sizeLine := by decide
    have pw18 : CPow 10 18 := ⟨by decide, by decide, by decide⟩
    have pw40 : CPow 10 40 := ⟨by decide, by decide, by decide⟩
    have b140 : ∀ z : Int, -100000000000000000000000000000000000000000 ≤ z → z ≤ 100000000000000000000000000000000000000000 → z.natAbs < 2 ^ 140 := by
      intro z h1 h2
      have : (2 : Nat) ^ 140 = 1393796574908163946345982392040522594123776 := by decide
      omega
    have big : ∀ z : Int, -100000000000000000000000000000000000000000 ≤ z → z ≤ 100000000000000000000000000000000000000000 → z.natAbs < 2 ^ 4000 := fun z h1 h2 => Nat.lt_of_lt_of_le (b140 z h1 h2) (Nat.pow_le_pow_right (by decide) (by decide))
    have b40 : ∀ z : Int, -10000000000000000000000000000000000000000 ≤ z → z ≤ 10000000000000000000000000000000000000000 → z.natAbs ≤ 10000000000000000000000000000000000000000 := by
      intro z h1 h2
      omega
    refine ⟨_, rfl, _, rfl, .inr ⟨b, rfl, _, _, rfl, rfl, .inl ⟨by decide, by decide⟩, _, _, rfl, rfl, t, c, _, rfl, hT, by cases b <;> decide, by cases b <;> exact big _ (by decide) (by decide), fun k1 H1 u1 v1 T1 S1 => ?_⟩⟩
    refine ⟨_, rfl, _, _, rfl, rfl, _, rfl, ?_⟩
    refine ite2 (fun _ => ?_) (fun _ => ?_)
    · refine ⟨_, rfl, t, c, _, rfl, T1, by decide, big _ (by decide) (by decide), fun k2 H2 u2 v2 T2 S2 => ?_⟩
      refine ⟨_, _, rfl, rfl, two, fun p hp => ?_⟩
      exact k p (k2 - 7) 1 _ (rt_one _) (b40 _ (by omega) (by omega)) (b40 _ (by decide) (by decide)) upd_same ((S1.trans S2).free T2.tape hp) (T2.same (Same.upd hp)) ((S1.trans S2).trans (Same.b t (Same.upd hp)))
    · refine ⟨_, rfl, _, _, rfl, rfl, _, rfl, ?_⟩
      refine ite2 (fun _ => ?_) (fun _ => ?_)
      · refine ⟨_, rfl, t, c, _, rfl, T1, by decide, big _ (by decide) (by decide), fun k2 H2 u2 v2 T2 S2 => ?_⟩
        refine ⟨_, _, rfl, rfl, _, rfl, t, c, _, rfl, T2, by decide, big _ (by decide) (by decide), fun k3 H3 u3 v3 T3 S3 => ?_⟩
        refine ⟨_, _, rfl, rfl, _, _, rfl, by omega, big _ (by omega) (by omega), fun p hp => ?_⟩
        have le := low_le (n := k2 - 200) (d := 1 + k3) (by omega)
        exact k p _ _ _ (low_rt (by omega)) (Nat.le_trans le.1 (b40 _ (by omega) (by omega))) (Nat.le_trans le.2 (b40 _ (by omega) (by omega))) upd_same (((S1.trans S2).trans S3).free T3.tape hp) (T3.same (Same.upd hp)) (((S1.trans S2).trans S3).trans (Same.b t (Same.upd hp)))
      · refine ⟨_, rfl, rfl, _, rfl, ?_⟩
        refine ite2 (fun _ => ?_) (fun _ => ?_)
        · refine ⟨_, rfl, _, _, rfl, rfl, pw18, _, _, rfl, rfl, .inl ⟨by decide, by decide⟩, _, _, rfl, rfl, t, c, _, rfl, T1, ?_, ?_, fun k2 H2 u2 v2 T2 S2 => ?_⟩
          · rw [p18]
            decide
          · rw [p18]
            exact big _ (by decide) (by decide)
          rw [p18] at v2
          refine ⟨_, _, rfl, rfl, pw18, _, _, rfl, rfl, _, rfl, _, rfl, _, _, rfl, rfl, pw18, t, c, _, rfl, T2, ?_, ?_, fun k3 H3 u3 v3 T3 S3 => ?_⟩
          · rw [p18]
            decide
          · rw [p18]
            exact big _ (by decide) (by decide)
          rw [p18] at v3
          refine ⟨_, _, rfl, rfl, _, _, rfl, by omega, big _ (by omega) (by omega), fun p hp => ?_⟩
          have le := low_le (n := k2 - 10 ^ (18 : Int).toNat) (d := 1 + k3) (by omega)
          rw [p18] at le
          refine k p _ _ _ (low_rt (by omega)) ?_ (Nat.le_trans le.2 (b40 _ (by omega) (by omega))) upd_same (((S1.trans S2).trans S3).free T3.tape hp) (T3.same (Same.upd hp)) (((S1.trans S2).trans S3).trans (Same.b t (Same.upd hp)))
          exact Nat.le_trans le.1 (b40 _ (by omega) (by omega))
        · refine ⟨_, _, rfl, rfl, pw40, _, rfl, t, c, _, rfl, T1, by decide, big _ (by decide) (by decide), fun k2 H2 u2 v2 T2 S2 => ?_⟩
          refine ⟨_, _, rfl, rfl, ?_⟩
          rw [p40]
          obtain ⟨ed, he⟩ : ∃ ed : Int, ed = 10000000000000000000000000000000000000000 - k2 := ⟨_, rfl⟩
          rw [show (fun i j : Int => V.int (i - j)) 10000000000000000000000000000000000000000 k2 = V.int ed by rw [he]]
          refine ⟨_, rfl, two, fun a1 ha1 => ⟨_, rfl, _, _, rfl, rfl, two, fun a2 ha2 => ⟨_, rfl, two, fun a3 ha3 => ⟨_, rfl, _, rfl, two, fun a4 ha4 => ⟨by show 4 ≤ sizeLine; decide, fun a5 ha5 => ?_⟩⟩⟩⟩⟩
          have z1 := Same.upd (o := .tup [.int ed, .int 1]) ha1
          have z2 := Same.upd (o := .tup [.int (0 - ed), .int 1]) ha2
          have z3 := Same.upd (o := .tup [.int 1, .int ed]) ha3
          have z4 := Same.upd (o := .tup [.int (-1), .int ed]) ha4
          have z5 := Same.upd (o := .lst [.ref a1, .ref a2, .ref a3, .ref a4]) ha5
          have zz := z1.trans (z2.trans (z3.trans (z4.trans z5)))
          have T5 := T2.same zz
          refine ⟨_, rfl, t, c, _, rfl, T5, by decide, big _ (by decide) (by decide), fun k3 H3 u3 v3 T3 S3 => ?_⟩
          have n5 : a5 ≠ t := (T2.same (z1.trans (z2.trans (z3.trans z4)))).tape.ne ha5
          have n1 : a1 ≠ t := T2.tape.ne ha1
          have n2 : a2 ≠ t := (T2.same z1).tape.ne ha2
          have n3 : a3 ≠ t := (T2.same (z1.trans z2)).tape.ne ha3
          have n4 : a4 ≠ t := (T2.same (z1.trans (z2.trans z3))).tape.ne ha4
          have f0 := S1.trans S2
          have g1 : H a1 = none := f0.free T2.tape ha1
          have g2 : H a2 = none := f0.free T2.tape (z1.free ha2)
          have g3 : H a3 = none := f0.free T2.tape ((z1.trans z2).free ha3)
          have g4 : H a4 = none := f0.free T2.tape ((z1.trans (z2.trans z3)).free ha4)
          have sb := (f0.trans (Same.b t zz)).trans S3
          have e1 := S3 _ _ n1 ((z2.trans (z3.trans (z4.trans z5))) _ _ upd_same)
          have e2 := S3 _ _ n2 ((z3.trans (z4.trans z5)) _ _ upd_same)
          have e3 := S3 _ _ n3 ((z4.trans z5) _ _ upd_same)
          have e4 := S3 _ _ n4 (z5 _ _ upd_same)
          have hL := S3 _ _ n5 (upd_same)
          rcases (by omega : k3 = 0 ∨ k3 = 1 ∨ k3 = 2 ∨ k3 = 3) with rfl | rfl | rfl | rfl
          · exact ⟨a5, _, _, _, rfl, rfl, SqL.of hL, rfl, k a1 _ _ _ (rt_one _) (b40 _ (by omega) (by omega)) (b40 _ (by omega) (by omega)) e1 g1 T3 sb⟩
          · exact ⟨a5, _, _, _, rfl, rfl, SqL.of hL, rfl, k a2 _ _ _ (rt_one _) (b40 _ (by omega) (by omega)) (b40 _ (by omega) (by omega)) e2 g2 T3 sb⟩
          · exact ⟨a5, _, _, _, rfl, rfl, SqL.of hL, rfl, k a3 _ _ _ (rt_inv (by omega)) (b40 _ (by omega) (by omega)) (b40 _ (by omega) (by omega)) e3 g3 T3 sb⟩
          · exact ⟨a5, _, _, _, rfl, rfl, SqL.of hL, rfl, k a4 _ _ _ (rt_ninv (by omega)) (b40 _ (by omega) (by omega)) (b40 _ (by omega) (by omega)) e4 g4 T3 sb⟩
end
end K07
set_option Elab.async false
set_option linter.all false
set_option maxRecDepth 100000
set_option maxHeartbeats 4000000
namespace K07
open PySem PySem.Spec PyProof.Rows L2 Lc
abbrev sLv : Stmt := top 38
abbrev sLvs : Stmt := top 39
/-! ## values -/
inductive Vk : Str → PyData → Prop
  | non (k : Str) : Vk k .none
  | num {n d : Int} (h : Rt n d) (h1 : n.natAbs ≤ 10000000000000000000000000000000000000000) (h2 : d.natAbs ≤ 10000000000000000000000000000000000000000) : Vk "number" (.tuple [.int n, .int d])
  | flag (b : Bool) : Vk "flag" (.bool b)
  | word {x : Str} (h : Sh 12 x) (hn : nameB (.str x) = true) : Vk "word" (.str x)
inductive Vks : List Str → List PyData → Prop
  | nil : Vks [] []
  | cons {k : Str} {d : PyData} {ks : List Str} {ds : List PyData} (h : Vk k d) (r : Vks ks ds) : Vks (k :: ks) (d :: ds)
theorem Vks.app {k : Str} {d : PyData} (h : Vk k d) : ∀ {ks : List Str} {ds : List PyData}, Vks ks ds → Vks (ks ++ [k]) (ds ++ [d])
  | _, _, .nil => .cons h .nil
  | _, _, .cons a r => .cons a (Vks.app h r)
theorem Vks.len : ∀ {ks : List Str} {ds : List PyData}, Vks ks ds → ks.length = ds.length
  | _, _, .nil => rfl
  | _, _, .cons _ r => by rw [List.length_cons, List.length_cons, Vks.len r]
/-- v is d, all its parts are new since H -/
def DhF (H H' : Hp) (v : V) (d : PyData) : Prop := ∀ H2 : Hp, (∀ b o, H b = none → H' b = some o → H2 b = some o) → Dh H2 v d
theorem DhF.now {H H' : Hp} {v : V} {d : PyData} (h : DhF H H' v d) : Dh H' v d := h H' fun _ _ _ e => e
def spVal : Sp := fun vs H Q _ => ∃ (t c : Addr) (kind : Str) (b : Bool), vs = [.ref t, .str kind, .bl b] ∧ TapeL c H t ∧ KindS kind ∧ ∀ (v : V) (d : PyData) (H' : Hp), DhF H H' v d → Vk kind d → TapeL c H' t → SameB t H H' → Q v H'
def spVals : Sp := fun vs H Q _ => ∃ (t c L : Addr) (b : Bool) (xs : List V) (ps : List (Str × Str)), vs = [.ref t, .ref L, .bl b] ∧ TapeL c H t ∧ H L = some (.tup xs) ∧ Cols H xs ps ∧ (∀ p ∈ ps, KindS p.2) ∧ ps.length ≤ 8 ∧
  ∀ (r : Addr) (ds : List PyData) (H' : Hp), DhF H H' (.ref r) (.tuple ds) → Vks (ps.map (·.2)) ds → TapeL c H' t → SameB t H H' → Q (.ref r) H'
abbrev teVs : TE := tCall spVal [] E0 (tCons (tVar 0) (tCons (tVar 4) (tCons (tVar 2) tNil)))
theorem Cols.get {H : Hp} : ∀ {xs : List V} {ps : List (Str × Str)}, Cols H xs ps → ∀ (i : Nat) (x : V), xs[i]? = some x → ∃ a z kk, x = .ref a ∧ H a = some (.tup [.str z, .str kk]) ∧ ps[i]? = some (z, kk)
  | _, _, .nil, i, x, e => by simp at e
  | _, _, .cons h r, 0, x, e => by
    obtain rfl := Option.some.inj e
    exact ⟨_, _, _, rfl, h, rfl⟩
  | _, _, .cons h r, i + 1, x, e => by
    obtain ⟨a, z, kk, h1, h2, h3⟩ := Cols.get r i x (by simpa using e)
    exact ⟨a, z, kk, h1, h2, by simpa using h3⟩
section
variable {P : Program} {w : World} {K : PySem.W.Frag} {mg : Str → Option Value} {base : Heap} {f fD fR fN fV : Addr} {fd fdD fdR fdN fdV : FuncData}
theorem scLv : FnScope ["_law_tape_here", "_law_kind", "_law_wide"] ["_law_tape_here", "_law_kind", "_law_wide"] (defScope sLv) := ⟨rfl, rfl, rfl, by decide +kernel, rfl, by decide +kernel, by decide +kernel⟩
theorem ok_lv (F : Fun K "_law_value" "_law_value" sLv f fd) (GD : FnOk P w K mg base CX0 1 fD fdD ["_law_tape_here", "_law_many"] spDrawL) (mD : mg "_law_draw" = some (.ref fD)) (kD : PySem.W.keepIn K (.ref fD) = true) (bD : Binds K fdD ["_law_tape_here", "_law_many"] [])
    (GR : FnOk P w K mg base CX0 2 fR fdR ["_law_tape_here", "_law_wide"] spRatL) (mR : mg "_law_rational" = some (.ref fR)) (kR : PySem.W.keepIn K (.ref fR) = true) (bR : Binds K fdR ["_law_tape_here", "_law_wide"] [])
    (GN : FnOk P w K mg base CX0 2 fN fdN ["_law_tape_here"] spLNm) (mN : mg "_law_name" = some (.ref fN)) (kN : PySem.W.keepIn K (.ref fN) = true) (bN : Binds K fdN ["_law_tape_here"] []) : FnOk P w K mg base CX0 3 f fd ["_law_tape_here", "_law_kind", "_law_wide"] spVal := by
  refine F.ok scLv (fun vs H Q E h => ?_) (fun cdv A outer s H vs Q E hr h => ?_)
  · obtain ⟨t, c, kind, b, rfl, _⟩ := h
    rfl
  · obtain ⟨t, c, kind, b, rfl, hT, hk, k⟩ := h
    have hr1 : Room 1 _ := hr.mono (by decide)
    refine ⟨_, pss_cons (ps_if (pt_cmpR op_eq (pe_call GD hr1 (by rfl) mD kD bD .nil pass0 (pa_cons (pv 0) (pa_cons pe_int pa_nil))) pe_int (nomark _)) (pss_one (ps_ret pe_non)) pss_nil)
      (pss_cons (ps_if (pt_cmpR op_eq (pv 1) pe_str (nomark _)) (pss_one (ps_ret (pe_call GR hr (by rfl) mR kR bR .nil pass0 (pa_cons (pv 0) (pa_cons (pv 2) pa_nil))))) pss_nil)
      (pss_cons (ps_if (pt_cmpR op_eq (pv 1) pe_str (nomark _)) (pss_one (ps_ret (pe_cmpR op_eq (pe_call GD hr1 (by rfl) mD kD bD .nil pass0 (pa_cons (pv 0) (pa_cons pe_int pa_nil))) pe_int (nomark _)))) pss_nil)
      (pss_cons (ps_if (pt_cmpR op_gt (pe_call GD hr1 (by rfl) mD kD bD .nil pass0 (pa_cons (pv 0) (pa_cons pe_int pa_nil))) pe_int (nomark _)) (pss_one (ps_ret (pe_ix ix_list (pe_lst (pa_cons pe_str (pa_cons pe_str (pa_cons pe_str (pa_cons pe_str pa_nil))))) (pe_call GD hr1 (by rfl) mD kD bD .nil pass0 (pa_cons (pv 0) (pa_cons pe_int pa_nil))) (fun _ _ => rfl)))) pss_nil)
      (pss_one (ps_ret (pe_call GN hr (by rfl) mN kN bN .nil pass0 (pa_cons (pv 0) pa_nil))))))), ?_⟩
    have sh : ∀ {x : Str}, kind ≠ "number" → kind ≠ "flag" → Sh 12 x → nameB (.str x) = true → Vk kind (.str x) := fun n1 n2 h1 h2 => by
      rcases hk with rfl | rfl | rfl
      · exact absurd rfl n1
      · exact .word h1 h2
      · exact absurd rfl n2
    refine ⟨_, rfl, t, c, _, rfl, hT, by decide, big1000 (by decide) (by decide), fun k1 H1 u1 w1 T1 S1 => ⟨rfl, _, rfl, ite2 (fun _ => ?_) (fun _ => ?_)⟩⟩
    · exact k .non .none H1 (fun _ _ => .non) (.non _) T1 S1
    refine ⟨_, rfl, rfl, _, rfl, ite2 (fun y => ?_) (fun y => ?_)⟩
    · have ek : kind = "number" := by have := of_decide_eq_true y; injection this
      refine ⟨_, rfl, _, rfl, t, c, b, rfl, T1, fun p n d H2 rt h1 h2 hp gp T2 S2 => k (.ref p) _ H2 (fun H3 s3 => ?_) (by rw [ek]; exact .num rt h1 h2) T2 (S1.trans S2)⟩
      have gH : H p = none := by
        cases q : H p with
        | none => rfl
        | some o =>
          by_cases z : p = t
          · obtain ⟨_, _, _, _, ht, _⟩ := T1
            rw [z, ht] at gp
            cases gp
          · rw [S1 p o z q] at gp
            cases gp
      exact .tup (s3 _ _ gH hp) (.cons (.int n) (.cons (.int d) .nil))
    have n1 : kind ≠ "number" := fun e => y (decide_eq_true (by rw [e]))
    refine ⟨_, rfl, rfl, _, rfl, ite2 (fun y => ?_) (fun y => ?_)⟩
    · have ek : kind = "flag" := by have := of_decide_eq_true y; injection this
      exact ⟨_, rfl, t, c, _, rfl, T1, by decide, big1000 (by decide) (by decide), fun k2 H2 u2 w2 T2 S2 => ⟨rfl, k _ (.bool _) H2 (fun _ _ => .bl _) (by rw [ek]; exact .flag _) T2 (S1.trans S2)⟩⟩
    have n2 : kind ≠ "flag" := fun e => y (decide_eq_true (by rw [e]))
    refine ⟨_, rfl, t, c, _, rfl, T1, by decide, big1000 (by decide) (by decide), fun k2 H2 u2 w2 T2 S2 => ⟨_, _, rfl, rfl, _, rfl, ite2 (fun _ => ?_) (fun _ => ?_)⟩⟩
    · refine ⟨by show 4 ≤ sizeLine; decide, fun q hq => ?_⟩
      have zq := Same.upd (o := .lst [.str "a", .str "b", .str "ab", .str "b0"]) hq
      have nq := T2.tape.ne hq
      refine ⟨_, rfl, t, c, _, rfl, T2.same zq, by decide, big1000 (by decide) (by decide), fun k3 H3 u3 w3 T3 S3 => ?_⟩
      obtain ⟨x, hx, sx, nx⟩ : ∃ x : Str, ([.str "a", .str "b", .str "ab", .str "b0"] : List V)[k3.toNat]? = some (.str x) ∧ Sh 12 x ∧ nameB (.str x) = true := by
        have : k3.toNat = 0 ∨ k3.toNat = 1 ∨ k3.toNat = 2 ∨ k3.toNat = 3 := by omega
        rcases this with e | e | e | e <;> rw [e]
        · exact ⟨_, rfl, ⟨by decide +kernel, by decide +kernel⟩, by decide +kernel⟩
        · exact ⟨_, rfl, ⟨by decide +kernel, by decide +kernel⟩, by decide +kernel⟩
        · exact ⟨_, rfl, ⟨by decide +kernel, by decide +kernel⟩, by decide +kernel⟩
        · exact ⟨_, rfl, ⟨by decide +kernel, by decide +kernel⟩, by decide +kernel⟩
      exact ⟨q, _, _, _, rfl, rfl, SqL.of (S3 _ _ nq upd_same), at_of (j := k3.toNat) (by omega) hx, k _ (.str x) H3 (fun _ _ => .str x) (sh n1 n2 sx nx) T3 (((S1.trans S2).trans (Same.b t zq)).trans S3)⟩
    · exact ⟨_, rfl, t, c, rfl, T2, fun x H3 hx nx T3 S3 => k _ (.str x) H3 (fun _ _ => .str x) (sh n1 n2 hx nx) T3 ((S1.trans S2).trans S3)⟩
theorem scLvs : FnScope ["_law_tape_here", "_law_columns_here", "_law_wide", "_law_name_here", "_law_kind"] ["_law_tape_here", "_law_columns_here", "_law_wide"] (defScope sLvs) := ⟨rfl, rfl, rfl, by decide +kernel, rfl, by decide +kernel, by decide +kernel⟩
theorem ok_lvs (F : Fun K "_law_values" "_law_values" sLvs f fd) (T : Bt mg) (GV : FnOk P w K mg base CX0 3 fV fdV ["_law_tape_here", "_law_kind", "_law_wide"] spVal) (mV : mg "_law_value" = some (.ref fV)) (kV : PySem.W.keepIn K (.ref fV) = true) (bV : Binds K fdV ["_law_tape_here", "_law_kind", "_law_wide"] []) : FnOk P w K mg base CX0 4 f fd ["_law_tape_here", "_law_columns_here", "_law_wide"] spVals := by
  refine F.ok scLvs (fun vs H Q E h => ?_) (fun cdv A outer s H vs Q E hr h => ?_)
  · obtain ⟨t, c, L, b, xs, ps, rfl, _⟩ := h
    rfl
  · obtain ⟨t, c, L, b, xs, ps, rfl, hT, hL, hc, hk, l8, k⟩ := h
    refine ⟨_, pss_one (ps_ret (pe_callTy call_tuple_of (by rfl) T.tuple boot_tuple (pa_cons (pe_lc (own := [("_law_name_here", 3), ("_law_kind", 4)]) (g := gTup K 2 (gCons (gName 3) (gCons (gName 4) gNil))) (tt := tYes) (te := teVs) (by rfl) scLvs.nd (pi_tup (pv 1)) (blkOk_by (own := [("_law_name_here", 3), ("_law_kind", 4)]) (N := ["_law_tape_here", "_law_columns_here", "_law_wide", "_law_name_here", "_law_kind"]) (sc := defScope sLvs) (by decide +kernel))
      (fun _ _ _ _ _ => pg_tup rfl (pgs_cons (pg_name (i := 3) scLvs.nd rfl (.inl rfl)) (pgs_cons (pg_name (i := 4) scLvs.nd rfl (.inl rfl)) pgs_nil))) (fun _ _ _ _ _ => pts_nil) (fun _ _ _ _ _ => pe_call GV hr (by rfl) mV kV bV .nil pass0 (pa_cons (pv 0) (pa_cons (pv 4) (pa_cons (pv 2) pa_nil))))) pa_nil))), ?_⟩
    refine ⟨_, rfl, L, rfl, ⟨_, SqT.of hL⟩, fun D hD => lc_tup (K := K) (a := L) (xs := xs) (fun i H' => ∃ (ys : List V) (ds : List PyData), H' D = some (.lst ys) ∧ ys.length = i ∧ (∀ H2 : Hp, (∀ b o, b ≠ D → H b = none → H' b = some o → H2 b = some o) → DhAll H2 ys ds) ∧ Vks ((ps.take i).map (·.2)) ds ∧ TapeL c H' t ∧ SameB t H H')
      ⟨[], [], upd_same, rfl, fun _ _ => .nil, .nil, hT.same (Same.upd hD), Same.b t (Same.upd hD)⟩ (fun i H' _ p => by obtain ⟨_, _, _, _, _, _, _, s'⟩ := p; exact SqT.of (s' _ _ (hT.tape.neT hL) hL)) ?_ ?_⟩
    · rintro i x H1 hx ⟨ys, ds, hD1, rfl, hds, hv, T1, S1⟩
      obtain ⟨a, z, kk, rfl, ea, ep⟩ := hc.get _ _ hx
      have ea1 := S1 _ _ (hT.tape.neT ea) ea
      have lx := hc.len
      have hi : ys.length < xs.length := (List.getElem?_eq_some_iff.mp hx).1
      have nD := hT.tape.ne hD
      refine ⟨a, _, rfl, SqT.of ea1, rfl, _, _, rfl, _, _, rfl, rfl, rfl, ?_⟩
      change teVs _ _ _
      refine ⟨_, rfl, _, rfl, _, rfl, t, c, kk, b, rfl, T1, hk _ (List.mem_of_getElem? ep), fun v d H2 hv2 vk T2 S2 => ?_⟩
      refine ⟨ys, S2 _ _ nD hD1, Nat.lt_of_lt_of_le hi (Nat.le_trans (show xs.length ≤ 8 by omega) (by decide)), ys ++ [v], ds ++ [d], upd_same, by rw [List.length_append]; rfl, fun H3 h3 => ?_, ?_, ?_, fun b' o n e => ?_⟩
      · refine DhAll.append (hds H3 fun b' o n1 n2 e => h3 b' o n1 n2 ?_) (.cons (hv2 H3 fun b' o n2 e => ?_) .nil)
        · rw [upd_ne n1]
          exact S2 b' o (hT.tape.ne n2) e
        · have nb : b' ≠ D := fun z => by rw [z, hD1] at n2; cases n2
          have nh : H b' = none := by
            cases q : H b' with
            | none => rfl
            | some o' =>
              by_cases z : b' = t
              · obtain ⟨_, _, _, _, ht, _⟩ := T1
                rw [z, ht] at n2
                cases n2
              · rw [S1 b' o' z q] at n2
                cases n2
          exact h3 b' o nb nh (by rw [upd_ne nb]; exact e)
      · rw [List.take_add_one, ep, List.map_append]
        exact Vks.app vk hv
      · have nc : D ≠ c := by
          obtain ⟨zs, hz⟩ := hT.list
          exact Ne.symm (ne_of_none hz hD)
        exact T2.upd nD nc
      · rw [upd_ne (ne_of_none e hD)]
        exact (S1.trans S2) b' o n e
    · rintro H1 ⟨ys, ds, hD1, _, hds, hv, T1, S1⟩
      refine ⟨D, ys, rfl, .inl ⟨SqL.of hD1, fun r hr => ?_⟩⟩
      have zr := Same.upd (o := .tup ys) hr
      have lx := hc.len
      rw [lx, List.take_length] at hv
      have nt := T1.tape.ne hr
      have gr : H r = none := S1.free T1.tape hr
      refine k r ds _ (fun H2 h2 => .tup (h2 _ _ gr upd_same) (hds H2 fun b' o n1 n2 e => h2 b' o n2 (zr _ _ e))) hv (T1.same zr) (S1.trans (Same.b t zr))
end
end K07
set_option Elab.async false
set_option linter.all false
set_option maxRecDepth 100000
set_option maxHeartbeats 4000000
namespace K07
open PySem PySem.Spec PyProof.Rows L2 Lc
/-! ## entries and the rows that they leave -/
structure En where
  w : Str
  n : Int
  vals : PyData
  au : Str
def En.d (e : En) : PyData := .tuple [.str e.w, .int e.n, e.vals, .str e.au]
abbrev St2 := List (Int × PyData)
def stepS (st : St2) (e : En) : St2 :=
  if e.w = "add" then st ++ [(e.n, e.vals)] else if e.w = "correct" then st.map (fun p => if p.1 = e.n then (p.1, e.vals) else p) else st.filter (fun p => decide (p.1 ≠ e.n))
def stD (es : List En) : St2 := es.foldl stepS []
theorem stD_snoc (es : List En) (e : En) : stD (es ++ [e]) = stepS (stD es) e := by unfold stD; rw [List.foldl_append]; rfl
def usedD (es : List En) : Nat := (es.filter (fun e : En => decide (e.w = ("add" : Str)))).length
theorem usedD_snoc (es : List En) (e : En) : usedD (es ++ [e]) = usedD es + (if e.w = "add" then 1 else 0) := by
  unfold usedD
  rw [List.filter_append, List.length_append]
  by_cases h : e.w = "add"
  · simp [h]
  · simp [h]
/-- what may follow these entries -/
structure OkEn (ks : List Str) (es : List En) (e : En) : Prop where
  au : Sh 12 e.au ∧ nameB (.str e.au) = true
  go : (e.w = "add" ∧ e.n = (usedD es : Int) ∧ ∃ ds, e.vals = .tuple ds ∧ Vks ks ds) ∨ (e.w = "correct" ∧ e.n ∈ (stD es).map (·.1) ∧ ∃ ds, e.vals = .tuple ds ∧ Vks ks ds) ∨ (e.w = "strike" ∧ e.n ∈ (stD es).map (·.1) ∧ e.vals = .none)
inductive OkEs (ks : List Str) : List En → Prop
  | nil : OkEs ks []
  | snoc {es : List En} {e : En} (h : OkEs ks es) (g : OkEn ks es e) : OkEs ks (es ++ [e])
theorem w_ac : ("correct" : Str) ≠ "add" := by decide +kernel
theorem w_as : ("strike" : Str) ≠ "add" := by decide +kernel
theorem w_cs : ("strike" : Str) ≠ "correct" := by decide +kernel
/-- numbers are given in order, and never again -/
theorem OkEs.keys {ks : List Str} {es : List En} (h : OkEs ks es) : ((stD es).map (·.1)).Nodup ∧ (∀ n ∈ (stD es).map (·.1), 0 ≤ n ∧ n < (usedD es : Int)) ∧ (stD es).length ≤ es.length := by
  induction h with
  | nil => exact ⟨List.nodup_nil, nofun, Nat.le_refl _⟩
  | @snoc es e h g ih =>
    obtain ⟨i1, i2, i3⟩ := ih
    rw [stD_snoc, usedD_snoc, List.length_append]
    unfold stepS
    rcases g.go with ⟨hw, hn, _⟩ | ⟨hw, hn, _⟩ | ⟨hw, hn, _⟩
    · rw [if_pos hw, if_pos hw]
      refine ⟨?_, ?_, ?_⟩
      · rw [List.map_append]
        refine List.nodup_append.mpr ⟨i1, List.nodup_cons.mpr ⟨nofun, List.nodup_nil⟩, fun a ha b hb => ?_⟩
        have hb : b = e.n := List.mem_singleton.mp hb
        rw [hb, hn]
        have := (i2 a ha).2
        omega
      · intro n hn'
        rw [List.map_append] at hn'
        rcases List.mem_append.mp hn' with q | q
        · have := i2 n q
          omega
        · have q : n = e.n := List.mem_singleton.mp q
          rw [q, hn]
          omega
      · rw [List.length_append, List.length_singleton]
        simp
        exact i3
    · have na : e.w ≠ "add" := by rw [hw]; exact w_ac
      rw [if_neg na, if_neg na, if_pos hw]
      have em : ((stD es).map (fun p => if p.1 = e.n then (p.1, e.vals) else p)).map (·.1) = (stD es).map (·.1) := by
        rw [List.map_map]
        refine List.map_congr_left fun p _ => ?_
        show (if p.1 = e.n then (p.1, e.vals) else p).1 = p.1
        split <;> rfl
      rw [em, List.length_map]
      exact ⟨i1, fun n hn' => by have := i2 n hn'; omega, by simp; omega⟩
    · have na : e.w ≠ "add" := by rw [hw]; exact w_as
      have nc : e.w ≠ "correct" := by rw [hw]; exact w_cs
      rw [if_neg na, if_neg na, if_neg nc]
      have sub : ((stD es).filter (fun p => decide (p.1 ≠ e.n))).Sublist (stD es) := List.filter_sublist
      refine ⟨(sub.map (·.1)).nodup i1, fun n hn' => ?_, ?_⟩
      · have := i2 n ((sub.map (·.1)).subset hn')
        omega
      · have := sub.length_le
        rw [List.length_singleton]
        omega
theorem OkEs.inv {ks : List Str} {es : List En} {e : En} (h : OkEs ks (es ++ [e])) : OkEs ks es ∧ OkEn ks es e := by
  generalize q : es ++ [e] = l at h
  cases h with
  | nil => simp at q
  | @snoc es' e' h g =>
    obtain ⟨rfl, q2⟩ := List.append_inj' q rfl
    cases q2
    exact ⟨h, g⟩
theorem OkEs.take {ks : List Str} : ∀ {es : List En} (i : Nat), OkEs ks es → OkEs ks (es.take i) := by
  intro es i h
  induction h generalizing i with
  | nil => rw [List.take_nil]; exact .nil
  | @snoc es e h g ih =>
    by_cases l : i ≤ es.length
    · rw [List.take_append_of_le_length l]
      exact ih i
    · rw [List.take_of_length_le (by rw [List.length_append, List.length_singleton]; omega)]
      exact .snoc h g
theorem OkEs.at {ks : List Str} {es : List En} (h : OkEs ks es) {i : Nat} {e : En} (q : es[i]? = some e) : OkEn ks (es.take i) e := by
  have z := OkEs.take (i + 1) h
  rw [List.take_add_one, q] at z
  exact z.inv.2
/-! ## the rows as a dict -/
inductive Rw (H : Hp) : List (Key × V) → St2 → Prop
  | nil : Rw H [] []
  | cons {n : Int} {v : V} {d : PyData} {kvs : List (Key × V)} {st : St2} (h : Dh H v d) (r : Rw H kvs st) : Rw H ((.inl n, v) :: kvs) ((n, d) :: st)
theorem Rw.t {H H' : Hp} (s : SameT H H') : ∀ {kvs : List (Key × V)} {st : St2}, Rw H kvs st → (∀ p ∈ st, noL p.2 = true) → Rw H' kvs st
  | _, _, .nil, _ => .nil
  | _, _, .cons h r, n => .cons (h.t s (n _ List.mem_cons_self)) (Rw.t s r fun p hp => n p (List.mem_cons_of_mem _ hp))
theorem Rw.len {H : Hp} : ∀ {kvs : List (Key × V)} {st : St2}, Rw H kvs st → kvs.length = st.length
  | _, _, .nil => rfl
  | _, _, .cons _ r => by rw [List.length_cons, List.length_cons, Rw.len r]
theorem Rw.app {H : Hp} {n : Int} {v : V} {d : PyData} (hd : Dh H v d) : ∀ {kvs : List (Key × V)} {st : St2}, Rw H kvs st → Rw H (kvs ++ [(.inl n, v)]) (st ++ [(n, d)])
  | _, _, .nil => .cons hd .nil
  | _, _, .cons h r => .cons h (Rw.app hd r)
theorem Rw.val {H : Hp} (n : Int) : ∀ {kvs : List (Key × V)} {st : St2}, Rw H kvs st → (valV kvs (.inl n : Key)).isSome = decide (n ∈ st.map (·.1))
  | _, _, .nil => rfl
  | _, _, .cons (n := m) (v := v) (d := d) (kvs := kvs) (st := st) h r => by
    have ih := Rw.val n r
    by_cases e : m = n
    · rw [valV_pos (p := ((.inl m : Key), v)) (by rw [e]), e]
      simp
    · rw [valV_neg (p := ((.inl m : Key), v)) (by intro z; injection z with z; exact e z), ih]
      have : (n ∈ ((m, d) :: st : St2).map (·.1)) ↔ n ∈ st.map (·.1) := by
        rw [List.map_cons, List.mem_cons]
        exact ⟨fun q => q.resolve_left (fun z => e z.symm), .inr⟩
      simp only [this]
theorem Rw.put {H : Hp} {n : Int} {v : V} {d : PyData} (hd : Dh H v d) : ∀ {kvs : List (Key × V)} {st : St2}, Rw H kvs st → Rw H (kvs.map (fun kv => if kv.1 = (.inl n : Key) then (kv.1, v) else kv)) (st.map fun p => if p.1 = n then (p.1, d) else p)
  | _, _, .nil => .nil
  | _, _, .cons (n := m) h r => by
    rw [List.map_cons, List.map_cons]
    by_cases e : m = n
    · rw [if_pos (by rw [e]), if_pos e]
      exact .cons hd (Rw.put hd r)
    · rw [if_neg (by intro z; injection z with z; exact e z), if_neg e]
      exact .cons h (Rw.put hd r)
theorem Rw.drop {H : Hp} (n : Int) : ∀ {kvs : List (Key × V)} {st : St2}, Rw H kvs st → Rw H (dropK kvs (.inl n : Key)) (st.filter fun p => decide (p.1 ≠ n))
  | _, _, .nil => .nil
  | _, _, .cons (n := m) (v := v) (d := d) h r => by
    unfold dropK
    by_cases e : m = n
    · rw [List.filter_cons_of_neg (by simp [e]), List.filter_cons_of_neg (by simp [e])]
      exact Rw.drop n r
    · rw [List.filter_cons_of_pos (by simp [e]), List.filter_cons_of_pos (by simp [e])]
      exact .cons h (Rw.drop n r)
/-- one entry more, in the dict -/
theorem Rw.entry {H : Hp} {ks : List Str} {es : List En} {e : En} {kvs : List (Key × V)} {v : V} (h : Rw H kvs (stD es)) (o : OkEs ks es) (g : OkEn ks es e) (hd : Dh H v e.vals) :
    (e.w = "strike" → (valV kvs (.inl e.n : Key)).isSome = true ∧ Rw H (dropK kvs (.inl e.n : Key)) (stD (es ++ [e]))) ∧ (e.w ≠ "strike" → Rw H (putK kvs (.inl e.n : Key) v) (stD (es ++ [e]))) := by
  have hv := h.val e.n
  rw [stD_snoc]
  unfold stepS
  rcases g.go with ⟨hw, hn, _⟩ | ⟨hw, hn, _⟩ | ⟨hw, hn, _⟩
  · refine ⟨fun z => absurd (hw.symm.trans z) (Ne.symm w_as), fun _ => ?_⟩
    rw [if_pos hw]
    have ni : e.n ∉ (stD es).map (·.1) := fun m => by have := (o.keys.2.1 _ m).2; omega
    rw [decide_eq_false ni] at hv
    unfold putK
    rw [valV_any, hv, if_neg Bool.false_ne_true]
    exact h.app hd
  · refine ⟨fun z => absurd (z.symm.trans hw) w_cs, fun _ => ?_⟩
    rw [if_neg (by rw [hw]; exact w_ac), if_pos hw]
    rw [decide_eq_true hn] at hv
    unfold putK
    rw [valV_any, hv, if_pos rfl]
    exact h.put hd
  · refine ⟨fun _ => ?_, fun z => absurd hw z⟩
    rw [if_neg (by rw [hw]; exact w_as), if_neg (by rw [hw]; exact w_cs)]
    rw [decide_eq_true hn] at hv
    exact ⟨hv, h.drop e.n⟩
/-! ## entries hold no lists -/
theorem Vk.noL {k : Str} {d : PyData} (h : Vk k d) : noL d = true := by cases h <;> rfl
theorem Vks.noL : ∀ {ks : List Str} {ds : List PyData}, Vks ks ds → noLs ds = true
  | _, _, .nil => rfl
  | _, _, .cons h r => by rw [noLs, h.noL, Vks.noL r]; rfl
theorem OkEn.noL {ks : List Str} {es : List En} {e : En} (g : OkEn ks es e) : Lc.noL e.vals = true := by
  rcases g.go with ⟨_, _, ds, h, v⟩ | ⟨_, _, ds, h, v⟩ | ⟨_, _, h⟩
  · rw [h]; exact v.noL
  · rw [h]; exact v.noL
  · rw [h]; rfl
theorem OkEn.noLd {ks : List Str} {es : List En} {e : En} (g : OkEn ks es e) : Lc.noL e.d = true := by
  show noLs [.str e.w, .int e.n, e.vals, .str e.au] = true
  simp [noLs, Lc.noL, g.noL]
theorem OkEs.noLd {ks : List Str} {es : List En} (h : OkEs ks es) : noLs (es.map En.d) = true := by
  induction h with
  | nil => rfl
  | snoc h g ih => rw [List.map_append, noLs_app, ih]; simp [noLs, g.noLd]
theorem OkEs.noLs {ks : List Str} {es : List En} (h : OkEs ks es) : ∀ p ∈ stD es, Lc.noL p.2 = true := by
  induction h with
  | nil => exact nofun
  | @snoc es e h g ih =>
    intro p hp
    rw [stD_snoc] at hp
    unfold stepS at hp
    rcases g.go with ⟨hw, _⟩ | ⟨hw, _⟩ | ⟨hw, _⟩
    · rw [if_pos hw] at hp
      rcases List.mem_append.mp hp with q | q
      · exact ih p q
      · rw [List.mem_singleton.mp q]; exact g.noL
    · rw [if_neg (by rw [hw]; exact w_ac), if_pos hw] at hp
      obtain ⟨q, hq, rfl⟩ := List.mem_map.mp hp
      by_cases z : q.1 = e.n
      · rw [if_pos z]; exact g.noL
      · rw [if_neg z]; exact ih q hq
    · rw [if_neg (by rw [hw]; exact w_as), if_neg (by rw [hw]; exact w_cs)] at hp
      exact ih p (List.mem_filter.mp hp).1
end K07
set_option Elab.async false
set_option linter.all false
set_option maxRecDepth 100000
set_option maxHeartbeats 4000000
namespace K07
open PySem PySem.Spec PyProof.Rows L2 Lc
abbrev sWithin : Stmt := top 21
abbrev sValue : Stmt := top 22
def isB : V → Bool
  | .bl _ => true
  | _ => false
def valB (kind : Str) (v : V) (b : Bool) : Bool := decide (v = .non) || (if kind = "number" then b else if kind = "word" then nameB v else isB v)
def spWithin : Sp := fun vs H Q _ => ∃ (a : Addr) (n d : Int), vs = [.ref a] ∧ H a = some (.tup [.int n, .int d]) ∧ Q (.bl (limB (.int n) (.int d))) H
def spValue : Sp := fun vs H Q _ => ∃ (v : V) (kind : Str) (b : Bool), vs = [v, .str kind] ∧ Thing H v b ∧ ∀ H', Same H H' → Q (.bl (valB kind v b)) H'
section
variable {P : Program} {w : World} {K : PySem.W.Frag} {mg : Str → Option Value} {base : Heap} {f : Addr} {fd : FuncData} {u1 : Tok} {fR fW fN fD fL fA fQ fX fY : Addr} {fdR fdW fdN fdD fdL fdA fdQ fdX fdY : FuncData}
theorem scWithin : FnScope ["number"] ["number"] (defScope sWithin) := ⟨rfl, rfl, rfl, by decide +kernel, rfl, by decide +kernel, by decide +kernel⟩
theorem ok_within (F : Fun K "within_limit" "within_limit" sWithin f fd) (T : Bt mg) (m1 : mg "LIMIT" = some (.int lim u1)) : FnOk P w K mg base CX0 1 f fd ["number"] spWithin := by
  refine F.ok scWithin (fun vs H Q E h => ?_) (fun cdv A outer s H vs Q E hr h => ?_)
  · obtain ⟨a, n, d, rfl, _⟩ := h
    rfl
  · obtain ⟨a, n, d, rfl, ha, k⟩ := h
    refine ⟨_, pss_one (ps_ret (pe_and (pe_cmpR op_le (pe_callB call_abs (by rfl) T.abs boot_abs (pa_cons (pe_ix ix_tup (pv 0) pe_int (fun _ _ => rfl)) pa_nil)) (pe_glob (v := .int lim) (by rfl) m1 ⟨_, rfl⟩) (nomark _))
      (pe_one (pe_cmpR op_le (pe_ix ix_tup (pv 0) pe_int (fun _ _ => rfl)) (pe_glob (v := .int lim) (by rfl) m1 ⟨_, rfl⟩) (nomark _))))), ?_⟩
    refine ⟨_, rfl, a, _, _, _, rfl, rfl, SqT.of ha, rfl, n, rfl, _, _, rfl, rfl, _, rfl, ?_⟩
    have e : limB (.int n) (.int d) = (decide ((if n < 0 then -n else n) ≤ lim) && decide (d ≤ lim)) := rfl
    rw [e] at k
    by_cases z : (if n < 0 then -n else n) ≤ lim
    · rw [decide_eq_true z] at k ⊢
      exact iteT ⟨_, rfl, a, _, _, _, rfl, rfl, SqT.of ha, rfl, _, _, rfl, rfl, k⟩
    · rw [decide_eq_false z] at k ⊢
      exact iteF k
theorem scValue : FnScope ["value", "kind"] ["value", "kind"] (defScope sValue) := ⟨rfl, rfl, rfl, by decide +kernel, rfl, by decide +kernel, by decide +kernel⟩
theorem dec_str (x y : Str) : decide (V.str x = V.str y) = decide (x = y) := by
  rw [Bool.eq_iff_iff, decide_eq_true_iff, decide_eq_true_iff]
  exact ⟨fun h => by injection h, fun h => by rw [h]⟩
theorem ok_value (F : Fun K "is_value" "is_value" sValue f fd) (GR : FnOk P w K mg base CX0 2 fR fdR ["value"] spIsR) (mR : mg "is_rational" = some (.ref fR)) (kR : PySem.W.keepIn K (.ref fR) = true) (bR : Binds K fdR ["value"] [])
    (GW : FnOk P w K mg base CX0 1 fW fdW ["number"] spWithin) (mW : mg "within_limit" = some (.ref fW)) (kW : PySem.W.keepIn K (.ref fW) = true) (bW : Binds K fdW ["number"] [])
    (GN : FnOk P w K mg base CX0 1 fN fdN ["value"] spName) (mN : mg "is_name" = some (.ref fN)) (kN : PySem.W.keepIn K (.ref fN) = true) (bN : Binds K fdN ["value"] []) : FnOk P w K mg base CX0 3 f fd ["value", "kind"] spValue := by
  refine F.ok scValue (fun vs H Q E h => ?_) (fun cdv A outer s H vs Q E hr h => ?_)
  · obtain ⟨v, kd, b, rfl, _⟩ := h
    rfl
  · obtain ⟨v, kd, b, rfl, th, k⟩ := h
    have hr1 : Room 1 _ := hr.mono (by decide)
    refine ⟨_, pss_cons (ps_if (pt_cmpR op_isN (pv 0) pe_non (nomark _)) (pss_one (ps_ret pe_bl)) pss_nil)
      (pss_cons (ps_if (pt_cmpR op_eq (pv 1) pe_str (nomark _)) (pss_one (ps_ret (pe_and (pe_call GR hr (by rfl) mR kR bR .nil pass0 (pa_cons (pv 0) pa_nil)) (pe_one (pe_call GW hr1 (by rfl) mW kW bW .nil pass0 (pa_cons (pv 0) pa_nil)))))) pss_nil)
      (pss_cons (ps_if (pt_cmpR op_eq (pv 1) pe_str (nomark _)) (pss_one (ps_ret (pe_call GN hr1 (by rfl) mN kN bN .nil pass0 (pa_cons (pv 0) pa_nil)))) pss_nil)
      (pss_one (ps_ret (pe_or (pe_cmpR op_isBA (pv 0) pe_bl (nomark _)) (pe_one (pe_cmpR op_isBA (pv 0) pe_bl (nomark _)))))))), ?_⟩
    refine ⟨_, rfl, rfl, _, rfl, ?_⟩
    have k0 := k H (Same.refl H)
    by_cases z : v = .non
    · rw [decide_eq_true z]
      have e : valB kd v b = true := by unfold valB; rw [decide_eq_true z]; rfl
      rw [e] at k0
      exact iteT k0
    · rw [decide_eq_false z]
      have e : valB kd v b = (if kd = "number" then b else if kd = "word" then nameB v else isB v) := by unfold valB; rw [decide_eq_false z]; rfl
      rw [e] at k0 k
      refine iteF ⟨_, rfl, rfl, _, rfl, ?_⟩
      rw [dec_str]
      by_cases n1 : kd = "number"
      · rw [decide_eq_true n1]
        rw [if_pos n1] at k0
        refine iteT ?_
        cases th with
        | other h n l => exact ⟨_, rfl, v, false, rfl, .other h n, _, rfl, iteF k0⟩
        | @len a xs ea n => exact ⟨_, rfl, _, false, rfl, .len ea n, _, rfl, iteF k0⟩
        | @pair a x y tx ty ea hx hy =>
          refine ⟨_, rfl, _, _, rfl, .pair ea hx hy, _, rfl, ?_⟩
          refine ite2 (fun r => ?_) (fun r => ?_)
          · obtain ⟨n, d, rfl, rfl, _, _⟩ := ratB_ints r
            have e2 : numB (.int n) (.int d) = limB (.int n) (.int d) := by unfold numB; rw [r]; rfl
            rw [e2] at k0
            exact ⟨_, rfl, a, n, d, rfl, ea, k0⟩
          · have e2 : numB x y = false := by unfold numB; rw [show ratB x y = false by simpa using r]; rfl
            rw [e2] at k0
            exact k0
      · rw [decide_eq_false n1]
        rw [if_neg n1] at k0 k
        refine iteF ⟨_, rfl, rfl, _, rfl, ?_⟩
        rw [dec_str]
        obtain ⟨t, ht, hl⟩ := th.ty
        by_cases n2 : kd = "word"
        · rw [decide_eq_true n2]
          rw [if_pos n2] at k
          exact iteT ⟨_, rfl, v, t, rfl, ht, hl, k⟩
        · rw [decide_eq_false n2]
          rw [if_neg n2] at k0
          refine iteF ⟨_, rfl, true, rfl, _, rfl, ?_⟩
          by_cases z1 : v = .bl true
          · rw [decide_eq_true z1]
            rw [z1] at k0
            exact iteT k0
          · rw [decide_eq_false z1]
            refine iteF ⟨_, rfl, false, rfl, ?_⟩
            have e3 : decide (v = .bl false) = isB v := by
              cases v with
              | bl b =>
                cases b with
                | true => exact absurd rfl z1
                | false => rfl
              | _ => rfl
            rw [e3]
            exact k0
end
abbrev sCol : Stmt := top 23
abbrev sCc : Stmt := top 24
abbrev sCn : Stmt := top 25
abbrev sCr : Stmt := top 26
abbrev sRa : Stmt := top 27
abbrev sNu : Stmt := top 28
def kindB : V → Bool
  | .str z => inV (.str z) [.str "number", .str "word", .str "flag"]
  | _ => false
/-- is v a column -/
inductive Ck (H : Hp) : V → Bool → Prop
  | other {v : V} {t : String} (h : TyN H v t) (n : t ≠ "tuple") : Ck H v false
  | len {a : Addr} {xs : List V} (e : H a = some (.tup xs)) (n : xs.length ≠ 2) : Ck H (.ref a) false
  | pair {a : Addr} {x y : V} {tx ty : String} (e : H a = some (.tup [x, y])) (hx : TyN H x tx) (hy : TyN H y ty) (lx : ∀ z, x = .str z → z.length ≤ sizeLine) : Ck H (.ref a) (nameB x && kindB y)
theorem Ck.same {H H' : Hp} {v : V} {b : Bool} (h : Ck H v b) (s : Same H H') : Ck H' v b := by
  cases h with
  | other h n => exact .other (h.same s) n
  | len e n => exact .len (s _ _ e) n
  | pair e hx hy lx => exact .pair (s _ _ e) (hx.same s) (hy.same s) lx
def spCol : Sp := fun vs H Q _ => ∃ (v : V) (b : Bool), vs = [v] ∧ Ck H v b ∧ ∀ H', Same H H' → Q (.bl b) H'
/-! ## what is in order is let through -/
structure ColsOk (ps : List (Str × Str)) : Prop where
  each : ∀ p ∈ ps, Sh 12 p.1 ∧ nameB (.str p.1) = true ∧ KindS p.2
  nd : (ps.map (·.1)).Nodup
  l1 : 1 ≤ ps.length
  l8 : ps.length ≤ 8
theorem KindS.b {k : Str} (h : KindS k) : kindB (.str k) = true := by
  rcases h with rfl | rfl | rfl <;> decide +kernel
def spCcV : Sp := fun vs H Q _ => ∃ (a : Addr) (xs : List V) (ps : List (Str × Str)), vs = [.ref a] ∧ H a = some (.tup xs) ∧ Cols H xs ps ∧ ColsOk ps ∧ ∀ H', Same H H' → Q .non H'
def spCnV : Sp := fun vs H Q _ => ∃ x : Str, vs = [.str x] ∧ Sh 12 x ∧ nameB (.str x) = true ∧ ∀ H', Same H H' → Q .non H'
def spCrV : Sp := fun vs H Q _ => ∃ (a b : Addr) (xs ys : List V) (ps : List (Str × Str)) (ds : List PyData), vs = [.ref a, .ref b] ∧ H a = some (.tup xs) ∧ Cols H xs ps ∧ ps.length ≤ 8 ∧ H b = some (.tup ys) ∧ DhAll H ys ds ∧ Vks (ps.map (·.2)) ds ∧ ∀ H', Same H H' → Q .non H'
def spRa : Sp := fun vs H Q _ => ∃ (l : Addr) (xs : List V) (ks : List Str) (es : List En), vs = [.ref l] ∧ H l = some (.lst xs) ∧ DhAll H xs (es.map En.d) ∧ OkEs ks es ∧ es.length ≤ 1000 ∧ ∀ (r : Addr) (kvs : List (Key × V)) (H' : Hp), Same H H' → H' r = some (.dK kvs) → Rw H' kvs (stD es) → Q (.ref r) H'
def spNu : Sp := fun vs H Q _ => ∃ (l : Addr) (xs : List V) (es : List En), vs = [.ref l] ∧ H l = some (.lst xs) ∧ DhAll H xs (es.map En.d) ∧ es.length ≤ 1000 ∧ ∀ H', Same H H' → Q (.int (usedD es)) H'
/-- a value of a kind is seen as one -/
theorem vk_thing {H : Hp} {k : Str} {v : V} {d : PyData} (h : Dh H v d) (g : Vk k d) : ∃ b, Thing H v b ∧ valB k v b = true := by
  cases g with
  | non k => cases h; exact ⟨false, .other .non (by decide) nofun, by simp [valB]⟩
  | flag b => cases h; exact ⟨false, .other (.bl b) (by decide) nofun, by simp [valB, isB, show ("flag" : Str) ≠ "number" by decide +kernel, show ("flag" : Str) ≠ "word" by decide +kernel]⟩
  | @word x hx hn =>
    cases h
    refine ⟨false, .other (.str x) (by decide) fun y e => ?_, ?_⟩
    · injection e with e
      rw [← e]
      exact Nat.le_trans (sh_len hx) (by decide)
    · unfold valB
      rw [if_neg (by decide +kernel), if_pos rfl, hn, Bool.or_true]
  | @num n d rt h1 h2 =>
    cases h with
    | tup e hs =>
      cases hs with
      | cons a r =>
        cases r with
        | cons b r =>
          cases r
          cases a
          cases b
          refine ⟨_, .pair e (.int n) (.int d), ?_⟩
          have e1 : ratB (.int n) (.int d) = true := by
            show (decide (0 < d) && decide (gd n d = 1)) = true
            rw [decide_eq_true rt.pos, decide_eq_true rt.cop]
            rfl
          have e2 : limB (.int n) (.int d) = true := by
            show (decide ((if n < 0 then -n else n) ≤ lim) && decide (d ≤ lim)) = true
            rw [decide_eq_true (by unfold lim; split <;> omega), decide_eq_true (by unfold lim; omega)]
            rfl
          unfold valB numB
          rw [if_pos rfl, e1, e2]
          rfl
/-- the parts of an entry -/
theorem en_of {H : Hp} {v : V} {e : En} (h : Dh H v e.d) : ∃ (a : Addr) (x : V), v = .ref a ∧ H a = some (.tup [.str e.w, .int e.n, x, .str e.au]) ∧ Dh H x e.vals := by
  cases h with
  | @tup a xs _ ea hs =>
    match xs, hs with
    | [p, q, r, s], .cons h1 (.cons h2 (.cons h3 (.cons h4 .nil))) =>
      cases h1
      cases h2
      cases h4
      exact ⟨a, r, rfl, ea, h3⟩
theorem en_get {H : Hp} {xs : List V} {es : List En} (h : DhAll H xs (es.map En.d)) {i : Nat} {x : V} (hx : xs[i]? = some x) : ∃ e, es[i]? = some e ∧ Dh H x e.d := by
  obtain ⟨d, hd, dh⟩ := h.get i x hx
  rw [List.getElem?_map] at hd
  cases q : es[i]? with
  | none => rw [q] at hd; cases hd
  | some e => rw [q] at hd; cases hd; exact ⟨e, rfl, dh⟩
section
variable {P : Program} {w : World} {K : PySem.W.Frag} {mg : Str → Option Value} {base : Heap} {f C fI fN fV k3 : Addr} {fd fdI fdN fdV : FuncData} {u1 : Tok}
theorem scCol : FnScope ["value", "name", "kind"] ["value"] (defScope sCol) := ⟨rfl, rfl, rfl, by decide +kernel, rfl, by decide +kernel, by decide +kernel⟩
theorem ok_col (F : Fun K "is_column" "is_column" sCol f fd) (T : Bt mg) (GN : FnOk P w K mg base CX0 1 fN fdN ["value"] spName) (mN : mg "is_name" = some (.ref fN)) (kN : PySem.W.keepIn K (.ref fN) = true) (bN : Binds K fdN ["value"] [])
    (mK : mg "KINDS" = some (.ref k3)) (hK : ∀ H, SqT K H k3 [.str "number", .str "word", .str "flag"]) : FnOk P w K mg base CX0 2 f fd ["value"] spCol := by
  refine F.ok scCol (fun vs H Q E h => ?_) (fun cdv A outer s H vs Q E hr h => ?_)
  · obtain ⟨v, b, rfl, _⟩ := h
    rfl
  · obtain ⟨v, b, rfl, ck, k⟩ := h
    refine ⟨_, pss_cons (ps_if (PW.pt (pw_or (pt_not (pt_val (pe_callB call_isi (by rfl) T.isi boot_isinstance (pa_cons (pv 0) (pa_cons (pe_bltn (v := .ty "tuple") (by rfl) T.tuple boot_tuple rfl) pa_nil)))))
        (pw_or1 (pt_cmpR op_ne (pe_callB call_len_seq (by rfl) T.len PySem.boot_len (pa_cons (pv 0) pa_nil)) pe_int (nomark _))))) (pss_one (ps_ret pe_bl)) pss_nil)
      (pss_cons (ps_asg (pv 0) (pg_tup rfl (pgs_cons (pg_name (i := 1) scCol.nd rfl (.inl rfl)) (pgs_cons (pg_name (i := 2) scCol.nd rfl (.inl rfl)) pgs_nil))))
      (pss_one (ps_ret (pe_and (pe_call GN hr (by rfl) mN kN bN .nil pass0 (pa_cons (pv 1) pa_nil)) (pe_and (pe_callB call_isi (by rfl) T.isi boot_isinstance (pa_cons (pv 2) (pa_cons (pe_bltn (v := .ty "str") (by rfl) T.str boot_str rfl) pa_nil)))
        (pe_one (pe_cmpR op_in_seq (pv 2) (pe_glob (v := .ref k3) (by rfl) mK rfl) (by rfl)))))))), ?_⟩
    have k0 := k H (Same.refl H)
    cases ck with
    | @other _ t ty n =>
      refine ⟨_, rfl, v, .ty "tuple", _, _, _, rfl, .ty "tuple", ty.x, kit_tuple ty.mem, _, rfl, ?_⟩
      rw [show (t == "tuple") = false by simpa using n]
      exact iteT (iteT k0)
    | @len a xs e n =>
      refine ⟨_, rfl, .ref a, .ty "tuple", _, _, _, rfl, .ty "tuple", (TyN.tup e).x, kit_tuple (by decide), _, rfl, ?_⟩
      refine iteF ⟨_, rfl, a, xs, rfl, .inr (SqT.of e), rfl, _, rfl, ?_⟩
      rw [show decide (V.int (xs.length : Int) = V.int 2) = false from decide_eq_false (fun q => n (by injection q with q; omega))]
      exact iteT k0
    | @pair a x y tx ty e hx hy lx =>
      refine ⟨_, rfl, .ref a, .ty "tuple", _, _, _, rfl, .ty "tuple", (TyN.tup e).x, kit_tuple (by decide), _, rfl, ?_⟩
      refine iteF ⟨_, rfl, a, _, rfl, .inr (SqT.of e), rfl, _, rfl, ?_⟩
      refine iteF ⟨_, rfl, a, _, rfl, SqT.of e, rfl, _, _, rfl, _, _, rfl, rfl, ?_⟩
      refine ⟨_, rfl, x, tx, rfl, hx, lx, fun H1 e1 => ⟨_, rfl, ?_⟩⟩
      have k1 := k H1 e1
      cases nb : nameB x with
      | false =>
        rw [nb] at k1
        exact iteF k1
      | true =>
        rw [nb, Bool.true_and] at k1
        refine iteT ⟨_, rfl, y, .ty "str", _, _, _, rfl, .ty "str", (hy.same e1).x, kit_str hy.mem, _, rfl, ?_⟩
        by_cases st : ty = "str"
        · obtain ⟨z, rfl⟩ := hy.isStr st
          subst st
          exact iteT ⟨_, rfl, k3, _, rfl, .inr (hK _), rfl, rfl, k1⟩
        · rw [show (ty == "str") = false by simpa using st]
          rw [show kindB y = false by cases hy <;> first | rfl | exact absurd rfl st] at k1
          exact iteF k1
theorem scCn : FnScope ["value"] ["value"] (defScope sCn) := ⟨rfl, rfl, rfl, by decide +kernel, rfl, by decide +kernel, by decide +kernel⟩
theorem ok_cnV (F : Fun K "check_name" "check_name" sCn f fd) (GN : FnOk P w K mg base CX0 1 fN fdN ["value"] spName) (mN : mg "is_name" = some (.ref fN)) (kN : PySem.W.keepIn K (.ref fN) = true) (bN : Binds K fdN ["value"] []) : FnOk P w K mg base CX0 2 f fd ["value"] spCnV := by
  refine F.ok scCn (fun vs H Q E h => ?_) (fun cdv A outer s H vs Q E hr h => ?_)
  · obtain ⟨x, rfl, _⟩ := h
    rfl
  · obtain ⟨x, rfl, sx, nx, k⟩ := h
    refine ⟨_, pss_one (ps_if (pt_not (pt_val (pe_call GN hr (by rfl) mN kN bN .nil pass0 (pa_cons (pv 0) pa_nil)))) pss_dead pss_nil), ?_⟩
    refine ⟨_, rfl, _, _, rfl, .str x, fun z e => ?_, fun H1 e1 => ⟨_, rfl, ?_⟩⟩
    · injection e with e
      rw [← e]
      exact Nat.le_trans (sh_len sx) (by decide)
    · rw [nx]
      exact iteF (k H1 e1)
theorem scCc : FnScope ["columns", "names", "index", "column"] ["columns"] (defScope sCc) := ⟨rfl, rfl, rfl, by decide +kernel, rfl, by decide +kernel, by decide +kernel⟩
theorem ok_ccV (F : Fun K "check_columns" "check_columns" sCc f fd) (T : Bt mg) (m1 : mg "MOST_COLUMNS" = some (.int 8 u1)) (GN : FnOk P w K mg base CX0 2 fN fdN ["value"] spCol) (mN : mg "is_column" = some (.ref fN)) (kN : PySem.W.keepIn K (.ref fN) = true) (bN : Binds K fdN ["value"] []) : FnOk P w K mg base CX0 3 f fd ["columns"] spCcV := by
  refine F.ok scCc (fun vs H Q E h => ?_) (fun cdv A outer s H vs Q E hr h => ?_)
  · obtain ⟨a, xs, ps, rfl, _⟩ := h
    rfl
  · obtain ⟨a, xs, ps, rfl, ha, hc, hp, k⟩ := h
    refine ⟨_, pss_cons (ps_if (PW.pt (pw_or (pt_not (pt_val (pe_callB call_isi (by rfl) T.isi boot_isinstance (pa_cons (pv 0) (pa_cons (pe_bltn (v := .ty "tuple") (by rfl) T.tuple boot_tuple rfl) pa_nil)))))
        (pw_or (pt_cmpR op_eq (pe_callB call_len_seq (by rfl) T.len PySem.boot_len (pa_cons (pv 0) pa_nil)) pe_int (nomark _))
        (pw_or1 (pt_cmpR op_gt (pe_callB call_len_seq (by rfl) T.len PySem.boot_len (pa_cons (pv 0) pa_nil)) (pe_glob (v := .int 8) (by rfl) m1 ⟨_, rfl⟩) (nomark _)))))) pss_dead pss_nil)
      (pss_cons (ps_set (i := 1) scCc.nd rfl (Or.inl rfl) (pe_lst pa_nil))
      (pss_one (ps_for PassesOwn.never rfl (pi_enT (by rfl) T.enum (pa_cons (pv 0) pa_nil)) (pg_tup rfl (pgs_cons (pg_name (i := 2) scCc.nd rfl (.inl rfl)) (pgs_cons (pg_name (i := 3) scCc.nd rfl (.inl rfl)) pgs_nil)))
        (pss_cons (ps_if (PW.pt (pw_or (pt_not (pt_val (pe_call GN hr (by rfl) mN kN bN .nil pass0 (pa_cons (pv 3) pa_nil)))) (pw_or1 (pt_cmpR op_in_seq (pe_ix ix_tup (pv 3) pe_int (fun _ _ => rfl)) (pv 1) (by rfl))))) pss_dead pss_nil)
        (pss_one (ps_expr (pe_bm PySem.F.plainAttrs_list PySem.F.slot_list_append PySem.F.type_list_append mt_append (pv 1) (pa_cons (pe_ix ix_tup (pv 3) pe_int (fun _ _ => rfl)) pa_nil)))))))), ?_⟩
    have lx := hc.len
    have l1 := hp.l1
    have l8 := hp.l8
    refine ⟨_, rfl, .ref a, .ty "tuple", _, _, _, rfl, .ty "tuple", (TyN.tup ha).x, kit_tuple (by decide), _, rfl, ?_⟩
    refine iteF ⟨_, rfl, a, xs, rfl, .inr (SqT.of ha), rfl, _, rfl, ?_⟩
    rw [show decide (V.int (xs.length : Int) = V.int 0) = false from decide_eq_false (fun q => by injection q with q; omega)]
    refine iteF ⟨_, rfl, a, xs, rfl, .inr (SqT.of ha), _, _, rfl, rfl, _, rfl, ?_⟩
    rw [decide_eq_false (show ¬ (8 : Int) < (xs.length : Int) by omega)]
    refine iteF ⟨by show 0 ≤ sizeLine; decide, fun L hL => ?_⟩
    have zL := Same.upd (o := .lst []) hL
    refine ⟨_, rfl, a, xs, rfl, SqT.of (zL _ _ ha), for_it (walk_enT (K := K) (a := a) (xs := xs)) (fun i σ H' => ∃ (x2 x3 : Option V), σ = [some (.ref a), some (.ref L), x2, x3] ∧ Same H H' ∧ H' L = some (.lst (((ps.take i).map (·.1)).map V.str)))
      ⟨_, _, rfl, zL, upd_same⟩ (fun i σ H' _ p => by obtain ⟨_, _, _, e, _⟩ := p; exact SqT.of (e _ _ ha)) ?_ ?_⟩
    · rintro i x σ Ha Hb hi ⟨x2, x3, rfl, sa, hLa⟩ ⟨q, i', y, rfl, hq, rfl, e1, e2⟩
      have zq := Same.upd (o := .tup [i', y]) hq
      refine ⟨q, _, rfl, SqT.of upd_same, rfl, _, _, rfl, _, _, rfl, rfl, ?_⟩
      obtain ⟨a', z, kk, rfl, ea, ep⟩ := hc.get _ _ e2
      obtain ⟨sz, nz, kz⟩ := hp.each _ (List.mem_of_getElem? ep)
      have ea2 := (sa.trans zq) _ _ ea
      have lz : ∀ z', V.str z = .str z' → z'.length ≤ sizeLine := fun z' e => by injection e with e; rw [← e]; exact Nat.le_trans (sh_len sz) (by decide)
      have ck := Ck.pair ea2 (.str z) (.str kk) lz
      rw [nz, kz.b] at ck
      refine ⟨_, rfl, _, true, rfl, ck, fun H2 s2 => ⟨_, rfl, iteF ?_⟩⟩
      have hL2 := (zq.trans s2) _ _ hLa
      refine ⟨_, rfl, a', _, _, _, rfl, rfl, SqT.of (s2 _ _ ea2), rfl, _, rfl, L, _, rfl, .inl (SqL.of hL2), rfl, List.all_eq_true.mpr (fun x hx => by obtain ⟨s, _, rfl⟩ := List.mem_map.mp hx; rfl), _, rfl, ?_⟩
      have fr : inV (.str z) (((ps.take i).map (·.1)).map V.str) = false := by
        rw [in_strs]
        refine decide_eq_false fun m => ?_
        have nd := hp.nd
        have sp : ps.map (·.1) = (ps.take i).map (·.1) ++ z :: (ps.drop (i + 1)).map (·.1) := by
          have li := (List.getElem?_eq_some_iff.mp ep)
          conv => lhs; rw [← List.take_append_drop i ps, List.drop_eq_getElem_cons li.1, li.2]
          rw [List.map_append, List.map_cons]
        rw [sp] at nd
        exact (List.nodup_append.mp nd).2.2 z m z List.mem_cons_self rfl
      rw [if_neg Bool.false_ne_true, fr]
      refine iteF ⟨_, rfl, .inl ⟨rfl, _, SqL.of hL2⟩, _, rfl, a', _, _, _, rfl, rfl, SqT.of (s2 _ _ ea2), rfl, L, _, _, rfl, rfl, hL2, ?_, ?_⟩
      · rw [List.length_map, List.length_map, List.length_take]
        exact Nat.lt_of_le_of_lt (show min i ps.length ≤ 8 by omega) (by decide)
      · refine ⟨_, _, rfl, fun b o eb => by rw [upd_ne (ne_of_none eb hL)]; exact ((sa.trans zq).trans s2) b o eb, ?_⟩
        rw [upd_same, List.take_add_one, ep]
        simp
    · rintro σ H' ⟨x2, x3, rfl, sa, _⟩
      exact k H' sa
theorem scCr : FnScope ["columns", "values", "index", "name", "kind"] ["columns", "values"] (defScope sCr) := ⟨rfl, rfl, rfl, by decide +kernel, rfl, by decide +kernel, by decide +kernel⟩
theorem ok_crV (F : Fun K "check_row" "check_row" sCr f fd) (T : Bt mg) (GV : FnOk P w K mg base CX0 3 fV fdV ["value", "kind"] spValue) (mV : mg "is_value" = some (.ref fV)) (kV : PySem.W.keepIn K (.ref fV) = true) (bV : Binds K fdV ["value", "kind"] []) : FnOk P w K mg base CX0 4 f fd ["columns", "values"] spCrV := by
  refine F.ok scCr (fun vs H Q E h => ?_) (fun cdv A outer s H vs Q E hr h => ?_)
  · obtain ⟨a, b, xs, ys, ps, ds, rfl, _⟩ := h
    rfl
  · obtain ⟨a, b, xs, ys, ps, ds, rfl, ha, hc, l8, hb, hd, hv, k⟩ := h
    refine ⟨_, pss_cons (ps_if (PW.pt (pw_or (pt_not (pt_val (pe_callB call_isi (by rfl) T.isi boot_isinstance (pa_cons (pv 1) (pa_cons (pe_bltn (v := .ty "tuple") (by rfl) T.tuple boot_tuple rfl) pa_nil)))))
        (pw_or1 (pt_cmpR op_ne (pe_callB call_len_seq (by rfl) T.len PySem.boot_len (pa_cons (pv 1) pa_nil)) (pe_callB call_len_seq (by rfl) T.len PySem.boot_len (pa_cons (pv 0) pa_nil)) (nomark _))))) pss_dead pss_nil)
      (pss_one (ps_for PassesOwn.never rfl (pi_enT (by rfl) T.enum (pa_cons (pv 0) pa_nil)) (pg_tup rfl (pgs_cons (pg_name (i := 2) scCr.nd rfl (.inl rfl)) (pgs_cons (pg_tup rfl (pgs_cons (pg_name (i := 3) scCr.nd rfl (.inl rfl)) (pgs_cons (pg_name (i := 4) scCr.nd rfl (.inl rfl)) pgs_nil))) pgs_nil)))
        (pss_one (ps_if (pt_not (pt_val (pe_call GV hr (by rfl) mV kV bV .nil pass0 (pa_cons (pe_ix ix_tup (pv 1) (pv 2) (fun _ _ => rfl)) (pa_cons (pv 4) pa_nil))))) pss_dead pss_nil)))), ?_⟩
    have lx := hc.len
    have ly := hd.len
    have lv := hv.len
    rw [List.length_map] at lv
    refine ⟨_, rfl, .ref b, .ty "tuple", _, _, _, rfl, .ty "tuple", (TyN.tup hb).x, kit_tuple (by decide), _, rfl, ?_⟩
    refine iteF ⟨_, rfl, b, ys, rfl, .inr (SqT.of hb), _, rfl, a, xs, rfl, .inr (SqT.of ha), rfl, _, rfl, ?_⟩
    rw [show decide (V.int (ys.length : Int) = V.int (xs.length : Int)) = true from decide_eq_true (by rw [ly, ← lv, ← lx])]
    refine iteF ?_
    refine ⟨_, rfl, a, xs, rfl, SqT.of ha, for_it (walk_enT (K := K) (a := a) (xs := xs)) (fun i σ H' => (∃ (x2 x3 x4 : Option V), σ = [some (.ref a), some (.ref b), x2, x3, x4]) ∧ Same H H') ⟨⟨_, _, _, rfl⟩, Same.refl H⟩ (fun i σ H' _ p => SqT.of (p.2 _ _ ha)) ?_ ?_⟩
    · rintro i x σ Ha Hb hi ⟨⟨x2, x3, x4, rfl⟩, sa⟩ ⟨q, i', y, rfl, hq, rfl, e1, e2⟩
      obtain rfl : V.int ((i : Nat) : Int) = i' := Option.some.inj e1
      have zq := Same.upd (o := .tup [.int ((i : Nat) : Int), y]) hq
      have s1 := sa.trans zq
      obtain ⟨a', z, kk, rfl, ea, ep⟩ := hc.get _ _ e2
      refine ⟨q, _, rfl, SqT.of upd_same, rfl, _, _, rfl, _, _, rfl, ⟨a', _, rfl, SqT.of (s1 _ _ ea), rfl, _, _, rfl, _, _, rfl, rfl, rfl, ?_⟩⟩
      have hyl : i < ys.length := by omega
      obtain ⟨d, hdi, dh⟩ := hd.get i _ (List.getElem?_eq_getElem hyl)
      have vk : Vk kk d := by
        have gen : ∀ {ks : List Str} {ds : List PyData}, Vks ks ds → ∀ (j : Nat) (k : Str) (d : PyData), ks[j]? = some k → ds[j]? = some d → Vk k d := by
          intro ks ds h
          induction h with
          | nil => intro j k d e; simp at e
          | cons h r ih =>
            intro j k d e1 e2
            cases j with
            | zero => cases e1; cases e2; exact h
            | succ j => exact ih j k d (by simpa using e1) (by simpa using e2)
        exact gen hv i kk d (by rw [List.getElem?_map, ep]; rfl) hdi
      obtain ⟨bb, th, vb⟩ := vk_thing (dh.same s1) vk
      refine ⟨_, rfl, _, rfl, b, _, _, _, rfl, rfl, SqT.of (s1 _ _ hb), at_of (j := i) rfl (List.getElem?_eq_getElem hyl), _, rfl, _, kk, bb, rfl, th, fun H2 s2 => ⟨_, rfl, ?_⟩⟩
      rw [vb]
      exact iteF ⟨⟨_, _, _, rfl⟩, s1.trans s2⟩
    · rintro σ H' ⟨⟨x2, x3, x4, rfl⟩, sa⟩
      exact k H' sa
theorem scRa : FnScope ["entries", "rows", "word", "number", "values", "author"] ["entries"] (defScope sRa) := ⟨rfl, rfl, rfl, by decide +kernel, rfl, by decide +kernel, by decide +kernel⟩
theorem ok_ra (F : Fun K "rows_after" "rows_after" sRa f fd) : FnOk P w K mg base CX0 1 f fd ["entries"] spRa := by
  refine F.ok scRa (fun vs H Q E h => ?_) (fun cdv A outer s H vs Q E hr h => ?_)
  · obtain ⟨l, xs, ks, es, rfl, _⟩ := h
    rfl
  · obtain ⟨l, xs, ks, es, rfl, hl, hd, ho, ln, k⟩ := h
    refine ⟨_, pss_cons (ps_set (i := 1) scRa.nd rfl (Or.inl rfl) pe_dnewK) (pss_cons (ps_for PassesOwn.never rfl (pi_list (pv 0)) (pg_tup rfl (pgs_cons (pg_name (i := 2) scRa.nd rfl (.inl rfl)) (pgs_cons (pg_name (i := 3) scRa.nd rfl (.inl rfl)) (pgs_cons (pg_name (i := 4) scRa.nd rfl (.inl rfl)) (pgs_cons (pg_name (i := 5) scRa.nd rfl (.inl rfl)) pgs_nil)))))
        (pss_one (ps_if (pt_cmpR op_eq (pv 2) pe_str (nomark _)) (pss_one (ps_ddel (pv 1) (pv 3))) (pss_one (ps_dput (Nat.lt_of_le_of_lt (Nat.add_le_add_left (show 1 ≤ 64 by decide) _) hr.units) (pv 1) (pv 3) (pv 4) (by rfl)))))) (pss_one (ps_ret (pv 1)))), fun r hr0 => ?_⟩
    have z := Same.upd (o := .dK []) hr0
    have lx : xs.length = es.length := by rw [hd.len, List.length_map]
    refine ⟨_, rfl, l, rfl, ⟨_, SqL.of (z _ _ hl)⟩, for_list (K := K) (a := l) (xs := xs) (fun i σ H' => ∃ (x2 x3 x4 x5 : Option V) (kvs : List (Key × V)), σ = [some (.ref l), some (.ref r), x2, x3, x4, x5] ∧ Same H H' ∧ H' r = some (.dK kvs) ∧ Rw H' kvs (stD (es.take i)))
      ⟨_, _, _, _, [], rfl, z, upd_same, .nil⟩ (fun i σ H' _ p => by obtain ⟨_, _, _, _, _, _, s', _⟩ := p; exact SqL.of (s' _ _ hl)) ?_ ?_⟩
    · rintro i x σ H1 hx ⟨x2, x3, x4, x5, kvs, rfl, s1, hr1, rw1⟩
      obtain ⟨e, he, de⟩ := en_get hd hx
      have og := ho.at he
      have op := OkEs.take i ho
      obtain ⟨a, v, rfl, ea, dv⟩ := en_of (de.same s1)
      have ei := og.noL
      obtain ⟨c1, c2⟩ := rw1.entry op og dv
      have ek : es.take (i + 1) = es.take i ++ [e] := by rw [List.take_add_one, he]; rfl
      have li : i < es.length := (List.getElem?_eq_some_iff.mp he).1
      have lk : kvs.length ≤ 1000 := by
        rw [rw1.len]
        have := op.keys.2.2
        rw [List.length_take] at this
        omega
      have st : ∀ o, SameT H1 (upd H1 r o) := fun o b xs eb => by rw [upd_ne (ne_of eb hr1 nofun)]; exact eb
      have sm : ∀ o, Same H (upd H1 r o) := fun o b o' eb => by rw [upd_ne (ne_of_none eb hr0)]; exact s1 b o' eb
      have nl : ∀ p ∈ stD (es.take i ++ [e]), Lc.noL p.2 = true := (OkEs.snoc op og).noLs
      refine ⟨a, _, rfl, SqT.of ea, rfl, _, _, rfl, _, _, rfl, _, _, rfl, _, _, rfl, rfl, ?_⟩
      refine ⟨_, rfl, rfl, _, rfl, ite2 (fun y => ?_) (fun y => ?_)⟩
      · have ew : e.w = "strike" := by have := of_decide_eq_true y; injection this
        obtain ⟨q1, q2⟩ := c1 ew
        refine ⟨_, rfl, _, rfl, r, kvs, .inl e.n, rfl, hr1, rfl, q1, _, _, _, _, _, rfl, sm _, upd_same, ?_⟩
        rw [ek]
        exact q2.t (st _) nl
      · have ew : e.w ≠ "strike" := fun q => y (decide_eq_true (by rw [q]))
        refine ⟨_, rfl, _, rfl, _, rfl, r, _, rfl, DPut.k (k := .inl e.n) hr1 (Nat.lt_of_le_of_lt lk (by decide)), _, _, _, _, _, rfl, sm _, upd_same, ?_⟩
        rw [ek]
        exact (c2 ew).t (st _) nl
    · rintro σ H1 ⟨x2, x3, x4, x5, kvs, rfl, s1, hr1, rw1⟩
      rw [lx, List.take_length] at rw1
      exact ⟨_, rfl, k r kvs H1 s1 hr1 rw1⟩
abbrev ttNu (K : PySem.W.Frag) : TT := tTest (tOp rEq (tOp (rIxT K) (tVar 1) (tC (.int 0))) (tC (.str "add")))
theorem scNu : FnScope ["entries", "entry"] ["entries"] (defScope sNu) := ⟨rfl, rfl, rfl, by decide +kernel, rfl, by decide +kernel, by decide +kernel⟩
theorem ok_nu (F : Fun K "numbers_used" "numbers_used" sNu f fd) (T : Bt mg) : FnOk P w K mg base CX0 1 f fd ["entries"] spNu := by
  refine F.ok scNu (fun vs H Q E h => ?_) (fun cdv A outer s H vs Q E hr h => ?_)
  · obtain ⟨l, xs, es, rfl, _⟩ := h
    rfl
  · obtain ⟨l, xs, es, rfl, hl, hd, ln, k⟩ := h
    refine ⟨_, pss_one (ps_ret (pe_callB call_len_seq (by rfl) T.len PySem.boot_len (pa_cons (pe_lc (own := [("entry", 1)]) (g := gName 1) (tt := ttNu K) (te := tVar 1) (by rfl) scNu.nd (pi_list (pv 0)) (blkOk_by (own := [("entry", 1)]) (N := ["entries", "entry"]) (sc := defScope sNu) (by decide +kernel))
      (fun _ _ _ _ _ => pg_name (i := 1) scNu.nd rfl (Or.inl rfl)) (fun _ _ _ _ _ => pts_one (pt_cmpR op_eq (pe_ix ix_tup (pv 1) pe_int (fun _ _ => rfl)) pe_str (nomark _))) (fun _ _ _ _ _ => pv 1)) pa_nil))), ?_⟩
    have lx : xs.length = es.length := by rw [hd.len, List.length_map]
    have ul : ∀ i, usedD (es.take i) ≤ 1000 := fun i => by
      unfold usedD
      have := List.length_filter_le (fun e : En => decide (e.w = ("add" : Str))) (es.take i)
      rw [List.length_take] at this
      omega
    refine ⟨_, rfl, l, rfl, ⟨_, SqL.of hl⟩, fun D hD => lc_list (K := K) (a := l) (xs := xs) (fun i H' => ∃ ys : List V, H' D = some (.lst ys) ∧ ys.length = usedD (es.take i) ∧ Same H H') ⟨[], upd_same, rfl, Same.upd hD⟩ (fun i H' _ p => by obtain ⟨_, _, _, s'⟩ := p; exact SqL.of (s' _ _ hl)) ?_ ?_⟩
    · rintro i x H1 hx ⟨ys, hD1, ly, s1⟩
      obtain ⟨e, he, de⟩ := en_get hd hx
      obtain ⟨a, v, rfl, ea, dv⟩ := en_of (de.same s1)
      have ek : es.take (i + 1) = es.take i ++ [e] := by rw [List.take_add_one, he]; rfl
      have eu := usedD_snoc (es.take i) e
      rw [← ek] at eu
      refine ⟨rfl, ?_⟩
      change ttNu K _ _ _
      refine ⟨_, rfl, a, _, _, _, rfl, rfl, SqT.of ea, rfl, rfl, _, rfl, ite2 (fun y => ?_) (fun y => ?_)⟩
      · have ew : e.w = "add" := by have := of_decide_eq_true y; injection this
        rw [if_pos ew] at eu
        refine ⟨_, rfl, ys, hD1, ?_, ys ++ [.ref a], upd_same, ?_, fun b o eb => by rw [upd_ne (ne_of_none eb hD)]; exact s1 b o eb⟩
        · rw [ly]
          exact Nat.lt_of_le_of_lt (ul i) (by decide)
        · rw [List.length_append, ly, eu]; rfl
      · have ew : e.w ≠ "add" := fun q => y (decide_eq_true (by rw [q]))
        rw [if_neg ew] at eu
        exact ⟨ys, hD1, by rw [ly, eu]; rfl, s1⟩
    · rintro H1 ⟨ys, hD1, ly, s1⟩
      rw [lx, List.take_length] at ly
      refine ⟨D, ys, rfl, .inl (SqL.of hD1), ?_⟩
      rw [ly]
      exact k H1 s1
end
end K07
set_option Elab.async false
set_option linter.all false
set_option maxRecDepth 100000
set_option maxHeartbeats 4000000
namespace K07
open PySem PySem.Spec PyProof.Rows L2 Lc
/-! ## errors that tell one thing -/
abbrev sIniN : Stmt := inClass (top 2) 0
abbrev sIniR : Stmt := inClass (top 4) 0
abbrev sIniM : Stmt := inClass (top 5) 0
abbrev sIniV : Stmt := inClass (top 6) 0
abbrev sIniL : Stmt := inClass (top 7) 0
/-- what the written part says of the class x, at C, its __init__ at fI, that keeps fld -/
structure ErF (K : PySem.W.Frag) (mg : Str → Option Value) (x fld : Str) (C fI : Addr) : Prop where
  oex : OexC K C
  iC : PySem.W.findIn K (.ref C) "__init__" = some (some (.ref fI))
  tI : PySem.W.typeIn K (.ref fI) = some (.type "function")
  nG : PySem.W.findIn K (.ref C) fld = some none
  gC : mg x = some (.ref C)
abbrev ixT : List Value := [.type "IndexError", .type "LookupError", .type "Exception", .type "BaseException", .type "object"]
abbrev ovT : List Value := [.type "OverflowError", .type "ArithmeticError", .type "Exception", .type "BaseException", .type "object"]
/-- the same of a class right over another built-in one -/
structure ErG (K : PySem.W.Frag) (mg : Str → Option Value) (x fld : Str) (C fI : Addr) (new : String) (tail : List Value) : Prop where
  oex : OexG K C new tail
  iC : PySem.W.findIn K (.ref C) "__init__" = some (some (.ref fI))
  tI : PySem.W.typeIn K (.ref fI) = some (.type "function")
  nG : PySem.W.findIn K (.ref C) fld = some none
  gC : mg x = some (.ref C)
abbrev ErI (K : PySem.W.Frag) (mg : Str → Option Value) (x fld : Str) (C fI : Addr) : Prop := ErG K mg x fld C fI "IndexError.__new__" ixT
abbrev ErO (K : PySem.W.Frag) (mg : Str → Option Value) (x fld : Str) (C fI : Addr) : Prop := ErG K mg x fld C fI "OverflowError.__new__" ovT
def TellsF (C : Addr) (fld : Str) (H : Hp) (v : V) (E : XK) : Prop := ∀ (d : Addr) (H' : Hp), Same H H' → H d = none → H' d = some (.xd [(fld, v)]) → E (.ref C) (some d) H'
def spIni (C : Addr) (fld : Str) : Sp := fun vs H Q _ => ∃ (a : Addr) (v : V), vs = [.ref a, v] ∧ H a = some (exo a C none) ∧ ∀ dx, H dx = none → dx ≠ a → Q .non (upd (upd H dx (exd dx [(fld, v)])) a (exo a C (some dx)))
section
variable {P : Program} {w : World} {K : PySem.W.Frag} {mg : Str → Option Value} {base : Heap} {f C fI : Addr} {fd fdI : FuncData}
theorem scIniN : FnScope ["self", "given"] ["self", "given"] (defScope sIniN) := ⟨rfl, rfl, rfl, by decide +kernel, rfl, by decide +kernel, by decide +kernel⟩
theorem ok_iniN (F : Fun K "__init__" "BadName.__init__" sIniN fI fdI) (T : ErF K mg "BadName" "given" C fI) : FnOk P w K mg base CX0 1 fI fdI ["self", "given"] (spIni C "given") := by
  refine F.ok scIniN (fun vs H Q E h => ?_) (fun cdv A outer s H vs Q E hr h => ?_)
  · obtain ⟨a, v, rfl, _⟩ := h
    rfl
  · obtain ⟨a, v, rfl, ha, k⟩ := h
    refine ⟨_, pss_one (ps_ost (pv 0) (pv 1)), ?_⟩
    exact ⟨_, rfl, _, rfl, a, C, rfl, T.oex, T.nG, .inl ⟨ha, fun dx h1 h2 => k dx h1 h2⟩⟩
theorem scIniR : FnScope ["self", "index"] ["self", "index"] (defScope sIniR) := ⟨rfl, rfl, rfl, by decide +kernel, rfl, by decide +kernel, by decide +kernel⟩
theorem ok_iniR (F : Fun K "__init__" "BadRow.__init__" sIniR fI fdI) (T : ErF K mg "BadRow" "index" C fI) : FnOk P w K mg base CX0 1 fI fdI ["self", "index"] (spIni C "index") := by
  refine F.ok scIniR (fun vs H Q E h => ?_) (fun cdv A outer s H vs Q E hr h => ?_)
  · obtain ⟨a, v, rfl, _⟩ := h
    rfl
  · obtain ⟨a, v, rfl, ha, k⟩ := h
    refine ⟨_, pss_one (ps_ost (pv 0) (pv 1)), ?_⟩
    exact ⟨_, rfl, _, rfl, a, C, rfl, T.oex, T.nG, .inl ⟨ha, fun dx h1 h2 => k dx h1 h2⟩⟩
theorem scIniM : FnScope ["self", "number"] ["self", "number"] (defScope sIniM) := ⟨rfl, rfl, rfl, by decide +kernel, rfl, by decide +kernel, by decide +kernel⟩
theorem ok_iniM (F : Fun K "__init__" "NoRow.__init__" sIniM fI fdI) (T : ErI K mg "NoRow" "number" C fI) : FnOk P w K mg base CX0 1 fI fdI ["self", "number"] (spIni C "number") := by
  refine F.ok scIniM (fun vs H Q E h => ?_) (fun cdv A outer s H vs Q E hr h => ?_)
  · obtain ⟨a, v, rfl, _⟩ := h
    rfl
  · obtain ⟨a, v, rfl, ha, k⟩ := h
    refine ⟨_, pss_one (ps_put PySem.F.store_IndexError T.oex T.nG (pv 0) (pv 1)), ?_⟩
    exact ⟨_, rfl, _, rfl, a, rfl, ha, fun dx h1 h2 => k dx h1 h2⟩
theorem scIniV : FnScope ["self", "given"] ["self", "given"] (defScope sIniV) := ⟨rfl, rfl, rfl, by decide +kernel, rfl, by decide +kernel, by decide +kernel⟩
theorem ok_iniV (F : Fun K "__init__" "NoVersion.__init__" sIniV fI fdI) (T : ErI K mg "NoVersion" "given" C fI) : FnOk P w K mg base CX0 1 fI fdI ["self", "given"] (spIni C "given") := by
  refine F.ok scIniV (fun vs H Q E h => ?_) (fun cdv A outer s H vs Q E hr h => ?_)
  · obtain ⟨a, v, rfl, _⟩ := h
    rfl
  · obtain ⟨a, v, rfl, ha, k⟩ := h
    refine ⟨_, pss_one (ps_put PySem.F.store_IndexError T.oex T.nG (pv 0) (pv 1)), ?_⟩
    exact ⟨_, rfl, _, rfl, a, rfl, ha, fun dx h1 h2 => k dx h1 h2⟩
theorem scIniL : FnScope ["self", "size"] ["self", "size"] (defScope sIniL) := ⟨rfl, rfl, rfl, by decide +kernel, rfl, by decide +kernel, by decide +kernel⟩
theorem ok_iniL (F : Fun K "__init__" "TooLarge.__init__" sIniL fI fdI) (T : ErO K mg "TooLarge" "size" C fI) : FnOk P w K mg base CX0 1 fI fdI ["self", "size"] (spIni C "size") := by
  refine F.ok scIniL (fun vs H Q E h => ?_) (fun cdv A outer s H vs Q E hr h => ?_)
  · obtain ⟨a, v, rfl, _⟩ := h
    rfl
  · obtain ⟨a, v, rfl, ha, k⟩ := h
    refine ⟨_, pss_one (ps_put PySem.F.store_OverflowError T.oex T.nG (pv 0) (pv 1)), ?_⟩
    exact ⟨_, rfl, _, rfl, a, rfl, ha, fun dx h1 h2 => k dx h1 h2⟩
/-- raise X(v) -/
theorem tells_ofF {H : Hp} {fld : Str} {v : V} {E : XK} (t : TellsF C fld H v E) : ∀ a, H a = none → spIni C fld (.ref a :: ([v] ++ [])) (upd H a (exo a C none))
    (fun v' H2 => v' = .non ∧ ∃ (d : Addr) (fs : List (Str × V)), H2 a = some (exo a C (some d)) ∧ H2 d = some (exd d fs) ∧ H d = none ∧ E (.ref C) (some d) (upd (del H2 a) d (.xd fs))) (fun _ _ _ => False) := by
  intro a ha
  refine ⟨a, v, rfl, upd_same, fun dx hx hne => ⟨rfl, dx, _, upd_same, by rw [upd_ne hne, upd_same], by rw [upd_ne hne] at hx; exact hx, ?_⟩⟩
  rw [upd_ne hne] at hx
  refine t dx _ (fun b o e => ?_) hx upd_same
  have nb : b ≠ a := ne_of_none e ha
  have nd : b ≠ dx := ne_of_none e hx
  rw [upd_ne nd, del_ne nb, upd_ne nb, upd_ne nd, upd_ne nb]
  exact e
end
end K07
set_option Elab.async false
set_option linter.all false
set_option maxRecDepth 100000
set_option maxHeartbeats 4000000
namespace K07
open PySem PySem.Spec PyProof.Rows L2 Lc
/-! ## values, told by their data -/
def numD : PyData → Bool
  | .tuple [.int n, .int m] => numB (.int n) (.int m)
  | _ => false
def nameD : PyData → Bool
  | .str x => nameB (.str x)
  | _ => false
def boolD : PyData → Bool
  | .bool _ => true
  | _ => false
def nonD : PyData → Bool
  | .none => true
  | _ => false
def valD (k : Str) (d : PyData) : Bool := nonD d || (if k = "number" then numD d else if k = "word" then nameD d else boolD d)
/-- the texts are short -/
def TxD (d : PyData) : Prop := ∀ z, d = .str z → z.length ≤ sizeLine
theorem numB_int {x y : V} (h : numB x y = true) : ∃ n m, x = .int n ∧ y = .int m := by
  unfold numB at h
  rw [Bool.and_eq_true_iff] at h
  obtain ⟨n, d, e1, e2, _⟩ := ratB_ints h.1
  exact ⟨n, d, e1, e2⟩
theorem nameB_dh {H : Hp} {v : V} {d : PyData} (h : Dh H v d) : nameB v = nameD d := by
  cases h <;> rfl
theorem isB_dh {H : Hp} {v : V} {d : PyData} (h : Dh H v d) : isB v = boolD d := by
  cases h <;> rfl
theorem non_dh {H : Hp} {v : V} {d : PyData} (h : Dh H v d) : decide (v = .non) = nonD d := by
  cases h <;> rfl
theorem num_pair {H : Hp} {x y : V} {dx dy : PyData} (hx : Dh H x dx) (hy : Dh H y dy) : numB x y = numD (.tuple [dx, dy]) := by
  cases q : numB x y with
  | true =>
    obtain ⟨n, m, rfl, rfl⟩ := numB_int q
    cases hx
    cases hy
    exact q.symm
  | false =>
    cases z : numD (.tuple [dx, dy]) with
    | false => rfl
    | true =>
      exfalso
      unfold numD at z
      split at z
      · rename_i n m e
        injection e with e
        injection e with e1 e2
        injection e2 with e2 _
        subst e1
        subst e2
        cases hx
        cases hy
        rw [q] at z
        cases z
      · cases z
theorem num_len2 {ds : List PyData} (h : ds.length ≠ 2) : numD (.tuple ds) = false := by
  unfold numD
  split
  · rename_i n m e
    injection e with e
    rw [e] at h
    exact absurd rfl h
  · rfl
theorem thing_of {H : Hp} {v : V} {d : PyData} (h : Dh H v d) (tx : TxD d) : ∃ b, Thing H v b ∧ ∀ k, valB k v b = valD k d := by
  have fin : ∀ b, b = numD d → ∀ k, valB k v b = valD k d := fun b e k => by
    unfold valB valD
    rw [nameB_dh h, isB_dh h, non_dh h, e]
  cases h with
  | non => exact ⟨false, .other .non (by decide) nofun, fin _ rfl⟩
  | bl b => exact ⟨false, .other (.bl b) (by decide) nofun, fin _ rfl⟩
  | int i => exact ⟨false, .other (.int i) (by decide) nofun, fin _ rfl⟩
  | str x => exact ⟨false, .other (.str x) (by decide) (fun y e => by injection e with e; rw [← e]; exact tx x rfl), fin _ rfl⟩
  | @tup a xs ds e hs =>
    match xs, ds, hs with
    | [], [], .nil => exact ⟨false, .len e (by decide), fin _ rfl⟩
    | [x], [_], .cons _ .nil => exact ⟨false, .len e (by show (1 : Nat) ≠ 2; decide), fin _ (num_len2 (by show (1 : Nat) ≠ 2; decide)).symm⟩
    | [x, y], [dx, dy], .cons hx (.cons hy .nil) =>
      obtain ⟨tx', hx'⟩ : ∃ t, TyN H x t := ⟨_, hx.ty⟩
      obtain ⟨ty', hy'⟩ : ∃ t, TyN H y t := ⟨_, hy.ty⟩
      exact ⟨_, .pair e hx' hy', fin _ (num_pair hx hy)⟩
    | x :: y :: z :: r, dx :: dy :: dz :: dr, .cons _ (.cons _ (.cons _ _)) => exact ⟨false, .len e (by simp), fin _ (num_len2 (by simp)).symm⟩
  | lst e hs => exact ⟨false, .other (.lst e) (by decide) nofun, fin _ rfl⟩
  | dct e => exact ⟨false, .other (.dct e) (by decide) nofun, fin _ rfl⟩
/-- the first wrong value: none, the whole row, or an index -/
def badV : List Str → List PyData → Nat → Option Nat
  | k :: ks, d :: ds, i => if valD k d then badV ks ds (i + 1) else some i
  | _, _, _ => none
def rowBad (ks : List Str) : PyData → Option V
  | .tuple ds => if ds.length = ks.length then (badV ks ds 0).map (fun i => V.int (i : Int)) else some .non
  | _ => some .non
end K07
set_option Elab.async false
set_option linter.all false
set_option maxRecDepth 100000
set_option maxHeartbeats 4000000
namespace K07
open PySem PySem.Spec PyProof.Rows L2 Lc
def spCn (C : Addr) : Sp := fun vs H Q E => ∃ (v : V) (t : String), vs = [v] ∧ TyN H v t ∧ (∀ x, v = .str x → x.length ≤ sizeLine) ∧ (nameB v = true → ∀ H', Same H H' → Q .non H') ∧ (nameB v = false → ∀ H', Same H H' → TellsF C "given" H' v E)
def spCr (C : Addr) : Sp := fun vs H Q E => ∃ (a : Addr) (v : V) (xs : List V) (ps : List (Str × Str)) (d : PyData), vs = [.ref a, v] ∧ H a = some (.tup xs) ∧ Cols H xs ps ∧ ps.length ≤ 8 ∧ Dh H v d ∧ (∀ ds, d = .tuple ds → ∀ x ∈ ds, TxD x) ∧
  (rowBad (ps.map (·.2)) d = none → ∀ H', Same H H' → Q .non H') ∧ (∀ w, rowBad (ps.map (·.2)) d = some w → ∀ H', Same H H' → TellsF C "index" H' w E)
theorem rowBad_no {ks : List Str} {d : PyData} (h : tyD d ≠ "tuple") : rowBad ks d = some .non := by
  cases d <;> first | rfl | exact absurd rfl h
section
variable {P : Program} {w : World} {K : PySem.W.Frag} {mg : Str → Option Value} {base : Heap} {f C fI fN fV : Addr} {fd fdI fdN fdV : FuncData}
theorem ok_cn (F : Fun K "check_name" "check_name" sCn f fd) (R : ErF K mg "BadName" "given" C fI) (GI : FnOk P w K mg base CX0 1 fI fdI ["self", "given"] (spIni C "given")) (bI : Binds K fdI ["self", "given"] [])
    (GN : FnOk P w K mg base CX0 1 fN fdN ["value"] spName) (mN : mg "is_name" = some (.ref fN)) (kN : PySem.W.keepIn K (.ref fN) = true) (bN : Binds K fdN ["value"] []) : FnOk P w K mg base (L2.CX P w) 3 f fd ["value"] (spCn C) := by
  refine F.okX scCn (fun vs H Q E h => ?_) (fun cdv A outer s H vs Q E hr h => ?_)
  · obtain ⟨v, t, rfl, _⟩ := h
    rfl
  · obtain ⟨v, t, rfl, ty, hl, k1, k2⟩ := h
    refine ⟨_, pss_one (ps_if (pt_not (pt_val (pe_call GN (hr.mono (by decide)) (by rfl) mN kN bN .nil pass0 (pa_cons (pv 0) pa_nil))))
      (pss_one (ps_raise (W := fun cls d _ H => E cls d H) rfl (takes_of rfl rfl rfl rfl) (pmk_oex R.oex R.iC R.tI GI hr bI .nil pass0 (by rfl) R.gC (pa_cons (pv 0) pa_nil)))) pss_nil), ?_⟩
    refine ⟨_, rfl, v, t, rfl, ty, hl, fun H1 e1 => ⟨_, rfl, ?_⟩⟩
    cases nb : nameB v with
    | true => exact iteF (k1 nb H1 e1)
    | false => exact iteT ⟨_, rfl, by show 1 ≤ 1000; decide, tells_ofF (k2 nb H1 e1)⟩
theorem ok_cr (F : Fun K "check_row" "check_row" sCr f fd) (T : Bt mg) (R : ErF K mg "BadRow" "index" C fI) (GI : FnOk P w K mg base CX0 1 fI fdI ["self", "index"] (spIni C "index")) (bI : Binds K fdI ["self", "index"] [])
    (GV : FnOk P w K mg base CX0 3 fV fdV ["value", "kind"] spValue) (mV : mg "is_value" = some (.ref fV)) (kV : PySem.W.keepIn K (.ref fV) = true) (bV : Binds K fdV ["value", "kind"] []) : FnOk P w K mg base (L2.CX P w) 4 f fd ["columns", "values"] (spCr C) := by
  refine F.okX scCr (fun vs H Q E h => ?_) (fun cdv A outer s H vs Q E hr h => ?_)
  · obtain ⟨a, v, xs, ps, d, rfl, _⟩ := h
    rfl
  · obtain ⟨a, v, xs, ps, d, rfl, ha, hc, l8, hd, tx, k1, k2⟩ := h
    have hr2 : Room (1 + 1) _ := hr.mono (by decide)
    refine ⟨_, pss_cons (ps_if (PW.pt (pw_or (pt_not (pt_val (pe_callB call_isi (by rfl) T.isi boot_isinstance (pa_cons (pv 1) (pa_cons (pe_bltn (v := .ty "tuple") (by rfl) T.tuple boot_tuple rfl) pa_nil)))))
        (pw_or1 (pt_cmpR op_ne (pe_callB call_len_seq (by rfl) T.len PySem.boot_len (pa_cons (pv 1) pa_nil)) (pe_callB call_len_seq (by rfl) T.len PySem.boot_len (pa_cons (pv 0) pa_nil)) (nomark _)))))
        (pss_one (ps_raise (W := fun cls d _ H => E cls d H) rfl (takes_of rfl rfl rfl rfl) (pmk_oex R.oex R.iC R.tI GI hr2 bI .nil pass0 (by rfl) R.gC (pa_cons pe_non pa_nil)))) pss_nil)
      (pss_one (ps_for (passes_of rfl) rfl (pi_enT (by rfl) T.enum (pa_cons (pv 0) pa_nil)) (pg_tup rfl (pgs_cons (pg_name (i := 2) scCr.nd rfl (.inl rfl)) (pgs_cons (pg_tup rfl (pgs_cons (pg_name (i := 3) scCr.nd rfl (.inl rfl)) (pgs_cons (pg_name (i := 4) scCr.nd rfl (.inl rfl)) pgs_nil))) pgs_nil)))
        (pss_one (ps_if (pt_not (pt_val (pe_call GV hr (by rfl) mV kV bV .nil pass0 (pa_cons (pe_ix ix_tup (pv 1) (pv 2) (fun _ _ => rfl)) (pa_cons (pv 4) pa_nil)))))
          (pss_one (ps_raise (W := fun cls d _ H => E cls d H) rfl (takes_of rfl rfl rfl rfl) (pmk_oex R.oex R.iC R.tI GI hr2 bI .nil pass0 (by rfl) R.gC (pa_cons (pv 2) pa_nil)))) pss_nil)))), ?_⟩
    have one : 1 ≤ 1000 := by decide
    have lx := hc.len
    have ty := hd.ty
    refine ⟨_, rfl, v, .ty "tuple", _, _, _, rfl, .ty "tuple", ty.x, kit_tuple ty.mem, _, rfl, ?_⟩
    by_cases tt : tyD d = "tuple"
    · rw [tt]
      cases hd with
      | @tup b ys ds hb hds =>
        have ly := hds.len
        refine iteF ⟨_, rfl, b, ys, rfl, .inr (SqT.of hb), _, rfl, a, xs, rfl, .inr (SqT.of ha), rfl, _, rfl, ?_⟩
        by_cases ll : ys.length = xs.length
        · rw [show decide (V.int (ys.length : Int) = V.int (xs.length : Int)) = true from decide_eq_true (by rw [ll])]
          refine iteF ?_
          have rb : rowBad (ps.map (·.2)) (.tuple ds) = (badV (ps.map (·.2)) ds 0).map (fun i => V.int (i : Int)) := by
            show (if ds.length = (ps.map (·.2)).length then _ else _) = _
            rw [if_pos (by rw [List.length_map]; omega)]
          rw [rb] at k1 k2
          have txd := tx ds rfl
          refine ⟨_, rfl, a, xs, rfl, SqT.of ha, for_it (walk_enT (K := K) (a := a) (xs := xs)) (fun i σ H' => (∃ (x2 x3 x4 : Option V), σ = [some (.ref a), some (.ref b), x2, x3, x4]) ∧ Same H H' ∧ badV ((ps.map (·.2)).drop i) (ds.drop i) i = badV (ps.map (·.2)) ds 0) ⟨⟨_, _, _, rfl⟩, Same.refl H, rfl⟩ (fun i σ H' _ p => SqT.of (p.2.1 _ _ ha)) ?_ ?_⟩
          · rintro i x σ Ha Hb hi ⟨⟨x2, x3, x4, rfl⟩, sa, bd⟩ ⟨q, i', y, rfl, hq, rfl, e1, e2⟩
            obtain rfl : V.int ((i : Nat) : Int) = i' := Option.some.inj e1
            have zq := Same.upd (o := .tup [.int ((i : Nat) : Int), y]) hq
            have s1 := sa.trans zq
            obtain ⟨a', z, kk, rfl, ea, ep⟩ := hc.get _ _ e2
            refine ⟨q, _, rfl, SqT.of upd_same, rfl, _, _, rfl, _, _, rfl, ⟨a', _, rfl, SqT.of (s1 _ _ ea), rfl, _, _, rfl, _, _, rfl, rfl, rfl, ?_⟩⟩
            have hxl : i < xs.length := (List.getElem?_eq_some_iff.mp e2).1
            have hyl : i < ys.length := by omega
            obtain ⟨d, hdi, dh⟩ := hds.get i _ (List.getElem?_eq_getElem hyl)
            obtain ⟨hdl, ed⟩ := List.getElem?_eq_some_iff.mp hdi
            have hkl : i < (ps.map (·.2)).length := by rw [List.length_map]; omega
            have ekk : (ps.map (·.2))[i]'hkl = kk := by
              have : (ps.map (·.2))[i]? = some kk := by rw [List.getElem?_map, ep]; rfl
              rw [List.getElem?_eq_getElem hkl] at this
              exact Option.some.inj this
            rw [List.drop_eq_getElem_cons hkl, List.drop_eq_getElem_cons hdl, ekk, ed] at bd
            obtain ⟨bb, th, vb⟩ := thing_of (dh.same s1) (txd d (List.mem_of_getElem? hdi))
            refine ⟨_, rfl, _, rfl, b, _, _, _, rfl, rfl, SqT.of (s1 _ _ hb), at_of (j := i) rfl (List.getElem?_eq_getElem hyl), _, rfl, _, kk, bb, rfl, th, fun H2 s2 => ⟨_, rfl, ?_⟩⟩
            rw [vb kk]
            have bd2 : (if valD kk d = true then badV ((ps.map (·.2)).drop (i + 1)) (ds.drop (i + 1)) (i + 1) else some i) = badV (ps.map (·.2)) ds 0 := bd
            cases vv : valD kk d with
            | true =>
              rw [vv, if_pos rfl] at bd2
              exact iteF ⟨⟨_, _, _, rfl⟩, s1.trans s2, bd2⟩
            | false =>
              rw [vv, if_neg Bool.false_ne_true] at bd2
              exact iteT ⟨_, rfl, one, tells_ofF (k2 _ (by rw [← bd2]; rfl) H2 (s1.trans s2))⟩
          · rintro σ H' ⟨⟨x2, x3, x4, rfl⟩, sa, bd⟩
            refine k1 ?_ H' sa
            rw [lx, List.drop_of_length_le (by rw [List.length_map]; exact Nat.le_refl _)] at bd
            rw [← bd]
            rfl
        · rw [show decide (V.int (ys.length : Int) = V.int (xs.length : Int)) = false from decide_eq_false (fun q => ll (by injection q with q; omega))]
          have rb : rowBad (ps.map (·.2)) (.tuple ds) = some .non := by
            show (if ds.length = (ps.map (·.2)).length then _ else _) = _
            rw [if_neg (by rw [List.length_map]; omega)]
          exact iteT ⟨one, tells_ofF (k2 _ rb H (Same.refl H))⟩
      | _ => exact absurd tt (by simp [tyD])
    · rw [show (tyD d == "tuple") = false by simpa using tt]
      exact iteT (iteT ⟨one, tells_ofF (k2 _ (rowBad_no tt) H (Same.refl H))⟩)
end
end K07
set_option Elab.async false
set_option linter.all false
set_option maxRecDepth 100000
set_option maxHeartbeats 4000000
namespace K07
open PySem PySem.Spec PyProof.Rows L2 Lc
abbrev sRI : Stmt := inClass (top 29) 0
abbrev sCs : Stmt := inClass (top 29) 1
abbrev sCe : Stmt := inClass (top 29) 2
abbrev sAdd : Stmt := inClass (top 29) 3
abbrev sCor : Stmt := inClass (top 29) 4
abbrev sStr : Stmt := inClass (top 29) 5
abbrev sRN : Stmt := inClass (top 29) 6
abbrev sRC : Stmt := inClass (top 29) 7
abbrev sRV : Stmt := inClass (top 29) 8
abbrev sRR : Stmt := inClass (top 29) 9
abbrev sRE : Stmt := inClass (top 29) 10
abbrev sRA : Stmt := inClass (top 29) 11
abbrev sRL : Stmt := inClass (top 29) 14
/-! ## registers -/
structure RgF (K : PySem.W.Frag) (mg : Str → Option Value) (C fI : Addr) : Prop where
  mkC : Mk K C fI
  cls : Cls K C
  a1 : NoAttr K C "called"
  a2 : NoAttr K C "shape"
  a3 : NoAttr K C "log"
  gC : mg "Register" = some (.ref C)
def fsR (nm cv : V) (lg : Addr) : List (Str × V) := [("called", nm), ("shape", cv), ("log", .ref lg)]
structure RD where
  nm : Str
  ps : List (Str × Str)
  es : List En
def IsRg (C : Addr) (H : Hp) (a lg : Addr) (R : RD) : Prop := ∃ (dx cv : Addr) (xs ys : List V), H a = some (.ins C dx (fsR (.str R.nm) (.ref cv) lg)) ∧ H cv = some (.tup xs) ∧ Cols H xs R.ps ∧ H lg = some (.lst ys) ∧ DhAll H ys (R.es.map En.d)
structure OkR (R : RD) : Prop where
  nm : Sh 12 R.nm ∧ nameB (.str R.nm) = true
  cols : ColsOk R.ps
  es : OkEs (R.ps.map (·.2)) R.es
  ln : R.es.length ≤ 410
theorem Cols.same {H H' : Hp} {xs : List V} {ps : List (Str × Str)} (h : Cols H xs ps) (s : Same H H') : Cols H' xs ps := h.t (SameT.of s)
theorem IsRg.same {C : Addr} {H H' : Hp} {a lg : Addr} {R : RD} (h : IsRg C H a lg R) (s : Same H H') : IsRg C H' a lg R := by
  obtain ⟨dx, cv, xs, ys, h1, h2, h3, h4, h5⟩ := h
  exact ⟨dx, cv, xs, ys, s _ _ h1, s _ _ h2, h3.same s, s _ _ h4, DhAll.same s h5⟩
/-- another list is written -/
theorem IsRg.off {C : Addr} {H H' : Hp} {a lg l : Addr} {R : RD} {zs : List V} (h : IsRg C H a lg R) (o : OkR R) (hl : H l = some (.lst zs)) (n : lg ≠ l) (s : SameB l H H') : IsRg C H' a lg R := by
  obtain ⟨dx, cv, xs, ys, h1, h2, h3, h4, h5⟩ := h
  have st := SameT.at hl (fun xs => nofun) s
  exact ⟨dx, cv, xs, ys, s _ _ (ne_of h1 hl nofun) h1, st _ _ h2, h3.t st, s _ _ n h4, DhAll.t st h5 o.es.noLd⟩
theorem IsRg.list {C : Addr} {H : Hp} {a lg : Addr} {R : RD} (h : IsRg C H a lg R) : ∃ ys, H lg = some (.lst ys) := by
  obtain ⟨dx, cv, xs, ys, h1, h2, h3, h4, h5⟩ := h
  exact ⟨ys, h4⟩
def rowsD (st : St2) : List PyData := st.map fun p => .tuple [.int p.1, p.2]
def auD (es : List En) (n : Int) : List Str := (es.filter fun e => decide (e.n = n)).map (·.au)
/-- a new list of data -/
def NewL (H : Hp) (ds : List PyData) (Q : VK) : Prop := ∀ (r : Addr) (zs : List V) (H' : Hp), Same H H' → H r = none → H' r = some (.lst zs) → DhAll H' zs ds → Q (.ref r) H'
def spRI (C : Addr) : Sp := fun vs H Q _ => ∃ (a dx : Addr) (nm : Str) (cv : Addr) (xs : List V) (ps : List (Str × Str)), vs = [.ref a, .str nm, .ref cv] ∧ H a = some (.ins C dx []) ∧ Sh 12 nm ∧ nameB (.str nm) = true ∧ H cv = some (.tup xs) ∧ Cols H xs ps ∧ ColsOk ps ∧
  ∀ (lg : Addr) (H' : Hp), SameB a H H' → H lg = none → IsRg C H' a lg ⟨nm, ps, []⟩ → Q .non H'
def spCs (C : Addr) : Sp := fun vs H Q _ => ∃ (a lg : Addr) (R : RD) (n : Int), vs = [.ref a, .int n] ∧ IsRg C H a lg R ∧ OkR R ∧ n ∈ (stD R.es).map (·.1) ∧ ∀ H', Same H H' → Q .non H'
def spCe (C : Addr) : Sp := fun vs H Q _ => ∃ (a lg : Addr) (R : RD) (au : Str), vs = [.ref a, .str au] ∧ IsRg C H a lg R ∧ OkR R ∧ Sh 12 au ∧ nameB (.str au) = true ∧ ∀ H', Same H H' → Q .non H'
/-- an entry is made -/
def Makes (C : Addr) (H : Hp) (a lg : Addr) (R : RD) (e : En) (v : V) (Q : VK) : Prop := ∀ H', SameB lg H H' → IsRg C H' a lg { R with es := R.es ++ [e] } → Q v H'
def spAdd (C : Addr) : Sp := fun vs H Q _ => ∃ (a lg b : Addr) (R : RD) (au : Str) (ds : List PyData), vs = [.ref a, .ref b, .str au] ∧ IsRg C H a lg R ∧ OkR R ∧ Dh H (.ref b) (.tuple ds) ∧ Vks (R.ps.map (·.2)) ds ∧ Sh 12 au ∧ nameB (.str au) = true ∧ Makes C H a lg R ⟨"add", usedD R.es, .tuple ds, au⟩ (.int (usedD R.es)) Q
def spCor (C : Addr) : Sp := fun vs H Q _ => ∃ (a lg b : Addr) (R : RD) (n : Int) (au : Str) (ds : List PyData), vs = [.ref a, .int n, .ref b, .str au] ∧ IsRg C H a lg R ∧ OkR R ∧ n ∈ (stD R.es).map (·.1) ∧ Dh H (.ref b) (.tuple ds) ∧ Vks (R.ps.map (·.2)) ds ∧ Sh 12 au ∧ nameB (.str au) = true ∧ Makes C H a lg R ⟨"correct", n, .tuple ds, au⟩ .non Q
def spStr (C : Addr) : Sp := fun vs H Q _ => ∃ (a lg : Addr) (R : RD) (n : Int) (au : Str), vs = [.ref a, .int n, .str au] ∧ IsRg C H a lg R ∧ OkR R ∧ n ∈ (stD R.es).map (·.1) ∧ Sh 12 au ∧ nameB (.str au) = true ∧ Makes C H a lg R ⟨"strike", n, .none, au⟩ .non Q
def spNm (C : Addr) : Sp := fun vs H Q _ => ∃ (a lg : Addr) (R : RD), vs = [.ref a] ∧ IsRg C H a lg R ∧ Q (.str R.nm) H
def spCo (C : Addr) : Sp := fun vs H Q _ => ∃ (a lg : Addr) (R : RD), vs = [.ref a] ∧ IsRg C H a lg R ∧ ∀ (cv : Addr) (xs : List V), H cv = some (.tup xs) → Cols H xs R.ps → Q (.ref cv) H
def spVe (C : Addr) : Sp := fun vs H Q _ => ∃ (a lg : Addr) (R : RD), vs = [.ref a] ∧ IsRg C H a lg R ∧ Q (.int R.es.length) H
def spEn (C : Addr) : Sp := fun vs H Q _ => ∃ (a lg : Addr) (R : RD), vs = [.ref a] ∧ IsRg C H a lg R ∧ NewL H (R.es.map En.d) Q
def spRows (C : Addr) : Sp := fun vs H Q _ => ∃ (a lg : Addr) (R : RD) (y : V) (v : Nat), vs = [.ref a, y] ∧ IsRg C H a lg R ∧ OkR R ∧ v ≤ R.es.length ∧ (y = .int v ∨ (y = .non ∧ v = R.es.length)) ∧ NewL H (rowsD (stD (R.es.take v))) Q
def spLen (C : Addr) : Sp := fun vs H Q _ => ∃ (a lg : Addr) (R : RD), vs = [.ref a] ∧ IsRg C H a lg R ∧ OkR R ∧ ∀ H', Same H H' → Q (.int (stD R.es).length) H'
def spAu (C : Addr) : Sp := fun vs H Q _ => ∃ (a lg : Addr) (R : RD) (n : Int), vs = [.ref a, .int n] ∧ IsRg C H a lg R ∧ OkR R ∧ 0 ≤ n ∧ n < (usedD R.es : Int) ∧ NewL H ((auD R.es n).map PyData.str) Q
/-! ## which error a call tells: 0 BadRow, 1 BadName, 2 NoRow, 3 NoVersion, 4 TooLarge -/
structure EA where
  r : Addr
  n : Addr
  m : Addr
  v : Addr
  l : Addr
def EA.at (A : EA) : Nat → Addr
  | 0 => A.r
  | 1 => A.n
  | 2 => A.m
  | 3 => A.v
  | _ => A.l
def fldE : Nat → Str
  | 0 => "index"
  | 1 => "given"
  | 2 => "number"
  | 3 => "given"
  | _ => "size"
/-- nothing is refused and Q goes on, or the error is told -/
def Vd (A : EA) (H : Hp) (u : Option (Nat × V)) (E : XK) (Q : Prop) : Prop := (u = none → Q) ∧ ∀ c x, u = some (c, x) → ∀ H', Same H H' → TellsF (A.at c) (fldE c) H' x E
def standD (es : List En) : PyData → Bool
  | .int n => decide (n ∈ (stD es).map (·.1))
  | _ => false
def handD (es : List En) (v : V) : Option (Nat × V) := if nameB v = false then some (1, v) else if 400 ≤ es.length then some (4, .int 401) else none
def rowU (ks : List Str) (d : PyData) : Option (Nat × V) := (rowBad ks d).map fun w => (0, w)
def numU (es : List En) (v : V) (d : PyData) : Option (Nat × V) := if standD es d = true then none else some (2, v)
def orU (a b : Option (Nat × V)) : Option (Nat × V) := match a with
  | none => b
  | some x => some x
def spCsX (C : Addr) (A : EA) : Sp := fun vs H Q E => ∃ (a lg : Addr) (R : RD) (v : V) (d : PyData), vs = [.ref a, v] ∧ IsRg C H a lg R ∧ OkR R ∧ Dh H v d ∧ Vd A H (numU R.es v d) E (∀ H', Same H H' → Q .non H')
def spCeX (C : Addr) (A : EA) : Sp := fun vs H Q E => ∃ (a lg : Addr) (R : RD) (v : V) (d : PyData), vs = [.ref a, v] ∧ IsRg C H a lg R ∧ OkR R ∧ Dh H v d ∧ TxD d ∧ Vd A H (handD R.es v) E (∀ H', Same H H' → Q .non H')
section
variable {P : Program} {w : World} {K : PySem.W.Frag} {mg : Str → Option Value} {base : Heap} {f C fI fN fC fW fA fR fU fE fS fM fL : Addr} {fd fdN fdC fdW fdA fdR fdU fdE fdS fdM fdL : FuncData} {u1 : Tok} {A : EA}
theorem scCs : FnScope ["self", "number"] ["self", "number"] (defScope sCs) := ⟨rfl, rfl, rfl, by decide +kernel, rfl, by decide +kernel, by decide +kernel⟩
theorem scCe : FnScope ["self", "author"] ["self", "author"] (defScope sCe) := ⟨rfl, rfl, rfl, by decide +kernel, rfl, by decide +kernel, by decide +kernel⟩
theorem ok_csX (F : Fun K "check_standing" "Register.check_standing" sCs f fd) (G : RgF K mg C fI) (RM : ErI K mg "NoRow" "number" A.m fM) (GM : FnOk P w K mg base CX0 1 fM fdM ["self", "number"] (spIni A.m "number")) (bM : Binds K fdM ["self", "number"] [])
    (GW : FnOk P w K mg base CX0 1 fW fdW ["value"] spWhole) (mW : mg "is_whole" = some (.ref fW)) (kW : PySem.W.keepIn K (.ref fW) = true) (bW : Binds K fdW ["value"] [])
    (GA : FnOk P w K mg base CX0 1 fA fdA ["entries"] spRa) (mA : mg "rows_after" = some (.ref fA)) (kA : PySem.W.keepIn K (.ref fA) = true) (bA : Binds K fdA ["entries"] []) : FnOk P w K mg base (L2.CX P w) 3 f fd ["self", "number"] (spCsX C A) := by
  refine F.okX scCs (fun vs H Q E h => ?_) (fun cdv A' outer s H vs Q E hr h => ?_)
  · obtain ⟨a, lg, R, v, d, rfl, _⟩ := h
    rfl
  · obtain ⟨a, lg, R, v, d, rfl, ⟨dx, cv, xs, ys, h1, h2, h3, h4, h5⟩, o, hd, k1, k2⟩ := h
    have hr1 : Room 1 _ := hr.mono (by decide)
    refine ⟨_, pss_one (ps_if (PW.pt (pw_or (pt_not (pt_val (pe_call GW hr1 (by rfl) mW kW bW .nil pass0 (pa_cons (pv 1) pa_nil)))) (pw_or1 (pt_cmp (pc_dnotin (Nat.lt_of_le_of_lt (Nat.add_le_add_left (show 1 ≤ 64 by decide) _) hr.units) (pv 1) (pe_call GA hr1 (by rfl) mA kA bA .nil pass0 (pa_cons (pe_fld (pv 0) (by rfl)) pa_nil))) (by rfl)))))
      (pss_one (ps_raise (W := fun cls d _ H => E cls d H) rfl (takes_of rfl rfl rfl rfl) (pmk_oexG PySem.F.excBase_IndexError RM.oex RM.iC RM.tI GM hr bM .nil pass0 (by rfl) RM.gC (pa_cons (pv 1) pa_nil)))) pss_nil), ?_⟩
    have one : 1 ≤ 1000 := by decide
    refine ⟨_, rfl, v, _, rfl, hd.ty, _, rfl, ?_⟩
    by_cases ti : tyD d = "int"
    · obtain ⟨n, rfl, rfl⟩ : ∃ n, d = .int n ∧ v = .int n := by
        cases hd <;> first | exact ⟨_, rfl, rfl⟩ | exact absurd ti (by simp [tyD])
      rw [show (tyD (.int n) == "int") = true from rfl]
      refine iteF ⟨_, rfl, _, rfl, a, C, dx, _, _, rfl, h1, G.cls, G.a3, rfl, lg, ys, _, R.es, rfl, h4, h5, o.es, by have := o.ln; omega, fun r kvs H1 s1 hr1 rw1 => ?_⟩
      refine ⟨r, _, rfl, DGet.k (k := .inl n) hr1, ?_⟩
      rw [rw1.val n]
      by_cases z : n ∈ (stD R.es).map (·.1)
      · rw [decide_eq_true z]
        have e : numU R.es (.int n) (.int n) = none := by
          show (if decide (n ∈ (stD R.es).map (·.1)) = true then none else _) = none
          rw [decide_eq_true z]
          rfl
        exact ⟨_, rfl, iteF (k1 e H1 s1)⟩
      · rw [decide_eq_false z]
        have e : numU R.es (.int n) (.int n) = some (2, .int n) := by
          show (if decide (n ∈ (stD R.es).map (·.1)) = true then none else _) = _
          rw [decide_eq_false z]
          rfl
        exact ⟨_, rfl, iteT ⟨_, rfl, one, tells_ofF (k2 _ _ e H1 s1)⟩⟩
    · rw [show (tyD d == "int") = false by simpa using ti]
      have e : numU R.es v d = some (2, v) := by
        unfold numU standD
        cases d <;> first | rfl | exact absurd rfl ti
      exact iteT (iteT ⟨_, rfl, one, tells_ofF (k2 _ _ e H (Same.refl H))⟩)
theorem ok_ceX (F : Fun K "check_entry" "Register.check_entry" sCe f fd) (T : Bt mg) (G : RgF K mg C fI) (m1 : mg "MOST_ENTRIES" = some (.int 400 u1)) (RL : ErO K mg "TooLarge" "size" A.l fL) (GL : FnOk P w K mg base CX0 1 fL fdL ["self", "size"] (spIni A.l "size")) (bL : Binds K fdL ["self", "size"] [])
    (GN : FnOk P w K mg base (L2.CX P w) 3 fN fdN ["value"] (spCn A.n)) (mN : mg "check_name" = some (.ref fN)) (kN : PySem.W.keepIn K (.ref fN) = true) (bN : Binds K fdN ["value"] []) : FnOk P w K mg base (L2.CX P w) 4 f fd ["self", "author"] (spCeX C A) := by
  refine F.okX scCe (fun vs H Q E h => ?_) (fun cdv A' outer s H vs Q E hr h => ?_)
  · obtain ⟨a, lg, R, v, d, rfl, _⟩ := h
    rfl
  · obtain ⟨a, lg, R, v, d, rfl, ⟨dx, cv, xs, ys, h1, h2, h3, h4, h5⟩, o, hd, tx, k1, k2⟩ := h
    have hr2 : Room (1 + 1) _ := hr.mono (by decide)
    refine ⟨_, pss_cons (ps_expr (pe_callS GN hr (by rfl) mN kN bN (fun σ => passAt (W := fun cls d _ H => E cls d H) (takes_of rfl rfl rfl rfl) σ) (pa_cons (pv 1) pa_nil))) (pss_one (ps_if (pt_cmpR op_ge (pe_callB call_len_seq (by rfl) T.len PySem.boot_len (pa_cons (pe_fld (pv 0) (by rfl)) pa_nil)) (pe_glob (v := .int 400) (by rfl) m1 ⟨_, rfl⟩) (nomark _))
      (pss_one (ps_raise (W := fun cls d _ H => E cls d H) rfl (takes_of rfl rfl rfl rfl) (pmk_oexG PySem.F.excBase_OverflowError RL.oex RL.iC RL.tI GL hr2 bL .nil pass0 (by rfl) RL.gC (pa_cons (pe_op op_add (pe_glob (v := .int 400) (by rfl) m1 ⟨_, rfl⟩) pe_int) pa_nil)))) pss_nil)), ?_⟩
    have one : 1 ≤ 1000 := by decide
    have ly := h5.len
    rw [List.length_map] at ly
    refine ⟨_, rfl, v, _, rfl, hd.ty, fun x e => ?_, fun nb H1 s1 => ?_, fun nb H1 s1 => ?_⟩
    · subst e
      cases hd
      exact tx _ rfl
    · refine ⟨_, rfl, a, C, dx, _, _, rfl, s1 _ _ h1, G.cls, G.a3, rfl, lg, ys, rfl, .inl (SqL.of (s1 _ _ h4)), _, _, rfl, rfl, _, rfl, ?_⟩
      by_cases z : 400 ≤ R.es.length
      · rw [decide_eq_true (show (400 : Int) ≤ (ys.length : Int) by omega)]
        have e : handD R.es v = some (4, .int 401) := by
          unfold handD
          rw [nb, if_neg (by decide), if_pos z]
        exact iteT ⟨_, _, rfl, rfl, one, tells_ofF (k2 _ _ e H1 s1)⟩
      · rw [decide_eq_false (show ¬ (400 : Int) ≤ (ys.length : Int) by omega)]
        have e : handD R.es v = none := by
          unfold handD
          rw [nb, if_neg (by decide), if_neg z]
        exact iteF (k1 e H1 s1)
    · have e : handD R.es v = some (1, v) := by
        unfold handD
        rw [nb, if_pos rfl]
      exact k2 _ _ e H1 s1
end
end K07
set_option Elab.async false
set_option linter.all false
set_option maxRecDepth 100000
set_option maxHeartbeats 4000000
namespace K07
open PySem PySem.Spec PyProof.Rows L2 Lc
theorem sgn_lt {c : Nat} (h : inS c = true) : c < 1114112 := by
  have all : ∀ c ∈ signs.cps.toList, c < 1114112 := by decide +kernel
  exact all c (of_decide_eq_true h)
theorem name_sh {x : Str} (h : nameB (.str x) = true) : Sh 12 x := by
  obtain ⟨_, h2, _, h4⟩ := name_has h
  exact ⟨h2, fun c hc => sgn_lt (h4 c hc)⟩
theorem vk_of {k : Str} {d : PyData} (g : KindS k) (h : valD k d = true) : Vk k d := by
  unfold valD at h
  by_cases z : nonD d = true
  · cases d <;> first | exact .non k | cases z
  · rw [show nonD d = false by simpa using z, Bool.false_or] at h
    rcases g with rfl | rfl | rfl
    · rw [if_pos rfl] at h
      unfold numD at h
      split at h
      · rename_i n m
        unfold numB at h
        rw [Bool.and_eq_true_iff] at h
        obtain ⟨h1, h2⟩ := h
        have h1 : (decide (0 < m) && decide (gd n m = 1)) = true := h1
        have h2 : (decide ((if n < 0 then -n else n) ≤ lim) && decide (m ≤ lim)) = true := h2
        rw [Bool.and_eq_true_iff, decide_eq_true_iff, decide_eq_true_iff] at h1 h2
        have e : lim = 10000000000000000000000000000000000000000 := rfl
        refine .num ⟨h1.1, h1.2⟩ ?_ ?_
        · have := h2.1
          split at this <;> omega
        · have := h2.2
          omega
      · cases h
    · rw [if_neg (by decide +kernel), if_pos rfl] at h
      cases d with
      | str x => exact .word (name_sh h) h
      | _ => cases h
    · rw [if_neg (by decide +kernel), if_neg (by decide +kernel)] at h
      cases d with
      | bool b => exact .flag b
      | _ => cases h
theorem vks_of : ∀ {ks : List Str} {ds : List PyData} {i : Nat}, (∀ k ∈ ks, KindS k) → ds.length = ks.length → badV ks ds i = none → Vks ks ds
  | [], [], _, _, _, _ => .nil
  | [], _ :: _, _, _, l, _ => by simp at l
  | _ :: _, [], _, _, l, _ => by simp at l
  | k :: ks, d :: ds, i, g, l, h => by
    have h : (if valD k d = true then badV ks ds (i + 1) else some i) = none := h
    by_cases z : valD k d = true
    · rw [if_pos z] at h
      exact .cons (vk_of (g k List.mem_cons_self) z) (vks_of (fun k hk => g k (List.mem_cons_of_mem _ hk)) (by simpa using l) h)
    · rw [if_neg z] at h
      cases h
theorem row_ok {ks : List Str} {d : PyData} (g : ∀ k ∈ ks, KindS k) (h : rowBad ks d = none) : ∃ ds, d = .tuple ds ∧ Vks ks ds := by
  cases d with
  | tuple ds =>
    have h : (if ds.length = ks.length then (badV ks ds 0).map (fun i => V.int (i : Int)) else some .non) = none := h
    by_cases l : ds.length = ks.length
    · rw [if_pos l] at h
      refine ⟨ds, rfl, vks_of (i := 0) g l ?_⟩
      cases q : badV ks ds 0 with
      | none => rfl
      | some _ => rw [q] at h; cases h
    · rw [if_neg l] at h
      cases h
  | _ => cases h
theorem ColsOk.kinds {ps : List (Str × Str)} (o : ColsOk ps) : ∀ k ∈ ps.map (·.2), KindS k := fun k hk => by
  obtain ⟨p, hp, rfl⟩ := List.mem_map.mp hk
  exact (o.each p hp).2.2
def auOf : V → Str
  | .str x => x
  | _ => ""
theorem name_str {v : V} (h : nameB v = true) : v = .str (auOf v) ∧ Sh 12 (auOf v) := by
  cases v with
  | str x => exact ⟨rfl, name_sh h⟩
  | _ => cases h
end K07
set_option Elab.async false
set_option linter.all false
set_option maxRecDepth 100000
set_option maxHeartbeats 4000000
namespace K07
open PySem PySem.Spec PyProof.Rows L2 Lc
/-- the log is longer by one -/
theorem IsRg.grow {C : Addr} {H : Hp} {a lg t dx cv : Addr} {xs ys : List V} {R : RD} {e : En} {x : V} {ks : List Str} (o : OkR R) (g : OkEn ks R.es e) (h1 : H a = some (.ins C dx (fsR (.str R.nm) (.ref cv) lg))) (h2 : H cv = some (.tup xs)) (h3 : Cols H xs R.ps) (h4 : H lg = some (.lst ys)) (h5 : DhAll H ys (R.es.map En.d))
    (ht : H t = some (.tup [.str e.w, .int e.n, x, .str e.au])) (hx : Dh H x e.vals) : IsRg C (upd H lg (.lst (ys ++ [.ref t]))) a lg { R with es := R.es ++ [e] } := by
  have st := SameT.lst (o := .lst (ys ++ [.ref t])) h4
  refine ⟨dx, cv, xs, _, by rw [upd_ne (ne_of h1 h4 nofun)]; exact h1, st _ _ h2, h3.t st, upd_same, ?_⟩
  have d : Dh H (.ref t) e.d := .tup ht (.cons (.str _) (.cons (.int _) (.cons hx (.cons (.str _) .nil))))
  show DhAll _ _ ((R.es ++ [e]).map En.d)
  rw [List.map_append]
  exact DhAll.append (DhAll.t st h5 o.es.noLd) (.cons (d.t st g.noLd) .nil)
theorem Vd.left {A : EA} {H : Hp} {u u' : Option (Nat × V)} {E : XK} {Q : Prop} (h : Vd A H (orU u u') E Q) : ∀ c x, u = some (c, x) → ∀ H', Same H H' → TellsF (A.at c) (fldE c) H' x E := fun c x e H' s => h.2 c x (by rw [e]; rfl) H' s
theorem Vd.right {A : EA} {H H1 : Hp} {u u' : Option (Nat × V)} {E : XK} {Q : Prop} (h : Vd A H (orU u u') E Q) (e : u = none) (s : Same H H1) : Vd A H1 u' E Q := by
  have z : orU u u' = u' := by rw [e]; rfl
  rw [z] at h
  exact ⟨h.1, fun c x e H' s' => h.2 c x e H' (s.trans s')⟩
def spAddX (C : Addr) (A : EA) : Sp := fun vs H Q E => ∃ (a lg : Addr) (R : RD) (v y : V) (d dy : PyData), vs = [.ref a, v, y] ∧ IsRg C H a lg R ∧ OkR R ∧ Dh H v d ∧ (∀ ds, d = .tuple ds → ∀ x ∈ ds, TxD x) ∧ Dh H y dy ∧ TxD dy ∧ Vd A H (orU (rowU (R.ps.map (·.2)) d) (handD R.es y)) E (Makes C H a lg R ⟨"add", usedD R.es, d, auOf y⟩ (.int (usedD R.es)) Q)
def spCorX (C : Addr) (A : EA) : Sp := fun vs H Q E => ∃ (a lg : Addr) (R : RD) (n v y : V) (dn d dy : PyData), vs = [.ref a, n, v, y] ∧ IsRg C H a lg R ∧ OkR R ∧ Dh H n dn ∧ Dh H v d ∧ (∀ ds, d = .tuple ds → ∀ x ∈ ds, TxD x) ∧ Dh H y dy ∧ TxD dy ∧ Vd A H (orU (numU R.es n dn) (orU (rowU (R.ps.map (·.2)) d) (handD R.es y))) E (∀ m, n = .int m → Makes C H a lg R ⟨"correct", m, d, auOf y⟩ .non Q)
def spStrX (C : Addr) (A : EA) : Sp := fun vs H Q E => ∃ (a lg : Addr) (R : RD) (n y : V) (dn dy : PyData), vs = [.ref a, n, y] ∧ IsRg C H a lg R ∧ OkR R ∧ Dh H n dn ∧ Dh H y dy ∧ TxD dy ∧ Vd A H (orU (numU R.es n dn) (handD R.es y)) E (∀ m, n = .int m → Makes C H a lg R ⟨"strike", m, .none, auOf y⟩ .non Q)
theorem handD_ok {es : List En} {y : V} (h : handD es y = none) : nameB y = true ∧ es.length < 400 := by
  unfold handD at h
  by_cases z : nameB y = false
  · rw [if_pos z] at h; cases h
  · rw [if_neg z] at h
    by_cases q : 400 ≤ es.length
    · rw [if_pos q] at h; cases h
    · exact ⟨by simpa using z, by omega⟩
theorem rowU_ok {ks : List Str} {d : PyData} (h : rowU ks d = none) : rowBad ks d = none := by
  unfold rowU at h
  cases q : rowBad ks d with
  | none => rfl
  | some _ => rw [q] at h; cases h
theorem numU_ok {es : List En} {v : V} {d : PyData} {H : Hp} (hd : Dh H v d) (h : numU es v d = none) : ∃ n, v = .int n ∧ n ∈ (stD es).map (·.1) := by
  unfold numU at h
  by_cases z : standD es d = true
  · unfold standD at z
    cases hd with
    | int n => exact ⟨n, rfl, of_decide_eq_true z⟩
    | _ => cases z
  · rw [if_neg z] at h; cases h
section
variable {P : Program} {w : World} {K : PySem.W.Frag} {mg : Str → Option Value} {base : Heap} {f C fI fN fC fW fA fR fU fE fS : Addr} {fd fdN fdC fdW fdA fdR fdU fdE fdS : FuncData} {u1 : Tok} {A : EA}
theorem scRI : FnScope ["self", "name", "columns"] ["self", "name", "columns"] (defScope sRI) := ⟨rfl, rfl, rfl, by decide +kernel, rfl, by decide +kernel, by decide +kernel⟩
theorem ok_ri (F : Fun K "__init__" "Register.__init__" sRI f fd) (G : RgF K mg C fI)
    (GN : FnOk P w K mg base CX0 2 fN fdN ["value"] spCnV) (mN : mg "check_name" = some (.ref fN)) (kN : PySem.W.keepIn K (.ref fN) = true) (bN : Binds K fdN ["value"] [])
    (GC : FnOk P w K mg base CX0 3 fC fdC ["columns"] spCcV) (mC : mg "check_columns" = some (.ref fC)) (kC : PySem.W.keepIn K (.ref fC) = true) (bC : Binds K fdC ["columns"] []) : FnOk P w K mg base CX0 4 f fd ["self", "name", "columns"] (spRI C) := by
  refine F.ok scRI (fun vs H Q E h => ?_) (fun cdv A outer s H vs Q E hr h => ?_)
  · obtain ⟨a, dx, nm, cv, xs, ps, rfl, _⟩ := h
    rfl
  · obtain ⟨a, dx, nm, cv, xs, ps, rfl, ha, sn, nn, hcv, hc, hp, k⟩ := h
    have hr2 : Room 2 _ := hr.mono (by decide)
    refine ⟨_, pss_cons (ps_expr (pe_call GN hr2 (by rfl) mN kN bN .nil pass0 (pa_cons (pv 1) pa_nil))) (pss_cons (ps_expr (pe_call GC hr (by rfl) mC kC bC .nil pass0 (pa_cons (pv 2) pa_nil)))
      (pss_cons (ps_fld (pv 0) (pv 1) (by rfl)) (pss_cons (ps_fld (pv 0) (pv 2) (by rfl)) (pss_one (ps_fld (pv 0) (pe_lst pa_nil) (by rfl)))))), ?_⟩
    refine ⟨_, rfl, nm, rfl, sn, nn, fun H1 s1 => ⟨_, rfl, cv, xs, ps, rfl, s1 _ _ hcv, hc.same s1, hp, fun H2 s2 => ?_⟩⟩
    have ha2 := (s1.trans s2) _ _ ha
    refine ⟨_, rfl, _, rfl, a, C, dx, _, rfl, ha2, G.cls, G.a1, by decide, ?_⟩
    refine ⟨_, rfl, _, rfl, a, C, dx, _, rfl, upd_same, G.cls, G.a2, by show 1 < 1000; decide, ?_⟩
    rw [upd_upd]
    refine ⟨by show 0 ≤ sizeLine; decide, fun lg hl => ⟨_, rfl, a, C, dx, [("called", .str nm), ("shape", .ref cv)], rfl, ?_, G.cls, G.a3, by show 2 < 1000; decide, ?_⟩⟩
    · rw [upd_ne (ne_of_none upd_same hl)]
      exact upd_same
    have nl : lg ≠ a := Ne.symm (ne_of_none upd_same hl)
    have gl : H lg = none := by
      rw [upd_ne nl] at hl
      cases q : H lg with
      | none => rfl
      | some o => rw [(s1.trans s2) _ _ q] at hl; cases hl
    have keep : SameB a H (upd (upd (upd H2 a (.ins C dx [("called", .str nm), ("shape", .ref cv)])) lg (.lst [])) a (.ins C dx (fsR (.str nm) (.ref cv) lg))) := fun b o n eb => by
      rw [upd_ne n, upd_ne (ne_of_none eb gl), upd_ne n]
      exact (s1.trans s2) _ _ eb
    refine k lg _ keep gl ⟨dx, cv, xs, [], upd_same, keep _ _ (ne_of hcv ha nofun) hcv, hc.t (SameT.at ha (fun xs => nofun) keep), by rw [upd_ne nl, upd_same], .nil⟩
theorem scAdd : FnScope ["self", "values", "author", "number"] ["self", "values", "author"] (defScope sAdd) := ⟨rfl, rfl, rfl, by decide +kernel, rfl, by decide +kernel, by decide +kernel⟩
theorem ok_addX (F : Fun K "add" "Register.add" sAdd f fd) (G : RgF K mg C fI)
    (GC : FnOk P w K mg base (L2.CX P w) 4 fC fdC ["columns", "values"] (spCr A.r)) (mC : mg "check_row" = some (.ref fC)) (kC : PySem.W.keepIn K (.ref fC) = true) (bC : Binds K fdC ["columns", "values"] [])
    (hE : Meth K C "check_entry" fE) (GE : FnOk P w K mg base (L2.CX P w) 4 fE fdE ["self", "author"] (spCeX C A)) (bE : Binds K fdE ["self", "author"] [])
    (GU : FnOk P w K mg base CX0 1 fU fdU ["entries"] spNu) (mU : mg "numbers_used" = some (.ref fU)) (kU : PySem.W.keepIn K (.ref fU) = true) (bU : Binds K fdU ["entries"] []) : FnOk P w K mg base (L2.CX P w) 5 f fd ["self", "values", "author"] (spAddX C A) := by
  refine F.okX scAdd (fun vs H Q E h => ?_) (fun cdv A' outer s H vs Q E hr h => ?_)
  · obtain ⟨a, lg, R, v, y, d, dy, rfl, _⟩ := h
    rfl
  · obtain ⟨a, lg, R, v, y, d, dy, rfl, hI, o, hd, tx, hy, ty, vd⟩ := h
    have hr1 : Room 1 _ := hr.mono (by decide)
    refine ⟨_, pss_cons (ps_expr (pe_callS GC hr (by rfl) mC kC bC (fun σ => passAt (W := fun cls d _ H => E cls d H) (takes_of rfl rfl rfl rfl) σ) (pa_cons (pe_fld (pv 0) (by rfl)) (pa_cons (pv 1) pa_nil)))) (pss_cons (ps_expr (pe_methS (pv 0) G.cls hE GE hr bE (fun σ => passAt (W := fun cls d _ H => E cls d H) (takes_of rfl rfl rfl rfl) σ) (pa_cons (pv 2) pa_nil)))
      (pss_cons (ps_set (i := 3) scAdd.nd rfl (Or.inl rfl) (pe_call GU hr1 (by rfl) mU kU bU .nil pass0 (pa_cons (pe_fld (pv 0) (by rfl)) pa_nil)))
      (pss_cons (ps_expr (pe_bm PySem.F.plainAttrs_list PySem.F.slot_list_append PySem.F.type_list_append mt_append (pe_fld (pv 0) (by rfl)) (pa_cons (pe_tup (pa_cons pe_str (pa_cons (pv 3) (pa_cons (pv 1) (pa_cons (pv 2) pa_nil))))) pa_nil))) (pss_one (ps_ret (pv 3)))))), ?_⟩
    obtain ⟨dx, cv, xs, ys, h1, h2, h3, h4, h5⟩ := id hI
    refine ⟨_, rfl, a, C, dx, _, _, rfl, h1, G.cls, G.a2, rfl, _, rfl, cv, v, xs, R.ps, d, rfl, h2, h3, o.cols.l8, hd, tx, fun rb H1 s1 => ?_, fun w rb H1 s1 => vd.left 0 w (by unfold rowU; rw [rb]; rfl) H1 s1⟩
    have vd1 := vd.right (by unfold rowU; rw [rb]; rfl) s1
    obtain ⟨ds, rfl, hv⟩ := row_ok o.cols.kinds rb
    have hI1 := hI.same s1
    refine ⟨_, rfl, a, dx, _, rfl, s1 _ _ h1, rfl, _, rfl, a, lg, R, y, dy, rfl, hI1, o, hy.same s1, ty, fun hu H2 s2 => ?_, vd1.2⟩
    have k := vd1.1 hu
    obtain ⟨nb, l4⟩ := handD_ok hu
    obtain ⟨ey, sa⟩ := name_str nb
    have na : nameB (.str (auOf y)) = true := by rw [← ey]; exact nb
    have s3 := s1.trans s2
    refine ⟨_, rfl, a, C, dx, _, _, rfl, s3 _ _ h1, G.cls, G.a3, rfl, lg, ys, R.es, rfl, s3 _ _ h4, DhAll.same s3 h5, by have := o.ln; omega, fun H3 s4 => ?_⟩
    have s5 := s3.trans s4
    refine ⟨_, rfl, a, C, dx, _, _, rfl, s5 _ _ h1, G.cls, G.a3, rfl, .inl ⟨rfl, _, SqL.of (s5 _ _ h4)⟩, _, rfl, _, rfl, _, rfl, by show 4 ≤ sizeLine; decide, fun t ht => ?_⟩
    have zt := Same.upd (o := .tup [.str "add", .int (usedD R.es), v, y]) ht
    have s6 := s5.trans zt
    have ly := h5.len
    rw [List.length_map] at ly
    refine ⟨lg, ys, _, rfl, rfl, s6 _ _ h4, Nat.lt_of_le_of_lt (show ys.length ≤ 410 by have := o.ln; omega) (by decide), ?_⟩
    have og : OkEn (R.ps.map (·.2)) R.es ⟨"add", usedD R.es, .tuple ds, auOf y⟩ := ⟨⟨sa, na⟩, .inl ⟨rfl, rfl, ds, rfl, hv⟩⟩
    refine ⟨_, rfl, k _ (fun b' o' n e => by rw [upd_ne n]; exact s6 _ _ e) (IsRg.grow o og (s6 _ _ h1) (s6 _ _ h2) (h3.same s6) (s6 _ _ h4) (DhAll.same s6 h5) ?_ (hd.same s6))⟩
    rw [upd_same]
    show some (HO.tup [.str "add", .int (usedD R.es), v, y]) = some (.tup [.str "add", .int (usedD R.es), v, .str (auOf y)])
    rw [← ey]
end
end K07
set_option Elab.async false
set_option linter.all false
set_option maxRecDepth 100000
set_option maxHeartbeats 4000000
namespace K07
open PySem PySem.Spec PyProof.Rows L2 Lc
abbrev ttAu (K : PySem.W.Frag) : TT := tTest (tOp rEq (tOp (rIxT K) (tVar 2) (tC (.int 1))) (tVar 1))
abbrev teAu (K : PySem.W.Frag) : TE := tOp (rIxT K) (tVar 2) (tC (.int 3))
section
variable {P : Program} {w : World} {K : PySem.W.Frag} {mg : Str → Option Value} {base : Heap} {f C fI fN fC fW fA fR fU fE fS : Addr} {fd fdN fdC fdW fdA fdR fdU fdE fdS : FuncData} {u1 : Tok} {A : EA}
theorem scCor : FnScope ["self", "number", "values", "author"] ["self", "number", "values", "author"] (defScope sCor) := ⟨rfl, rfl, rfl, by decide +kernel, rfl, by decide +kernel, by decide +kernel⟩
theorem ok_corX (F : Fun K "correct" "Register.correct" sCor f fd) (G : RgF K mg C fI)
    (hS : Meth K C "check_standing" fS) (GS : FnOk P w K mg base (L2.CX P w) 3 fS fdS ["self", "number"] (spCsX C A)) (bS : Binds K fdS ["self", "number"] [])
    (GC : FnOk P w K mg base (L2.CX P w) 4 fC fdC ["columns", "values"] (spCr A.r)) (mC : mg "check_row" = some (.ref fC)) (kC : PySem.W.keepIn K (.ref fC) = true) (bC : Binds K fdC ["columns", "values"] [])
    (hE : Meth K C "check_entry" fE) (GE : FnOk P w K mg base (L2.CX P w) 4 fE fdE ["self", "author"] (spCeX C A)) (bE : Binds K fdE ["self", "author"] []) : FnOk P w K mg base (L2.CX P w) 5 f fd ["self", "number", "values", "author"] (spCorX C A) := by
  refine F.okX scCor (fun vs H Q E h => ?_) (fun cdv A' outer s H vs Q E hr h => ?_)
  · obtain ⟨a, lg, R, n, v, y, dn, d, dy, rfl, _⟩ := h
    rfl
  · obtain ⟨a, lg, R, n, v, y, dn, d, dy, rfl, hI, o, hn, hd, tx, hy, ty, vd⟩ := h
    have hr3 : Room 3 _ := hr.mono (by decide)
    refine ⟨_, pss_cons (ps_expr (pe_methS (pv 0) G.cls hS GS hr3 bS (fun σ => passAt (W := fun cls d _ H => E cls d H) (takes_of rfl rfl rfl rfl) σ) (pa_cons (pv 1) pa_nil))) (pss_cons (ps_expr (pe_callS GC hr (by rfl) mC kC bC (fun σ => passAt (W := fun cls d _ H => E cls d H) (takes_of rfl rfl rfl rfl) σ) (pa_cons (pe_fld (pv 0) (by rfl)) (pa_cons (pv 2) pa_nil)))) (pss_cons (ps_expr (pe_methS (pv 0) G.cls hE GE hr bE (fun σ => passAt (W := fun cls d _ H => E cls d H) (takes_of rfl rfl rfl rfl) σ) (pa_cons (pv 3) pa_nil)))
      (pss_one (ps_expr (pe_bm PySem.F.plainAttrs_list PySem.F.slot_list_append PySem.F.type_list_append mt_append (pe_fld (pv 0) (by rfl)) (pa_cons (pe_tup (pa_cons pe_str (pa_cons (pv 1) (pa_cons (pv 2) (pa_cons (pv 3) pa_nil))))) pa_nil)))))), ?_⟩
    obtain ⟨dx, cv, xs, ys, h1, h2, h3, h4, h5⟩ := id hI
    refine ⟨_, rfl, a, dx, _, rfl, h1, rfl, _, rfl, a, lg, R, n, dn, rfl, hI, o, hn, fun hu0 H0 s0 => ?_, vd.left⟩
    have vd0 := vd.right hu0 s0
    obtain ⟨m, rfl, hm⟩ := numU_ok hn hu0
    refine ⟨_, rfl, a, C, dx, _, _, rfl, s0 _ _ h1, G.cls, G.a2, rfl, _, rfl, cv, v, xs, R.ps, d, rfl, s0 _ _ h2, h3.same s0, o.cols.l8, hd.same s0, tx, fun rb H1 s01 => ?_, fun w rb H1 s1 => vd0.left 0 w (by unfold rowU; rw [rb]; rfl) H1 s1⟩
    have vd1 := vd0.right (by unfold rowU; rw [rb]; rfl) s01
    obtain ⟨ds, rfl, hv⟩ := row_ok o.cols.kinds rb
    have s1 := s0.trans s01
    have hI1 := hI.same s1
    refine ⟨_, rfl, a, dx, _, rfl, s1 _ _ h1, rfl, _, rfl, a, lg, R, y, dy, rfl, hI1, o, hy.same s1, ty, fun hu H2 s2 => ?_, vd1.2⟩
    have k := vd1.1 hu m rfl
    obtain ⟨nb, l4⟩ := handD_ok hu
    obtain ⟨ey, sa⟩ := name_str nb
    have na : nameB (.str (auOf y)) = true := by rw [← ey]; exact nb
    have s5 := s1.trans s2
    refine ⟨_, rfl, a, C, dx, _, _, rfl, s5 _ _ h1, G.cls, G.a3, rfl, .inl ⟨rfl, _, SqL.of (s5 _ _ h4)⟩, _, rfl, _, rfl, _, rfl, by show 4 ≤ sizeLine; decide, fun t ht => ?_⟩
    have zt := Same.upd (o := .tup [.str "correct", .int m, v, y]) ht
    have s6 := s5.trans zt
    have ly := h5.len
    rw [List.length_map] at ly
    refine ⟨lg, ys, _, rfl, rfl, s6 _ _ h4, Nat.lt_of_le_of_lt (show ys.length ≤ 410 by have := o.ln; omega) (by decide), ?_⟩
    have og : OkEn (R.ps.map (·.2)) R.es ⟨"correct", m, .tuple ds, auOf y⟩ := ⟨⟨sa, na⟩, .inr (.inl ⟨rfl, hm, ds, rfl, hv⟩)⟩
    refine k _ (fun b' o' n e => by rw [upd_ne n]; exact s6 _ _ e) (IsRg.grow o og (s6 _ _ h1) (s6 _ _ h2) (h3.same s6) (s6 _ _ h4) (DhAll.same s6 h5) ?_ (hd.same s6))
    rw [upd_same]
    show some (HO.tup [.str "correct", .int m, v, y]) = some (.tup [.str "correct", .int m, v, .str (auOf y)])
    rw [← ey]
theorem scStr : FnScope ["self", "number", "author"] ["self", "number", "author"] (defScope sStr) := ⟨rfl, rfl, rfl, by decide +kernel, rfl, by decide +kernel, by decide +kernel⟩
theorem ok_strX (F : Fun K "strike" "Register.strike" sStr f fd) (G : RgF K mg C fI)
    (hS : Meth K C "check_standing" fS) (GS : FnOk P w K mg base (L2.CX P w) 3 fS fdS ["self", "number"] (spCsX C A)) (bS : Binds K fdS ["self", "number"] [])
    (hE : Meth K C "check_entry" fE) (GE : FnOk P w K mg base (L2.CX P w) 4 fE fdE ["self", "author"] (spCeX C A)) (bE : Binds K fdE ["self", "author"] []) : FnOk P w K mg base (L2.CX P w) 5 f fd ["self", "number", "author"] (spStrX C A) := by
  refine F.okX scStr (fun vs H Q E h => ?_) (fun cdv A' outer s H vs Q E hr h => ?_)
  · obtain ⟨a, lg, R, n, y, dn, dy, rfl, _⟩ := h
    rfl
  · obtain ⟨a, lg, R, n, y, dn, dy, rfl, hI, o, hn, hy, ty, vd⟩ := h
    have hr3 : Room 3 _ := hr.mono (by decide)
    refine ⟨_, pss_cons (ps_expr (pe_methS (pv 0) G.cls hS GS hr3 bS (fun σ => passAt (W := fun cls d _ H => E cls d H) (takes_of rfl rfl rfl rfl) σ) (pa_cons (pv 1) pa_nil))) (pss_cons (ps_expr (pe_methS (pv 0) G.cls hE GE hr bE (fun σ => passAt (W := fun cls d _ H => E cls d H) (takes_of rfl rfl rfl rfl) σ) (pa_cons (pv 2) pa_nil)))
      (pss_one (ps_expr (pe_bm PySem.F.plainAttrs_list PySem.F.slot_list_append PySem.F.type_list_append mt_append (pe_fld (pv 0) (by rfl)) (pa_cons (pe_tup (pa_cons pe_str (pa_cons (pv 1) (pa_cons pe_non (pa_cons (pv 2) pa_nil))))) pa_nil))))), ?_⟩
    obtain ⟨dx, cv, xs, ys, h1, h2, h3, h4, h5⟩ := id hI
    refine ⟨_, rfl, a, dx, _, rfl, h1, rfl, _, rfl, a, lg, R, n, dn, rfl, hI, o, hn, fun hu0 H1 s1 => ?_, vd.left⟩
    have vd1 := vd.right hu0 s1
    obtain ⟨m, rfl, hm⟩ := numU_ok hn hu0
    have hI1 := hI.same s1
    refine ⟨_, rfl, a, dx, _, rfl, s1 _ _ h1, rfl, _, rfl, a, lg, R, y, dy, rfl, hI1, o, hy.same s1, ty, fun hu H2 s2 => ?_, vd1.2⟩
    have k := vd1.1 hu m rfl
    obtain ⟨nb, l4⟩ := handD_ok hu
    obtain ⟨ey, sa⟩ := name_str nb
    have na : nameB (.str (auOf y)) = true := by rw [← ey]; exact nb
    have s5 := s1.trans s2
    refine ⟨_, rfl, a, C, dx, _, _, rfl, s5 _ _ h1, G.cls, G.a3, rfl, .inl ⟨rfl, _, SqL.of (s5 _ _ h4)⟩, _, rfl, _, rfl, by show 4 ≤ sizeLine; decide, fun t ht => ?_⟩
    have zt := Same.upd (o := .tup [.str "strike", .int m, .non, y]) ht
    have s6 := s5.trans zt
    have ly := h5.len
    rw [List.length_map] at ly
    refine ⟨lg, ys, _, rfl, rfl, s6 _ _ h4, Nat.lt_of_le_of_lt (show ys.length ≤ 410 by have := o.ln; omega) (by decide), ?_⟩
    have og : OkEn (R.ps.map (·.2)) R.es ⟨"strike", m, .none, auOf y⟩ := ⟨⟨sa, na⟩, .inr (.inr ⟨rfl, hm, rfl⟩)⟩
    refine k _ (fun b' o' n e => by rw [upd_ne n]; exact s6 _ _ e) (IsRg.grow o og (s6 _ _ h1) (s6 _ _ h2) (h3.same s6) (s6 _ _ h4) (DhAll.same s6 h5) ?_ .non)
    rw [upd_same]
    show some (HO.tup [.str "strike", .int m, .non, y]) = some (.tup [.str "strike", .int m, .non, .str (auOf y)])
    rw [← ey]
theorem scRN : FnScope ["self"] ["self"] (defScope sRN) := ⟨rfl, rfl, rfl, by decide +kernel, rfl, by decide +kernel, by decide +kernel⟩
theorem scRC : FnScope ["self"] ["self"] (defScope sRC) := ⟨rfl, rfl, rfl, by decide +kernel, rfl, by decide +kernel, by decide +kernel⟩
theorem scRV : FnScope ["self"] ["self"] (defScope sRV) := ⟨rfl, rfl, rfl, by decide +kernel, rfl, by decide +kernel, by decide +kernel⟩
theorem scRE : FnScope ["self"] ["self"] (defScope sRE) := ⟨rfl, rfl, rfl, by decide +kernel, rfl, by decide +kernel, by decide +kernel⟩
theorem scRL : FnScope ["self"] ["self"] (defScope sRL) := ⟨rfl, rfl, rfl, by decide +kernel, rfl, by decide +kernel, by decide +kernel⟩
theorem ok_rn (F : Fun K "name" "Register.name" sRN f fd) (G : RgF K mg C fI) : FnOk P w K mg base CX0 1 f fd ["self"] (spNm C) := by
  refine F.ok scRN (fun vs H Q E h => ?_) (fun cdv A outer s H vs Q E hr h => ?_)
  · obtain ⟨a, lg, R, rfl, _⟩ := h
    rfl
  · obtain ⟨a, lg, R, rfl, ⟨dx, cv, xs, ys, h1, h2, h3, h4, h5⟩, k⟩ := h
    exact ⟨_, pss_one (ps_ret (pe_fld (pv 0) (by rfl))), _, rfl, a, C, dx, _, _, rfl, h1, G.cls, G.a1, rfl, k⟩
theorem ok_rc (F : Fun K "columns" "Register.columns" sRC f fd) (G : RgF K mg C fI) : FnOk P w K mg base CX0 1 f fd ["self"] (spCo C) := by
  refine F.ok scRC (fun vs H Q E h => ?_) (fun cdv A outer s H vs Q E hr h => ?_)
  · obtain ⟨a, lg, R, rfl, _⟩ := h
    rfl
  · obtain ⟨a, lg, R, rfl, ⟨dx, cv, xs, ys, h1, h2, h3, h4, h5⟩, k⟩ := h
    exact ⟨_, pss_one (ps_ret (pe_fld (pv 0) (by rfl))), _, rfl, a, C, dx, _, _, rfl, h1, G.cls, G.a2, rfl, k cv xs h2 h3⟩
theorem ok_rv (F : Fun K "version" "Register.version" sRV f fd) (T : Bt mg) (G : RgF K mg C fI) : FnOk P w K mg base CX0 1 f fd ["self"] (spVe C) := by
  refine F.ok scRV (fun vs H Q E h => ?_) (fun cdv A outer s H vs Q E hr h => ?_)
  · obtain ⟨a, lg, R, rfl, _⟩ := h
    rfl
  · obtain ⟨a, lg, R, rfl, ⟨dx, cv, xs, ys, h1, h2, h3, h4, h5⟩, k⟩ := h
    have ly := h5.len
    rw [List.length_map] at ly
    rw [← ly] at k
    exact ⟨_, pss_one (ps_ret (pe_callB call_len_seq (by rfl) T.len PySem.boot_len (pa_cons (pe_fld (pv 0) (by rfl)) pa_nil))), _, rfl, a, C, dx, _, _, rfl, h1, G.cls, G.a3, rfl, lg, _, rfl, .inl (SqL.of h4), k⟩
theorem ok_re (F : Fun K "entries" "Register.entries" sRE f fd) (T : Bt mg) (G : RgF K mg C fI) : FnOk P w K mg base CX0 1 f fd ["self"] (spEn C) := by
  refine F.ok scRE (fun vs H Q E h => ?_) (fun cdv A outer s H vs Q E hr h => ?_)
  · obtain ⟨a, lg, R, rfl, _⟩ := h
    rfl
  · obtain ⟨a, lg, R, rfl, ⟨dx, cv, xs, ys, h1, h2, h3, h4, h5⟩, k⟩ := h
    exact ⟨_, pss_one (ps_ret (pe_callTy call_list_of (by rfl) T.list boot_list (pa_cons (pe_fld (pv 0) (by rfl)) pa_nil))), _, rfl, a, C, dx, _, _, rfl, h1, G.cls, G.a3, rfl, lg, _, rfl, .inl (SqL.of h4), fun r hr => k r ys _ (Same.upd hr) hr upd_same (DhAll.same (Same.upd hr) h5)⟩
end
end K07
set_option Elab.async false
set_option linter.all false
set_option maxRecDepth 100000
set_option maxHeartbeats 4000000
namespace K07
open PySem PySem.Spec PyProof.Rows L2 Lc
abbrev sTw : Stmt := inClass (top 29) 12
theorem cut_take (ys : List V) {v : Nat} (h : v ≤ ys.length) : cutV ys none (some (v : Int)) = ys.take v := by
  unfold cutV
  have e1 : HT.sIx ys.length 0 none = 0 := rfl
  have e2 : HT.sIx ys.length ys.length (some (v : Int)) = v := by
    rw [HT.sIx_nat]
    omega
  rw [e1, e2]
  rfl
theorem DhAll.take {H : Hp} : ∀ {vs : List V} {ds : List PyData} (i : Nat), DhAll H vs ds → DhAll H (vs.take i) (ds.take i)
  | _, _, 0, _ => .nil
  | _, _, _ + 1, .nil => .nil
  | _, _, i + 1, .cons h r => .cons h (DhAll.take i r)
theorem rows_of_kvs {H : Hp} : ∀ {ts : List Addr} {kvs : List (Key × V)} {st : St2}, Paired (fun (t : Addr) (q : Key × V) => H t = some (.tup [kV q.1, q.2])) ts kvs → Rw H kvs st → DhAll H (ts.map V.ref) (rowsD st)
  | _, _, _, .nil, .nil => .nil
  | _, _, _, .cons e r, .cons h q => .cons (.tup e (.cons (.int _) (.cons h .nil))) (rows_of_kvs r q)
section
variable {P : Program} {w : World} {K : PySem.W.Frag} {mg : Str → Option Value} {base : Heap} {f C fI fN fC fW fA fR fU fE fS : Addr} {fd fdI fdN fdC fdW fdA fdR fdU fdE fdS : FuncData} {u1 : Tok}
theorem scRR : FnScope ["self", "version", "rows"] ["self", "version"] (defScope sRR) := ⟨rfl, rfl, rfl, by decide +kernel, rfl, by decide +kernel, by decide +kernel⟩
theorem ok_rr {dvs : List V} {kws : List (Str × V)} (F : FunD K "rows" "Register.rows" (defArgs sRR) (defBody sRR) (defScope sRR) dvs kws f fd) (T : Bt mg) (G : RgF K mg C fI)
    (GW : FnOk P w K mg base CX0 1 fW fdW ["value"] spWhole) (mW : mg "is_whole" = some (.ref fW)) (kW : PySem.W.keepIn K (.ref fW) = true) (bW : Binds K fdW ["value"] [])
    (GA : FnOk P w K mg base CX0 1 fA fdA ["entries"] spRa) (mA : mg "rows_after" = some (.ref fA)) (kA : PySem.W.keepIn K (.ref fA) = true) (bA : Binds K fdA ["entries"] []) : FnOk P w K mg base CX0 2 f fd ["self", "version"] (spRows C) := by
  refine F.ok scRR (fun vs H Q E h => ?_) (fun cdv A outer s H vs Q E hr h => ?_)
  · obtain ⟨a, lg, R, y, v, rfl, _⟩ := h
    rfl
  · obtain ⟨a, lg, R, y, v, rfl, ⟨dx, cv, xs, ys, h1, h2, h3, h4, h5⟩, o, lv, hy, k⟩ := h
    refine ⟨_, Evl.pss_cut (ps_if (pt_cmpR op_isN (pv 1) pe_non (nomark _)) (pss_one (ps_set (i := 1) scRR.nd rfl (Or.inl rfl) (pe_callB call_len_seq (by rfl) T.len PySem.boot_len (pa_cons (pe_fld (pv 0) (by rfl)) pa_nil)))) pss_nil)
      (pss_cons (ps_if (PW.pt (pw_or (pt_not (pt_val (pe_call GW hr (by rfl) mW kW bW .nil pass0 (pa_cons (pv 1) pa_nil)))) (pw_or (pt_cmpR op_lt (pv 1) pe_int (nomark _)) (pw_or1 (pt_cmpR op_gt (pv 1) (pe_callB call_len_seq (by rfl) T.len PySem.boot_len (pa_cons (pe_fld (pv 0) (by rfl)) pa_nil)) (nomark _)))))) pss_dead pss_nil)
      (pss_cons (ps_set (i := 2) scRR.nd rfl (Or.inl rfl) (pe_call GA hr (by rfl) mA kA bA .nil pass0 (pa_cons (pe_slice sl_list (pe_fld (pv 0) (by rfl)) po_none (po_some (pv 1))) pa_nil)))
      (pss_one (ps_ret (LiI.pe_listItems (by rfl) (pv 2) (by rfl) T.list boot_list))))), ?_⟩
    have ly := h5.len
    rw [List.length_map] at ly
    refine ⟨fun σ H' => σ = [some (.ref a), some (.int v), none] ∧ H' = H, ?_, ?_⟩
    · refine ⟨_, rfl, rfl, _, rfl, ?_⟩
      rcases hy with rfl | ⟨rfl, rfl⟩
      · exact iteF ⟨rfl, rfl⟩
      · refine iteT ⟨_, rfl, a, C, dx, _, _, rfl, h1, G.cls, G.a3, rfl, lg, _, rfl, .inl (SqL.of h4), ?_, rfl⟩
        rw [ly]
        rfl
    rintro σ H' ⟨rfl, rfl⟩
    refine ⟨_, rfl, _, _, rfl, .int v, _, rfl, iteF ⟨_, rfl, _, _, rfl, rfl, _, rfl, ?_⟩⟩
    rw [decide_eq_false (show ¬ (v : Int) < 0 by omega)]
    refine iteF ⟨_, rfl, _, rfl, a, C, dx, _, _, rfl, h1, G.cls, G.a3, rfl, lg, _, rfl, .inl (SqL.of h4), _, _, rfl, rfl, _, rfl, ?_⟩
    rw [decide_eq_false (show ¬ (ys.length : Int) < (v : Int) by omega)]
    refine iteF ?_
    refine ⟨_, rfl, a, C, dx, _, _, rfl, h1, G.cls, G.a3, rfl, _, rfl, v, rfl, lg, _, rfl, SqL.of h4, fun p hp => ?_⟩
    have zp := Same.upd (o := .lst (cutV ys none (some (v : Int)))) hp
    have ep : upd H' p (.lst (cutV ys none (some (v : Int)))) p = some (.lst (ys.take v)) := by rw [upd_same, cut_take ys (by omega)]
    have dp : DhAll (upd H' p (.lst (cutV ys none (some (v : Int))))) (ys.take v) ((R.es.take v).map En.d) := by
      rw [List.map_take]
      exact DhAll.take v (DhAll.same zp h5)
    refine ⟨p, _, _, R.es.take v, rfl, ep, dp, OkEs.take v o.es, by rw [List.length_take]; have := o.ln; omega, fun r kvs H2 s2 h2' rw2 => ?_⟩
    refine ⟨_, rfl, r, kvs, rfl, h2', fun H3 q ts s3 gq _ _ h3' pr => ?_⟩
    have gH : H' q = none := by
      cases z : H' q with
      | none => rfl
      | some o' => rw [(zp.trans s2) _ _ z] at gq; cases gq
    exact k q _ H3 ((zp.trans s2).trans s3) gH h3' (rows_of_kvs pr (rw2.t (fun b xs e => s3 _ _ e) (OkEs.take v o.es).noLs))
theorem ok_rl (F : Fun K "__len__" "Register.__len__" sRL f fd) (T : Bt mg) (G : RgF K mg C fI) {ds : List Value} (hm : Meth K C "rows" fR) (GR : FnOk P w K mg base CX0 2 fR fdR ["self", "version"] (spRows C)) (bR : Binds K fdR ["self", "version"] ds) (vR : Vals [.non] ds) : FnOk P w K mg base CX0 3 f fd ["self"] (spLen C) := by
  refine F.ok scRL (fun vs H Q E h => ?_) (fun cdv A outer s H vs Q E hr h => ?_)
  · obtain ⟨a, lg, R, rfl, _⟩ := h
    rfl
  · obtain ⟨a, lg, R, rfl, hI, o, k⟩ := h
    refine ⟨_, pss_one (ps_ret (pe_callB call_len_seq (by rfl) T.len PySem.boot_len (pa_cons (pe_meth0 (pv 0) G.cls hm GR hr bR vR pass0) pa_nil))), ?_⟩
    obtain ⟨dx, cv, xs, ys, h1, _⟩ := id hI
    refine ⟨_, rfl, a, dx, _, rfl, h1, rfl, a, lg, R, .non, R.es.length, rfl, hI, o, Nat.le_refl _, .inr ⟨rfl, rfl⟩, fun r zs H1 s1 _ hr1 hd => ⟨r, zs, rfl, .inl (SqL.of hr1), ?_⟩⟩
    have lz := hd.len
    rw [rowsD, List.length_map, List.take_length] at lz
    rw [lz]
    exact k H1 s1
theorem scRA : FnScope ["self", "number", "entry"] ["self", "number"] (defScope sRA) := ⟨rfl, rfl, rfl, by decide +kernel, rfl, by decide +kernel, by decide +kernel⟩
theorem ok_au (F : Fun K "authors" "Register.authors" sRA f fd) (G : RgF K mg C fI)
    (GW : FnOk P w K mg base CX0 1 fW fdW ["value"] spWhole) (mW : mg "is_whole" = some (.ref fW)) (kW : PySem.W.keepIn K (.ref fW) = true) (bW : Binds K fdW ["value"] [])
    (GU : FnOk P w K mg base CX0 1 fU fdU ["entries"] spNu) (mU : mg "numbers_used" = some (.ref fU)) (kU : PySem.W.keepIn K (.ref fU) = true) (bU : Binds K fdU ["entries"] []) : FnOk P w K mg base CX0 2 f fd ["self", "number"] (spAu C) := by
  refine F.ok scRA (fun vs H Q E h => ?_) (fun cdv A outer s H vs Q E hr h => ?_)
  · obtain ⟨a, lg, R, n, rfl, _⟩ := h
    rfl
  · obtain ⟨a, lg, R, n, rfl, hI, o, n0, n1, k⟩ := h
    obtain ⟨dx, cv, xs, ys, h1, h2, h3, h4, h5⟩ := id hI
    refine ⟨_, pss_cons (ps_if (PW.pt (pw_or (pt_not (pt_val (pe_call GW hr (by rfl) mW kW bW .nil pass0 (pa_cons (pv 1) pa_nil)))) (pw_or (pt_cmpR op_lt (pv 1) pe_int (nomark _)) (pw_or1 (pt_cmpR op_ge (pv 1) (pe_call GU hr (by rfl) mU kU bU .nil pass0 (pa_cons (pe_fld (pv 0) (by rfl)) pa_nil)) (nomark _)))))) pss_dead pss_nil)
      (pss_one (ps_ret (pe_lc (own := [("entry", 2)]) (g := gName 2) (tt := ttAu K) (te := teAu K) (by rfl) scRA.nd (pi_list (pe_fld (pv 0) (by rfl))) (blkOk_by (own := [("entry", 2)]) (N := ["self", "number", "entry"]) (sc := defScope sRA) (by decide +kernel))
        (fun _ _ _ _ _ => pg_name (i := 2) scRA.nd rfl (Or.inl rfl)) (fun _ _ _ _ _ => pts_one (pt_cmpR op_eq (pe_ix ix_tup (pv 2) pe_int (fun _ _ => rfl)) (pv 1) (nomark _))) (fun _ _ _ _ _ => pe_ix ix_tup (pv 2) pe_int (fun _ _ => rfl))))), ?_⟩
    have ly := h5.len
    rw [List.length_map] at ly
    have lo := o.ln
    refine ⟨_, rfl, _, _, rfl, .int n, _, rfl, iteF ⟨_, rfl, _, _, rfl, rfl, _, rfl, ?_⟩⟩
    rw [decide_eq_false (show ¬ n < 0 by omega)]
    refine iteF ⟨_, rfl, _, rfl, a, C, dx, _, _, rfl, h1, G.cls, G.a3, rfl, lg, ys, R.es, rfl, h4, h5, by omega, fun H1 s1 => ⟨_, _, rfl, rfl, _, rfl, ?_⟩⟩
    rw [decide_eq_false (show ¬ (usedD R.es : Int) ≤ n by omega)]
    refine iteF ?_
    refine ⟨_, rfl, a, C, dx, _, _, rfl, s1 _ _ h1, G.cls, G.a3, rfl, lg, rfl, ⟨_, SqL.of (s1 _ _ h4)⟩, fun D hD => lc_list (K := K) (a := lg) (xs := ys) (fun i H' => H' D = some (.lst ((auD (R.es.take i) n).map V.str)) ∧ Same H1 H') ⟨upd_same, Same.upd hD⟩ (fun i H' _ p => SqL.of (p.2 _ _ (s1 _ _ h4))) ?_ ?_⟩
    · rintro i x H2 hx ⟨hD2, s2⟩
      obtain ⟨e, he, de⟩ := en_get h5 hx
      obtain ⟨b, v, rfl, eb, dv⟩ := en_of (de.same (s1.trans s2))
      have ek : R.es.take (i + 1) = R.es.take i ++ [e] := by rw [List.take_add_one, he]; rfl
      refine ⟨rfl, ?_⟩
      change ttAu K _ _ _
      refine ⟨_, rfl, b, _, _, _, rfl, rfl, SqT.of eb, rfl, _, rfl, rfl, _, rfl, ite2 (fun y => ?_) (fun y => ?_)⟩
      · have ew : e.n = n := by have := of_decide_eq_true y; injection this
        refine ⟨_, rfl, b, _, _, _, rfl, rfl, SqT.of eb, rfl, _, hD2, ?_, ?_, fun b' o' e' => by rw [upd_ne (ne_of_none e' hD)]; exact s2 b' o' e'⟩
        · rw [List.length_map]
          unfold auD
          rw [List.length_map]
          have := List.length_filter_le (fun e : En => decide (e.n = n)) (R.es.take i)
          rw [List.length_take] at this
          exact Nat.lt_of_le_of_lt (show _ ≤ 410 by omega) (by decide)
        · rw [upd_same, ek]
          unfold auD
          rw [List.filter_append, List.filter_cons_of_pos (by simp [ew])]
          simp
      · have ew : e.n ≠ n := fun q => y (decide_eq_true (by rw [q]))
        refine ⟨?_, s2⟩
        rw [hD2, ek]
        unfold auD
        rw [List.filter_append, List.filter_cons_of_neg (by simp [ew])]
        simp
    · rintro H2 ⟨hD2, s2⟩
      rw [ly, List.take_length] at hD2
      have all : ∀ l : List Str, DhAll H2 (l.map V.str) (l.map PyData.str) := fun l => by
        induction l with
        | nil => exact .nil
        | cons x l ih => exact .cons (.str x) ih
      have gH : H D = none := by
        cases z : H D with
        | none => rfl
        | some o' => rw [s1 _ _ z] at hD; cases hD
      exact k D _ H2 (s1.trans s2) gH hD2 (all _)
end
end K07
set_option Elab.async false
set_option linter.all false
set_option maxRecDepth 100000
set_option maxHeartbeats 4000000
namespace K07
open PySem PySem.Spec PyProof.Rows L2 Lc
theorem can_str {n : Nat} {x : Str} (h : Sh n x) : (PyData.str x).canLay0 = true := by
  show x.cps.all (· < 0x110000) = true
  rw [Array.all_eq_true]
  intro i hi
  have := h.ok x.cps[i] (by simp)
  simpa using this
theorem cans_all {ds : List PyData} (h : ∀ d ∈ ds, d.canLay0 = true) : PyData.canLayAll0 ds = true := by
  induction ds with
  | nil => rfl
  | cons d ds ih => simp [PyData.canLayAll0, h d List.mem_cons_self, ih fun x hx => h x (List.mem_cons_of_mem _ hx)]
theorem Vk.can {k : Str} {d : PyData} (h : Vk k d) : d.canLay0 = true := by
  cases h with
  | non => rfl
  | num => rfl
  | flag => rfl
  | word h _ => exact can_str h
theorem Vks.can : ∀ {ks : List Str} {ds : List PyData}, Vks ks ds → PyData.canLayAll0 ds = true
  | _, _, .nil => rfl
  | _, _, .cons h r => by simp [PyData.canLayAll0, h.can, Vks.can r]
theorem OkEn.can {ks : List Str} {es : List En} {e : En} (g : OkEn ks es e) : e.vals.canLay0 = true ∧ e.d.canLay0 = true ∧ Sh 100 e.w := by
  have hw : Sh 100 e.w := by
    rcases g.go with ⟨h, _⟩ | ⟨h, _⟩ | ⟨h, _⟩ <;> rw [h] <;> exact ⟨by decide +kernel, by decide +kernel⟩
  have h : e.vals.canLay0 = true := by
    rcases g.go with ⟨_, _, ds, h, v⟩ | ⟨_, _, ds, h, v⟩ | ⟨_, _, h⟩
    · rw [h]; exact v.can
    · rw [h]; exact v.can
    · rw [h]; rfl
  refine ⟨h, cans_all fun d hd => ?_, hw⟩
  simp only [List.mem_cons, List.not_mem_nil, or_false] at hd
  rcases hd with rfl | rfl | rfl | rfl
  · exact can_str hw
  · rfl
  · exact h
  · exact can_str g.au.1
theorem OkEs.can {ks : List Str} {es : List En} (h : OkEs ks es) : PyData.canLayAll0 (es.map En.d) = true := by
  refine cans_all fun d hd => ?_
  obtain ⟨e, he, rfl⟩ := List.mem_map.mp hd
  obtain ⟨i, hi⟩ := List.mem_iff_getElem?.mp he
  exact (h.at hi).can.2.1
theorem ColsOk.can {ps : List (Str × Str)} (h : ColsOk ps) : PyData.canLayAll0 (ps.map colP) = true := by
  refine cans_all fun d hd => ?_
  obtain ⟨p, hp, rfl⟩ := List.mem_map.mp hd
  obtain ⟨h1, _, h3⟩ := h.each p hp
  refine cans_all fun d hd => ?_
  simp only [List.mem_cons, List.not_mem_nil, or_false] at hd
  rcases hd with rfl | rfl
  · exact can_str h1
  · exact can_str h3.sh
theorem eqvAll_len : ∀ {xs ys : List PyData}, xs.length ≠ ys.length → PyData.eqvAll xs ys = false
  | [], [], h => absurd rfl h
  | [], _ :: _, _ => rfl
  | _ :: _, [], _ => rfl
  | x :: xs, y :: ys, h => by
    rw [PyData.eqvAll, eqvAll_len (xs := xs) (ys := ys) (fun e => h (by rw [List.length_cons, List.length_cons, e])), Bool.and_false]
theorem Vk.depth {k : Str} {d : PyData} (h : Vk k d) : d.depth ≤ 1 := by cases h <;> simp [PyData.depth, PyData.depthAll]
theorem Vks.depth : ∀ {ks : List Str} {ds : List PyData}, Vks ks ds → PyData.depthAll ds ≤ 1
  | _, _, .nil => Nat.zero_le _
  | _, _, .cons h r => by
    have h1 := h.depth
    have h2 := Vks.depth r
    simp only [PyData.depthAll]
    omega
theorem OkEn.depth {ks : List Str} {es : List En} {e : En} (g : OkEn ks es e) : e.vals.depth ≤ 2 ∧ e.d.depth ≤ 3 := by
  have h : e.vals.depth ≤ 2 := by
    rcases g.go with ⟨_, _, ds, h, v⟩ | ⟨_, _, ds, h, v⟩ | ⟨_, _, h⟩
    · rw [h]; have := v.depth; simp only [PyData.depth]; omega
    · rw [h]; have := v.depth; simp only [PyData.depth]; omega
    · rw [h]; decide +kernel
  refine ⟨h, ?_⟩
  show PyData.depth (.tuple [.str e.w, .int e.n, e.vals, .str e.au]) ≤ 3
  simp only [PyData.depth, PyData.depthAll]
  omega
theorem depthAll_app {a b : List PyData} : PyData.depthAll (a ++ b) = max (PyData.depthAll a) (PyData.depthAll b) := by
  induction a with
  | nil => simp [PyData.depthAll]
  | cons x a ih => simp only [List.cons_append, PyData.depthAll, ih]; omega
theorem OkEs.depth {ks : List Str} {es : List En} (h : OkEs ks es) : PyData.depthAll (es.map En.d) ≤ 3 := by
  induction h with
  | nil => exact Nat.zero_le _
  | snoc h g ih =>
    rw [List.map_append, depthAll_app]
    have := g.depth.2
    simp only [List.map_cons, List.map_nil, PyData.depthAll]
    omega
theorem cols_depth (ps : List (Str × Str)) : PyData.depthAll (ps.map colP) ≤ 1 ∧ noLs (ps.map colP) = true := by
  induction ps with
  | nil => exact ⟨Nat.zero_le _, rfl⟩
  | cons p ps ih =>
    refine ⟨?_, ?_⟩
    · simp only [List.map_cons, PyData.depthAll, colP, PyData.depth]
      have := ih.1
      omega
    · rw [List.map_cons, noLs, ih.2]
      rfl
theorem shp_es {ks : List Str} {es : List En} (h : OkEs ks es) : SeqAt.shaped (.list (es.map En.d)) = true := by
  refine Bool.and_eq_true_iff.mpr ⟨?_, decide_eq_true ?_⟩
  · show PyData.canLayAll0 (es.map En.d) = true
    exact h.can
  · have := h.depth
    simp only [PyData.depth]
    omega
theorem shp_ps {ps : List (Str × Str)} (h : ColsOk ps) : SeqAt.shaped (.tuple (ps.map colP)) = true := by
  obtain ⟨h1, h2⟩ := cols_depth ps
  refine Bool.and_eq_true_iff.mpr ⟨?_, decide_eq_true ?_⟩
  · show PyData.canLayAll0 (ps.map colP) = true
    exact h.can
  · simp only [PyData.depth]
    omega
/-! ## how long it is when it is shown -/
theorem tm_int {i : Int} (h : i.natAbs ≤ 10000000000000000000000000000000000000000) : Tm 0 2000 (.int i) := by
  have b : i.natAbs < 2 ^ 1000 := Nat.lt_of_le_of_lt h (Nat.lt_of_lt_of_le (show 10000000000000000000000000000000000000000 < 2 ^ 140 by decide) (Nat.pow_le_pow_right (by decide) (by decide)))
  obtain ⟨h1, h2⟩ := num_len b
  exact ⟨h1, rfl, Nat.le_refl _, Nat.le_trans h2 (by decide)⟩
theorem tm_txt {x : Str} (h : Sh 100 x) : Tm 0 2000 (.str x) := by
  refine ⟨rfl, rfl, Nat.le_refl _, ?_⟩
  show (reprText x).length ≤ 2000
  have := StrLaws.reprText_len x (fun c hc => Nat.lt_trans (h.ok c hc) (by decide))
  have e := lenL x
  have := h.len
  omega
theorem tm_nonB : Tm 0 2000 .none ∧ ∀ b : Bool, Tm 0 2000 (.bool b) := ⟨⟨rfl, rfl, Nat.le_refl _, by decide +kernel⟩, fun b => ⟨rfl, rfl, Nat.le_refl _, by cases b <;> decide +kernel⟩⟩
theorem Vk.tm {k : Str} {d : PyData} (h : Vk k d) : Tm 1 4100 d := by
  cases h with
  | non => exact tm_nonB.1.mono (by decide) (by decide)
  | flag b => exact (tm_nonB.2 b).mono (by decide) (by decide)
  | word h _ => exact (tm_txt (h.mono (by decide))).mono (by decide) (by decide)
  | @num n d _ h1 h2 =>
    exact (tm_tup (k := 0) (n := 2000) (fun x hx => by simp at hx; rcases hx with rfl | rfl; exact tm_int h1; exact tm_int h2)).mono (by decide) (by show 2000 * 2 + 2 * 2 + 4 ≤ 4100; decide)
theorem Vks.tm {ks : List Str} {ds : List PyData} (h : Vks ks ds) (l : ks.length ≤ 5) : Tm 2 20600 (.tuple ds) := by
  have ln := h.len
  have all : ∀ d ∈ ds, Tm 1 4100 d := by
    clear ln l
    induction h with
    | nil => exact nofun
    | cons h r ih =>
      intro d hd
      rcases List.mem_cons.mp hd with rfl | hd
      · exact h.tm
      · exact ih d hd
  exact (tm_tup all).mono (by decide) (by omega)
/-- by the sum of the parts -/
theorem tm_tupS {k n : Nat} {ds : List PyData} (h : ∀ d ∈ ds, ∃ m, Tm k m d) (s : ((PyData.shownAll ds).map (·.length)).sum ≤ n) : Tm (k + 1) (n + 2 * ds.length + 4) (.tuple ds) := by
  have key : PyData.showableAll ds = true ∧ PyData.hasDictAll ds = false ∧ PyData.depthAll ds ≤ k ∧ (PyData.shownAll ds).length = ds.length := by
    clear s
    induction ds with
    | nil => exact ⟨rfl, rfl, Nat.zero_le _, rfl⟩
    | cons d ds ih =>
      obtain ⟨h1, h2, h3, h4⟩ := ih fun x hx => h x (List.mem_cons_of_mem _ hx)
      obtain ⟨m, hd⟩ := h d List.mem_cons_self
      refine ⟨by simp [PyData.showableAll, hd.sh, h1], by simp [PyData.hasDictAll, hd.nd, h2], ?_, by simp [PyData.shownAll, h4]⟩
      simp only [PyData.depthAll]
      have := hd.dz
      omega
  obtain ⟨h1, h2, h3, h4⟩ := key
  refine ⟨by simpa [PyData.showable] using h1, by simpa [PyData.hasDict] using h2, ?_, ?_⟩
  · simp only [PyData.depth]
    omega
  · have := tupleText_len_le (PyData.shownAll ds)
    simp only [PyData.shown]
    omega
theorem tm_lstS {k n : Nat} {ds : List PyData} (h : ∀ d ∈ ds, ∃ m, Tm k m d) (s : ((PyData.shownAll ds).map (·.length)).sum ≤ n) : Tm (k + 1) (n + 2 * ds.length + 4) (.list ds) := by
  have key : PyData.showableAll ds = true ∧ PyData.hasDictAll ds = false ∧ PyData.depthAll ds ≤ k ∧ (PyData.shownAll ds).length = ds.length := by
    clear s
    induction ds with
    | nil => exact ⟨rfl, rfl, Nat.zero_le _, rfl⟩
    | cons d ds ih =>
      obtain ⟨h1, h2, h3, h4⟩ := ih fun x hx => h x (List.mem_cons_of_mem _ hx)
      obtain ⟨m, hd⟩ := h d List.mem_cons_self
      refine ⟨by simp [PyData.showableAll, hd.sh, h1], by simp [PyData.hasDictAll, hd.nd, h2], ?_, by simp [PyData.shownAll, h4]⟩
      simp only [PyData.depthAll]
      have := hd.dz
      omega
  obtain ⟨h1, h2, h3, h4⟩ := key
  refine ⟨by simpa [PyData.showable] using h1, by simpa [PyData.hasDict] using h2, ?_, ?_⟩
  · simp only [PyData.depth]
    omega
  · have := listText_len_le (PyData.shownAll ds)
    simp only [PyData.shown]
    omega
theorem OkEn.tmV {ks : List Str} {es : List En} {e : En} (g : OkEn ks es e) (l : ks.length ≤ 5) : Tm 2 20600 e.vals := by
  rcases g.go with ⟨_, _, ds, h, v⟩ | ⟨_, _, ds, h, v⟩ | ⟨_, _, h⟩
  · rw [h]; exact v.tm l
  · rw [h]; exact v.tm l
  · rw [h]; exact tm_nonB.1.mono (by decide) (by decide)
theorem OkEs.used_le {ks : List Str} {es : List En} (h : OkEs ks es) : usedD es ≤ es.length := List.length_filter_le _ _
theorem OkEn.num {ks : List Str} {es : List En} {e : En} (o : OkEs ks es) (g : OkEn ks es e) (l : es.length ≤ 1000) : 0 ≤ e.n ∧ e.n ≤ 1000 := by
  have := o.used_le
  rcases g.go with ⟨_, h, _⟩ | ⟨_, h, _⟩ | ⟨_, h, _⟩
  · omega
  · have := o.keys.2.1 _ h; omega
  · have := o.keys.2.1 _ h; omega
theorem OkEn.tmD {ks : List Str} {es : List En} {e : En} (o : OkEs ks es) (g : OkEn ks es e) (l : ks.length ≤ 5) (l2 : es.length ≤ 1000) : Tm 3 28000 e.d := by
  have h1 := tm_txt g.can.2.2
  have h2 : Tm 0 2000 (.int e.n) := tm_int (by have := OkEn.num o g l2; omega)
  have h3 := g.tmV l
  have h4 := tm_txt (g.au.1.mono (show 12 ≤ 100 by decide))
  refine (tm_tupS (k := 2) (n := 27000) (fun d hd => ?_) ?_).mono (by decide) (by show 27000 + 2 * 4 + 4 ≤ 28000; decide)
  · simp only [List.mem_cons, List.not_mem_nil, or_false] at hd
    rcases hd with rfl | rfl | rfl | rfl
    · exact ⟨_, h1.mono (by decide) (Nat.le_refl _)⟩
    · exact ⟨_, h2.mono (by decide) (Nat.le_refl _)⟩
    · exact ⟨_, h3⟩
    · exact ⟨_, h4.mono (by decide) (Nat.le_refl _)⟩
  · have a1 := h1.ln
    have a2 := h2.ln
    have a3 := h3.ln
    have a4 := h4.ln
    simp only [PyData.shownAll, List.map_cons, List.map_nil, List.sum_cons, List.sum_nil]
    omega
theorem OkEs.tm {ks : List Str} {es : List En} (o : OkEs ks es) (l : ks.length ≤ 5) (l2 : es.length ≤ 410) : Tm 4 11600000 (.list (es.map En.d)) := by
  refine (tm_lst (k := 3) (n := 28000) (fun d hd => ?_)).mono (by decide) (by rw [List.length_map]; omega)
  obtain ⟨e, he, rfl⟩ := List.mem_map.mp hd
  obtain ⟨i, hi⟩ := List.mem_iff_getElem?.mp he
  exact OkEn.tmD (OkEs.take i o) (o.at hi) l (by rw [List.length_take]; omega)
/-- the rows' values -/
theorem OkEs.vals {ks : List Str} {es : List En} (h : OkEs ks es) (l : ks.length ≤ 5) : ∀ p ∈ stD es, Tm 2 20600 p.2 := by
  induction h with
  | nil => exact nofun
  | @snoc es e h g ih =>
    intro p hp
    rw [stD_snoc] at hp
    unfold stepS at hp
    rcases g.go with ⟨hw, _⟩ | ⟨hw, _⟩ | ⟨hw, _⟩
    · rw [if_pos hw] at hp
      rcases List.mem_append.mp hp with q | q
      · exact ih p q
      · rw [List.mem_singleton.mp q]; exact g.tmV l
    · rw [if_neg (by rw [hw]; exact w_ac), if_pos hw] at hp
      obtain ⟨q, hq, rfl⟩ := List.mem_map.mp hp
      by_cases z : q.1 = e.n
      · rw [if_pos z]; exact g.tmV l
      · rw [if_neg z]; exact ih q hq
    · rw [if_neg (by rw [hw]; exact w_as), if_neg (by rw [hw]; exact w_cs)] at hp
      exact ih p (List.mem_filter.mp hp).1
theorem OkEs.tmR {ks : List Str} {es : List En} (o : OkEs ks es) (l : ks.length ≤ 5) (l2 : es.length ≤ 410) : Tm 4 11600000 (.list (rowsD (stD es))) := by
  have lk := o.keys.2.2
  refine (tm_lst (k := 3) (n := 28000) (fun d hd => ?_)).mono (by decide) (by unfold rowsD; rw [List.length_map]; omega)
  obtain ⟨p, hp, rfl⟩ := List.mem_map.mp hd
  have h3 := o.vals l p hp
  have hn := o.keys.2.1 p.1 (List.mem_map.mpr ⟨p, hp, rfl⟩)
  have hu := o.used_le
  have h2 : Tm 0 2000 (.int p.1) := tm_int (by omega)
  refine (tm_tupS (k := 2) (n := 27000) (fun d hd => ?_) ?_).mono (by decide) (by show 27000 + 2 * 2 + 4 ≤ 28000; decide)
  · simp only [List.mem_cons, List.not_mem_nil, or_false] at hd
    rcases hd with rfl | rfl
    · exact ⟨_, h2.mono (by decide) (Nat.le_refl _)⟩
    · exact ⟨_, h3⟩
  · have a2 := h2.ln
    have a3 := h3.ln
    simp only [PyData.shownAll, List.map_cons, List.map_nil, List.sum_cons, List.sum_nil]
    omega
theorem tm_aus {l : List Str} (h : ∀ x ∈ l, Sh 12 x) (n : l.length ≤ 410) : Tm 1 830000 (.list (l.map PyData.str)) := by
  refine (tm_lst (k := 0) (n := 2000) (fun d hd => ?_)).mono (by decide) (by rw [List.length_map]; omega)
  obtain ⟨x, hx, rfl⟩ := List.mem_map.mp hd
  exact tm_txt ((h x hx).mono (by decide))
theorem shwB {K : PySem.W.Frag} {H : Hp} {v : V} {d : PyData} {k n : Nat} (h : Dh H v d) (t : Tm k n d) (a : k ≤ 60) (b : n ≤ 16000000) : Shw K H v d.shown := h.shw t.sh t.nd (Nat.le_trans t.dz a) (Nat.le_trans t.ln (Nat.le_trans b (by decide)))
abbrev sDe : Stmt := top 40
def NoLast (es : List En) : Prop := ∀ e ∈ es, e.au ≠ ("last" : Str)
theorem NoLast.snoc {es : List En} {e : En} (h : NoLast es) (g : e.au ≠ ("last" : Str)) : NoLast (es ++ [e]) := fun x hx => by
  rcases List.mem_append.mp hx with q | q
  · exact h x q
  · rw [List.mem_singleton.mp q]; exact g
def spDe : Sp := fun vs H Q _ => ∃ (t c L : Addr) (m : Int) (b : Bool) (xs : List V) (ps : List (Str × Str)), vs = [.ref t, .ref L, .int m, .bl b] ∧ TapeL c H t ∧ H L = some (.tup xs) ∧ Cols H xs ps ∧ (∀ p ∈ ps, KindS p.2) ∧ ps.length ≤ 8 ∧ 0 ≤ m ∧ m ≤ 60 ∧
  ∀ (r : Addr) (zs : List V) (es : List En) (H' : Hp), H' r = some (.lst zs) → H r = none → DhAll H' zs (es.map En.d) → OkEs (ps.map (·.2)) es → es.length ≤ m.toNat → NoLast es → TapeL c H' t → SameB t H H' → Q (.ref r) H'
/-- a list of entries grows -/
theorem es_grow {H : Hp} {D q : Addr} {zs : List V} {x : V} {ks : List Str} {es : List En} {e : En} (hD : H D = some (.lst zs)) (hd : DhAll H zs (es.map En.d)) (o : OkEs ks es) (g : OkEn ks es e) (hq : H q = some (.tup [.str e.w, .int e.n, x, .str e.au])) (hx : Dh H x e.vals) :
    DhAll (upd H D (.lst (zs ++ [.ref q]))) (zs ++ [.ref q]) ((es ++ [e]).map En.d) := by
  have st := SameT.lst (o := .lst (zs ++ [.ref q])) hD
  rw [List.map_append]
  have d : Dh H (.ref q) e.d := .tup hq (.cons (.str _) (.cons (.int _) (.cons hx (.cons (.str _) .nil))))
  exact DhAll.append (DhAll.t st hd o.noLd) (.cons (d.t st g.noLd) .nil)
theorem erase_map {α β : Type} (f : α → β) : ∀ (l : List α) (k : Nat), (l.map f).eraseIdx k = (l.eraseIdx k).map f
  | [], _ => rfl
  | _ :: _, 0 => rfl
  | x :: l, k + 1 => by rw [List.map_cons, List.eraseIdx_cons_succ, List.eraseIdx_cons_succ, List.map_cons, erase_map f l k]
theorem filter_erase {l : List (Int × PyData)} (nd : (l.map (·.1)).Nodup) : ∀ {k : Nat} {n : Int}, (l.map (·.1))[k]? = some n → ((l.filter fun p => decide (p.1 ≠ n)).map (·.1)) = (l.map (·.1)).eraseIdx k := by
  induction l with
  | nil => intro k n h; simp at h
  | cons p l ih =>
    intro k n h
    rw [List.map_cons] at nd h
    obtain ⟨n1, n2⟩ := List.nodup_cons.mp nd
    cases k with
    | zero =>
      have e : p.1 = n := Option.some.inj h
      rw [List.filter_cons_of_neg (by simp [e]), List.map_cons, List.eraseIdx_cons_zero]
      have : l.filter (fun p => decide (p.1 ≠ n)) = l := List.filter_eq_self.mpr fun q hq => decide_eq_true fun z => n1 (by rw [e, ← z]; exact List.mem_map.mpr ⟨q, hq, rfl⟩)
      rw [this]
    | succ k =>
      have h : (l.map (·.1))[k]? = some n := by simpa using h
      have ne : p.1 ≠ n := fun e => n1 (by rw [e]; exact List.mem_of_getElem? h)
      rw [List.filter_cons_of_pos (by simp [ne]), List.map_cons, List.map_cons, List.eraseIdx_cons_succ, ih n2 h]
section
variable {P : Program} {w : World} {K : PySem.W.Frag} {mg : Str → Option Value} {base : Heap} {f fD fV : Addr} {fd fdD fdV : FuncData}
theorem scDe : FnScope ["_law_tape_here", "_law_columns_here", "_law_many", "_law_wide", "_law_deeds_here", "_law_alive", "_law_used", "_law_k", "_law_turn", "_law_hand", "_law_number"] ["_law_tape_here", "_law_columns_here", "_law_many", "_law_wide"] (defScope sDe) := ⟨rfl, rfl, rfl, by decide +kernel, rfl, by decide +kernel, by decide +kernel⟩
theorem ok_de (F : Fun K "_law_deeds" "_law_deeds" sDe f fd) (T : Bt mg) (GD : FnOk P w K mg base CX0 1 fD fdD ["_law_tape_here", "_law_many"] spDrawL) (mD : mg "_law_draw" = some (.ref fD)) (kD : PySem.W.keepIn K (.ref fD) = true) (bD : Binds K fdD ["_law_tape_here", "_law_many"] [])
    (GV : FnOk P w K mg base CX0 4 fV fdV ["_law_tape_here", "_law_columns_here", "_law_wide"] spVals) (mV : mg "_law_values" = some (.ref fV)) (kV : PySem.W.keepIn K (.ref fV) = true) (bV : Binds K fdV ["_law_tape_here", "_law_columns_here", "_law_wide"] []) : FnOk P w K mg base CX0 5 f fd ["_law_tape_here", "_law_columns_here", "_law_many", "_law_wide"] spDe := by
  refine F.ok scDe (fun vs H Q E h => ?_) (fun cdv A outer s H vs Q E hr h => ?_)
  · obtain ⟨t, c, L, m, b, xs, ps, rfl, _⟩ := h
    rfl
  · obtain ⟨t, c, L, m, b, xs, ps, rfl, hT, hL, hc, hk, l8, m0, m60, k⟩ := h
    have hr1 : Room 1 _ := hr.mono (by decide)
    refine ⟨_, pss_cons (ps_set (i := 4) scDe.nd rfl (Or.inl rfl) (pe_lst pa_nil)) (pss_cons (ps_set (i := 5) scDe.nd rfl (Or.inl rfl) (pe_lst pa_nil)) (pss_cons (ps_set (i := 6) scDe.nd rfl (Or.inl rfl) pe_int)
      (pss_cons (ps_for PassesOwn.never rfl (pi_range1 (by rfl) T.range (pa_cons (pe_call GD hr1 (by rfl) mD kD bD .nil pass0 (pa_cons (pv 0) (pa_cons (pe_op op_add (pv 2) pe_int) pa_nil))) pa_nil)) (pg_name (i := 7) scDe.nd rfl (Or.inl rfl))
        (pss_cons (ps_set (i := 8) scDe.nd rfl (Or.inl rfl) (pe_call GD hr1 (by rfl) mD kD bD .nil pass0 (pa_cons (pv 0) (pa_cons pe_int pa_nil))))
        (pss_cons (ps_set (i := 9) scDe.nd rfl (Or.inl rfl) (pe_ix ix_list (pe_lst (pa_cons pe_str (pa_cons pe_str (pa_cons pe_str (pa_cons pe_str pa_nil))))) (pe_call GD hr1 (by rfl) mD kD bD .nil pass0 (pa_cons (pv 0) (pa_cons pe_int pa_nil))) (fun _ _ => rfl)))
        (pss_one (ps_if (pt_mid (PW.pt (pw_or (pt_cmpR op_lt (pv 8) pe_int (nomark _)) (pw_or1 (pt_not (pt_truth (pv 5) (fun _ => rfl)))))))
          (pss_cons (ps_expr (pe_bm PySem.F.plainAttrs_list PySem.F.slot_list_append PySem.F.type_list_append mt_append (pv 4) (pa_cons (pe_tup (pa_cons pe_str (pa_cons (pv 6) (pa_cons (pe_call GV hr (by rfl) mV kV bV .nil pass0 (pa_cons (pv 0) (pa_cons (pv 1) (pa_cons (pv 3) pa_nil)))) (pa_cons (pv 9) pa_nil))))) pa_nil)))
          (pss_cons (ps_expr (pe_bm PySem.F.plainAttrs_list PySem.F.slot_list_append PySem.F.type_list_append mt_append (pv 5) (pa_cons (pv 6) pa_nil))) (pss_one (ps_set (i := 6) scDe.nd rfl (Or.inl rfl) (pe_op op_add (pv 6) pe_int)))))
          (pss_one (ps_if (pt_cmpR op_eq (pv 8) pe_int (nomark _))
            (pss_cons (ps_set (i := 10) scDe.nd rfl (Or.inl rfl) (pe_ix ix_list (pv 5) (pe_call GD hr1 (by rfl) mD kD bD .nil pass0 (pa_cons (pv 0) (pa_cons (pe_callB call_len_seq (by rfl) T.len PySem.boot_len (pa_cons (pv 5) pa_nil)) pa_nil))) (fun _ _ => rfl)))
            (pss_one (ps_expr (pe_bm PySem.F.plainAttrs_list PySem.F.slot_list_append PySem.F.type_list_append mt_append (pv 4) (pa_cons (pe_tup (pa_cons pe_str (pa_cons (pv 10) (pa_cons (pe_call GV hr (by rfl) mV kV bV .nil pass0 (pa_cons (pv 0) (pa_cons (pv 1) (pa_cons (pv 3) pa_nil)))) (pa_cons (pv 9) pa_nil))))) pa_nil)))))
            (pss_one (ps_expr (pe_bm PySem.F.plainAttrs_list PySem.F.slot_list_append PySem.F.type_list_append mt_append (pv 4) (pa_cons (pe_tup (pa_cons pe_str (pa_cons (pe_bm PySem.F.plainAttrs_list PySem.F.slot_list_pop PySem.F.type_list_pop mt_popAt (pv 5) (pa_cons (pe_call GD hr1 (by rfl) mD kD bD .nil pass0 (pa_cons (pv 0) (pa_cons (pe_callB call_len_seq (by rfl) T.len PySem.boot_len (pa_cons (pv 5) pa_nil)) pa_nil))) pa_nil)) (pa_cons pe_non (pa_cons (pv 9) pa_nil))))) pa_nil)))))))))))
      (pss_one (ps_ret (pv 4)))))), ?_⟩
    have zro : 0 ≤ sizeLine := by decide
    have four : 4 ≤ sizeLine := by decide
    refine ⟨zro, fun D hD => ⟨zro, fun Al hA => ?_⟩⟩
    have yD := Same.upd (o := .lst []) hD
    have yA := Same.upd (o := .lst []) hA
    obtain ⟨ys, hcl⟩ := hT.list
    have nDt := hT.tape.ne hD
    have nAt := (hT.same yD).tape.ne hA
    have nDc : D ≠ c := Ne.symm (ne_of_none hcl hD)
    have nAc : Al ≠ c := Ne.symm (ne_of_none (yD _ _ hcl) hA)
    have eD : upd H D (.lst []) D = some (.lst []) := upd_same
    have nDA : D ≠ Al := ne_of_none eD hA
    have gA : H Al = none := Same.gone yD hA
    have hD1 := yA _ _ eD
    have hA1 : upd (upd H D (.lst [])) Al (.lst []) Al = some (.lst []) := upd_same
    have s1 := yD.trans yA
    have T1 := hT.same s1
    generalize upd (upd H D (.lst [])) Al (.lst []) = H1 at hD1 hA1 s1 T1 ⊢
    clear yA yD eD
    let ks := ps.map (·.2)
    refine ⟨_, rfl, _, rfl, _, _, rfl, rfl, t, c, _, rfl, T1, by omega, big1000 (by omega) (by omega), fun j H2 uj wj T2 S2 => ⟨j, rfl, by omega, by omega, for_range (n := j.toNat) (fun i σ H' => ∃ (x7 x8 x9 x10 : Option V) (zs : List V) (es : List En), σ = [some (.ref t), some (.ref L), some (.int m), some (.bl b), some (.ref D), some (.ref Al), some (.int (usedD es)), x7, x8, x9, x10] ∧ H' D = some (.lst zs) ∧ DhAll H' zs (es.map En.d) ∧ H' Al = some (.lst (((stD es).map (·.1)).map V.int)) ∧ OkEs ks es ∧ es.length = i ∧ NoLast es ∧ TapeL c H' t ∧ SameB t H H')
      ⟨_, _, _, _, [], [], rfl, S2 _ _ nDt hD1, .nil, S2 _ _ nAt hA1, .nil, rfl, nofun, T2, (Same.b t s1).trans S2⟩ ?_ ?_⟩⟩
    · rintro i σ H3 hi ⟨x7, x8, x9, x10, zs, es, rfl, hD3, hd3, hA3, ok, le, nl, T3, S3⟩
      refine ⟨_, rfl, t, c, _, rfl, T3, by decide, big1000 (by decide) (by decide), fun u H4 uu wu T4 S4 => ?_⟩
      refine ⟨four, fun q0 hq0 => ?_⟩
      have zq0 := Same.upd (o := .lst [.str "bo", .str "di", .str "x", .str "a0"]) hq0
      have nq0 := T4.tape.ne hq0
      refine ⟨_, rfl, t, c, _, rfl, T4.same zq0, by decide, big1000 (by decide) (by decide), fun k3 H5 u5 w5 T5 S5 => ?_⟩
      obtain ⟨au, hau, sau, nau, nla⟩ : ∃ x : Str, ([.str "bo", .str "di", .str "x", .str "a0"] : List V)[k3.toNat]? = some (.str x) ∧ Sh 12 x ∧ nameB (.str x) = true ∧ x ≠ "last" := by
        have : k3.toNat = 0 ∨ k3.toNat = 1 ∨ k3.toNat = 2 ∨ k3.toNat = 3 := by omega
        rcases this with e | e | e | e <;> rw [e]
        · exact ⟨_, rfl, ⟨by decide +kernel, by decide +kernel⟩, by decide +kernel, by decide +kernel⟩
        · exact ⟨_, rfl, ⟨by decide +kernel, by decide +kernel⟩, by decide +kernel, by decide +kernel⟩
        · exact ⟨_, rfl, ⟨by decide +kernel, by decide +kernel⟩, by decide +kernel, by decide +kernel⟩
        · exact ⟨_, rfl, ⟨by decide +kernel, by decide +kernel⟩, by decide +kernel, by decide +kernel⟩
      refine ⟨q0, _, _, _, rfl, rfl, SqL.of (S5 _ _ nq0 upd_same), at_of (j := k3.toNat) (by omega) hau, ?_⟩
      have S6 : SameB t H3 H5 := (S4.trans (Same.b t zq0)).trans S5
      have st6 := SameT.b T3.tape S6
      have hD5 := S6 _ _ nDt hD3
      have hA5 := S6 _ _ nAt hA3
      have hd5 := DhAll.t st6 hd3 ok.noLd
      have s5 := S3.trans S6
      clear S6 st6 S4 zq0 hD3 hA3 hd3 S3 T3 T4
      have off : ∀ {Hx : Hp} {a : Addr} {o : HO}, H a = none → SameB t H Hx → SameB t H (upd Hx a o) := fun {Hx a o} g s b' o' n e => by rw [upd_ne (ne_of_none e g)]; exact s b' o' n e
      have lz := hd5.len
      rw [List.length_map] at lz
      have lim : ∀ {n : Nat}, n ≤ 100 → n < sizeLine := fun h => Nat.lt_of_le_of_lt h (by decide)
      have lst := ok.keys.2.2
      have hL5 := s5 _ _ (hT.tape.neT hL) hL
      have hc5 := hc.t (SameT.b hT.tape s5)
      refine ⟨fun bb H' => bb = (decide (u < 4) || (stD es).isEmpty) ∧ H' = H5, ?_, ?_⟩
      · refine ⟨_, rfl, _, _, rfl, rfl, _, rfl, ite2 (fun z => ?_) (fun z => ?_)⟩
        · rw [z]
          exact ⟨rfl, rfl⟩
        · refine ⟨_, rfl, _, .inl ⟨_, SqL.of hA5, rfl⟩, ?_, rfl⟩
          rw [show decide (u < 4) = false by simpa using z]
          cases stD es <;> rfl
      rintro bb H' ⟨rfl, rfl⟩
      refine ite2 (fun z => ?_) (fun z => ?_)
      · -- a row is added
        refine ⟨_, rfl, .inl ⟨rfl, _, SqL.of hD5⟩, _, rfl, _, rfl, _, rfl, _, rfl, t, c, L, b, xs, ps, rfl, T5, hL5, hc5, hk, l8, fun r ds H6 hf6 vk T6 S6 => ⟨_, rfl, four, fun q hq => ?_⟩⟩
        have hr6 := hf6.now
        have zq := Same.upd (o := .tup [.str "add", .int (usedD es), .ref r, .str au]) hq
        have st6 := SameT.b T5.tape S6
        have hD6 := zq _ _ (S6 _ _ nDt hD5)
        have hA6 := zq _ _ (S6 _ _ nAt hA5)
        have hd6 := DhAll.same zq (DhAll.t st6 hd5 ok.noLd)
        have og : OkEn ks es ⟨"add", usedD es, .tuple ds, au⟩ := ⟨⟨sau, nau⟩, .inl ⟨rfl, rfl, ds, rfl, vk⟩⟩
        have s6 := (s5.trans S6).trans (Same.b t zq)
        refine ⟨D, zs, _, rfl, rfl, hD6, lim (by omega), ?_⟩
        have gr := es_grow (e := ⟨"add", usedD es, .tuple ds, au⟩) hD6 hd6 ok og upd_same (hr6.same zq)
        have hA7 : upd (upd H6 q (.tup [.str "add", .int (usedD es), .ref r, .str au])) D (.lst (zs ++ [.ref q])) Al = some (.lst (((stD es).map (·.1)).map V.int)) := by rw [upd_ne (Ne.symm nDA)]; exact hA6
        have hD7 : upd (upd H6 q (.tup [.str "add", .int (usedD es), .ref r, .str au])) D (.lst (zs ++ [.ref q])) D = some (.lst (zs ++ [.ref q])) := upd_same
        have T7 := (T6.same zq).upd (o := .lst (zs ++ [.ref q])) nDt nDc
        have s7 := off (o := .lst (zs ++ [.ref q])) hD s6
        generalize upd (upd H6 q (.tup [.str "add", .int (usedD es), .ref r, .str au])) D (.lst (zs ++ [.ref q])) = H7 at gr hA7 hD7 T7 s7 ⊢
        refine ⟨_, rfl, .inl ⟨rfl, _, SqL.of hA7⟩, _, rfl, Al, _, _, rfl, rfl, hA7, lim (by rw [List.length_map, List.length_map]; omega), ?_⟩
        refine ⟨_, rfl, _, _, rfl, rfl, some (.int (0 + (i : Int))), some (.int u), some (.str au), x10, zs ++ [.ref q], es ++ [⟨"add", usedD es, .tuple ds, au⟩], ?_, by rw [upd_ne nDA]; exact hD7, DhAll.t (SameT.lst hA7) gr (OkEs.snoc ok og).noLd, ?_, .snoc ok og, by rw [List.length_append, le]; rfl, nl.snoc nla, T7.upd nAt nAc, off gA s7⟩
        · rw [usedD_snoc, if_pos rfl]
          rfl
        · rw [upd_same, stD_snoc]
          unfold stepS
          rw [if_pos rfl, List.map_append, List.map_append]
          rfl
      have ne : (stD es).isEmpty = false ∧ ¬ u < 4 := by
        cases q : (stD es).isEmpty with
        | true => rw [q, Bool.or_true] at z; exact absurd rfl z
        | false => rw [q, Bool.or_false] at z; exact ⟨rfl, fun y => z (decide_eq_true y)⟩
      have lpos : 0 < (stD es).length := by
        cases q : stD es with
        | nil => rw [q] at ne; cases ne.1
        | cons => simp
      have lA : (((stD es).map (·.1)).map V.int).length = (stD es).length := by rw [List.length_map, List.length_map]
      refine ⟨_, rfl, rfl, _, rfl, ite2 (fun z => ?_) (fun z => ?_)⟩
      · -- a row is corrected
        refine ⟨_, rfl, _, rfl, _, rfl, Al, _, rfl, .inl (SqL.of hA5), t, c, _, rfl, T5, by omega, big1000 (by omega) (by omega), fun g H6 ug wg T6 S6 => ?_⟩
        have hg : g.toNat < (stD es).length := by omega
        obtain ⟨n, hn⟩ : ∃ n, ((stD es).map (·.1))[g.toNat]? = some n := ⟨_, List.getElem?_eq_getElem (by rw [List.length_map]; exact hg)⟩
        have hnV : (((stD es).map (·.1)).map V.int)[g.toNat]? = some (.int n) := by rw [List.getElem?_map, hn]; rfl
        have st6 := SameT.b T5.tape S6
        refine ⟨Al, _, _, _, rfl, rfl, SqL.of (S6 _ _ nAt hA5), at_of (j := g.toNat) (by omega) hnV, ?_⟩
        refine ⟨_, rfl, .inl ⟨rfl, _, SqL.of (S6 _ _ nDt hD5)⟩, _, rfl, _, rfl, _, rfl, _, rfl, t, c, L, b, xs, ps, rfl, T6, S6 _ _ (T5.tape.neT hL5) hL5, hc5.t st6, hk, l8, fun r ds H7 hf7 vk T7 S7 => ⟨_, rfl, four, fun q hq => ?_⟩⟩
        have hr7 := hf7.now
        have zq := Same.upd (o := .tup [.str "correct", .int n, .ref r, .str au]) hq
        have st7 := SameT.b T6.tape S7
        have hD7 := zq _ _ (S7 _ _ nDt (S6 _ _ nDt hD5))
        have hA7 := zq _ _ (S7 _ _ nAt (S6 _ _ nAt hA5))
        have hd7 := DhAll.same zq (DhAll.t (st6.trans st7) hd5 ok.noLd)
        have og : OkEn ks es ⟨"correct", n, .tuple ds, au⟩ := ⟨⟨sau, nau⟩, .inr (.inl ⟨rfl, List.mem_of_getElem? hn, ds, rfl, vk⟩)⟩
        have s7 := ((s5.trans S6).trans S7).trans (Same.b t zq)
        refine ⟨D, zs, _, rfl, rfl, hD7, lim (by omega), ?_⟩
        have gr := es_grow (e := ⟨"correct", n, .tuple ds, au⟩) hD7 hd7 ok og upd_same (hr7.same zq)
        refine ⟨some (.int (0 + (i : Int))), some (.int u), some (.str au), some (.int n), zs ++ [.ref q], es ++ [⟨"correct", n, .tuple ds, au⟩], ?_, upd_same, gr, ?_, .snoc ok og, by rw [List.length_append, le]; rfl, nl.snoc nla, (T7.same zq).upd nDt nDc, off hD s7⟩
        · rw [usedD_snoc, if_neg w_ac]
          rfl
        · rw [upd_ne (Ne.symm nDA), hA7, stD_snoc]
          unfold stepS
          rw [if_neg w_ac, if_pos rfl, List.map_map, List.map_map]
          congr 2
          rw [List.map_map]
          refine List.map_congr_left fun p _ => ?_
          show V.int p.1 = V.int (if p.1 = n then (p.1, PyData.tuple ds) else p).1
          split <;> rfl
      · -- a row is struck
        refine ⟨_, rfl, .inl ⟨rfl, _, SqL.of hD5⟩, _, rfl, .inl ⟨rfl, _, SqL.of hA5⟩, _, rfl, _, rfl, Al, _, rfl, .inl (SqL.of hA5), t, c, _, rfl, T5, by omega, big1000 (by omega) (by omega), fun g H6 ug wg T6 S6 => ?_⟩
        have hg : g.toNat < (stD es).length := by omega
        obtain ⟨n, hn⟩ : ∃ n, ((stD es).map (·.1))[g.toNat]? = some n := ⟨_, List.getElem?_eq_getElem (by rw [List.length_map]; exact hg)⟩
        have hnV : (((stD es).map (·.1)).map V.int)[g.toNat]? = some (.int n) := by rw [List.getElem?_map, hn]; rfl
        have st6 := SameT.b T5.tape S6
        have hA6 := S6 _ _ nAt hA5
        have hD6 := S6 _ _ nDt hD5
        refine ⟨Al, _, g, g.toNat, _, rfl, rfl, hA6, by omega, by omega, (ixN_seq (show ixN _ g = some g.toNat from by unfold ixN; rw [if_pos ug, if_pos (by rw [lA]; omega)])).1, hnV, ?_⟩
        have hA7 : upd H6 Al (.lst ((((stD es).map (·.1)).map V.int).eraseIdx g.toNat)) Al = some (.lst ((((stD es).map (·.1)).map V.int).eraseIdx g.toNat)) := upd_same
        have hD7 : upd H6 Al (.lst ((((stD es).map (·.1)).map V.int).eraseIdx g.toNat)) D = some (.lst zs) := by rw [upd_ne nDA]; exact hD6
        have hd7 := DhAll.t (SameT.lst (o := .lst ((((stD es).map (·.1)).map V.int).eraseIdx g.toNat)) hA6) (DhAll.t st6 hd5 ok.noLd) ok.noLd
        have T7 := T6.upd (o := .lst ((((stD es).map (·.1)).map V.int).eraseIdx g.toNat)) nAt nAc
        have s7 := off (o := .lst ((((stD es).map (·.1)).map V.int).eraseIdx g.toNat)) gA (s5.trans S6)
        generalize upd H6 Al (.lst ((((stD es).map (·.1)).map V.int).eraseIdx g.toNat)) = H7 at hA7 hD7 hd7 T7 s7 ⊢
        refine ⟨_, rfl, four, fun q hq => ?_⟩
        have zq := Same.upd (o := .tup [.str "strike", .int n, .non, .str au]) hq
        have og : OkEn ks es ⟨"strike", n, .none, au⟩ := ⟨⟨sau, nau⟩, .inr (.inr ⟨rfl, List.mem_of_getElem? hn, rfl⟩)⟩
        refine ⟨D, zs, _, rfl, rfl, zq _ _ hD7, lim (by omega), ?_⟩
        have gr := es_grow (e := ⟨"strike", n, .none, au⟩) (zq _ _ hD7) (DhAll.same zq hd7) ok og upd_same .non
        refine ⟨some (.int (0 + (i : Int))), some (.int u), some (.str au), x10, zs ++ [.ref q], es ++ [⟨"strike", n, .none, au⟩], ?_, upd_same, gr, ?_, .snoc ok og, by rw [List.length_append, le]; rfl, nl.snoc nla, (T7.same zq).upd nDt nDc, off hD (s7.trans (Same.b t zq))⟩
        · rw [usedD_snoc, if_neg w_as]
          rfl
        · rw [upd_ne (Ne.symm nDA), zq _ _ hA7, stD_snoc]
          unfold stepS
          rw [if_neg w_as, if_neg w_cs, filter_erase ok.keys.1 hn]
          rw [erase_map]
    · rintro σ H3 ⟨x7, x8, x9, x10, zs, es, rfl, hD3, hd3, hA3, ok, le, nl, T3, S3⟩
      exact ⟨_, rfl, k D zs es H3 hD3 hD hd3 ok (by omega) nl T3 S3⟩
end
abbrev sSt : Stmt := top 44
def spSt : Sp := fun vs H Q _ => ∃ (L : Addr) (xs : List V) (ks : List Str) (es : List En), vs = [.ref L] ∧ H L = some (.lst xs) ∧ DhAll H xs (es.map En.d) ∧ OkEs ks es ∧ es.length ≤ 410 ∧
  ∀ (r : Addr) (zs : List V) (H' : Hp), Same H H' → H' r = some (.lst zs) → zs.length = es.length + 1 → (∀ i, i ≤ es.length → ∃ (q : Addr) (ys : List V), zs[i]? = some (.ref q) ∧ H' q = some (.lst ys) ∧ DhAll H' ys (rowsD (stD (es.take i)))) → Q (.ref r) H'
abbrev teCo (K : PySem.W.Frag) : TE := tTup (tCons (tVar 7) (tCons (tOp (rIxL K) (tLst (tCons (tVar 8) (tCons (tVar 5) tNil))) (tCB (fun xs H Q => (∃ i, xs = [.int i] ∧ Q (.int i) H) ∨ ∃ k, xs = [.bl k] ∧ Q (.int (if k then 1 else 0)) H) (tCons (tOp rEq (tVar 7) (tVar 4)) tNil))) tNil))
abbrev teSk : TE := tTup (tCons (tVar 7) (tCons (tVar 8) tNil))
abbrev ttSk : TT := tTest (tOp rNe (tVar 7) (tVar 4))
theorem rows_noL {st : St2} (h : ∀ p ∈ st, Lc.noL p.2 = true) : noLs (rowsD st) = true := by
  rw [noLs_all]
  intro d hd
  obtain ⟨p, hp, rfl⟩ := List.mem_map.mp hd
  show noLs [.int p.1, p.2] = true
  simp [noLs, Lc.noL, h p hp]
theorem row_of {H : Hp} {v : V} {n : Int} {d : PyData} (h : Dh H v (.tuple [.int n, d])) : ∃ (a : Addr) (x : V), v = .ref a ∧ H a = some (.tup [.int n, x]) ∧ Dh H x d := by
  cases h with
  | @tup a xs _ ea hs =>
    match xs, hs with
    | [p, q], .cons h1 (.cons h2 .nil) =>
      cases h1
      exact ⟨a, q, rfl, ea, h2⟩
theorem rows_get {H : Hp} {ys : List V} {st : St2} (h : DhAll H ys (rowsD st)) {i : Nat} {x : V} (hx : ys[i]? = some x) : ∃ p, st[i]? = some p ∧ ∃ (a : Addr) (v : V), x = .ref a ∧ H a = some (.tup [.int p.1, v]) ∧ Dh H v p.2 := by
  obtain ⟨d, hd, dh⟩ := h.get i x hx
  unfold rowsD at hd
  rw [List.getElem?_map] at hd
  cases q : st[i]? with
  | none => rw [q] at hd; cases hd
  | some p => rw [q] at hd; cases hd; exact ⟨p, rfl, row_of dh⟩
section
variable {P : Program} {w : World} {K : PySem.W.Frag} {mg : Str → Option Value} {base : Heap} {f : Addr} {fd : FuncData}
abbrev nSt : List Str := ["_law_deeds_here", "_law_rows", "_law_found", "_law_word", "_law_number", "_law_values_here", "_law_hand", "_law_at", "_law_old"]
theorem scSt : FnScope nSt ["_law_deeds_here"] (defScope sSt) := ⟨rfl, rfl, rfl, by decide +kernel, rfl, by decide +kernel, by decide +kernel⟩
theorem ok_st (F : Fun K "_law_states" "_law_states" sSt f fd) (T : Bt mg) : FnOk P w K mg base CX0 1 f fd ["_law_deeds_here"] spSt := by
  refine F.ok scSt (fun vs H Q E h => ?_) (fun cdv A outer s H vs Q E hr h => ?_)
  · obtain ⟨L, xs, ks, es, rfl, _⟩ := h
    rfl
  · obtain ⟨L, xs, ks, es, rfl, hL, hd, ok, ln, k⟩ := h
    refine ⟨_, pss_cons (ps_set (i := 1) scSt.nd rfl (Or.inl rfl) (pe_lst pa_nil)) (pss_cons (ps_set (i := 2) scSt.nd rfl (Or.inl rfl) (pe_lst (pa_cons (pv 1) pa_nil)))
      (pss_cons (ps_for PassesOwn.never rfl (pi_list (pv 0)) (pg_tup rfl (pgs_cons (pg_name (i := 3) scSt.nd rfl (.inl rfl)) (pgs_cons (pg_name (i := 4) scSt.nd rfl (.inr rfl)) (pgs_cons (pg_name (i := 5) scSt.nd rfl (.inr rfl)) (pgs_cons (pg_name (i := 6) scSt.nd rfl (.inl rfl)) pgs_nil)))))
        (Evl.pss_cut (ps_if (pt_cmpR op_eq (pv 3) pe_str (nomark _)) (pss_one (ps_set (i := 1) scSt.nd rfl (Or.inl rfl) (pe_op op_cat (pv 1) (pe_lst (pa_cons (pe_tup (pa_cons (pv 4) (pa_cons (pv 5) pa_nil))) pa_nil)))))
          (pss_one (ps_if (pt_cmpR op_eq (pv 3) pe_str (nomark _)) (pss_one (ps_setLc (i := 1) (own := [("_law_at", 7), ("_law_old", 8)]) (g := gTup K 2 (gCons (gName 7) (gCons (gName 8) gNil))) (tt := tYes) (te := teCo K) (by rfl) scSt.nd rfl rfl (by rfl) (pi_list (pv 1)) (blkOk_by (own := [("_law_at", 7), ("_law_old", 8)]) (N := nSt) (sc := defScope sSt) (by decide +kernel))
                (fun _ _ _ _ _ => pg_tup rfl (pgs_cons (pg_name (i := 7) scSt.nd rfl (.inl rfl)) (pgs_cons (pg_name (i := 8) scSt.nd rfl (.inl rfl)) pgs_nil))) (fun _ _ _ _ _ => pts_nil)
                (fun _ _ _ _ _ => pe_tup (pa_cons (pv 7) (pa_cons (pe_ix ix_list (pe_lst (pa_cons (pv 8) (pa_cons (pv 5) pa_nil))) (pe_callTy call_int1 (by rfl) T.int boot_int (pa_cons (pe_cmpR op_eq (pv 7) (pv 4) (nomark _)) pa_nil)) (fun _ _ => rfl)) pa_nil)))))
            (pss_one (ps_setLc (i := 1) (own := [("_law_at", 7), ("_law_old", 8)]) (g := gTup K 2 (gCons (gName 7) (gCons (gName 8) gNil))) (tt := ttSk) (te := teSk) (by rfl) scSt.nd rfl rfl (by rfl) (pi_list (pv 1)) (blkOk_by (own := [("_law_at", 7), ("_law_old", 8)]) (N := nSt) (sc := defScope sSt) (by decide +kernel))
                (fun _ _ _ _ _ => pg_tup rfl (pgs_cons (pg_name (i := 7) scSt.nd rfl (.inl rfl)) (pgs_cons (pg_name (i := 8) scSt.nd rfl (.inl rfl)) pgs_nil))) (fun _ _ _ _ _ => pts_one (pt_cmpR op_ne (pv 7) (pv 4) (nomark _))) (fun _ _ _ _ _ => pe_tup (pa_cons (pv 7) (pa_cons (pv 8) pa_nil))))))))
        (pss_one (ps_expr (pe_bm PySem.F.plainAttrs_list PySem.F.slot_list_append PySem.F.type_list_append mt_append (pv 2) (pa_cons (pv 1) pa_nil))))))
      (pss_one (ps_ret (pv 2))))), ?_⟩
    have one : 1 ≤ sizeLine := by decide
    have two : 2 ≤ sizeLine := by decide
    have lim : ∀ {n : Nat}, n ≤ 1000 → n < sizeLine := fun h => Nat.lt_of_le_of_lt h (by decide)
    refine ⟨by show 0 ≤ sizeLine; decide, fun q0 h0 => ⟨_, rfl, one, fun Fd hF => ?_⟩⟩
    have y0 := Same.upd (o := .lst []) h0
    have y1 := Same.upd (o := .lst [.ref q0]) hF
    have e0 : upd H q0 (.lst []) q0 = some (.lst []) := upd_same
    have n0 : q0 ≠ Fd := ne_of_none e0 hF
    have gF : H Fd = none := Same.gone y0 hF
    have s0 := y0.trans y1
    have lx : xs.length = es.length := by rw [hd.len, List.length_map]
    refine ⟨_, rfl, L, rfl, ⟨_, SqL.of (s0 _ _ hL)⟩, for_list (K := K) (a := L) (xs := xs) (fun i σ H' => ∃ (x3 x4 x5 x6 : Option V) (q : Addr) (ys zs : List V), σ = [some (.ref L), some (.ref q), some (.ref Fd), x3, x4, x5, x6, none, none] ∧ Same H H' ∧ H' Fd = some (.lst zs) ∧ zs.length = i + 1 ∧ H' q = some (.lst ys) ∧ q ≠ Fd ∧ DhAll H' ys (rowsD (stD (es.take i))) ∧
        ∀ j, j ≤ i → ∃ (qj : Addr) (yj : List V), zs[j]? = some (.ref qj) ∧ qj ≠ Fd ∧ H' qj = some (.lst yj) ∧ DhAll H' yj (rowsD (stD (es.take j))))
      ⟨_, _, _, _, q0, [], [.ref q0], rfl, s0, upd_same, rfl, y1 _ _ e0, n0, .nil, fun j hj => ⟨q0, [], by rw [show j = 0 by omega]; rfl, n0, y1 _ _ e0, by rw [show j = 0 by omega]; exact .nil⟩⟩ (fun i σ H' _ p => by obtain ⟨_, _, _, _, _, _, _, _, s', _⟩ := p; exact SqL.of (s' _ _ hL)) ?_ ?_⟩
    · rintro i x σ H1 hx ⟨x3, x4, x5, x6, q, ys, zs, rfl, s1, hF1, lz, hq, nq, hy, all⟩
      obtain ⟨e, he, de⟩ := en_get hd hx
      have og := ok.at he
      have op := OkEs.take i ok
      have os := OkEs.snoc op og
      have ek : es.take (i + 1) = es.take i ++ [e] := by rw [List.take_add_one, he]; rfl
      have li : i < es.length := (List.getElem?_eq_some_iff.mp he).1
      obtain ⟨a, v, rfl, ea, dv⟩ := en_of (de.same s1)
      have ly := hy.len
      unfold rowsD at ly
      rw [List.length_map] at ly
      have lk := op.keys.2.2
      rw [List.length_take] at lk
      have l100 : ys.length ≤ 410 := by omega
      refine ⟨a, _, rfl, SqT.of ea, rfl, _, _, rfl, _, _, rfl, _, _, rfl, _, _, rfl, rfl, ?_⟩
      have gF1 : ∀ {p : Addr} {Hx : Hp}, Same H1 Hx → Hx p = none → p ≠ Fd := fun sx hp z => by rw [z, sx _ _ hF1] at hp; cases hp
      refine ⟨fun σ H' => ∃ (q' : Addr) (ys' : List V), σ = [some (.ref L), some (.ref q'), some (.ref Fd), some (.str e.w), some (.int e.n), some v, some (.str e.au), none, none] ∧ Same H1 H' ∧ H' q' = some (.lst ys') ∧ q' ≠ Fd ∧ DhAll H' ys' (rowsD (stD (es.take i ++ [e]))), ?_, ?_⟩
      · rw [stD_snoc]
        unfold stepS
        refine ⟨_, rfl, rfl, _, rfl, ite2 (fun z => ?_) (fun z => ?_)⟩
        · have ew : e.w = "add" := by have := of_decide_eq_true z; injection this
          rw [if_pos ew]
          refine ⟨_, rfl, _, rfl, _, rfl, two, fun t0 h0' => ⟨one, fun t1 h1 => ?_⟩⟩
          have z0 := Same.upd (o := .tup [.int e.n, v]) h0'
          have z1 := Same.upd (o := .lst [.ref t0]) h1
          refine ⟨q, t1, ys, _, rfl, rfl, (z0.trans z1) _ _ hq, upd_same, Nat.le_of_lt (lim (show ys.length + 1 ≤ 1000 by omega)), fun p hp => ?_⟩
          have zp := Same.upd (o := .lst (ys ++ [.ref t0])) hp
          have s2 := (z0.trans z1).trans zp
          have e0' : upd H1 t0 (.tup [.int e.n, v]) t0 = some (.tup [.int e.n, v]) := upd_same
          refine ⟨p, ys ++ [.ref t0], rfl, s2, upd_same, gF1 (z0.trans z1) hp, ?_⟩
          unfold rowsD
          rw [List.map_append]
          exact DhAll.append (DhAll.same s2 hy) (.cons (.tup ((z1.trans zp) _ _ e0') (.cons (.int _) (.cons (dv.same s2) .nil))) .nil)
        have nw : e.w ≠ "add" := fun q => z (decide_eq_true (by rw [q]))
        rw [if_neg nw]
        refine ⟨_, rfl, rfl, _, rfl, ite2 (fun z => ?_) (fun z => ?_)⟩
        · have ew : e.w = "correct" := by have := of_decide_eq_true z; injection this
          rw [if_pos ew]
          refine ⟨_, rfl, q, rfl, ⟨_, SqL.of hq⟩, fun D hD => lc_list (K := K) (a := q) (xs := ys) (fun j H' => ∃ ws : List V, H' D = some (.lst ws) ∧ ws.length = j ∧ Same H1 H' ∧ DhAll H' ws (rowsD (((stD (es.take i)).take j).map fun p => if p.1 = e.n then (p.1, e.vals) else p)))
            ⟨[], upd_same, rfl, Same.upd hD, .nil⟩ (fun j H' _ p => by obtain ⟨_, _, _, s', _⟩ := p; exact SqL.of (s' _ _ hq)) ?_ ?_⟩
          · rintro j y H2 hyj ⟨ws, hD2, lw, s2, hw⟩
            obtain ⟨pp, hpp, b, vv, rfl, eb, dvv⟩ := rows_get (DhAll.same s2 hy) hyj
            refine ⟨b, _, rfl, SqT.of eb, rfl, _, _, rfl, _, _, rfl, rfl, rfl, ?_⟩
            refine ⟨_, rfl, _, rfl, _, rfl, two, fun l0 hl0 => ?_⟩
            have zl := Same.upd (o := .lst [vv, v]) hl0
            refine ⟨_, rfl, _, rfl, rfl, .inr ⟨_, rfl, l0, [vv, v], _, if pp.1 = e.n then v else vv, rfl, rfl, SqL.of upd_same, ?_, two, fun p hp => ?_⟩⟩
            · by_cases en : pp.1 = e.n
              · rw [if_pos en, show decide (V.int pp.1 = V.int e.n) = true from decide_eq_true (by rw [en])]
                rfl
              · rw [if_neg en, show decide (V.int pp.1 = V.int e.n) = false from decide_eq_false (fun h => en (by injection h))]
                rfl
            have zp := Same.upd (o := .tup [.int pp.1, if pp.1 = e.n then v else vv]) hp
            have s3 := s2.trans (zl.trans zp)
            have s4 := zl.trans zp
            have hD3 := s4 _ _ hD2
            have hjl : j < ys.length := (List.getElem?_eq_some_iff.mp hyj).1
            refine ⟨ws, hD3, lim (by omega), ws ++ [.ref p], upd_same, by rw [List.length_append, lw]; rfl, fun b' o' e' => by rw [upd_ne (ne_of_none e' hD)]; exact s3 b' o' e', ?_⟩
            have st : SameT (upd (upd H2 l0 (.lst [vv, v])) p (.tup [.int pp.1, if pp.1 = e.n then v else vv])) (upd (upd (upd H2 l0 (.lst [vv, v])) p (.tup [.int pp.1, if pp.1 = e.n then v else vv])) D (.lst (ws ++ [.ref p]))) := SameT.lst hD3
            have noP : ∀ {l : St2}, (∀ p ∈ l, Lc.noL p.2 = true) → noLs (rowsD (l.map fun p => if p.1 = e.n then (p.1, e.vals) else p)) = true := fun {l} hl => rows_noL fun p' hp' => by
              obtain ⟨q', hq', rfl⟩ := List.mem_map.mp hp'
              by_cases z : q'.1 = e.n
              · rw [if_pos z]; exact og.noL
              · rw [if_neg z]; exact hl q' hq'
            have na : ∀ p ∈ stD (es.take i), Lc.noL p.2 = true := op.noLs
            rw [List.take_add_one, hpp]
            show DhAll _ _ (rowsD (((stD (es.take i)).take j ++ [pp]).map _))
            unfold rowsD
            rw [List.map_append, List.map_append]
            refine DhAll.append (DhAll.t st (DhAll.same s4 hw) (noP fun p' hp' => na p' (List.mem_of_mem_take hp'))) (.cons ?_ .nil)
            have dg : ∀ Hx : Hp, Dh Hx v e.vals → Dh Hx vv pp.2 → Dh Hx (if pp.1 = e.n then v else vv) (if pp.1 = e.n then (pp.1, e.vals) else pp).2 := fun Hx g1 g2 => by
              by_cases en : pp.1 = e.n
              · rw [if_pos en, if_pos en]; exact g1
              · rw [if_neg en, if_neg en]; exact g2
            have dd := dg _ (dv.same s3) (dvv.same s4)
            have e1 : (if pp.1 = e.n then (pp.1, e.vals) else pp).1 = pp.1 := by split <;> rfl
            have nd : Lc.noL (if pp.1 = e.n then (pp.1, e.vals) else pp).2 = true := by
              by_cases en : pp.1 = e.n
              · rw [if_pos en]; exact og.noL
              · rw [if_neg en]; exact na pp (List.mem_of_getElem? hpp)
            have ep : upd (upd H2 l0 (.lst [vv, v])) p (.tup [.int pp.1, if pp.1 = e.n then v else vv]) p = some (.tup [.int pp.1, if pp.1 = e.n then v else vv]) := upd_same
            show Dh _ (.ref p) (.tuple [.int (if pp.1 = e.n then (pp.1, e.vals) else pp).1, (if pp.1 = e.n then (pp.1, e.vals) else pp).2])
            rw [e1]
            exact .tup (st _ _ ep) (.cons (.int _) (.cons (dd.t st nd) .nil))
          · rintro H2 ⟨ws, hD2, lw, s2, hw⟩
            rw [ly, List.take_length] at hw
            exact ⟨D, ws, rfl, s2, hD2, gF1 (Same.refl H1) hD, hw⟩
        · have nc : e.w ≠ "correct" := fun q => z (decide_eq_true (by rw [q]))
          rw [if_neg nc]
          refine ⟨_, rfl, q, rfl, ⟨_, SqL.of hq⟩, fun D hD => lc_list (K := K) (a := q) (xs := ys) (fun j H' => ∃ ws : List V, H' D = some (.lst ws) ∧ ws.length ≤ j ∧ Same H1 H' ∧ DhAll H' ws (rowsD (((stD (es.take i)).take j).filter fun p => decide (p.1 ≠ e.n))))
            ⟨[], upd_same, Nat.le_refl _, Same.upd hD, .nil⟩ (fun j H' _ p => by obtain ⟨_, _, _, s', _⟩ := p; exact SqL.of (s' _ _ hq)) ?_ ?_⟩
          · rintro j y H2 hyj ⟨ws, hD2, lw, s2, hw⟩
            obtain ⟨pp, hpp, b, vv, rfl, eb, dvv⟩ := rows_get (DhAll.same s2 hy) hyj
            have hjl : j < ys.length := (List.getElem?_eq_some_iff.mp hyj).1
            refine ⟨b, _, rfl, SqT.of eb, rfl, _, _, rfl, _, _, rfl, rfl, rfl, ?_⟩
            change ttSk _ _ _
            rw [show (stD (es.take i)).take (j + 1) = (stD (es.take i)).take j ++ [pp] by rw [List.take_add_one, hpp]; rfl]
            refine ⟨_, rfl, _, rfl, rfl, _, rfl, ?_⟩
            have na : ∀ p ∈ stD (es.take i), Lc.noL p.2 = true := op.noLs
            by_cases en : pp.1 = e.n
            · rw [show decide (V.int pp.1 = V.int e.n) = true from decide_eq_true (by rw [en])]
              refine iteF ⟨ws, hD2, by omega, s2, ?_⟩
              rw [List.filter_append, show ([pp].filter fun p => decide (p.1 ≠ e.n)) = [] by simp [en], List.append_nil]
              exact hw
            · rw [show decide (V.int pp.1 = V.int e.n) = false from decide_eq_false (fun h => en (by injection h))]
              refine iteT ⟨_, rfl, _, rfl, two, fun p hp => ?_⟩
              have zp := Same.upd (o := .tup [.int pp.1, vv]) hp
              have s3 := s2.trans zp
              have hD3 := zp _ _ hD2
              have st : SameT (upd H2 p (.tup [.int pp.1, vv])) (upd (upd H2 p (.tup [.int pp.1, vv])) D (.lst (ws ++ [.ref p]))) := SameT.lst hD3
              refine ⟨ws, hD3, lim (by omega), ws ++ [.ref p], upd_same, by rw [List.length_append, List.length_singleton]; omega, fun b' o' e' => by rw [upd_ne (ne_of_none e' hD)]; exact s3 b' o' e', ?_⟩
              rw [List.filter_append, show ([pp].filter fun p => decide (p.1 ≠ e.n)) = [pp] by simp [en]]
              unfold rowsD
              rw [List.map_append]
              have ep : upd H2 p (.tup [.int pp.1, vv]) p = some (.tup [.int pp.1, vv]) := upd_same
              exact DhAll.append (DhAll.t st (DhAll.same zp hw) (rows_noL fun p' hp' => na p' (List.mem_of_mem_take (List.mem_filter.mp hp').1))) (.cons (.tup (st _ _ ep) (.cons (.int _) (.cons ((dvv.same zp).t st (na pp (List.mem_of_getElem? hpp))) .nil))) .nil)
          · rintro H2 ⟨ws, hD2, lw, s2, hw⟩
            rw [ly, List.take_length] at hw
            exact ⟨D, ws, rfl, s2, hD2, gF1 (Same.refl H1) hD, hw⟩
      · rintro σ H2 ⟨q', ys', rfl, s2, hq', nq', hy'⟩
        have hF2 := s2 _ _ hF1
        have st : SameT H2 (upd H2 Fd (.lst (zs ++ [.ref q']))) := SameT.lst hF2
        refine ⟨_, rfl, .inl ⟨rfl, _, SqL.of hF2⟩, _, rfl, Fd, zs, _, rfl, rfl, hF2, lim (by omega), ?_⟩
        have nl : ∀ j, noLs (rowsD (stD (es.take j))) = true := fun j => rows_noL (OkEs.take j ok).noLs
        refine ⟨_, _, _, _, q', ys', zs ++ [.ref q'], rfl, fun b o' e' => by rw [upd_ne (ne_of_none e' gF)]; exact (s1.trans s2) b o' e', upd_same, by rw [List.length_append, lz]; rfl, by rw [upd_ne nq']; exact hq', nq', ?_, fun j hj => ?_⟩
        · have := nl (i + 1)
          rw [ek] at this ⊢
          exact DhAll.t st hy' this
        · by_cases z : j ≤ i
          · obtain ⟨qj, yj, g1, g2, g3, g4⟩ := all j z
            exact ⟨qj, yj, by rw [List.getElem?_append_left (by omega)]; exact g1, g2, by rw [upd_ne g2]; exact s2 _ _ g3, DhAll.t st (DhAll.same s2 g4) (nl j)⟩
          · have ej : j = i + 1 := by omega
            subst ej
            have := nl (i + 1)
            rw [ek] at this ⊢
            exact ⟨q', ys', by rw [List.getElem?_append_right (by omega), lz]; simp, nq', by rw [upd_ne nq']; exact hq', DhAll.t st hy' this⟩
    · rintro σ H1 ⟨x3, x4, x5, x6, q, ys, zs, rfl, s1, hF1, lz, hq, nq, hy, all⟩
      rw [lx] at lz all
      exact ⟨_, rfl, k Fd zs H1 s1 hF1 lz fun i hi => by obtain ⟨qj, yj, g1, _, g3, g4⟩ := all i hi; exact ⟨qj, yj, g1, g3, g4⟩⟩
end
end K07
set_option Elab.async false
set_option linter.all false
set_option maxRecDepth 100000
set_option maxHeartbeats 4000000
namespace K07
open PySem PySem.Spec PyProof.Rows L2 Lc
def versU (es : List En) (v : V) : PyData → Option (Nat × V)
  | .int n => if 0 ≤ n ∧ n ≤ (es.length : Int) then none else some (3, v)
  | _ => some (3, v)
def usedU (es : List En) (v : V) : PyData → Option (Nat × V)
  | .int n => if 0 ≤ n ∧ n < (usedD es : Int) then none else some (2, v)
  | _ => some (2, v)
def spRowsX (C : Addr) (A : EA) : Sp := fun vs H Q E => ∃ (a lg : Addr) (R : RD) (v : V) (d : PyData), vs = [.ref a, v] ∧ IsRg C H a lg R ∧ OkR R ∧ Dh H v d ∧ v ≠ .non ∧ Vd A H (versU R.es v d) E (∀ (r : Addr) H', Same H H' → Q (.ref r) H')
def spAuX (C : Addr) (A : EA) : Sp := fun vs H Q E => ∃ (a lg : Addr) (R : RD) (v : V) (d : PyData), vs = [.ref a, v] ∧ IsRg C H a lg R ∧ OkR R ∧ Dh H v d ∧ Vd A H (usedU R.es v d) E (∀ (r : Addr) H', Same H H' → Q (.ref r) H')
theorem int_or {H : Hp} {v : V} {d : PyData} (h : Dh H v d) : (∃ n, v = .int n ∧ d = .int n) ∨ (tyD d ≠ "int" ∧ ∀ es, versU es v d = some (3, v) ∧ usedU es v d = some (2, v)) := by
  cases h with
  | int n => exact .inl ⟨n, rfl, rfl⟩
  | _ => exact .inr ⟨by simp [tyD], fun _ => ⟨rfl, rfl⟩⟩
section
variable {P : Program} {w : World} {K : PySem.W.Frag} {mg : Str → Option Value} {base : Heap} {f C fI fN fC fW fA fR fU fE fS fV fM : Addr} {fd fdN fdC fdW fdA fdR fdU fdE fdS fdV fdM : FuncData} {u1 : Tok} {A : EA}
theorem ok_rrX {dvs : List V} {kws : List (Str × V)} (F : FunD K "rows" "Register.rows" (defArgs sRR) (defBody sRR) (defScope sRR) dvs kws f fd) (T : Bt mg) (G : RgF K mg C fI) (RV : ErI K mg "NoVersion" "given" A.v fV) (GV : FnOk P w K mg base CX0 1 fV fdV ["self", "given"] (spIni A.v "given")) (bV : Binds K fdV ["self", "given"] [])
    (GW : FnOk P w K mg base CX0 1 fW fdW ["value"] spWhole) (mW : mg "is_whole" = some (.ref fW)) (kW : PySem.W.keepIn K (.ref fW) = true) (bW : Binds K fdW ["value"] [])
    (GA : FnOk P w K mg base CX0 1 fA fdA ["entries"] spRa) (mA : mg "rows_after" = some (.ref fA)) (kA : PySem.W.keepIn K (.ref fA) = true) (bA : Binds K fdA ["entries"] []) : FnOk P w K mg base (L2.CX P w) 3 f fd ["self", "version"] (spRowsX C A) := by
  refine F.ok scRR (fun vs H Q E h => ?_) (fun cdv A' outer s H vs Q E hr h => ?_)
  · obtain ⟨a, lg, R, v, d, rfl, _⟩ := h
    rfl
  · obtain ⟨a, lg, R, v, d, rfl, ⟨dx, cv, xs, ys, h1, h2, h3, h4, h5⟩, o, hd, nn, k1, k2⟩ := h
    have hr1 : Room 1 _ := hr.mono (by decide)
    refine ⟨_, pss_cons (ps_if (pt_cmpR op_isN (pv 1) pe_non (nomark _)) pss_dead pss_nil)
      (pss_cons (ps_if (PW.pt (pw_or (pt_not (pt_val (pe_call GW hr1 (by rfl) mW kW bW .nil pass0 (pa_cons (pv 1) pa_nil)))) (pw_or (pt_cmpR op_lt (pv 1) pe_int (nomark _)) (pw_or1 (pt_cmpR op_gt (pv 1) (pe_callB call_len_seq (by rfl) T.len PySem.boot_len (pa_cons (pe_fld (pv 0) (by rfl)) pa_nil)) (nomark _))))))
        (pss_one (ps_raise (W := fun cls d _ H => E cls d H) rfl (takes_of rfl rfl rfl rfl) (pmk_oexG PySem.F.excBase_IndexError RV.oex RV.iC RV.tI GV hr bV .nil pass0 (by rfl) RV.gC (pa_cons (pv 1) pa_nil)))) pss_nil)
      (pss_cons (ps_set (i := 2) scRR.nd rfl (Or.inl rfl) (pe_call GA hr1 (by rfl) mA kA bA .nil pass0 (pa_cons (pe_slice sl_list (pe_fld (pv 0) (by rfl)) po_none (po_some (pv 1))) pa_nil)))
      (pss_one (ps_ret (LiI.pe_listItems (by rfl) (pv 2) (by rfl) T.list boot_list))))), ?_⟩
    have ly := h5.len
    rw [List.length_map] at ly
    have one : 1 ≤ 1000 := by decide
    refine ⟨_, rfl, rfl, _, rfl, ?_⟩
    rw [decide_eq_false nn]
    refine iteF ⟨_, rfl, v, _, rfl, hd.ty, _, rfl, ?_⟩
    rcases int_or hd with ⟨n, rfl, rfl⟩ | ⟨ti, ev⟩
    · rw [show (tyD (.int n) == "int") = true from rfl]
      refine iteF ⟨_, rfl, _, _, rfl, rfl, _, rfl, ?_⟩
      by_cases n0 : n < 0
      · rw [decide_eq_true n0]
        have e : versU R.es (.int n) (.int n) = some (3, .int n) := by
          show (if 0 ≤ n ∧ n ≤ (R.es.length : Int) then none else _) = _
          rw [if_neg (by omega)]
        exact iteT (iteT ⟨_, rfl, one, tells_ofF (k2 _ _ e H (Same.refl H))⟩)
      · rw [decide_eq_false n0]
        refine iteF ⟨_, rfl, _, rfl, a, C, dx, _, _, rfl, h1, G.cls, G.a3, rfl, lg, _, rfl, .inl (SqL.of h4), _, _, rfl, rfl, _, rfl, ?_⟩
        by_cases n1 : (ys.length : Int) < n
        · rw [decide_eq_true n1]
          have e : versU R.es (.int n) (.int n) = some (3, .int n) := by
            show (if 0 ≤ n ∧ n ≤ (R.es.length : Int) then none else _) = _
            rw [if_neg (by omega)]
          exact iteT ⟨_, rfl, one, tells_ofF (k2 _ _ e H (Same.refl H))⟩
        · rw [decide_eq_false n1]
          have e : versU R.es (.int n) (.int n) = none := by
            show (if 0 ≤ n ∧ n ≤ (R.es.length : Int) then none else _) = _
            rw [if_pos (by omega)]
          have k := k1 e
          obtain ⟨m, rfl⟩ : ∃ m : Nat, n = (m : Int) := ⟨n.toNat, by omega⟩
          refine iteF ?_
          refine ⟨_, rfl, a, C, dx, _, _, rfl, h1, G.cls, G.a3, rfl, _, rfl, m, rfl, lg, _, rfl, SqL.of h4, fun p hp => ?_⟩
          have zp := Same.upd (o := .lst (cutV ys none (some (m : Int)))) hp
          have ep : upd H p (.lst (cutV ys none (some (m : Int)))) p = some (.lst (ys.take m)) := by rw [upd_same, cut_take ys (by omega)]
          have dp : DhAll (upd H p (.lst (cutV ys none (some (m : Int))))) (ys.take m) ((R.es.take m).map En.d) := by
            rw [List.map_take]
            exact DhAll.take m (DhAll.same zp h5)
          refine ⟨p, _, _, R.es.take m, rfl, ep, dp, OkEs.take m o.es, by rw [List.length_take]; have := o.ln; omega, fun r kvs H2 s2 h2' rw2 => ?_⟩
          exact ⟨_, rfl, r, kvs, rfl, h2', fun H3 q ts s3 gq _ _ h3' pr => k q H3 ((zp.trans s2).trans s3)⟩
    · rw [show (tyD d == "int") = false by simpa using ti]
      exact iteT (iteT ⟨_, rfl, one, tells_ofF (k2 _ _ (ev R.es).1 H (Same.refl H))⟩)
theorem ok_auX (F : Fun K "authors" "Register.authors" sRA f fd) (G : RgF K mg C fI) (RM : ErI K mg "NoRow" "number" A.m fM) (GM : FnOk P w K mg base CX0 1 fM fdM ["self", "number"] (spIni A.m "number")) (bM : Binds K fdM ["self", "number"] [])
    (GW : FnOk P w K mg base CX0 1 fW fdW ["value"] spWhole) (mW : mg "is_whole" = some (.ref fW)) (kW : PySem.W.keepIn K (.ref fW) = true) (bW : Binds K fdW ["value"] [])
    (GU : FnOk P w K mg base CX0 1 fU fdU ["entries"] spNu) (mU : mg "numbers_used" = some (.ref fU)) (kU : PySem.W.keepIn K (.ref fU) = true) (bU : Binds K fdU ["entries"] []) : FnOk P w K mg base (L2.CX P w) 3 f fd ["self", "number"] (spAuX C A) := by
  refine F.okX scRA (fun vs H Q E h => ?_) (fun cdv A' outer s H vs Q E hr h => ?_)
  · obtain ⟨a, lg, R, v, d, rfl, _⟩ := h
    rfl
  · obtain ⟨a, lg, R, v, d, rfl, ⟨dx, cv, xs, ys, h1, h2, h3, h4, h5⟩, o, hd, k1, k2⟩ := h
    have hr1 : Room 1 _ := hr.mono (by decide)
    refine ⟨_, pss_cons (ps_if (PW.pt (pw_or (pt_not (pt_val (pe_call GW hr1 (by rfl) mW kW bW .nil pass0 (pa_cons (pv 1) pa_nil)))) (pw_or (pt_cmpR op_lt (pv 1) pe_int (nomark _)) (pw_or1 (pt_cmpR op_ge (pv 1) (pe_call GU hr1 (by rfl) mU kU bU .nil pass0 (pa_cons (pe_fld (pv 0) (by rfl)) pa_nil)) (nomark _))))))
        (pss_one (ps_raise (W := fun cls d _ H => E cls d H) rfl (takes_of rfl rfl rfl rfl) (pmk_oexG PySem.F.excBase_IndexError RM.oex RM.iC RM.tI GM hr bM .nil pass0 (by rfl) RM.gC (pa_cons (pv 1) pa_nil)))) pss_nil)
      (pss_one (ps_ret (pe_lc (own := [("entry", 2)]) (g := gName 2) (tt := ttAu K) (te := teAu K) (by rfl) scRA.nd (pi_list (pe_fld (pv 0) (by rfl))) (blkOk_by (own := [("entry", 2)]) (N := ["self", "number", "entry"]) (sc := defScope sRA) (by decide +kernel))
        (fun _ _ _ _ _ => pg_name (i := 2) scRA.nd rfl (Or.inl rfl)) (fun _ _ _ _ _ => pts_one (pt_cmpR op_eq (pe_ix ix_tup (pv 2) pe_int (fun _ _ => rfl)) (pv 1) (nomark _))) (fun _ _ _ _ _ => pe_ix ix_tup (pv 2) pe_int (fun _ _ => rfl))))), ?_⟩
    have ly := h5.len
    rw [List.length_map] at ly
    have lo := o.ln
    have one : 1 ≤ 1000 := by decide
    refine ⟨_, rfl, v, _, rfl, hd.ty, _, rfl, ?_⟩
    rcases int_or hd with ⟨n, rfl, rfl⟩ | ⟨ti, ev⟩
    · rw [show (tyD (.int n) == "int") = true from rfl]
      refine iteF ⟨_, rfl, _, _, rfl, rfl, _, rfl, ?_⟩
      by_cases n0 : n < 0
      · rw [decide_eq_true n0]
        have e : usedU R.es (.int n) (.int n) = some (2, .int n) := by
          show (if 0 ≤ n ∧ n < (usedD R.es : Int) then none else _) = _
          rw [if_neg (by omega)]
        exact iteT (iteT ⟨_, rfl, one, tells_ofF (k2 _ _ e H (Same.refl H))⟩)
      · rw [decide_eq_false n0]
        refine iteF ⟨_, rfl, _, rfl, a, C, dx, _, _, rfl, h1, G.cls, G.a3, rfl, lg, ys, R.es, rfl, h4, h5, by omega, fun H1 s1 => ⟨_, _, rfl, rfl, _, rfl, ?_⟩⟩
        by_cases n1 : (usedD R.es : Int) ≤ n
        · rw [decide_eq_true n1]
          have e : usedU R.es (.int n) (.int n) = some (2, .int n) := by
            show (if 0 ≤ n ∧ n < (usedD R.es : Int) then none else _) = _
            rw [if_neg (by omega)]
          exact iteT ⟨_, rfl, one, tells_ofF (k2 _ _ e H1 s1)⟩
        rw [decide_eq_false n1]
        have e : usedU R.es (.int n) (.int n) = none := by
          show (if 0 ≤ n ∧ n < (usedD R.es : Int) then none else _) = _
          rw [if_pos (by omega)]
        have k := k1 e
        refine iteF ?_
        refine ⟨_, rfl, a, C, dx, _, _, rfl, s1 _ _ h1, G.cls, G.a3, rfl, lg, rfl, ⟨_, SqL.of (s1 _ _ h4)⟩, fun D hD => lc_list (K := K) (a := lg) (xs := ys) (fun i H' => (∃ zs : List V, H' D = some (.lst zs) ∧ zs.length ≤ i) ∧ Same H1 H') ⟨⟨[], upd_same, Nat.zero_le _⟩, Same.upd hD⟩ (fun i H' _ p => SqL.of (p.2 _ _ (s1 _ _ h4))) ?_ ?_⟩
        · rintro i x H2 hx ⟨⟨zs, hD2, lz⟩, s2⟩
          obtain ⟨e, he, de⟩ := en_get h5 hx
          obtain ⟨b, v, rfl, eb, dv⟩ := en_of (de.same (s1.trans s2))
          have li : i < R.es.length := (List.getElem?_eq_some_iff.mp he).1
          refine ⟨rfl, ?_⟩
          change ttAu K _ _ _
          refine ⟨_, rfl, b, _, _, _, rfl, rfl, SqT.of eb, rfl, _, rfl, rfl, _, rfl, ite2 (fun y => ?_) (fun y => ?_)⟩
          · exact ⟨_, rfl, b, _, _, _, rfl, rfl, SqT.of eb, rfl, _, hD2, Nat.lt_of_le_of_lt (show zs.length ≤ 410 by omega) (by decide), ⟨_, upd_same, by rw [List.length_append, List.length_singleton]; omega⟩, fun b' o' e' => by rw [upd_ne (ne_of_none e' hD)]; exact s2 b' o' e'⟩
          · exact ⟨⟨zs, hD2, by omega⟩, s2⟩
        · rintro H2 ⟨_, s2⟩
          exact k D H2 (s1.trans s2)
    · rw [show (tyD d == "int") = false by simpa using ti]
      exact iteT (iteT ⟨_, rfl, one, tells_ofF (k2 _ _ (ev R.es).2 H (Same.refl H))⟩)
end
end K07
set_option Elab.async false
set_option linter.all false
set_option maxRecDepth 100000
set_option maxHeartbeats 4000000
namespace K07
open PySem PySem.Spec PyProof.Rows L2 Lc
/-- a promise that tells errors, where none is told -/
theorem fn_quiet {P : Program} {w : World} {K : PySem.W.Frag} {mg : Str → Option Value} {base : Heap} {k : Nat} {f : Addr} {fd : FuncData} {ps : List Str} {sp sp' : Sp} (F : FnOk P w K mg base (L2.CX P w) k f fd ps sp) (h : ∀ vs H Q E, sp' vs H Q E → sp vs H Q (fun _ _ _ => False)) : FnOk P w K mg base CX0 k f fd ps sp' := by
  refine ⟨fun vs H Q E z => F.len _ _ _ _ (h vs H Q E z), fun A outer s H args us vs Q E a b c d z => ?_⟩
  refine codeAny_mono (F.run A outer s H args us vs Q (fun _ _ _ => False) a b c d (h vs H Q E z)) fun r s' hq => ?_
  match r, hq with
  | .error e, hq =>
    obtain ⟨_, _, _, _, _, _, _, _, _, _, _, _, hE⟩ := hq
    exact hE.elim
  | .ok (.ret u), hq => exact hq
  | .ok .next, hq => exact False.elim hq
  | .ok .brk, hq => exact False.elim hq
  | .ok .cont, hq => exact False.elim hq
theorem vd_none {A : EA} {H : Hp} {u : Option (Nat × V)} {E : XK} {Q : Prop} (e : u = none) (q : Q) : Vd A H u E Q := ⟨fun _ => q, fun c x z => by rw [e] at z; cases z⟩
theorem vk_val {k : Str} {d : PyData} (h : Vk k d) : valD k d = true ∧ TxD d := by
  cases h with
  | non k => exact ⟨by unfold valD nonD; rfl, nofun⟩
  | flag b => exact ⟨by unfold valD; rw [if_neg (by decide +kernel), if_neg (by decide +kernel)]; rfl, nofun⟩
  | word h hn => exact ⟨by unfold valD; rw [if_neg (by decide +kernel), if_pos rfl]; exact (Bool.or_eq_true_iff).mpr (.inr hn), fun z e => by injection e with e; rw [← e]; exact h.line (by decide)⟩
  | @num n d rt h1 h2 =>
    refine ⟨?_, nofun⟩
    unfold valD
    rw [if_pos rfl]
    refine (Bool.or_eq_true_iff).mpr (.inr ?_)
    have e1 : ratB (.int n) (.int d) = true := by
      show (decide (0 < d) && decide (gd n d = 1)) = true
      rw [decide_eq_true rt.pos, decide_eq_true rt.cop]
      rfl
    have e2 : limB (.int n) (.int d) = true := by
      show (decide ((if n < 0 then -n else n) ≤ lim) && decide (d ≤ lim)) = true
      rw [decide_eq_true (by unfold lim; split <;> omega), decide_eq_true (by unfold lim; omega)]
      rfl
    show numB (.int n) (.int d) = true
    unfold numB
    rw [e1, e2]
    rfl
theorem vks_val : ∀ {ks : List Str} {ds : List PyData} (i : Nat), Vks ks ds → badV ks ds i = none ∧ ∀ d ∈ ds, TxD d
  | _, _, _, .nil => ⟨rfl, nofun⟩
  | _, _, i, .cons (k := k) (d := d) (ks := ks) (ds := ds) h r => by
    obtain ⟨r1, r2⟩ := vks_val (i + 1) r
    refine ⟨?_, fun x hx => ?_⟩
    · show (if valD k d = true then badV ks ds (i + 1) else some i) = none
      rw [if_pos (vk_val h).1]
      exact r1
    · rcases List.mem_cons.mp hx with rfl | q
      · exact (vk_val h).2
      · exact r2 x q
theorem row_val {ks : List Str} {ds : List PyData} (h : Vks ks ds) : rowU ks (.tuple ds) = none ∧ ∀ d ∈ ds, TxD d := by
  obtain ⟨h1, h2⟩ := vks_val 0 h
  refine ⟨?_, h2⟩
  have : rowBad ks (.tuple ds) = none := by
    show (if ds.length = ks.length then (badV ks ds 0).map (fun i => V.int (i : Int)) else some .non) = none
    rw [if_pos (by have := h.len; omega), h1]
    rfl
  unfold rowU
  rw [this]
  rfl
theorem hand_val {es : List En} {au : Str} (h : nameB (.str au) = true) (l : es.length < 400) : handD es (.str au) = none := by
  unfold handD
  rw [if_neg (by rw [h]; decide), if_neg (by omega)]
theorem tx_au {au : Str} (h : Sh 12 au) : TxD (.str au) := fun z e => by injection e with e; rw [← e]; exact h.line (by decide)
def spAddV (C : Addr) : Sp := fun vs H Q _ => ∃ (a lg b : Addr) (R : RD) (au : Str) (ds : List PyData), vs = [.ref a, .ref b, .str au] ∧ IsRg C H a lg R ∧ OkR R ∧ R.es.length < 400 ∧ Dh H (.ref b) (.tuple ds) ∧ Vks (R.ps.map (·.2)) ds ∧ Sh 12 au ∧ nameB (.str au) = true ∧ Makes C H a lg R ⟨"add", usedD R.es, .tuple ds, au⟩ (.int (usedD R.es)) Q
def spCorV (C : Addr) : Sp := fun vs H Q _ => ∃ (a lg b : Addr) (R : RD) (n : Int) (au : Str) (ds : List PyData), vs = [.ref a, .int n, .ref b, .str au] ∧ IsRg C H a lg R ∧ OkR R ∧ R.es.length < 400 ∧ n ∈ (stD R.es).map (·.1) ∧ Dh H (.ref b) (.tuple ds) ∧ Vks (R.ps.map (·.2)) ds ∧ Sh 12 au ∧ nameB (.str au) = true ∧ Makes C H a lg R ⟨"correct", n, .tuple ds, au⟩ .non Q
def spStrV (C : Addr) : Sp := fun vs H Q _ => ∃ (a lg : Addr) (R : RD) (n : Int) (au : Str), vs = [.ref a, .int n, .str au] ∧ IsRg C H a lg R ∧ OkR R ∧ R.es.length < 400 ∧ n ∈ (stD R.es).map (·.1) ∧ Sh 12 au ∧ nameB (.str au) = true ∧ Makes C H a lg R ⟨"strike", n, .none, au⟩ .non Q
theorem num_val {es : List En} {n : Int} (h : n ∈ (stD es).map (·.1)) : numU es (.int n) (.int n) = none := by
  show (if decide (n ∈ (stD es).map (·.1)) = true then none else _) = none
  rw [decide_eq_true h]
  rfl
theorem add_quiet {C : Addr} {A : EA} : ∀ vs H Q E, spAddV C vs H Q E → spAddX C A vs H Q (fun _ _ _ => False) := by
  rintro vs H Q E ⟨a, lg, b, R, au, ds, rfl, hI, o, l4, hd, hv, sa, na, k⟩
  obtain ⟨r1, r2⟩ := row_val hv
  exact ⟨a, lg, R, _, _, _, _, rfl, hI, o, hd, fun ds' e => by injection e with e; rw [← e]; exact r2, .str au, tx_au sa, vd_none (by rw [r1]; exact hand_val na l4) k⟩
theorem cor_quiet {C : Addr} {A : EA} : ∀ vs H Q E, spCorV C vs H Q E → spCorX C A vs H Q (fun _ _ _ => False) := by
  rintro vs H Q E ⟨a, lg, b, R, n, au, ds, rfl, hI, o, l4, hn, hd, hv, sa, na, k⟩
  obtain ⟨r1, r2⟩ := row_val hv
  exact ⟨a, lg, R, _, _, _, _, _, _, rfl, hI, o, .int n, hd, fun ds' e => by injection e with e; rw [← e]; exact r2, .str au, tx_au sa, vd_none (by rw [num_val hn, r1]; exact hand_val na l4) (fun m e => by injection e with e; rw [← e]; exact k)⟩
theorem str_quiet {C : Addr} {A : EA} : ∀ vs H Q E, spStrV C vs H Q E → spStrX C A vs H Q (fun _ _ _ => False) := by
  rintro vs H Q E ⟨a, lg, R, n, au, rfl, hI, o, l4, hn, sa, na, k⟩
  exact ⟨a, lg, R, _, _, _, _, rfl, hI, o, .int n, .str au, tx_au sa, vd_none (by rw [num_val hn]; exact hand_val na l4) (fun m e => by injection e with e; rw [← e]; exact k)⟩
theorem OkR.ext {R : RD} (o : OkR R) {es : List En} (ok : OkEs (R.ps.map (·.2)) (R.es ++ es)) (ln : R.es.length + es.length ≤ 400) (i : Nat) : OkR { R with es := R.es ++ es.take i } := by
  refine ⟨o.nm, o.cols, ?_, ?_⟩
  · have := OkEs.take (R.es.length + i) ok
    rw [List.take_length_add_append] at this
    exact this
  · show (R.es ++ es.take i).length ≤ 410
    rw [List.length_append, List.length_take]
    omega
abbrev sDo : Stmt := top 41
def spDo (C : Addr) : Sp := fun vs H Q _ => ∃ (a lg L : Addr) (R : RD) (xs : List V) (es : List En), vs = [.ref a, .ref L] ∧ IsRg C H a lg R ∧ OkR R ∧ H L = some (.lst xs) ∧ L ≠ lg ∧ DhAll H xs (es.map En.d) ∧ OkEs (R.ps.map (·.2)) (R.es ++ es) ∧ R.es.length + es.length ≤ 400 ∧
  ∀ H', SameB lg H H' → IsRg C H' a lg { R with es := R.es ++ es } → Q .non H'
section
variable {P : Program} {w : World} {K : PySem.W.Frag} {mg : Str → Option Value} {base : Heap} {f C fI fW fA fR fS : Addr} {fd fdW fdA fdR fdS : FuncData} {gA gR gS : List Value → List Value → List Value}
abbrev nDo : List Str := ["_law_log", "_law_deeds_here", "_law_word", "_law_number", "_law_values_here", "_law_hand"]
theorem scDo : FnScope nDo ["_law_log", "_law_deeds_here"] (defScope sDo) := ⟨rfl, rfl, rfl, by decide +kernel, rfl, by decide +kernel, by decide +kernel⟩
theorem ok_do (F : Fun K "_law_do" "_law_do" sDo f fd) (G : RgF K mg C fI)
    (hA : Meth K C "add" fA) (GA : FnOk P w K mg base CX0 5 fA fdA ["self", "values", "author"] (spAddV C)) (bA : KBn K fdA ["self", "values", "author"] 2 ["author"] gA (fun vs zs => vs ++ zs))
    (hR : Meth K C "correct" fR) (GR : FnOk P w K mg base CX0 5 fR fdR ["self", "number", "values", "author"] (spCorV C)) (bR : KBn K fdR ["self", "number", "values", "author"] 3 ["author"] gR (fun vs zs => vs ++ zs))
    (hS : Meth K C "strike" fS) (GS : FnOk P w K mg base CX0 5 fS fdS ["self", "number", "author"] (spStrV C)) (bS : KBn K fdS ["self", "number", "author"] 2 ["author"] gS (fun vs zs => vs ++ zs)) : FnOk P w K mg base CX0 6 f fd ["_law_log", "_law_deeds_here"] (spDo C) := by
  refine F.ok scDo (fun vs H Q E h => ?_) (fun cdv A outer s H vs Q E hr h => ?_)
  · obtain ⟨a, lg, L, R, xs, es, rfl, _⟩ := h
    rfl
  · obtain ⟨a, lg, L, R, xs, es, rfl, hI, o, hL, nL, hd, ok, ln, k⟩ := h
    refine ⟨_, pss_cons (ps_for PassesOwn.never rfl (pi_list (pv 1)) (pg_tup rfl (pgs_cons (pg_name (i := 2) scDo.nd rfl (.inl rfl)) (pgs_cons (pg_name (i := 3) scDo.nd rfl (.inl rfl)) (pgs_cons (pg_name (i := 4) scDo.nd rfl (.inl rfl)) (pgs_cons (pg_name (i := 5) scDo.nd rfl (.inl rfl)) pgs_nil)))))
        (pss_one (ps_if (pt_cmpR op_eq (pv 2) pe_str (nomark _))
          (pss_one (ps_expr (pe_methK (pv 0) G.cls hA GA hr bA pass0 (pa_cons (pv 4) pa_nil) (pk_cons (pv 5) pk_nil))))
          (pss_one (ps_if (pt_cmpR op_eq (pv 2) pe_str (nomark _))
            (pss_one (ps_expr (pe_methK (pv 0) G.cls hR GR hr bR pass0 (pa_cons (pv 3) (pa_cons (pv 4) pa_nil)) (pk_cons (pv 5) pk_nil))))
            (pss_one (ps_expr (pe_methK (pv 0) G.cls hS GS hr bS pass0 (pa_cons (pv 3) pa_nil) (pk_cons (pv 5) pk_nil)))))))))
      pss_nil, ?_⟩
    have lx : xs.length = es.length := by rw [hd.len, List.length_map]
    obtain ⟨ys0, hl0⟩ := hI.list
    have sT : ∀ {H'}, SameB lg H H' → SameT H H' := fun s => SameT.at hl0 (fun _ => nofun) s
    have nd : noLs (es.map En.d) = true := by
      have := ok.noLd
      rw [List.map_append, noLs_app, Bool.and_eq_true_iff] at this
      exact this.2
    refine ⟨_, rfl, L, rfl, ⟨_, SqL.of hL⟩, for_list (K := K) (a := L) (xs := xs) (fun i σ H' => ∃ (x2 x3 x4 x5 : Option V), σ = [some (.ref a), some (.ref L), x2, x3, x4, x5] ∧ SameB lg H H' ∧ IsRg C H' a lg { R with es := R.es ++ es.take i })
      ⟨_, _, _, _, rfl, SameB.refl _ _, by rw [List.take_zero, List.append_nil]; exact hI⟩ (fun i σ H' _ p => by obtain ⟨_, _, _, _, _, s', _⟩ := p; exact SqL.of (s' _ _ nL hL)) ?_ ?_⟩
    · rintro i x σ H1 hx ⟨x2, x3, x4, x5, rfl, s1, hI1⟩
      obtain ⟨e, he, de⟩ := en_get hd hx
      have og : OkEn (R.ps.map (·.2)) (R.es ++ es.take i) e := by
        have := ok.at (i := R.es.length + i) (e := e) (by rw [List.getElem?_append_right (by omega), Nat.add_sub_cancel_left]; exact he)
        rw [List.take_length_add_append] at this
        exact this
      have oi := o.ext ok ln i
      have l4 : (R.es ++ es.take i).length < 400 := by
        have := (List.getElem?_eq_some_iff.mp he).1
        rw [List.length_append, List.length_take]
        omega
      have ek : es.take (i + 1) = es.take i ++ [e] := by rw [List.take_add_one, he]; rfl
      have dn : noL e.d = true := og.noLd
      obtain ⟨b, v, rfl, eb, dv⟩ := en_of (de.t (sT s1) dn)
      obtain ⟨w', n', vals', au'⟩ := e
      obtain ⟨dx, cv, xs', ys', h1, h2, h3, h4, h5⟩ := id hI1
      refine ⟨b, _, rfl, SqT.of eb, rfl, _, _, rfl, _, _, rfl, _, _, rfl, _, _, rfl, rfl, ?_⟩
      have fin : ∀ {H2 : Hp}, SameB lg H1 H2 → IsRg C H2 a lg { R with es := (R.es ++ es.take i) ++ [⟨w', n', vals', au'⟩] } → ∀ (y2 y3 y4 y5 : Option V), ∃ (x2 x3 x4 x5 : Option V), [some (V.ref a), some (V.ref L), y2, y3, y4, y5] = [some (.ref a), some (.ref L), x2, x3, x4, x5] ∧ SameB lg H H2 ∧ IsRg C H2 a lg { R with es := R.es ++ es.take (i + 1) } := fun s2 hI2 y2 y3 y4 y5 => ⟨y2, y3, y4, y5, rfl, s1.trans s2, by rw [ek, ← List.append_assoc]; exact hI2⟩
      rcases og.go with ⟨hw, hn, ds, hv, vk⟩ | ⟨hw, hn, ds, hv, vk⟩ | ⟨hw, hn, hv⟩
      · obtain rfl : w' = "add" := hw
        obtain rfl : n' = _ := hn
        obtain rfl : vals' = _ := hv
        refine ⟨_, rfl, rfl, _, rfl, iteT ?_⟩
        cases dv with
        | @tup v _ _ eb' dz =>
        exact ⟨_, rfl, a, dx, _, rfl, h1, rfl, _, rfl, _, rfl, rfl, rfl, a, lg, v, _, au', ds, rfl, hI1, oi, l4, .tup eb' dz, vk, og.au.1, og.au.2, fun H2 s2 hI2 => fin s2 hI2 _ _ _ _⟩
      · obtain rfl : w' = "correct" := hw
        obtain rfl : vals' = _ := hv
        refine ⟨_, rfl, rfl, _, rfl, iteF ⟨_, rfl, rfl, _, rfl, iteT ?_⟩⟩
        cases dv with
        | @tup v _ _ eb' dz =>
        exact ⟨_, rfl, a, dx, _, rfl, h1, rfl, _, rfl, _, rfl, _, rfl, rfl, rfl, a, lg, v, _, n', au', ds, rfl, hI1, oi, l4, hn, .tup eb' dz, vk, og.au.1, og.au.2, fun H2 s2 hI2 => fin s2 hI2 _ _ _ _⟩
      · obtain rfl : w' = "strike" := hw
        obtain rfl : vals' = _ := hv
        refine ⟨_, rfl, rfl, _, rfl, iteF ⟨_, rfl, rfl, _, rfl, iteF ?_⟩⟩
        exact ⟨_, rfl, a, dx, _, rfl, h1, rfl, _, rfl, _, rfl, rfl, rfl, a, lg, _, n', au', rfl, hI1, oi, l4, hn, og.au.1, og.au.2, fun H2 s2 hI2 => fin s2 hI2 _ _ _ _⟩
    · rintro σ H1 ⟨x2, x3, x4, x5, rfl, s1, hI1⟩
      rw [lx, List.take_length] at hI1
      exact k H1 s1 hI1
end
end K07
set_option Elab.async false
set_option linter.all false
set_option maxRecDepth 100000
set_option maxHeartbeats 4000000
namespace K07
open PySem PySem.Spec PyProof.Rows L2 Lc
abbrev sLwh : Stmt := top 43
section
variable {P : Program} {w : World} {K : PySem.W.Frag} {mg : Str → Option Value} {base : Heap} {f : Addr} {fd : FuncData}
theorem scLwh : FnScope ["_law_value_here"] ["_law_value_here"] (defScope sLwh) := ⟨rfl, rfl, rfl, by decide +kernel, rfl, by decide +kernel, by decide +kernel⟩
theorem ok_lwh (F : Fun K "_law_whole" "_law_whole" sLwh f fd) (T : Bt mg) : FnOk P w K mg base CX0 1 f fd ["_law_value_here"] spWhole := by
  refine F.ok scLwh (fun vs H Q E h => ?_) (fun cdv A outer s H vs Q E hr h => ?_)
  · obtain ⟨v, t, rfl, _⟩ := h
    rfl
  · obtain ⟨v, t, rfl, ty, k⟩ := h
    refine ⟨_, pss_one (ps_ret (pe_and (pe_callB call_isi (by rfl) T.isi boot_isinstance (pa_cons (pv 0) (pa_cons (pe_bltn (v := .ty "int") (by rfl) T.int boot_int rfl) pa_nil)))
      (pe_one (pe_not (pe_callB call_isi (by rfl) T.isi boot_isinstance (pa_cons (pv 0) (pa_cons (pe_bltn (v := .ty "bool") (by rfl) T.bool boot_bool rfl) pa_nil))))))), ?_⟩
    refine ⟨_, rfl, v, .ty "int", _, _, _, rfl, .ty "int", ty.x, kit_int ty.mem, _, rfl, ?_⟩
    refine ite2 (fun hi => ?_) (fun hi => ?_)
    · refine ⟨_, rfl, v, .ty "bool", _, _, _, rfl, .ty "bool", ty.x, kit_bool ty.mem, _, rfl, ?_⟩
      have e : (!(t == "bool")) = (t == "int") := by cases ty <;> first | rfl | exact absurd hi (by decide)
      show Q (.bl (!(t == "bool"))) H
      rw [e]
      exact k
    · have e : false = (t == "int") := by cases ty <;> first | rfl | exact absurd rfl hi
      show Q (.bl false) H
      rw [e]
      exact k
end
abbrev sLis : Stmt := top 42
section
variable {P : Program} {w : World} {K : PySem.W.Frag} {mg : Str → Option Value} {base : Heap} {f : Addr} {fd : FuncData}
theorem scLis : FnScope ["_law_value_here", "_law_letters", "_law_sign"] ["_law_value_here"] (defScope sLis) := ⟨rfl, rfl, rfl, by decide +kernel, rfl, by decide +kernel, by decide +kernel⟩
theorem ok_lis (F : Fun K "_law_is_name" "_law_is_name" sLis f fd) (T : Bt mg) : FnOk P w K mg base CX0 1 f fd ["_law_value_here"] spName := by
  refine F.ok scLis (fun vs H Q E h => ?_) (fun cdv A outer s H vs Q E hr h => ?_)
  · obtain ⟨v, t, rfl, _⟩ := h
    rfl
  · obtain ⟨v, t, rfl, ty, hl, k⟩ := h
    refine ⟨_, pss_cons (ps_set (i := 1) scLis.nd rfl (Or.inr rfl) pe_str) (pss_cons (ps_if (PW.pt (pw_or (pt_not (pt_val (pe_callB call_isi (by rfl) T.isi boot_isinstance (pa_cons (pv 0) (pa_cons (pe_bltn (v := .ty "str") (by rfl) T.str boot_str rfl) pa_nil)))))
        (pw_or1 (pt_not (pt_chain op_le op_le pe_int (pe_callB call_len_str (by rfl) T.len PySem.boot_len (pa_cons (pv 0) pa_nil)) pe_int))))) (pss_one (ps_ret pe_bl)) pss_nil)
      (pss_one (ps_ret (pe_and (pe_cmpR op_in_sign (pe_ix ix_str (pv 0) pe_int (fun _ _ => rfl)) (pe_slice sl_str (pv 1) po_none (po_some pe_int)) (by rfl))
        (pe_one (pe_callB (cr_all rfl) (by rfl) T.all (by decide +kernel) (pa_cons (pe_lc (own := [("_law_sign", 2)]) (g := gName 2) (tt := tYes) (te := tOp rInS (tVar 2) (tVar 1)) (by rfl) scLis.nd (pi_str (pv 0)) (blkOk_by (own := [("_law_sign", 2)]) (N := ["_law_value_here", "_law_letters", "_law_sign"]) (sc := defScope sLis) (by decide +kernel))
          (fun _ _ _ _ _ => pg_name (i := 2) scLis.nd rfl (Or.inl rfl)) (fun _ _ _ _ _ => pts_nil) (fun _ _ _ _ _ => pe_cmpR op_in_sign (pv 2) (pv 1) (by rfl))) pa_nil))))))), ?_⟩
    refine ⟨_, rfl, v, .ty "str", _, _, _, rfl, .ty "str", ty.x, kit_str ty.mem, _, rfl, ?_⟩
    by_cases ts : t = "str"
    · obtain ⟨x, rfl⟩ := ty.isStr ts
      subst ts
      have hx := hl x rfl
      refine iteF ⟨_, rfl, x, rfl, hx, _, _, rfl, rfl, _, rfl, ?_⟩
      rw [lenL x]
      cases e : x.cps.toList with
      | nil =>
        rw [decide_eq_false (by simp)]
        have k0 := k H (Same.refl H)
        rw [name_nil e] at k0
        exact iteF ⟨_, rfl, iteT k0⟩
      | cons c r =>
        rw [decide_eq_true (by simp only [List.length_cons]; omega)]
        refine iteT ⟨_, _, rfl, rfl, _, rfl, ?_⟩
        rw [← e]
        by_cases l12 : x.cps.toList.length ≤ 12
        · rw [decide_eq_true (by omega)]
          refine iteF ?_
          have ni := name_is e l12
          refine ⟨_, rfl, x, 0, c, rfl, rfl, hx, (show atI x.cps.toList ((0 : Nat) : Int) = some c from atI_nat (by rw [e]; rfl)), _, rfl, _, rfl, signs, rfl, by rw [lenL, signs_len]; decide, c, _, rfl, rfl, _, rfl, ?_⟩
          rw [cut26]
          show if inL c = true then _ else _
          refine ite2 (fun z => ?_) (fun z => ?_)
          · refine ⟨_, rfl, x, rfl, fun D hD => lc_it walk_str (fun i H' => H' = upd H D (.lst ((x.cps.toList.take i).map fun c => .bl (inS c)))) rfl (fun _ _ _ _ => True.intro) ?_ ?_⟩
            · rintro i y H' H'' hi rfl ⟨rfl, c', hc', rfl⟩
              refine ⟨rfl, ?_⟩
              change tOp rInS (tVar 2) (tVar 1) _ _ _
              refine ⟨_, rfl, _, rfl, c', signs, rfl, rfl, _, upd_same, ?_, ?_⟩
              · rw [List.length_map, List.length_take]
                exact Nat.lt_of_le_of_lt (Nat.min_le_right _ _) (Nat.lt_of_le_of_lt l12 (by decide))
              · rw [upd_upd]
                exact congrArg (fun z => upd H D (.lst z)) (grow hc' inS)
            · rintro H' rfl
              have ez : x.cps.size = x.cps.toList.length := by simp
              refine ⟨D, x.cps.toList.map inS, rfl, SqL.of (by rw [upd_same, ez, List.take_length, List.map_map]; rfl), ?_⟩
              have k1 := k _ (Same.upd (o := .lst ((x.cps.toList.take x.cps.size).map fun c => .bl (inS c))) hD)
              rw [ni, z, ← e] at k1
              rw [List.all_map]
              exact k1
          · have k0 := k H (Same.refl H)
            rw [ni, show inL c = false by simpa using z] at k0
            exact k0
        · rw [decide_eq_false (by omega)]
          have k0 := k H (Same.refl H)
          rw [name_long l12] at k0
          exact iteT k0
    · have z : (t == "str") = false := by simpa using ts
      rw [z]
      have k0 := k H (Same.refl H)
      have nb : nameB v = false := by cases ty <;> first | rfl | exact absurd rfl ts
      rw [nb] at k0
      exact iteT (iteT k0)
end
abbrev sOdd : Stmt := top 45
/-- whatever is done to the tape at t, v is d -/
def DhB (t : Addr) (H : Hp) (v : V) (d : PyData) : Prop := ∀ H', SameB t H H' → Dh H' v d
theorem DhB.b {t : Addr} {H H' : Hp} {v : V} {d : PyData} (h : DhB t H v d) (s : SameB t H H') : DhB t H' v d := fun H2 s2 => h H2 (s.trans s2)
theorem DhB.now {t : Addr} {H : Hp} {v : V} {d : PyData} (h : DhB t H v d) : Dh H v d := h H (SameB.refl t H)
/-- small, a text of some length -/
structure Cm (d : PyData) : Prop where
  tm : Tm 1 21000 d
  st : ∀ z, d = .str z → z.length ≤ sizeLine
  ca : d.canLay0 = true
def spOdd : Sp := fun vs H Q _ => ∃ t l : Addr, vs = [.ref t] ∧ TapeL l H t ∧ ∀ (v : V) (d : PyData) (H' : Hp), DhF H H' v d → Cm d → (∀ x y, d ≠ .tuple [x, y]) ∧ d ≠ .none → TapeL l H' t → SameB t H H' → Q v H'
theorem sh_line {n : Nat} {x : Str} (h : Sh n x) (l : n ≤ 1000) : x.length ≤ sizeLine := by
  rw [lenL]
  exact Nat.le_trans h.len (Nat.le_trans l (by decide))
theorem tm_str {s : Str} (h : Sh 100 s) : Tm 0 20000 (.str s) := tm_fl (fl_str h (by decide))
theorem tm_up {d : PyData} (h : Tm 0 20000 d) : Tm 1 21000 d := h.mono (by decide) (by decide)
theorem cm_str {s : Str} (h : Sh 100 s) : Cm (.str s) := ⟨tm_up (tm_str h), fun z e => by injection e with e; rw [← e]; exact sh_line h (by decide), can_str h⟩
section
variable {P : Program} {w : World} {K : PySem.W.Frag} {mg : Str → Option Value} {base : Heap} {f fD : Addr} {fd fdD : FuncData}
theorem scOdd : FnScope ["_law_tape_here", "_law_some"] ["_law_tape_here"] (defScope sOdd) := ⟨rfl, rfl, rfl, by decide +kernel, rfl, by decide +kernel, by decide +kernel⟩
theorem ok_odd (F : Fun K "_law_odd" "_law_odd" sOdd f fd) (GD : FnOk P w K mg base CX0 1 fD fdD ["_law_tape_here", "_law_many"] spDrawL) (mD : mg "_law_draw" = some (.ref fD)) (kD : PySem.W.keepIn K (.ref fD) = true) (bD : Binds K fdD ["_law_tape_here", "_law_many"] []) :
    FnOk P w K mg base CX0 2 f fd ["_law_tape_here"] spOdd := by
  refine F.ok scOdd (fun vs H Q E h => ?_) (fun cdv A outer s H vs Q E hr h => ?_)
  · obtain ⟨t, l, rfl, _⟩ := h
    rfl
  · obtain ⟨t, l, rfl, hT, k⟩ := h
    refine ⟨_, pss_cons (ps_set (i := 1) scOdd.nd rfl (Or.inl rfl) (pe_lst (pa_cons pe_bl (pa_cons pe_bl (pa_cons (pe_un un_neg pe_int) (pa_cons pe_str (pa_cons pe_str (pa_cons (pe_tup pa_nil) (pa_cons (pe_lst (pa_cons pe_int pa_nil)) (pa_cons (pe_tup (pa_cons pe_str pa_nil)) (pa_cons (pe_op op_pow pe_int pe_int) (pa_cons pe_str (pa_cons pe_str (pa_cons pe_int pa_nil))))))))))))))
      (pss_one (ps_ret (pe_ix ix_list (pv 1) (pe_call GD hr (by rfl) mD kD bD .nil pass0 (pa_cons (pv 0) (pa_cons pe_int pa_nil))) (fun _ _ => rfl)))), ?_⟩
    have o1 : 1 ≤ sizeLine := by decide
    refine ⟨_, rfl, by show 0 ≤ sizeLine; decide, fun c1 h1 => ⟨o1, fun c2 h2 => ⟨o1, fun c3 h3 => ?_⟩⟩⟩
    refine ⟨_, _, rfl, rfl, ⟨by decide, by decide, by decide⟩, by show 12 ≤ sizeLine; decide, fun L hL => ?_⟩
    have y1 := Same.upd (o := .tup []) h1
    have y2 := Same.upd (o := .lst [.int 0]) h2
    have y3 := Same.upd (o := .tup [.str "a"]) h3
    have y5 := Same.upd (o := .lst [.bl true, .bl false, .int (-1), .str "0", .str "", .ref c1, .ref c2, .ref c3, .int (10 ^ 21), .str "Bo", .str "a b", .int 401]) hL
    have x3 := y3.trans y5
    have x2 := y2.trans x3
    have x1 := y1.trans x2
    have n1 := hT.tape.ne h1
    have n2 := (hT.same y1).tape.ne h2
    have n3 := (hT.same (y1.trans y2)).tape.ne h3
    have g2 := Same.gone y1 h2
    have g3 := Same.gone (y1.trans y2) h3
    have nL := (hT.same (y1.trans (y2.trans y3))).tape.ne hL
    refine ⟨_, rfl, _, rfl, t, l, _, rfl, hT.same x1, by decide, big1000 (by decide) (by decide), fun k2 H9 u2 w2 T9 S9 => ?_⟩
    have sa : Sh 100 ("a" : Str) := ⟨by decide +kernel, by decide +kernel⟩
    have one : ∀ d ∈ [PyData.str "a"], Tm 0 20000 d := fun d hd => by rw [List.mem_singleton.mp hd]; exact tm_str sa
    have ti : ∀ i : Int, i.natAbs ≤ 10000000000000000000000000000000000000000 → Tm 0 20000 (.int i) := fun i hi => (tm_int hi).mono (by decide) (by decide)
    have one0 : ∀ d ∈ [PyData.int 0], Tm 0 20000 d := fun d hd => by rw [List.mem_singleton.mp hd]; exact ti 0 (by decide)
    have all : ∀ v ∈ ([.bl true, .bl false, .int (-1), .str "0", .str "", .ref c1, .ref c2, .ref c3, .int (10 ^ 21), .str "Bo", .str "a b", .int 401] : List V), ∃ d, DhF H H9 v d ∧ Cm d ∧ (∀ x y, d ≠ .tuple [x, y]) ∧ d ≠ .none := by
      intro v hv
      simp only [List.mem_cons, List.not_mem_nil, or_false] at hv
      rcases hv with rfl | rfl | rfl | rfl | rfl | rfl | rfl | rfl | rfl | rfl | rfl | rfl
      · exact ⟨_, fun _ _ => .bl true, ⟨tm_up (tm_fl (fl_bl true)), nofun, rfl⟩, nofun, nofun⟩
      · exact ⟨_, fun _ _ => .bl false, ⟨tm_up (tm_fl (fl_bl false)), nofun, rfl⟩, nofun, nofun⟩
      · exact ⟨_, fun _ _ => .int _, ⟨tm_up (ti _ (by decide)), nofun, rfl⟩, nofun, nofun⟩
      · exact ⟨_, fun _ _ => .str _, cm_str ⟨by decide +kernel, by decide +kernel⟩, nofun, nofun⟩
      · exact ⟨_, fun _ _ => .str _, cm_str ⟨by decide +kernel, by decide +kernel⟩, nofun, nofun⟩
      · exact ⟨_, fun H' s' => .tup (s' _ _ h1 (S9 _ _ n1 (x2 _ _ upd_same))) .nil, ⟨(tm_tup (k := 0) (n := 20000) (ds := []) (fun _ h => nomatch h)).mono (by decide) (by decide), nofun, by decide +kernel⟩, nofun, nofun⟩
      · exact ⟨_, fun H' s' => .lst (s' _ _ g2 (S9 _ _ n2 (x3 _ _ upd_same))) (.cons (.int 0) .nil), ⟨(tm_lst one0).mono (by decide) (by decide), nofun, by decide +kernel⟩, nofun, nofun⟩
      · exact ⟨_, fun H' s' => .tup (s' _ _ g3 (S9 _ _ n3 (y5 _ _ upd_same))) (.cons (.str _) .nil), ⟨(tm_tup one).mono (by decide) (by decide), nofun, by decide +kernel⟩, nofun, nofun⟩
      · exact ⟨_, fun _ _ => .int _, ⟨tm_up (ti _ (by decide)), nofun, rfl⟩, nofun, nofun⟩
      · exact ⟨_, fun _ _ => .str _, cm_str ⟨by decide +kernel, by decide +kernel⟩, nofun, nofun⟩
      · exact ⟨_, fun _ _ => .str _, cm_str ⟨by decide +kernel, by decide +kernel⟩, nofun, nofun⟩
      · exact ⟨_, fun _ _ => .int _, ⟨tm_up (ti _ (by decide)), nofun, rfl⟩, nofun, nofun⟩
    have hk : k2.toNat < ([.bl true, .bl false, .int (-1), .str "0", .str "", .ref c1, .ref c2, .ref c3, .int (10 ^ 21), .str "Bo", .str "a b", .int 401] : List V).length := by show k2.toNat < 12; omega
    obtain ⟨d, hd, td, nd⟩ := all _ (List.getElem_mem hk)
    exact ⟨L, _, _, _, rfl, rfl, SqL.of (S9 _ _ nL upd_same), at_of (j := k2.toNat) (by omega) (List.getElem?_eq_getElem hk), k _ d H9 hd td nd T9 ((Same.b t x1).trans S9)⟩
end
end K07
set_option Elab.async false
set_option linter.all false
set_option maxRecDepth 100000
set_option maxHeartbeats 4000000
namespace K07
open PySem PySem.Spec PyProof.Rows L2 Lc
theorem b141 {z : Int} (h1 : -100000000000000000000000000000000000000000 ≤ z) (h2 : z ≤ 100000000000000000000000000000000000000000) : z.natAbs < 2 ^ 140 := by
  have : (2 : Nat) ^ 140 = 1393796574908163946345982392040522594123776 := by decide
  omega
abbrev sLiv : Stmt := top 46
def spLiv : Sp := fun vs H Q _ => ∃ (v : V) (kind : Str) (d : PyData), vs = [v, .str kind] ∧ Dh H v d ∧ TxD d ∧ KindS kind ∧ ∀ H', Same H H' → Q (.bl (valD kind d)) H'
section
variable {P : Program} {w : World} {K : PySem.W.Frag} {mg : Str → Option Value} {base : Heap} {f fW fL fN : Addr} {fd fdW fdL fdN : FuncData}
theorem low_eqv {n d : Int} (h : 0 < d) : PyData.eqv (.tuple [.int (lowN n d), .int (lowD n d)]) (.tuple [.int n, .int d]) = decide (gd n d = 1) := by
  have m := low_mul (n := n) (d := d) (by omega)
  have g := gd_pos (a := n) (b := d) (by omega)
  by_cases z : gd n d = 1
  · rw [decide_eq_true z]
    rw [z, Int.mul_one, Int.mul_one] at m
    rw [m.1, m.2]
    simp [PyData.eqv, PyData.eqvAll]
  · rw [decide_eq_false z]
    have ne : lowD n d ≠ d := fun e => by
      rw [e] at m
      have : d * gd n d = d * 1 := by rw [Int.mul_one]; exact m.2
      exact z (Int.eq_of_mul_eq_mul_left (by omega) this)
    simp [PyData.eqv, PyData.eqvAll, ne]
theorem scLiv : FnScope ["_law_value_here", "_law_kind"] ["_law_value_here", "_law_kind"] (defScope sLiv) := ⟨rfl, rfl, rfl, by decide +kernel, rfl, by decide +kernel, by decide +kernel⟩
theorem ok_liv (F : Fun K "_law_is_value" "_law_is_value" sLiv f fd) (T : Bt mg) (GW : FnOk P w K mg base CX0 1 fW fdW ["_law_value_here"] spWhole) (mW : mg "_law_whole" = some (.ref fW)) (kW : PySem.W.keepIn K (.ref fW) = true) (bW : Binds K fdW ["_law_value_here"] [])
    (GN : FnOk P w K mg base CX0 1 fN fdN ["_law_value_here"] spName) (mN : mg "_law_is_name" = some (.ref fN)) (kN : PySem.W.keepIn K (.ref fN) = true) (bN : Binds K fdN ["_law_value_here"] [])
    (GL : FnOk P w K mg base CX0 1 fL fdL ["_law_n", "_law_d"] spLowest) (mL : mg "_law_lowest" = some (.ref fL)) (kL : PySem.W.keepIn K (.ref fL) = true) (bL : Binds K fdL ["_law_n", "_law_d"] []) : FnOk P w K mg base CX0 2 f fd ["_law_value_here", "_law_kind"] spLiv := by
  refine F.ok scLiv (fun vs H Q E h => ?_) (fun cdv A outer s H vs Q E hr h => ?_)
  · obtain ⟨v, kd, d, rfl, _⟩ := h
    rfl
  · obtain ⟨v, kd, dt, rfl, hdt, tx, kk, k⟩ := h
    refine ⟨_, pss_cons (ps_if (pt_cmpR op_isN (pv 0) pe_non (nomark _)) (pss_one (ps_ret pe_bl)) pss_nil)
      (pss_cons (ps_if (pt_cmpR op_eq (pv 1) pe_str (nomark _)) (pss_one (ps_ret (pe_callB call_isi (by rfl) T.isi boot_isinstance (pa_cons (pv 0) (pa_cons (pe_bltn (v := .ty "bool") (by rfl) T.bool boot_bool rfl) pa_nil))))) pss_nil)
      (pss_cons (ps_if (pt_cmpR op_eq (pv 1) pe_str (nomark _)) (pss_one (ps_ret (pe_call GN hr (by rfl) mN kN bN .nil pass0 (pa_cons (pv 0) pa_nil)))) pss_nil)
      (pss_cons (ps_if (PW.pt (pw_or (pt_not (pt_val (pe_callB call_isi (by rfl) T.isi boot_isinstance (pa_cons (pv 0) (pa_cons (pe_bltn (v := .ty "tuple") (by rfl) T.tuple boot_tuple rfl) pa_nil)))))
        (pw_or (pt_cmpR op_ne (pe_callB call_len_seq (by rfl) T.len PySem.boot_len (pa_cons (pv 0) pa_nil)) pe_int (nomark _)) (pw_or (pt_not (pt_val (pe_call GW hr (by rfl) mW kW bW .nil pass0 (pa_cons (pe_ix ix_tup (pv 0) pe_int (fun _ _ => rfl)) pa_nil)))) (pw_or1 (pt_not (pt_val (pe_call GW hr (by rfl) mW kW bW .nil pass0 (pa_cons (pe_ix ix_tup (pv 0) pe_int (fun _ _ => rfl)) pa_nil))))))))) (pss_one (ps_ret pe_bl)) pss_nil)
      (pss_cons (ps_if (PW.pt (pw_or (pt_cmpR op_lt (pe_ix ix_tup (pv 0) pe_int (fun _ _ => rfl)) pe_int (nomark _)) (pw_or (pt_cmpR op_gt (pe_callB call_abs (by rfl) T.abs boot_abs (pa_cons (pe_ix ix_tup (pv 0) pe_int (fun _ _ => rfl)) pa_nil)) (pe_op op_pow pe_int pe_int) (nomark _)) (pw_or1 (pt_cmpR op_gt (pe_ix ix_tup (pv 0) pe_int (fun _ _ => rfl)) (pe_op op_pow pe_int pe_int) (nomark _)))))) (pss_one (ps_ret pe_bl)) pss_nil)
      (pss_one (ps_ret (pe_cmpR (op_eqD hr.units) (pe_call GL hr (by rfl) mL kL bL .nil pass0 (pa_cons (pe_ix ix_tup (pv 0) pe_int (fun _ _ => rfl)) (pa_cons (pe_ix ix_tup (pv 0) pe_int (fun _ _ => rfl)) pa_nil))) (pv 0) (nomark _)))))))), ?_⟩
    obtain ⟨b, th, vb⟩ := thing_of hdt tx
    have k' : ∀ H', Same H H' → Q (.bl (valB kd v b)) H' := fun H' s' => by rw [vb]; exact k H' s'
    clear k
    refine ⟨_, rfl, rfl, _, rfl, ?_⟩
    by_cases z : v = .non
    · rw [decide_eq_true z]
      have k0 := k' H (Same.refl H)
      have e : valB kd v b = true := by unfold valB; rw [decide_eq_true z]; rfl
      rw [e] at k0
      exact iteT k0
    rw [decide_eq_false z]
    have e0 : valB kd v b = (if kd = "number" then b else if kd = "word" then nameB v else isB v) := by unfold valB; rw [decide_eq_false z]; rfl
    refine iteF ⟨_, rfl, rfl, _, rfl, ?_⟩
    rw [dec_str]
    rcases kk with rfl | rfl | rfl
    · rw [if_pos rfl] at e0
      rw [e0] at k'
      have k := k'
      have k0 := k H (Same.refl H)
      rw [decide_eq_false (show ("number" : Str) ≠ "flag" by decide +kernel)]
      refine iteF ⟨_, rfl, rfl, _, rfl, ?_⟩
      rw [dec_str, decide_eq_false (show ("number" : Str) ≠ "word" by decide +kernel)]
      refine iteF ?_
      cases th with
      | @other _ t ty n l =>
        refine ⟨_, rfl, v, .ty "tuple", _, _, _, rfl, .ty "tuple", ty.x, kit_tuple ty.mem, _, rfl, ?_⟩
        have e : (t == "tuple") = false := by simpa using n
        rw [e]
        exact iteT (iteT k0)
      | @len a xs e n =>
        refine ⟨_, rfl, .ref a, .ty "tuple", _, _, _, rfl, .ty "tuple", (TyN.tup e).x, kit_tuple (by decide), _, rfl, ?_⟩
        refine iteF ⟨_, rfl, a, xs, rfl, .inr (SqT.of e), rfl, _, rfl, ?_⟩
        have z : decide (V.int (xs.length : Int) = V.int 2) = false := decide_eq_false (fun q => n (by injection q with q; omega))
        rw [z]
        exact iteT (iteT k0)
      | @pair a x y tx ty e hx hy =>
      refine ⟨_, rfl, .ref a, .ty "tuple", _, _, _, rfl, .ty "tuple", (TyN.tup e).x, kit_tuple (by decide), _, rfl, ?_⟩
      refine iteF ⟨_, rfl, a, _, rfl, .inr (SqT.of e), rfl, _, rfl, ?_⟩
      refine iteF ?_
      refine ⟨_, rfl, a, _, _, _, rfl, rfl, SqT.of e, rfl, x, tx, rfl, hx, _, rfl, ?_⟩
      have pw : CPow 10 40 := ⟨by decide, by decide, by decide⟩
      by_cases ix : tx = "int"
      · obtain ⟨n, rfl⟩ := hx.isInt ix
        subst ix
        refine iteF ⟨_, rfl, a, _, _, _, rfl, rfl, SqT.of e, rfl, y, ty, rfl, hy, _, rfl, ?_⟩
        by_cases iy : ty = "int"
        · obtain ⟨d, rfl⟩ := hy.isInt iy
          subst iy
          have nb : numB (.int n) (.int d) = ((decide (0 < d) && decide (gd n d = 1)) && (decide ((if n < 0 then -n else n) ≤ lim) && decide (d ≤ lim))) := rfl
          refine iteF ⟨_, rfl, a, _, _, _, rfl, rfl, SqT.of e, rfl, _, _, rfl, rfl, _, rfl, ?_⟩
          by_cases hd : d < 1
          · rw [decide_eq_true hd]
            rw [nb, decide_eq_false (by omega : ¬ 0 < d)] at k0
            exact iteT (iteT k0)
          · rw [decide_eq_false hd]
            have dp : 0 < d := by omega
            rw [nb, decide_eq_true dp] at k0 k
            refine iteF ⟨_, rfl, a, _, _, _, rfl, rfl, SqT.of e, rfl, n, rfl, _, _, rfl, rfl, pw, _, _, rfl, rfl, _, rfl, ?_⟩
            rw [p40]
            by_cases l1 : (if n < 0 then -n else n) ≤ lim
            · rw [decide_eq_false (show ¬ 10000000000000000000000000000000000000000 < (if n < 0 then -n else n) from Int.not_lt.mpr l1)]
              refine iteF ⟨_, rfl, a, _, _, _, rfl, rfl, SqT.of e, rfl, _, _, rfl, rfl, pw, _, _, rfl, rfl, _, rfl, ?_⟩
              rw [p40]
              rw [decide_eq_true l1] at k0 k
              by_cases l2 : d ≤ lim
              · rw [decide_eq_false (show ¬ 10000000000000000000000000000000000000000 < d from Int.not_lt.mpr l2)]
                rw [decide_eq_true l2] at k
                refine iteF ?_
                refine ⟨_, rfl, a, _, _, _, rfl, rfl, SqT.of e, rfl, _, rfl, a, _, _, _, rfl, rfl, SqT.of e, rfl, n, d, rfl, dp, ?_, fun r hr => ?_⟩
                · have l3 : d ≤ 10000000000000000000000000000000000000000 := l2
                  exact Nat.lt_of_lt_of_le (b141 (z := d) (by omega) (by omega)) (Nat.pow_le_pow_right (by decide) (by decide))
                · have z := Same.upd (o := .tup [.int (lowN n d), .int (lowD n d)]) hr
                  refine ⟨_, rfl, _, _, .tup (SqT.of upd_same) (.cons (.int _) (.cons (.int _) .nil)), .tup (SqT.of (z _ _ e)) (.cons (.int _) (.cons (.int _) .nil)), rfl, rfl, ?_⟩
                  rw [low_eqv dp]
                  have k1 := k _ z
                  rw [show (true && decide (gd n d = 1) && (true && true)) = decide (gd n d = 1) by simp] at k1
                  exact k1
              · rw [decide_eq_true (show 10000000000000000000000000000000000000000 < d from Int.not_le.mp l2)]
                rw [decide_eq_false l2, show (true && decide (gd n d = 1) && (true && false)) = false by simp] at k0
                exact iteT k0
            · rw [decide_eq_true (show 10000000000000000000000000000000000000000 < (if n < 0 then -n else n) from Int.not_le.mp l1)]
              rw [decide_eq_false l1, show (true && decide (gd n d = 1) && (false && decide (d ≤ lim))) = false by simp] at k0
              exact iteT (iteT k0)
        · have z : (ty == "int") = false := by simpa using iy
          have z2 : numB (.int n) y = false := by
            cases hy <;> first | rfl | exact absurd rfl iy
          rw [z2] at k0
          rw [z]
          exact iteT k0
      · have z : (tx == "int") = false := by simpa using ix
        have z2 : numB x y = false := by
          cases hx <;> first | rfl | exact absurd rfl ix
        rw [z2] at k0
        rw [z]
        exact iteT (iteT k0)
    · rw [if_neg (by decide +kernel), if_pos rfl] at e0
      rw [e0] at k'
      rw [decide_eq_false (show ("word" : Str) ≠ "flag" by decide +kernel)]
      refine iteF ⟨_, rfl, rfl, _, rfl, ?_⟩
      rw [dec_str, decide_eq_true rfl]
      exact iteT ⟨_, rfl, v, _, rfl, hdt.ty, fun x e => by subst e; cases hdt; exact tx _ rfl, k'⟩
    · rw [if_neg (by decide +kernel), if_neg (by decide +kernel)] at e0
      rw [e0] at k'
      rw [decide_eq_true rfl]
      refine iteT ⟨_, rfl, v, .ty "bool", _, _, _, rfl, .ty "bool", hdt.ty.x, kit_bool hdt.ty.mem, ?_⟩
      have k0 := k' H (Same.refl H)
      have e : (tyD dt == "bool") = isB v := by cases hdt <;> rfl
      show Q (.bl (tyD dt == "bool")) H
      rw [e]
      exact k0
end
end K07
set_option Elab.async false
set_option linter.all false
set_option maxRecDepth 100000
set_option maxHeartbeats 4000000
namespace K07
open PySem PySem.Spec PyProof.Rows L2 Lc
abbrev sEd : Stmt := top 51
def NewE (H : Hp) (es : List En) (e : En) (Q : VK) : Prop := ∀ (r : Addr) (zs : List V) (H' : Hp), Same H H' → H r = none → H' r = some (.lst zs) → DhAll H' zs ((es ++ [e]).map En.d) → Q (.ref r) H'
def spEd : Sp := fun vs H Q _ => ∃ (L c : Addr) (xs : List V) (es : List En) (wd : Str) (n v y : V), vs = [.ref L, .ref c] ∧ H L = some (.lst xs) ∧ DhAll H xs (es.map En.d) ∧ es.length ≤ 1000 ∧ H c = some (.tup [.str wd, n, v, y]) ∧
  ((wd = "add" ∧ ∃ d au, Dh H v d ∧ y = .str au ∧ NewE H es ⟨"add", usedD es, d, au⟩ Q) ∨ (wd = "correct" ∧ ∃ m d au, n = .int m ∧ Dh H v d ∧ y = .str au ∧ NewE H es ⟨"correct", m, d, au⟩ Q) ∨ (wd = "strike" ∧ ∃ m au, n = .int m ∧ y = .str au ∧ NewE H es ⟨"strike", m, .none, au⟩ Q) ∨ ((wd = "rows" ∨ wd = "authors") ∧ ∀ H', Same H H' → Q (.ref L) H'))
abbrev ttEd (K : PySem.W.Frag) : TT := tTest (tOp rEq (tOp (rIxT K) (tVar 6) (tC (.int 0))) (tC (.str "add")))
section
variable {P : Program} {w : World} {K : PySem.W.Frag} {mg : Str → Option Value} {base : Heap} {f : Addr} {fd : FuncData}
abbrev nEd : List Str := ["_law_deeds_here", "_law_call_here", "_law_word", "_law_number", "_law_values_here", "_law_hand", "_law_deed"]
theorem scEd : FnScope nEd ["_law_deeds_here", "_law_call_here"] (defScope sEd) := ⟨rfl, rfl, rfl, by decide +kernel, rfl, by decide +kernel, by decide +kernel⟩
theorem ok_ed (F : Fun K "_law_entered" "_law_entered" sEd f fd) (T : Bt mg) : FnOk P w K mg base CX0 1 f fd ["_law_deeds_here", "_law_call_here"] spEd := by
  refine F.ok scEd (fun vs H Q E h => ?_) (fun cdv A outer s H vs Q E hr h => ?_)
  · obtain ⟨L, c, xs, es, wd, n, v, y, rfl, _⟩ := h
    rfl
  · obtain ⟨L, c, xs, es, wd, n, v, y, rfl, hL, hd, ln, hc, k⟩ := h
    refine ⟨_, pss_cons (ps_asg (pv 1) (pg_tup rfl (pgs_cons (pg_name (i := 2) scEd.nd rfl (.inl rfl)) (pgs_cons (pg_name (i := 3) scEd.nd rfl (.inl rfl)) (pgs_cons (pg_name (i := 4) scEd.nd rfl (.inl rfl)) (pgs_cons (pg_name (i := 5) scEd.nd rfl (.inl rfl)) pgs_nil))))))
      (Evl.pss_cut (ps_if (pt_cmpR op_eq (pv 2) pe_str (nomark _)) (pss_one (ps_set (i := 3) scEd.nd rfl (Or.inl rfl) (pe_callB call_len_seq (by rfl) T.len PySem.boot_len (pa_cons (pe_lc (own := [("_law_deed", 6)]) (g := gName 6) (tt := ttEd K) (te := tVar 6) (by rfl) scEd.nd (pi_list (pv 0)) (blkOk_by (own := [("_law_deed", 6)]) (N := nEd) (sc := defScope sEd) (by decide +kernel))
              (fun _ _ _ _ _ => pg_name (i := 6) scEd.nd rfl (Or.inl rfl)) (fun _ _ _ _ _ => pts_one (pt_cmpR op_eq (pe_ix ix_tup (pv 6) pe_int (fun _ _ => rfl)) pe_str (nomark _))) (fun _ _ _ _ _ => pv 6)) pa_nil)))) pss_nil)
      (pss_cons (ps_if (pt_cmpR op_eq (pv 2) pe_str (nomark _)) (pss_one (ps_set (i := 4) scEd.nd rfl (Or.inl rfl) pe_non)) pss_nil)
      (pss_cons (ps_if (pt_cmpR op_in_seq (pv 2) (pe_tup (pa_cons pe_str (pa_cons pe_str (pa_cons pe_str pa_nil)))) (by rfl)) (pss_one (ps_ret (pe_op op_cat (pv 0) (pe_lst (pa_cons (pe_tup (pa_cons (pv 2) (pa_cons (pv 3) (pa_cons (pv 4) (pa_cons (pv 5) pa_nil))))) pa_nil))))) pss_nil)
      (pss_one (ps_ret (pv 0)))))), ?_⟩
    have lx : xs.length = es.length := by rw [hd.len, List.length_map]
    refine ⟨_, rfl, c, _, rfl, SqT.of hc, rfl, _, _, rfl, _, _, rfl, _, _, rfl, _, _, rfl, rfl, ?_⟩
    refine ⟨fun σ H' => ∃ (n' : V) (x6 : Option V), σ = [some (.ref L), some (.ref c), some (.str wd), some n', some v, some y, x6] ∧ Same H H' ∧ (wd = "add" → n' = .int (usedD es)) ∧ (wd ≠ "add" → n' = n), ?_, ?_⟩
    · refine ⟨_, rfl, rfl, _, rfl, ?_⟩
      rw [dec_str]
      by_cases wa : wd = "add"
      · rw [decide_eq_true wa]
        refine iteT ⟨_, rfl, L, rfl, ⟨_, SqL.of hL⟩, fun D hD => lc_list (K := K) (a := L) (xs := xs) (fun i H' => ∃ ys : List V, H' D = some (.lst ys) ∧ ys.length = usedD (es.take i) ∧ Same H H') ⟨[], upd_same, rfl, Same.upd hD⟩ (fun i H' _ p => by obtain ⟨_, _, _, s'⟩ := p; exact SqL.of (s' _ _ hL)) ?_ ?_⟩
        · rintro i x H5 hx ⟨ys, hD1, ly, s5⟩
          obtain ⟨e, he, de⟩ := en_get hd hx
          obtain ⟨a', v', rfl, ea, dv⟩ := en_of (de.same s5)
          have ek : es.take (i + 1) = es.take i ++ [e] := by rw [List.take_add_one, he]; rfl
          have eu := usedD_snoc (es.take i) e
          rw [← ek] at eu
          refine ⟨rfl, ?_⟩
          change ttEd K _ _ _
          refine ⟨_, rfl, a', _, _, _, rfl, rfl, SqT.of ea, rfl, rfl, _, rfl, ite2 (fun y => ?_) (fun y => ?_)⟩
          · have ew : e.w = "add" := by have := of_decide_eq_true y; injection this
            rw [if_pos ew] at eu
            refine ⟨_, rfl, ys, hD1, ?_, ys ++ [.ref a'], upd_same, ?_, fun b o eb => by rw [upd_ne (ne_of_none eb hD)]; exact s5 b o eb⟩
            · rw [ly]
              have : usedD (es.take i) ≤ (es.take i).length := List.length_filter_le _ _
              rw [List.length_take] at this
              exact Nat.lt_of_le_of_lt (show _ ≤ 1000 by omega) (by decide)
            · rw [List.length_append, ly, eu]; rfl
          · have ew : e.w ≠ "add" := fun q => y (decide_eq_true (by rw [q]))
            rw [if_neg ew] at eu
            exact ⟨ys, hD1, by rw [ly, eu]; rfl, s5⟩
        · rintro H5 ⟨ys, hD5, ly, s5⟩
          rw [lx, List.take_length] at ly
          exact ⟨D, ys, rfl, .inl (SqL.of hD5), _, _, rfl, s5, fun _ => by rw [ly], fun q => absurd wa q⟩
      · rw [decide_eq_false wa]
        exact iteF ⟨_, _, rfl, Same.refl H, fun q => absurd q wa, fun _ => rfl⟩
    rintro σ H1 ⟨n', x6, rfl, s1, n1, n2⟩
    refine ⟨_, rfl, rfl, _, rfl, ?_⟩
    rw [dec_str]
    rcases k with ⟨rfl, d, au, hv, rfl, k⟩ | ⟨rfl, m, d, au, rfl, hv, rfl, k⟩ | ⟨rfl, m, au, rfl, rfl, k⟩ | ⟨hw, k⟩
    · obtain rfl := n1 rfl
      rw [decide_eq_false (show ("add" : Str) ≠ "strike" by decide +kernel)]
      refine iteF ?_
      refine ⟨_, rfl, by show 3 ≤ sizeLine; decide, fun t ht => ⟨t, _, rfl, .inr (SqT.of upd_same), rfl, rfl, _, rfl, ?_⟩⟩
      rw [show inV (.str "add") [.str "add", .str "correct", .str "strike"] = true by decide +kernel]
      have zt := Same.upd (o := .tup [.str "add", .str "correct", .str "strike"]) ht
      refine iteT ⟨_, rfl, _, rfl, _, rfl, _, rfl, _, rfl, by show 4 ≤ sizeLine; decide, fun t0 h0 => ⟨by show 1 ≤ sizeLine; decide, fun t1 h1 => ?_⟩⟩
      have z0 := Same.upd (o := .tup [.str "add", .int (usedD es), v, .str au]) h0
      have z1 := Same.upd (o := .lst [.ref t0]) h1
      have s2 := s1.trans (zt.trans (z0.trans z1))
      refine ⟨L, t1, xs, _, rfl, rfl, s2 _ _ hL, upd_same, by show xs.length + 1 ≤ sizeLine; exact Nat.le_trans (show _ ≤ 1001 by omega) (by decide), fun p hp => ?_⟩
      have zp := Same.upd (o := .lst (xs ++ [.ref t0])) hp
      have s3 := s2.trans zp
      refine k p _ _ s3 (Same.gone s2 hp) upd_same ?_
      rw [List.map_append]
      exact DhAll.append (DhAll.same s3 hd) (.cons (.tup ((z1.trans zp) _ _ upd_same) (.cons (.str _) (.cons (.int _) (.cons (hv.same s3) (.cons (.str _) .nil))))) .nil)
    · obtain rfl := n2 (by decide +kernel)
      rw [decide_eq_false (show ("correct" : Str) ≠ "strike" by decide +kernel)]
      refine iteF ?_
      refine ⟨_, rfl, by show 3 ≤ sizeLine; decide, fun t ht => ⟨t, _, rfl, .inr (SqT.of upd_same), rfl, rfl, _, rfl, ?_⟩⟩
      rw [show inV (.str "correct") [.str "add", .str "correct", .str "strike"] = true by decide +kernel]
      have zt := Same.upd (o := .tup [.str "add", .str "correct", .str "strike"]) ht
      refine iteT ⟨_, rfl, _, rfl, _, rfl, _, rfl, _, rfl, by show 4 ≤ sizeLine; decide, fun t0 h0 => ⟨by show 1 ≤ sizeLine; decide, fun t1 h1 => ?_⟩⟩
      have z0 := Same.upd (o := .tup [.str "correct", .int m, v, .str au]) h0
      have z1 := Same.upd (o := .lst [.ref t0]) h1
      have s2 := s1.trans (zt.trans (z0.trans z1))
      refine ⟨L, t1, xs, _, rfl, rfl, s2 _ _ hL, upd_same, by show xs.length + 1 ≤ sizeLine; exact Nat.le_trans (show _ ≤ 1001 by omega) (by decide), fun p hp => ?_⟩
      have zp := Same.upd (o := .lst (xs ++ [.ref t0])) hp
      have s3 := s2.trans zp
      refine k p _ _ s3 (Same.gone s2 hp) upd_same ?_
      rw [List.map_append]
      exact DhAll.append (DhAll.same s3 hd) (.cons (.tup ((z1.trans zp) _ _ upd_same) (.cons (.str _) (.cons (.int _) (.cons (hv.same s3) (.cons (.str _) .nil))))) .nil)
    · obtain rfl := n2 (by decide +kernel)
      rw [decide_eq_true rfl]
      refine iteT ?_
      refine ⟨_, rfl, by show 3 ≤ sizeLine; decide, fun t ht => ⟨t, _, rfl, .inr (SqT.of upd_same), rfl, rfl, _, rfl, ?_⟩⟩
      rw [show inV (.str "strike") [.str "add", .str "correct", .str "strike"] = true by decide +kernel]
      have zt := Same.upd (o := .tup [.str "add", .str "correct", .str "strike"]) ht
      refine iteT ⟨_, rfl, _, rfl, _, rfl, _, rfl, _, rfl, by show 4 ≤ sizeLine; decide, fun t0 h0 => ⟨by show 1 ≤ sizeLine; decide, fun t1 h1 => ?_⟩⟩
      have z0 := Same.upd (o := .tup [.str "strike", .int m, .non, .str au]) h0
      have z1 := Same.upd (o := .lst [.ref t0]) h1
      have s2 := s1.trans (zt.trans (z0.trans z1))
      refine ⟨L, t1, xs, _, rfl, rfl, s2 _ _ hL, upd_same, by show xs.length + 1 ≤ sizeLine; exact Nat.le_trans (show _ ≤ 1001 by omega) (by decide), fun p hp => ?_⟩
      have zp := Same.upd (o := .lst (xs ++ [.ref t0])) hp
      have s3 := s2.trans zp
      refine k p _ _ s3 (Same.gone s2 hp) upd_same ?_
      rw [List.map_append]
      exact DhAll.append (DhAll.same s3 hd) (.cons (.tup ((z1.trans zp) _ _ upd_same) (.cons (.str _) (.cons (.int _) (.cons .non (.cons (.str _) .nil))))) .nil)
    · have ns : wd ≠ "strike" := by rcases hw with rfl | rfl <;> decide +kernel
      rw [decide_eq_false ns]
      refine iteF ⟨_, rfl, by show 3 ≤ sizeLine; decide, fun t ht => ⟨t, _, rfl, .inr (SqT.of upd_same), rfl, rfl, _, rfl, ?_⟩⟩
      have e : inV (.str wd) [.str "add", .str "correct", .str "strike"] = false := by rcases hw with rfl | rfl <;> decide +kernel
      rw [e]
      exact iteF ⟨_, rfl, k _ (s1.trans (Same.upd ht))⟩
end
end K07
set_option Elab.async false
set_option linter.all false
set_option maxRecDepth 100000
set_option maxHeartbeats 4000000
namespace K07
open PySem PySem.Spec PyProof.Rows L2 Lc
abbrev sGv : Stmt := top 47
/-- v is d in every heap in which what is new since H (but D) stands -/
def DhN (D : Addr) (H H' : Hp) (v : V) (d : PyData) : Prop := ∀ H2 : Hp, (∀ b o, b ≠ D → H b = none → H' b = some o → H2 b = some o) → Dh H2 v d
theorem DhF.n {t D : Addr} {H Ha Hb : Hp} {v : V} {d : PyData} {o : HO} (h : DhF Ha Hb v d) (s : SameB t H Ha) (T : Tape Ha t) (e : Ha D = some o) : DhN D H Hb v d := fun H2 h2 => h H2 fun b o' n e' => h2 b o' (fun z => by rw [z, e] at n; cases n) (s.free T n) e'
theorem DhN.later {t D : Addr} {H Hb Hc : Hp} {v : V} {d : PyData} (h : DhN D H Hb v d) (T : Tape H t) (s : SameB t Hb Hc) : DhN D H Hc v d := fun H2 h2 => h H2 fun b o n e e' => h2 b o n e (s b o (T.ne e) e')
theorem DhF.wide {t : Addr} {H Ha Hb : Hp} {v : V} {d : PyData} (h : DhF Ha Hb v d) (s : SameB t H Ha) (T : Tape Ha t) : DhF H Hb v d := fun H2 h2 => h H2 fun b o n e => h2 b o (s.free T n) e
theorem DhF.later {t : Addr} {H Hb Hc : Hp} {v : V} {d : PyData} (h : DhF H Hb v d) (T : Tape H t) (s : SameB t Hb Hc) : DhF H Hc v d := fun H2 h2 => h H2 fun b o e e' => h2 b o e (s b o (T.ne e) e')
/-- the list that is spoilt -/
structure Gv (t c D : Addr) (H H' : Hp) (ys : List V) (ds : List PyData) (m : Nat) : Prop where
  hD : H' D = some (.lst ys)
  ly : ys.length = m
  al : ∀ H2 : Hp, (∀ b o, b ≠ D → H b = none → H' b = some o → H2 b = some o) → DhAll H2 ys ds
  cm : ∀ d ∈ ds, Cm d
  tp : TapeL c H' t
  sm : SameB t H H'
  gD : H D = none
theorem Gv.b {t c D : Addr} {H H' H'' : Hp} {ys : List V} {ds : List PyData} {m : Nat} (g : Gv t c D H H' ys ds m) (T0 : Tape H t) (T : TapeL c H'' t) (s : SameB t H' H'') : Gv t c D H H'' ys ds m :=
  ⟨s _ _ (T0.ne g.gD) g.hD, g.ly, fun H2 h2 => g.al H2 fun b o n e e' => h2 b o n e (s b o (T0.ne e) e'), g.cm, T, g.sm.trans s, g.gD⟩
theorem Gv.len {t c D : Addr} {H H' : Hp} {ys : List V} {ds : List PyData} {m : Nat} (g : Gv t c D H H' ys ds m) : ds.length = m := by
  have := (g.al H' fun _ _ _ _ e => e).len
  rw [← this]
  exact g.ly
theorem DhAll.set {H : Hp} : ∀ {vs : List V} {ds : List PyData}, DhAll H vs ds → ∀ (i : Nat) {v : V} {d : PyData}, Dh H v d → DhAll H (vs.set i v) (ds.set i d)
  | _, _, .nil, _, _, _, _ => .nil
  | _, _, .cons _ r, 0, _, _, e => .cons e r
  | _, _, .cons h r, i + 1, _, _, e => .cons h (DhAll.set r i e)
theorem DhAll.drop {H : Hp} : ∀ {vs : List V} {ds : List PyData} (i : Nat), DhAll H vs ds → DhAll H (vs.drop i) (ds.drop i)
  | _, _, 0, h => h
  | _, _, _ + 1, .nil => .nil
  | _, _, i + 1, .cons _ r => DhAll.drop i r
theorem Gv.set {t c D : Addr} {H H' : Hp} {ys : List V} {ds : List PyData} {m j : Nat} {v : V} {d : PyData} (g : Gv t c D H H' ys ds m) (T0 : TapeL c H t) (hv : DhN D H H' v d) (cd : Cm d) : Gv t c D H (upd H' D (.lst (ys.set j v))) (ys.set j v) (ds.set j d) m := by
  have nD := T0.tape.ne g.gD
  have nc : D ≠ c := by
    obtain ⟨zs, hz⟩ := T0.list
    exact Ne.symm (ne_of_none hz g.gD)
  have w : ∀ {H2 : Hp}, (∀ b o, b ≠ D → H b = none → upd H' D (.lst (ys.set j v)) b = some o → H2 b = some o) → ∀ b o, b ≠ D → H b = none → H' b = some o → H2 b = some o := fun h2 b o n e e' => h2 b o n e (by rw [upd_ne n]; exact e')
  refine ⟨upd_same, by rw [List.length_set]; exact g.ly, fun H2 h2 => DhAll.set (g.al H2 (w h2)) _ (hv H2 (w h2)), fun x hx => ?_, g.tp.upd nD nc, fun b o n e => ?_, g.gD⟩
  · rcases List.mem_or_eq_of_mem_set hx with q | rfl
    · exact g.cm x q
    · exact cd
  · rw [upd_ne (ne_of_none e g.gD)]
    exact g.sm b o n e
theorem vk_cm {k : Str} {d : PyData} (h : Vk k d) : Cm d := by
  cases h with
  | non k => exact ⟨tm_up (tm_fl fl_non), nofun, rfl⟩
  | flag b => exact ⟨tm_up (tm_fl (fl_bl b)), nofun, rfl⟩
  | word h hn => exact cm_str (h.mono (by decide))
  | @num n d rt h1 h2 =>
    refine ⟨(tm_tup (k := 0) (n := 2000) (fun x hx => ?_)).mono (by decide) (by show 2000 * 2 + 2 * 2 + 4 ≤ 21000; decide), nofun, by simp [PyData.canLay0, PyData.canLayAll0]⟩
    simp only [List.mem_cons, List.not_mem_nil, or_false] at hx
    rcases hx with rfl | rfl
    · exact tm_int h1
    · exact tm_int h2
theorem vks_cm : ∀ {ks : List Str} {ds : List PyData}, Vks ks ds → ∀ d ∈ ds, Cm d
  | _, _, .nil => nofun
  | _, _, .cons h r => fun d hd => by
    rcases List.mem_cons.mp hd with rfl | q
    · exact vk_cm h
    · exact vks_cm r d q
theorem tm_int1 {i : Int} (h : i.natAbs ≤ 100000000000000000000000000000000000000000) : Tm 0 2000 (.int i) := by
  have b : i.natAbs < 2 ^ 1000 := Nat.lt_of_le_of_lt h (Nat.lt_of_lt_of_le (show 100000000000000000000000000000000000000000 < 2 ^ 140 by decide) (Nat.pow_le_pow_right (by decide) (by decide)))
  obtain ⟨h1, h2⟩ := num_len b
  exact ⟨h1, rfl, Nat.le_refl _, Nat.le_trans h2 (by decide)⟩
theorem cm_pair {n m : Int} (h1 : n.natAbs ≤ 100000000000000000000000000000000000000000) (h2 : m.natAbs ≤ 100000000000000000000000000000000000000000) : Cm (.tuple [.int n, .int m]) := by
  refine ⟨(tm_tup (k := 0) (n := 2000) (fun x hx => ?_)).mono (by decide) (by show 2000 * 2 + 2 * 2 + 4 ≤ 21000; decide), nofun, by simp [PyData.canLay0, PyData.canLayAll0]⟩
  simp only [List.mem_cons, List.not_mem_nil, or_false] at hx
  rcases hx with rfl | rfl
  · exact tm_int1 h1
  · exact tm_int1 h2
def spGv : Sp := fun vs H Q _ => ∃ (t c L : Addr) (xs : List V) (ps : List (Str × Str)), vs = [.ref t, .ref L] ∧ TapeL c H t ∧ H L = some (.tup xs) ∧ Cols H xs ps ∧ (∀ p ∈ ps, KindS p.2) ∧ ps.length ≤ 8 ∧ 0 < ps.length ∧
  ∀ (v : V) (d : PyData) (ds : List PyData) (H' : Hp), DhF H H' v d → (d = .tuple ds ∨ d = .list ds) → ds.length ≤ 10 → (∀ x ∈ ds, Cm x) → TapeL c H' t → SameB t H H' → Q v H'
section
variable {P : Program} {w : World} {K : PySem.W.Frag} {mg : Str → Option Value} {base : Heap} {f fD fV fO : Addr} {fd fdD fdV fdO : FuncData}
abbrev nGv : List Str := ["_law_tape_here", "_law_columns_here", "_law_values_here", "_law_turn", "_law_k", "_law_odd_here"]
theorem scGv : FnScope nGv ["_law_tape_here", "_law_columns_here"] (defScope sGv) := ⟨rfl, rfl, rfl, by decide +kernel, rfl, by decide +kernel, by decide +kernel⟩
theorem ok_gv (F : Fun K "_law_given" "_law_given" sGv f fd) (T : Bt mg) (mX : mg "max" = none) (GD : FnOk P w K mg base CX0 1 fD fdD ["_law_tape_here", "_law_many"] spDrawL) (mD : mg "_law_draw" = some (.ref fD)) (kD : PySem.W.keepIn K (.ref fD) = true) (bD : Binds K fdD ["_law_tape_here", "_law_many"] [])
    (GV : FnOk P w K mg base CX0 4 fV fdV ["_law_tape_here", "_law_columns_here", "_law_wide"] spVals) (mV : mg "_law_values" = some (.ref fV)) (kV : PySem.W.keepIn K (.ref fV) = true) (bV : Binds K fdV ["_law_tape_here", "_law_columns_here", "_law_wide"] [])
    (GO : FnOk P w K mg base CX0 2 fO fdO ["_law_tape_here"] spOdd) (mO : mg "_law_odd" = some (.ref fO)) (kO : PySem.W.keepIn K (.ref fO) = true) (bO : Binds K fdO ["_law_tape_here"] []) : FnOk P w K mg base CX0 5 f fd ["_law_tape_here", "_law_columns_here"] spGv := by
  refine F.ok scGv (fun vs H Q E h => ?_) (fun cdv A outer s H vs Q E hr h => ?_)
  · obtain ⟨t, c, L, xs, ps, rfl, _⟩ := h
    rfl
  · obtain ⟨t, c, L, xs, ps, rfl, hT, hL, hc, hk, l8, l0, k⟩ := h
    have hr1 : Room 1 _ := hr.mono (by decide)
    have hr2 : Room 2 _ := hr.mono (by decide)
    have twoL : 2 ≤ sizeLine := by decide
    refine ⟨_, Evl.pss_cut (ps_set (i := 2) scGv.nd rfl (Or.inl rfl) (pe_callTy call_list_of (by rfl) T.list boot_list (pa_cons (pe_call GV hr (by rfl) mV kV bV .nil pass0 (pa_cons (pv 0) (pa_cons (pv 1) (pa_cons pe_bl pa_nil)))) pa_nil)))
      (pss_cons (ps_set (i := 3) scGv.nd rfl (Or.inl rfl) (pe_call GD hr1 (by rfl) mD kD bD .nil pass0 (pa_cons (pv 0) (pa_cons pe_int pa_nil))))
      (pss_cons (ps_if (pt_cmpR op_eq (pv 3) pe_int (nomark _)) (pss_one (ps_ret (pv 2))) pss_nil)
      (pss_cons (ps_if (pt_cmpR op_eq (pv 3) pe_int (nomark _)) (pss_one (ps_ret (pe_callTy call_tuple_of (by rfl) T.tuple boot_tuple (pa_cons (pe_op op_cat (pv 2) (pe_op op_rep (pe_lst (pa_cons pe_non pa_nil)) (pe_call GD hr1 (by rfl) mD kD bD .nil pass0 (pa_cons (pv 0) (pa_cons pe_int pa_nil))))) pa_nil)))) pss_nil)
      (pss_cons (ps_if (pt_cmpR op_eq (pv 3) pe_int (nomark _)) (pss_one (ps_ret (pe_callTy call_tuple_of (by rfl) T.tuple boot_tuple (pa_cons (pe_slice sl_list (pv 2) (po_some pe_int) po_none) pa_nil)))) pss_nil)
      (Evl.pss_cut (ps_for PassesOwn.never rfl (pi_range1 (by rfl) T.range (pa_cons (pe_callB (call_max2 rfl) (by rfl) mX boot_max (pa_cons pe_int (pa_cons (pe_op op_sub (pv 3) pe_int) pa_nil))) pa_nil)) (pg_name (i := 4) scGv.nd rfl (Or.inl rfl))
        (Evl.pss_cut (ps_set (i := 5) scGv.nd rfl (Or.inl rfl) (pe_ix ix_list (pe_lst (pa_cons (pe_call GO hr2 (by rfl) mO kO bO .nil pass0 (pa_cons (pv 0) pa_nil)) (pa_cons (pe_tup (pa_cons pe_int (pa_cons pe_int pa_nil))) (pa_cons (pe_tup (pa_cons pe_int (pa_cons pe_int pa_nil))) (pa_cons (pe_tup (pa_cons pe_int (pa_cons (pe_un un_neg pe_int) pa_nil))) (pa_cons (pe_tup (pa_cons (pe_op op_add (pe_op op_pow pe_int pe_int) pe_int) (pa_cons pe_int pa_nil))) (pa_cons pe_str pa_nil))))))) (pe_call GD hr1 (by rfl) mD kD bD .nil pass0 (pa_cons (pv 0) (pa_cons pe_int pa_nil))) (fun _ _ => rfl)))
        (pss_one (ps_asg (pv 5) (pg_sub (pv 2) (pe_call GD hr1 (by rfl) mD kD bD .nil pass0 (pa_cons (pv 0) (pa_cons (pe_callB call_len_seq (by rfl) T.len PySem.boot_len (pa_cons (pv 2) pa_nil)) pa_nil))) set_list)))))
      (pss_one (ps_ret (pe_callTy call_tuple_of (by rfl) T.tuple boot_tuple (pa_cons (pv 2) pa_nil))))))))), ?_⟩
    -- the values, as a list
    refine ⟨fun σ H' => ∃ (D : Addr) (ys : List V) (ds : List PyData), σ = [some (.ref t), some (.ref L), some (.ref D), none, none, none] ∧ Gv t c D H H' ys ds ps.length, ?_, ?_⟩
    · refine ⟨_, rfl, _, rfl, t, c, L, true, xs, ps, rfl, hT, hL, hc, hk, l8, fun r ds H1 df vk T1 S1 => ?_⟩
      have dn := df.now
      cases dn with
      | @tup _ ys _ er dy =>
      refine ⟨r, ys, rfl, .inr (SqT.of er), fun D hD => ⟨D, ys, ds, rfl, upd_same, ?_, fun H2 h2 => ?_, vks_cm vk, T1.same (Same.upd hD), S1.trans (Same.b t (Same.upd hD)), S1.free T1.tape hD⟩⟩
      · rw [dy.len, ← vk.len, List.length_map]
      · have q := df (upd H2 r (.tup ys)) fun b o n e => by
          by_cases z : b = r
          · subst z
            rw [upd_same]
            rw [er] at e
            exact e
          · rw [upd_ne z]
            exact h2 b o (ne_of_none e hD) n (by rw [upd_ne (ne_of_none e hD)]; exact e)
        have er2 : H2 r = some (.tup ys) := by
          have gr : H r = none := by
            cases q2 : H r with
            | none => rfl
            | some o =>
              exfalso
              have q3 := df (fun b => if b = r then none else H1 b) fun b o n e => by
                have : b ≠ r := fun z => by rw [z, q2] at n; cases n
                simp only [this, if_false]
                exact e
              cases q3 with
              | tup e4 _ => simp at e4
          exact h2 r _ (ne_of_none er hD) gr (by rw [upd_ne (ne_of_none er hD)]; exact er)
        have hh : upd H2 r (.tup ys) = H2 := by
          funext b
          by_cases z : b = r
          · rw [z, upd_same, er2]
          · rw [upd_ne z]
        rw [hh] at q
        cases q with
        | tup e5 d5 =>
          rw [er2] at e5
          injection e5 with e5
          injection e5 with e5
          rw [e5]
          exact d5
    rintro σ H1 ⟨D, ys, ds, rfl, g1⟩
    have gl := g1.len
    have nD := hT.tape.ne g1.gD
    -- the turn
    refine ⟨_, rfl, t, c, _, rfl, g1.tp, by decide, big1000 (by decide) (by decide), fun u H2 u0 u8 T2 S2 => ?_⟩
    have g2 := g1.b hT.tape T2 S2
    clear g1
    have g2now : ∀ {H3 : Hp}, Same H2 H3 → DhAll H3 ys ds := fun s => DhAll.same s (g2.al H2 fun _ _ _ _ e => e)
    refine ⟨_, rfl, rfl, _, rfl, ite2 (fun y0 => ?_) (fun y0 => ?_)⟩
    · refine ⟨_, rfl, k _ _ ds H2 (fun H3 h3 => .lst (h3 _ _ g2.gD g2.hD) (g2.al H3 fun b o _ e e' => h3 b o e e')) (.inr rfl) (by omega) g2.cm g2.tp g2.sm⟩
    refine ⟨_, rfl, rfl, _, rfl, ite2 (fun y1 => ?_) (fun y1 => ?_)⟩
    · refine ⟨_, rfl, by show 1 ≤ sizeLine; decide, fun q hq => ?_⟩
      have zq := Same.upd (o := .lst [.non]) hq
      have nq := T2.tape.ne hq
      refine ⟨_, rfl, t, c, _, rfl, T2.same zq, by decide, big1000 (by decide) (by decide), fun j H3 j0 j3 T3 S3 => ?_⟩
      have g3 := g2.b hT.tape T3 ((Same.b t zq).trans S3)
      refine ⟨q, j, _, rfl, rfl, S3 _ _ nq upd_same, by omega, by omega, by show 1 * j.toNat ≤ sizeLine; exact Nat.le_trans (show _ ≤ 3 by omega) (by decide), fun q2 hq2 => ?_⟩
      have z2 := Same.upd (o := .lst (List.replicate j.toNat [V.non]).flatten) hq2
      have l2 : ((List.replicate j.toNat [V.non]).flatten).length ≤ 2 := by simp; omega
      refine ⟨D, q2, ys, _, rfl, rfl, z2 _ _ g3.hD, upd_same, by have := g3.ly; exact Nat.le_trans (show ys.length + _ ≤ 10 by omega) (by decide), fun q3 hq3 => ?_⟩
      have z3 := Same.upd (o := .lst (ys ++ (List.replicate j.toNat [V.non]).flatten)) hq3
      refine ⟨q3, _, rfl, .inl ⟨SqL.of upd_same, fun q4 hq4 => ?_⟩⟩
      have z4 := Same.upd (o := .tup (ys ++ (List.replicate j.toNat [V.non]).flatten)) hq4
      have s34 := z2.trans (z3.trans z4)
      have f4 : H q4 = none := g3.sm.free T3.tape ((z2.trans z3).free hq4)
      have ap : ∀ H5 : Hp, DhAll H5 (List.replicate j.toNat [V.non]).flatten (List.replicate j.toNat PyData.none) := fun H5 => by
        induction j.toNat with
        | zero => exact .nil
        | succ n ih => rw [List.replicate_succ, List.replicate_succ, List.flatten_cons]; exact .cons .non ih
      refine k _ _ (ds ++ List.replicate j.toNat .none) _ (fun H5 h5 => .tup (h5 _ _ f4 upd_same) (DhAll.append (g3.al H5 fun b o n e e' => h5 b o e (s34 _ _ e')) (ap H5))) (.inl rfl) ?_ (fun x hx => ?_) (T3.same s34) (g3.sm.trans (Same.b t s34))
      · rw [List.length_append, List.length_replicate]; omega
      · rcases List.mem_append.mp hx with q | q
        · exact g3.cm x q
        · rw [List.eq_of_mem_replicate q]
          exact ⟨tm_up (tm_fl fl_non), nofun, rfl⟩
    refine ⟨_, rfl, rfl, _, rfl, ite2 (fun y2 => ?_) (fun y2 => ?_)⟩
    · refine ⟨_, rfl, 1, rfl, D, _, rfl, SqL.of g2.hD, fun q hq => ?_⟩
      have ec : cutV ys (some 1) none = ys.drop 1 := by
        unfold cutV
        cases ys with
        | nil => rfl
        | cons a r => simp [HT.sIx]
      have zq := Same.upd (o := .lst (cutV ys (some 1) none)) hq
      refine ⟨q, _, rfl, .inl ⟨SqL.of upd_same, fun q4 hq4 => ?_⟩⟩
      have z4 := Same.upd (o := .tup (cutV ys (some 1) none)) hq4
      have s34 := zq.trans z4
      have f4 : H q4 = none := g2.sm.free T2.tape (zq.free hq4)
      refine k _ _ (ds.drop 1) _ (fun H5 h5 => .tup (h5 _ _ f4 upd_same) ?_) (.inl rfl) ?_ (fun x hx => g2.cm x (List.mem_of_mem_drop hx)) (T2.same s34) (g2.sm.trans (Same.b t s34))
      · rw [ec]
        exact DhAll.drop 1 (g2.al H5 fun b o n e e' => h5 b o e (s34 _ _ e'))
      · rw [List.length_drop]; omega
    -- spoilt at up to two places
    refine ⟨fun σ H' => ∃ (ys : List V) (ds : List PyData) (x4 x5 : Option V), σ = [some (.ref t), some (.ref L), some (.ref D), some (.int u), x4, x5] ∧ Gv t c D H H' ys ds ps.length, ?_, ?_⟩
    · refine ⟨_, rfl, _, _, rfl, rfl, _, _, rfl, ?_⟩
      generalize hm : (if u - 5 > 0 then u - 5 else 0) = m
      have m2 : 0 ≤ m ∧ m ≤ 2 := by split at hm <;> omega
      refine ⟨m, rfl, by omega, by omega, for_range (n := m.toNat) (fun i σ H' => ∃ (ys : List V) (ds : List PyData) (x4 x5 : Option V), σ = [some (.ref t), some (.ref L), some (.ref D), some (.int u), x4, x5] ∧ Gv t c D H H' ys ds ps.length) ⟨_, _, _, _, rfl, g2⟩ ?_ (fun σ H' h => h)⟩
      rintro i σ H3 hi ⟨ys, ds, x4, x5, rfl, g3⟩
      refine ⟨fun σ H' => ∃ (v : V) (d : PyData), σ = [some (.ref t), some (.ref L), some (.ref D), some (.int u), some (.int (0 + i)), some v] ∧ Gv t c D H H' ys ds ps.length ∧ DhN D H H' v d ∧ Cm d, ?_, ?_⟩
      · refine ⟨_, rfl, t, c, rfl, g3.tp, fun v d H4 dv cd _ T4 S4 => ?_⟩
        have dvn := dv.n g3.sm g3.tp.tape g3.hD
        have g4 := g3.b hT.tape T4 S4
        refine ⟨twoL, fun q1 h1 => ⟨twoL, fun q2 h2 => ⟨_, rfl, twoL, fun q3 h3 => ⟨_, _, rfl, rfl, ⟨by decide, by decide, by decide⟩, _, _, rfl, rfl, twoL, fun q4 h4 => ⟨by show 6 ≤ sizeLine; decide, fun W hW => ?_⟩⟩⟩⟩⟩
        have z1 := Same.upd (o := .tup [.int 2, .int 2]) h1
        have z2 := Same.upd (o := .tup [.int 1, .int 0]) h2
        have z3 := Same.upd (o := .tup [.int 1, .int (-1)]) h3
        have z4 := Same.upd (o := .tup [.int (10 ^ 40 + 1), .int 1]) h4
        have zW := Same.upd (o := .lst [v, .ref q1, .ref q2, .ref q3, .ref q4, .str "abcdefghijklm"]) hW
        have s4 := z4.trans zW
        have s3 := z3.trans s4
        have s2 := z2.trans s3
        have s1 := z1.trans s2
        refine ⟨_, rfl, t, c, _, rfl, T4.same s1, by decide, big1000 (by decide) (by decide), fun j H5 j0 j6 T5 S5 => ?_⟩
        have nW := (T4.same (z1.trans (z2.trans (z3.trans z4)))).tape.ne hW
        have S45 := (Same.b t s1).trans S5
        have g5 := g4.b hT.tape T5 S45
        have fq : ∀ {q : Addr} {H6 : Hp}, Same H4 H6 → H6 q = none → H q = none ∧ q ≠ D := fun {q H6} s e => ⟨g4.sm.free T4.tape (s.free e), fun z => by have := s.free e; rw [z, g4.hD] at this; cases this⟩
        have tup : ∀ {q : Addr} {n m : Int} {H6 : Hp}, Same H4 H6 → H6 q = none → H5 q = some (.tup [.int n, .int m]) → DhN D H H5 (.ref q) (.tuple [.int n, .int m]) := fun s e e5 H7 h7 => .tup (h7 _ _ (fq s e).2 (fq s e).1 e5) (.cons (.int _) (.cons (.int _) .nil))
        have all : ∀ x ∈ ([v, .ref q1, .ref q2, .ref q3, .ref q4, .str "abcdefghijklm"] : List V), ∃ d, DhN D H H5 x d ∧ Cm d := by
          intro x hx
          simp only [List.mem_cons, List.not_mem_nil, or_false] at hx
          have n1 := T4.tape.ne h1
          have n2 := (T4.same z1).tape.ne h2
          have n3 := (T4.same (z1.trans z2)).tape.ne h3
          have n4 := (T4.same (z1.trans (z2.trans z3))).tape.ne h4
          rcases hx with rfl | rfl | rfl | rfl | rfl | rfl
          · exact ⟨d, dvn.later hT.tape S45, cd⟩
          · exact ⟨_, tup (Same.refl _) h1 (S5 _ _ n1 (s2 _ _ upd_same)), cm_pair (by decide) (by decide)⟩
          · exact ⟨_, tup z1 h2 (S5 _ _ n2 (s3 _ _ upd_same)), cm_pair (by decide) (by decide)⟩
          · exact ⟨_, tup (z1.trans z2) h3 (S5 _ _ n3 (s4 _ _ upd_same)), cm_pair (by decide) (by decide)⟩
          · exact ⟨_, tup (z1.trans (z2.trans z3)) h4 (S5 _ _ n4 (zW _ _ upd_same)), cm_pair (by decide) (by decide)⟩
          · exact ⟨_, fun _ _ => .str _, cm_str ⟨by decide +kernel, by decide +kernel⟩⟩
        have hj : j.toNat < ([v, .ref q1, .ref q2, .ref q3, .ref q4, .str "abcdefghijklm"] : List V).length := by show j.toNat < 6; omega
        obtain ⟨d', hd', cd'⟩ := all _ (List.getElem_mem hj)
        exact ⟨W, _, _, _, rfl, rfl, SqL.of (S5 _ _ nW upd_same), at_of (j := j.toNat) (by omega) (List.getElem?_eq_getElem hj), _, d', rfl, g5, hd', cd'⟩
      rintro σ H4 ⟨v, d, rfl, g4, dv, cd⟩
      have ly := g4.ly
      refine ⟨_, rfl, _, rfl, _, rfl, _, rfl, D, _, rfl, .inl (SqL.of g4.hD), t, c, _, rfl, g4.tp, by omega, big1000 (by omega) (by omega), fun j H5 j0 j6 T5 S5 => ?_⟩
      have g5 := g4.b hT.tape T5 S5
      refine ⟨D, ys, j, j.toNat, rfl, rfl, g5.hD, ?_, _, _, _, _, rfl, g5.set hT (dv.later hT.tape S5) cd⟩
      unfold ixN
      rw [if_pos j0, if_pos j6]
    rintro σ H3 ⟨ys, ds, x4, x5, rfl, g3⟩
    have gl3 := g3.len
    refine ⟨_, rfl, D, ys, rfl, .inl ⟨SqL.of g3.hD, fun q hq => ?_⟩⟩
    have zq := Same.upd (o := .tup ys) hq
    have fq : H q = none := g3.sm.free g3.tp.tape hq
    exact k _ _ ds _ (fun H5 h5 => .tup (h5 _ _ fq upd_same) (g3.al H5 fun b o n e e' => h5 b o e (zq _ _ e'))) (.inl rfl) (by omega) g3.cm (g3.tp.same zq) (g3.sm.trans (Same.b t zq))
end
end K07
set_option Elab.async false
set_option linter.all false
set_option maxRecDepth 100000
set_option maxHeartbeats 4000000
namespace K07
open PySem PySem.Spec PyProof.Rows L2 Lc
abbrev sCa : Stmt := top 48
def wordsC : List Str := ["add", "correct", "strike", "correct", "rows", "authors"]
/-- a drawn call: all its parts are new -/
structure CallT (H H' : Hp) (r : Addr) (wd : Str) (n v y : V) (dn d dy : PyData) : Prop where
  hr : H' r = some (.tup [.str wd, n, v, y])
  gr : H r = none
  hn : DhF H H' n dn
  hv : DhF H H' v d
  hy : DhF H H' y dy
  cn : Cm dn
  nn : dn ≠ .none
  cy : Cm dy
  cv : ∃ ds, (d = .tuple ds ∨ d = .list ds) ∧ ds.length ≤ 10 ∧ ∀ x ∈ ds, Cm x
  ww : wd ∈ wordsC
def spCa : Sp := fun vs H Q _ => ∃ (t c L : Addr) (xs : List V) (ps : List (Str × Str)) (u : Int), vs = [.ref t, .ref L, .int u] ∧ 0 ≤ u ∧ u ≤ 900 ∧ TapeL c H t ∧ H L = some (.tup xs) ∧ Cols H xs ps ∧ (∀ p ∈ ps, KindS p.2) ∧ ps.length ≤ 8 ∧ 0 < ps.length ∧
  ∀ (r : Addr) (wd : Str) (n v y : V) (dn d dy : PyData) (H' : Hp), CallT H H' r wd n v y dn d dy → TapeL c H' t → SameB t H H' → Q (.ref r) H'
theorem Cols.b {t : Addr} {H H' : Hp} {xs : List V} {ps : List (Str × Str)} (h : Cols H xs ps) (T : Tape H t) (s : SameB t H H') : Cols H' xs ps := h.t (SameT.b T s)
section
variable {P : Program} {w : World} {K : PySem.W.Frag} {mg : Str → Option Value} {base : Heap} {f fD fG fO : Addr} {fd fdD fdG fdO : FuncData}
abbrev nCa : List Str := ["_law_tape_here", "_law_columns_here", "_law_used", "_law_word", "_law_number", "_law_hand"]
theorem scCa : FnScope nCa ["_law_tape_here", "_law_columns_here", "_law_used"] (defScope sCa) := ⟨rfl, rfl, rfl, by decide +kernel, rfl, by decide +kernel, by decide +kernel⟩
theorem ok_ca (F : Fun K "_law_call" "_law_call" sCa f fd) (GD : FnOk P w K mg base CX0 1 fD fdD ["_law_tape_here", "_law_many"] spDrawL) (mD : mg "_law_draw" = some (.ref fD)) (kD : PySem.W.keepIn K (.ref fD) = true) (bD : Binds K fdD ["_law_tape_here", "_law_many"] [])
    (GO : FnOk P w K mg base CX0 2 fO fdO ["_law_tape_here"] spOdd) (mO : mg "_law_odd" = some (.ref fO)) (kO : PySem.W.keepIn K (.ref fO) = true) (bO : Binds K fdO ["_law_tape_here"] [])
    (GG : FnOk P w K mg base CX0 5 fG fdG ["_law_tape_here", "_law_columns_here"] spGv) (mG : mg "_law_given" = some (.ref fG)) (kG : PySem.W.keepIn K (.ref fG) = true) (bG : Binds K fdG ["_law_tape_here", "_law_columns_here"] []) : FnOk P w K mg base CX0 6 f fd ["_law_tape_here", "_law_columns_here", "_law_used"] spCa := by
  refine F.ok scCa (fun vs H Q E h => ?_) (fun cdv A outer s H vs Q E hr h => ?_)
  · obtain ⟨t, c, L, xs, ps, u, rfl, _⟩ := h
    rfl
  · obtain ⟨t, c, L, xs, ps, u, rfl, u0, u9, hT, hL, hc, hk, l8, l0, k⟩ := h
    have hr1 : Room 1 _ := hr.mono (by decide)
    have hr2 : Room 2 _ := hr.mono (by decide)
    refine ⟨_, Evl.pss_cut (ps_set (i := 3) scCa.nd rfl (Or.inl rfl) (pe_ix ix_list (pe_lst (pa_cons pe_str (pa_cons pe_str (pa_cons pe_str (pa_cons pe_str (pa_cons pe_str (pa_cons pe_str pa_nil))))))) (pe_call GD hr1 (by rfl) mD kD bD .nil pass0 (pa_cons (pv 0) (pa_cons pe_int pa_nil))) (fun _ _ => rfl)))
      (pss_cons (ps_set (i := 4) scCa.nd rfl (Or.inl rfl) (pe_call GD hr1 (by rfl) mD kD bD .nil pass0 (pa_cons (pv 0) (pa_cons (pe_op op_add (pv 2) pe_int) pa_nil))))
      (pss_cons (ps_set (i := 5) scCa.nd rfl (Or.inl rfl) pe_str)
      (Evl.pss_cut (ps_if (pt_cmpR op_eq (pe_call GD hr1 (by rfl) mD kD bD .nil pass0 (pa_cons (pv 0) (pa_cons pe_int pa_nil))) pe_int (nomark _)) (pss_one (ps_set (i := 4) scCa.nd rfl (Or.inl rfl) (pe_call GO hr2 (by rfl) mO kO bO .nil pass0 (pa_cons (pv 0) pa_nil)))) pss_nil)
      (Evl.pss_cut (ps_if (pt_cmpR op_eq (pe_call GD hr1 (by rfl) mD kD bD .nil pass0 (pa_cons (pv 0) (pa_cons pe_int pa_nil))) pe_int (nomark _)) (pss_one (ps_set (i := 5) scCa.nd rfl (Or.inl rfl) (pe_call GO hr2 (by rfl) mO kO bO .nil pass0 (pa_cons (pv 0) pa_nil)))) pss_nil)
      (pss_one (ps_ret (pe_tup (pa_cons (pv 3) (pa_cons (pv 4) (pa_cons (pe_call GG hr (by rfl) mG kG bG .nil pass0 (pa_cons (pv 0) (pa_cons (pv 1) pa_nil))) (pa_cons (pv 5) pa_nil))))))))))), ?_⟩
    refine ⟨fun σ H' => ∃ wd : Str, wd ∈ wordsC ∧ σ = [some (.ref t), some (.ref L), some (.int u), some (.str wd), none, none] ∧ TapeL c H' t ∧ SameB t H H', ?_, ?_⟩
    · refine ⟨by show 6 ≤ sizeLine; decide, fun W hW => ?_⟩
      have zW := Same.upd (o := .lst [.str "add", .str "correct", .str "strike", .str "correct", .str "rows", .str "authors"]) hW
      have nW := hT.tape.ne hW
      refine ⟨_, rfl, t, c, _, rfl, hT.same zW, by decide, big1000 (by decide) (by decide), fun j H1 j0 j6 T1 S1 => ?_⟩
      have hj : j.toNat < (wordsC.map V.str).length := by show j.toNat < 6; omega
      have hm : (wordsC.map V.str)[j.toNat]? = some (.str (wordsC[j.toNat]'(by simpa using hj))) := by
        rw [List.getElem?_map, List.getElem?_eq_getElem (by simpa using hj)]
        rfl
      exact ⟨W, wordsC.map V.str, _, _, rfl, rfl, SqL.of (S1 _ _ nW upd_same), at_of (j := j.toNat) (by omega) hm, _, List.getElem_mem (by simpa using hj), rfl, T1, (Same.b t zW).trans S1⟩
    rintro σ H1 ⟨wd, ww, rfl, T1, S1⟩
    refine ⟨_, rfl, _, rfl, _, _, rfl, rfl, t, c, _, rfl, T1, by omega, big1000 (by omega) (by omega), fun j H2 j0 ju T2 S2 => ?_⟩
    have S12 := S1.trans S2
    clear S1 S2 T1
    refine ⟨fun σ H' => ∃ (n : V) (dn : PyData), σ = [some (.ref t), some (.ref L), some (.int u), some (.str wd), some n, some (.str "bo")] ∧ DhF H H' n dn ∧ Cm dn ∧ dn ≠ .none ∧ TapeL c H' t ∧ SameB t H H', ?_, ?_⟩
    · refine ⟨_, rfl, t, c, _, rfl, T2, by decide, big1000 (by decide) (by decide), fun q H3 q0 q4 T3 S3 => ⟨rfl, _, rfl, ite2 (fun _ => ?_) (fun _ => ?_)⟩⟩
      · refine ⟨_, rfl, t, c, rfl, T3, fun v d H4 dv cd nd T4 S4 => ⟨v, d, rfl, ?_, cd, nd.2, T4, (S12.trans S3).trans S4⟩⟩
        exact dv.wide (S12.trans S3) T3.tape
      · exact ⟨_, _, rfl, fun _ _ => .int j, ⟨tm_up ((tm_int (by omega)).mono (by decide) (by decide)), nofun, rfl⟩, nofun, T3, S12.trans S3⟩
    clear S12 T2
    rintro σ H2 ⟨n, dn, rfl, hn, cn, nn, T2, S2⟩
    refine ⟨fun σ H' => ∃ (y : V) (dy : PyData), σ = [some (.ref t), some (.ref L), some (.int u), some (.str wd), some n, some y] ∧ DhF H H' n dn ∧ DhF H H' y dy ∧ Cm dy ∧ TapeL c H' t ∧ SameB t H H', ?_, ?_⟩
    · refine ⟨_, rfl, t, c, _, rfl, T2, by decide, big1000 (by decide) (by decide), fun q H3 q0 q4 T3 S3 => ⟨rfl, _, rfl, ite2 (fun _ => ?_) (fun _ => ?_)⟩⟩
      · refine ⟨_, rfl, t, c, rfl, T3, fun v d H4 dv cd nd T4 S4 => ⟨v, d, rfl, hn.later hT.tape (S3.trans S4), ?_, cd, T4, (S2.trans S3).trans S4⟩⟩
        exact dv.wide (S2.trans S3) T3.tape
      · exact ⟨_, _, rfl, hn.later hT.tape S3, fun _ _ => .str "bo", cm_str ⟨by decide +kernel, by decide +kernel⟩, T3, S2.trans S3⟩
    clear hn T2 S2
    rintro σ H2 ⟨y, dy, rfl, hn, hy, cy, T2, S2⟩
    refine ⟨_, rfl, _, rfl, _, rfl, _, rfl, t, c, L, xs, ps, rfl, T2, S2 _ _ (hT.tape.neT hL) hL, hc.b hT.tape S2, hk, l8, l0, fun v d ds H3 dv e10 l10 cds T3 S3 => ?_⟩
    have dv' := dv.wide S2 T2.tape
    have S23 := S2.trans S3
    refine ⟨_, rfl, by show 4 ≤ sizeLine; decide, fun r hr' => ?_⟩
    have zr := Same.upd (o := .tup [.str wd, n, v, y]) hr'
    have zb := Same.b t zr
    refine k r wd n v y dn d dy _ ⟨upd_same, S23.free T3.tape hr', hn.later hT.tape (S3.trans zb), dv'.later hT.tape zb, hy.later hT.tape (S3.trans zb), cn, nn, cy, ⟨ds, e10, l10, cds⟩, ww⟩ (T3.same zr) (S23.trans zb)
end
end K07
set_option Elab.async false
set_option linter.all false
set_option maxRecDepth 100000
set_option maxHeartbeats 4000000
namespace K07
open PySem PySem.Spec PyProof.Rows L2 Lc
abbrev sDu : Stmt := top 49
def OutT (H : Hp) (l : List V) (Q : VK) : Prop := ∀ (r : Addr) (H' : Hp), Same H H' → H' r = some (.tup l) → Q (.ref r) H'
theorem OutT.same {H H' : Hp} {l : List V} {Q : VK} (h : OutT H l Q) (s : Same H H') : OutT H' l Q := fun r H2 s2 e => h r H2 (s.trans s2) e
def wordE : Nat → Str
  | 0 => "row"
  | 1 => "name"
  | 2 => "number"
  | 3 => "version"
  | _ => "large"
def outU : Option (Nat × V) → List V
  | none => [.str "told"]
  | some (c, x) => [.str (wordE c), x, .bl true]
def dueU (ks : List Str) (es : List En) (wd : Str) (n y : V) (dn d : PyData) : Option (Nat × V) :=
  if wd = "rows" then versU es n dn else if wd = "authors" then usedU es n dn else if wd = "add" then orU (rowU ks d) (handD es y) else if wd = "correct" then orU (numU es n dn) (orU (rowU ks d) (handD es y)) else orU (numU es n dn) (handD es y)
def spDu : Sp := fun vs H Q _ => ∃ (cv L r : Addr) (xs zs : List V) (ps : List (Str × Str)) (es : List En) (wd : Str) (n v y : V) (dn d dy : PyData), vs = [.ref cv, .ref L, .ref r] ∧ H cv = some (.tup xs) ∧ Cols H xs ps ∧ (∀ p ∈ ps, KindS p.2) ∧ ps.length ≤ 8 ∧
  H L = some (.lst zs) ∧ DhAll H zs (es.map En.d) ∧ OkEs (ps.map (·.2)) es ∧ es.length ≤ 410 ∧ H r = some (.tup [.str wd, n, v, y]) ∧ wd ∈ wordsC ∧ Dh H n dn ∧ Dh H v d ∧ Dh H y dy ∧ TxD dy ∧ (∀ ds, d = .tuple ds → ∀ x ∈ ds, TxD x) ∧ OutT H (outU (dueU (ps.map (·.2)) es wd n y dn d)) Q
theorem in_ints (n : Int) : ∀ ms : List Int, inV (.int n) (ms.map V.int) = decide (n ∈ ms)
  | [] => by simp [inV]
  | m :: ms => by
    have ih := in_ints n ms
    unfold inV at ih ⊢
    rw [List.map_cons, List.any_cons, ih]
    by_cases z : n = m
    · subst z; simp [eqV]
    · simp [z, eqV, Ne.symm z]
theorem due_hand {ks : List Str} {es : List En} {wd : Str} {n y : V} {dn d : PyData} (w1 : wd ≠ "rows") (w2 : wd ≠ "authors") (hN : wd ≠ "add" → numU es n dn = none) (hR : wd = "add" ∨ wd = "correct" → rowU ks d = none) : dueU ks es wd n y dn d = handD es y := by
  unfold dueU
  rw [if_neg w1, if_neg w2]
  by_cases a : wd = "add"
  · rw [if_pos a, hR (.inl a)]; rfl
  · rw [if_neg a, hN a]
    by_cases c : wd = "correct"
    · rw [if_pos c, hR (.inr c)]; rfl
    · rw [if_neg c]; rfl
theorem due_row {ks : List Str} {es : List En} {wd : Str} {n y : V} {dn d : PyData} {x : Nat × V} (w1 : wd ≠ "rows") (w2 : wd ≠ "authors") (hN : wd ≠ "add" → numU es n dn = none) (wc : wd = "add" ∨ wd = "correct") (hR : rowU ks d = some x) : dueU ks es wd n y dn d = some x := by
  unfold dueU
  rw [if_neg w1, if_neg w2]
  by_cases a : wd = "add"
  · rw [if_pos a, hR]; rfl
  · rw [if_neg a, hN a, if_pos (wc.resolve_left a), hR]; rfl
theorem due_num {ks : List Str} {es : List En} {wd : Str} {n y : V} {dn d : PyData} {x : Nat × V} (w1 : wd ≠ "rows") (w2 : wd ≠ "authors") (a : wd ≠ "add") (hN : numU es n dn = some x) : dueU ks es wd n y dn d = some x := by
  unfold dueU
  rw [if_neg w1, if_neg w2, if_neg a, hN]
  split <;> rfl
theorem due_au {ks : List Str} {es : List En} {wd : Str} {n y : V} {dn d : PyData} (w2 : wd = "authors") : dueU ks es wd n y dn d = usedU es n dn := by
  unfold dueU
  rw [if_neg (by rw [w2]; decide +kernel), if_pos w2]
theorem due_rows {ks : List Str} {es : List En} {wd : Str} {n y : V} {dn d : PyData} (w1 : wd = "rows") : dueU ks es wd n y dn d = versU es n dn := by
  unfold dueU
  rw [if_pos w1]
abbrev ttDu (K : PySem.W.Frag) : TT := tTest (tOp rEq (tOp (rIxT K) (tVar 8) (tC (.int 0))) (tC (.str "add")))
section
variable {P : Program} {w : World} {K : PySem.W.Frag} {mg : Str → Option Value} {base : Heap} {f fW fS fN fV : Addr} {fd fdW fdS fdN fdV : FuncData}
abbrev nDu : List Str := ["_law_columns_here", "_law_deeds_here", "_law_call_here", "_law_word", "_law_number", "_law_values_here", "_law_hand", "_law_used", "_law_deed", "_law_alive", "_law_at", "_law_old", "_law_index", "_law_value_here"]
theorem scDu : FnScope nDu ["_law_columns_here", "_law_deeds_here", "_law_call_here"] (defScope sDu) := ⟨rfl, rfl, rfl, by decide +kernel, rfl, by decide +kernel, by decide +kernel⟩
theorem ok_du (F : Fun K "_law_due" "_law_due" sDu f fd) (T : Bt mg) (GW : FnOk P w K mg base CX0 1 fW fdW ["_law_value_here"] spWhole) (mW : mg "_law_whole" = some (.ref fW)) (kW : PySem.W.keepIn K (.ref fW) = true) (bW : Binds K fdW ["_law_value_here"] [])
    (GS : FnOk P w K mg base CX0 1 fS fdS ["_law_deeds_here"] spSt) (mS : mg "_law_states" = some (.ref fS)) (kS : PySem.W.keepIn K (.ref fS) = true) (bS : Binds K fdS ["_law_deeds_here"] [])
    (GN : FnOk P w K mg base CX0 1 fN fdN ["_law_value_here"] spName) (mN : mg "_law_is_name" = some (.ref fN)) (kN : PySem.W.keepIn K (.ref fN) = true) (bN : Binds K fdN ["_law_value_here"] [])
    (GV : FnOk P w K mg base CX0 2 fV fdV ["_law_value_here", "_law_kind"] spLiv) (mV : mg "_law_is_value" = some (.ref fV)) (kV : PySem.W.keepIn K (.ref fV) = true) (bV : Binds K fdV ["_law_value_here", "_law_kind"] []) : FnOk P w K mg base CX0 3 f fd ["_law_columns_here", "_law_deeds_here", "_law_call_here"] spDu := by
  refine F.ok scDu (fun vs H Q E h => ?_) (fun cdv A outer s H vs Q E hr h => ?_)
  · obtain ⟨cv, L, r, xs, zs, ps, es, wd, n, v, y, dn, d, dy, rfl, _⟩ := h
    rfl
  · obtain ⟨cv, L, r, xs, zs, ps, es, wd, n, v, y, dn, d, dy, rfl, hcv, hc, hk, l8, hL, hz, oe, l4, hR, ww, hn, hv, hy, ty, tx, k⟩ := h
    have hr1 : Room 1 _ := hr.mono (by decide)
    have hr2 : Room 2 _ := hr.mono (by decide)
    refine ⟨_, pss_cons (ps_asg (pv 2) (pg_tup rfl (pgs_cons (pg_name (i := 3) scDu.nd rfl (.inl rfl)) (pgs_cons (pg_name (i := 4) scDu.nd rfl (.inl rfl)) (pgs_cons (pg_name (i := 5) scDu.nd rfl (.inl rfl)) (pgs_cons (pg_name (i := 6) scDu.nd rfl (.inl rfl)) pgs_nil))))))
      (Evl.pss_cut (ps_set (i := 7) scDu.nd rfl (Or.inl rfl) (pe_callB call_len_seq (by rfl) T.len PySem.boot_len (pa_cons (pe_lc (own := [("_law_deed", 8)]) (g := gName 8) (tt := ttDu K) (te := tVar 8) (by rfl) scDu.nd (pi_list (pv 1)) (blkOk_by (own := [("_law_deed", 8)]) (N := nDu) (sc := defScope sDu) (by decide +kernel))
              (fun _ _ _ _ _ => pg_name (i := 8) scDu.nd rfl (Or.inl rfl)) (fun _ _ _ _ _ => pts_one (pt_cmpR op_eq (pe_ix ix_tup (pv 8) pe_int (fun _ _ => rfl)) pe_str (nomark _))) (fun _ _ _ _ _ => pv 8)) pa_nil)))
      (pss_cons (ps_if (pt_cmpR op_eq (pv 3) pe_str (nomark _)) (pss_cons (ps_if (PW.pt (pw_or (pt_not (pt_val (pe_call GW hr1 (by rfl) mW kW bW .nil pass0 (pa_cons (pv 4) pa_nil)))) (pw_or1 (pt_not (pt_chain op_le op_le pe_int (pv 4) (pe_callB call_len_seq (by rfl) T.len PySem.boot_len (pa_cons (pv 1) pa_nil)))))))
            (pss_one (ps_ret (pe_tup (pa_cons pe_str (pa_cons (pv 4) (pa_cons pe_bl pa_nil)))))) pss_nil) (pss_one (ps_ret (pe_tup (pa_cons pe_str pa_nil))))) pss_nil)
      (Evl.pss_cut (ps_setLc (i := 9) (own := [("_law_at", 10), ("_law_old", 11)]) (g := gTup K 2 (gCons (gName 10) (gCons (gName 11) gNil))) (tt := tYes) (te := tVar 10) (by rfl) scDu.nd rfl rfl (sw_true rfl rfl rfl (by decide +kernel)) (pi_list (pe_ix ix_list (pe_call GS hr1 (by rfl) mS kS bS .nil pass0 (pa_cons (pv 1) pa_nil)) (pe_un un_neg pe_int) (fun _ _ => rfl))) (blkOk_by (own := [("_law_at", 10), ("_law_old", 11)]) (N := nDu) (sc := defScope sDu) (by decide +kernel))
          (fun _ _ _ _ _ => pg_tup rfl (pgs_cons (pg_name (i := 10) scDu.nd rfl (.inl rfl)) (pgs_cons (pg_name (i := 11) scDu.nd rfl (.inl rfl)) pgs_nil))) (fun _ _ _ _ _ => pts_nil) (fun _ _ _ _ _ => pv 10))
      (Evl.pss_cut (ps_if (pt_cmpR op_eq (pv 3) pe_str (nomark _)) (pss_one (ps_set (i := 9) scDu.nd rfl (Or.inl rfl) (pe_listRg rfl (by rfl) T.list (prg_1 (by rfl) T.range (pv 7))))) pss_nil)
      (Evl.pss_cut (ps_if (PW.pt (pw_and (pt_cmpR op_ne (pv 3) pe_str (nomark _)) (pw_and1 (PW.pt (pw_or (pt_not (pt_val (pe_call GW hr1 (by rfl) mW kW bW .nil pass0 (pa_cons (pv 4) pa_nil)))) (pw_or1 (pt_cmpR op_notIn_seq (pv 4) (pv 9) (by rfl)))))))) (pss_one (ps_ret (pe_tup (pa_cons pe_str (pa_cons (pv 4) (pa_cons pe_bl pa_nil)))))) pss_nil)
      (Evl.pss_cut (ps_if (pt_cmpR op_in_seq (pv 3) (pe_tup (pa_cons pe_str (pa_cons pe_str pa_nil))) (by rfl))
          (pss_cons (ps_if (PW.pt (pw_or (pt_not (pt_val (pe_callB call_isi (by rfl) T.isi boot_isinstance (pa_cons (pv 5) (pa_cons (pe_bltn (v := .ty "tuple") (by rfl) T.tuple boot_tuple rfl) pa_nil)))))
            (pw_or1 (pt_cmpR op_ne (pe_callB call_len_seq (by rfl) T.len PySem.boot_len (pa_cons (pv 5) pa_nil)) (pe_callB call_len_seq (by rfl) T.len PySem.boot_len (pa_cons (pv 0) pa_nil)) (nomark _))))) (pss_one (ps_ret (pe_tup (pa_cons pe_str (pa_cons pe_non (pa_cons pe_bl pa_nil)))))) pss_nil)
          (pss_one (ps_for PassesOwn.never rfl (pi_enT (by rfl) T.enum (pa_cons (pv 5) pa_nil)) (pg_tup rfl (pgs_cons (pg_name (i := 12) scDu.nd rfl (.inl rfl)) (pgs_cons (pg_name (i := 13) scDu.nd rfl (.inl rfl)) pgs_nil)))
            (pss_one (ps_if (pt_not (pt_val (pe_call GV hr2 (by rfl) mV kV bV .nil pass0 (pa_cons (pv 13) (pa_cons (pe_ix ix_tup (pe_ix ix_tup (pv 0) (pv 12) (fun _ _ => rfl)) pe_int (fun _ _ => rfl)) pa_nil)))))
              (pss_one (ps_ret (pe_tup (pa_cons pe_str (pa_cons (pv 12) (pa_cons pe_bl pa_nil)))))) pss_nil))))) pss_nil)
      (pss_cons (ps_if (PW.pt (pw_and (pt_cmpR op_ne (pv 3) pe_str (nomark _)) (pw_and1 (pt_not (pt_val (pe_call GN hr1 (by rfl) mN kN bN .nil pass0 (pa_cons (pv 6) pa_nil))))))) (pss_one (ps_ret (pe_tup (pa_cons pe_str (pa_cons (pv 6) (pa_cons pe_bl pa_nil)))))) pss_nil)
      (pss_cons (ps_if (PW.pt (pw_and (pt_cmpR op_ne (pv 3) pe_str (nomark _)) (pw_and1 (pt_cmpR op_ge (pe_callB call_len_seq (by rfl) T.len PySem.boot_len (pa_cons (pv 1) pa_nil)) pe_int (nomark _))))) (pss_one (ps_ret (pe_tup (pa_cons pe_str (pa_cons pe_int (pa_cons pe_bl pa_nil)))))) pss_nil)
      (pss_one (ps_ret (pe_tup (pa_cons pe_str pa_nil)))))))))))), ?_⟩
    have three : 3 ≤ sizeLine := by decide
    have one : 1 ≤ sizeLine := by decide
    have fin : ∀ {H' : Hp} {l : List V}, Same H H' → outU (dueU (ps.map (·.2)) es wd n y dn d) = l → ∀ q, H' q = none → Q (.ref q) (upd H' q (.tup l)) := fun s e q hq => k q _ (s.trans (Same.upd hq)) (by rw [e]; exact upd_same)
    have lx : zs.length = es.length := by rw [hz.len, List.length_map]
    refine ⟨_, rfl, r, _, rfl, SqT.of hR, rfl, _, _, rfl, _, _, rfl, _, _, rfl, _, _, rfl, rfl, ?_⟩
    -- how many are used
    refine ⟨fun σ H' => ∃ x8 : Option V, σ = [some (.ref cv), some (.ref L), some (.ref r), some (.str wd), some n, some v, some y, some (.int (usedD es)), x8, none, none, none, none, none] ∧ Same H H', ?_, ?_⟩
    · refine ⟨_, rfl, L, rfl, ⟨_, SqL.of hL⟩, fun D hD => lc_list (K := K) (a := L) (xs := zs) (fun i H' => ∃ ys : List V, H' D = some (.lst ys) ∧ ys.length = usedD (es.take i) ∧ Same H H') ⟨[], upd_same, rfl, Same.upd hD⟩ (fun i H' _ p => by obtain ⟨_, _, _, s'⟩ := p; exact SqL.of (s' _ _ hL)) ?_ ?_⟩
      · rintro i x H5 hx ⟨ys, hD1, ly, s5⟩
        obtain ⟨e, he, de⟩ := en_get hz hx
        obtain ⟨a', v', rfl, ea, dv⟩ := en_of (de.same s5)
        have ek : es.take (i + 1) = es.take i ++ [e] := by rw [List.take_add_one, he]; rfl
        have eu := usedD_snoc (es.take i) e
        rw [← ek] at eu
        refine ⟨rfl, ?_⟩
        change ttDu K _ _ _
        refine ⟨_, rfl, a', _, _, _, rfl, rfl, SqT.of ea, rfl, rfl, _, rfl, ite2 (fun y => ?_) (fun y => ?_)⟩
        · have ew : e.w = "add" := by have := of_decide_eq_true y; injection this
          rw [if_pos ew] at eu
          refine ⟨_, rfl, ys, hD1, ?_, ys ++ [.ref a'], upd_same, ?_, fun b o eb => by rw [upd_ne (ne_of_none eb hD)]; exact s5 b o eb⟩
          · rw [ly]
            have : usedD (es.take i) ≤ (es.take i).length := List.length_filter_le _ _
            rw [List.length_take] at this
            exact Nat.lt_of_le_of_lt (show _ ≤ 1000 by omega) (by decide)
          · rw [List.length_append, ly, eu]; rfl
        · have ew : e.w ≠ "add" := fun q => y (decide_eq_true (by rw [q]))
          rw [if_neg ew] at eu
          exact ⟨ys, hD1, by rw [ly, eu]; rfl, s5⟩
      · rintro H5 ⟨ys, hD5, ly, s5⟩
        rw [lx, List.take_length] at ly
        exact ⟨D, ys, rfl, .inl (SqL.of hD5), _, by rw [ly]; rfl, s5⟩
    rintro σ H1 ⟨x8, rfl, s1⟩
    refine ⟨_, rfl, rfl, _, rfl, ?_⟩
    rw [dec_str]
    by_cases w1 : wd = "rows"
    · rw [decide_eq_true w1]
      rw [due_rows w1] at fin
      refine iteT ⟨_, rfl, n, _, rfl, (hn.same s1).ty, _, rfl, ?_⟩
      rcases int_or hn with ⟨m, rfl, rfl⟩ | ⟨ni, hu⟩
      · refine iteF ⟨_, rfl, _, _, rfl, rfl, _, rfl, ?_⟩
        have ev : versU es (.int m) (.int m) = if 0 ≤ m ∧ m ≤ (es.length : Int) then none else some (3, .int m) := rfl
        rw [ev] at fin
        by_cases m0 : 0 ≤ m
        · rw [decide_eq_true m0]
          refine iteT ⟨_, rfl, L, _, rfl, .inl (SqL.of (s1 _ _ hL)), _, _, rfl, rfl, _, rfl, ?_⟩
          by_cases m1 : m ≤ (zs.length : Int)
          · rw [decide_eq_true m1]
            rw [if_pos ⟨m0, by omega⟩] at fin
            exact iteF ⟨one, fin s1 rfl⟩
          · rw [decide_eq_false m1]
            rw [if_neg (by omega)] at fin
            exact iteT ⟨_, rfl, three, fin s1 rfl⟩
        · rw [decide_eq_false m0]
          rw [if_neg (by omega)] at fin
          exact iteF ⟨_, rfl, iteT ⟨_, rfl, three, fin s1 rfl⟩⟩
      · rw [(hu es).1] at fin
        rw [show (tyD dn == "int") = false by simpa using ni]
        exact iteT (iteT ⟨_, rfl, three, fin s1 rfl⟩)
    rw [decide_eq_false w1]
    refine iteF ?_
    -- the rows that stand
    refine ⟨fun σ H' => ∃ (p : Addr) (x10 x11 : Option V), σ = [some (.ref cv), some (.ref L), some (.ref r), some (.str wd), some n, some v, some y, some (.int (usedD es)), x8, some (.ref p), x10, x11, none, none] ∧ H' p = some (.lst (((stD es).map (·.1)).map V.int)) ∧ Same H H', ?_, ?_⟩
    · refine ⟨_, rfl, L, zs, _, es, rfl, s1 _ _ hL, DhAll.same s1 hz, oe, l4, fun q qs H2 s2 hq lq hs => ?_⟩
      obtain ⟨q0, ys0, e0, hq0, dh0⟩ := hs es.length (Nat.le_refl _)
      rw [List.take_length] at dh0
      have ei : ixN qs.length (-1) = some es.length := by
        unfold ixN
        rw [lq, if_neg (by decide), if_pos (by omega)]
        congr 1
        omega
      have l0 : ys0.length = (stD es).length := by rw [dh0.len]; unfold rowsD; rw [List.length_map]
      have lst : (stD es).length ≤ es.length := oe.keys.2.2
      refine ⟨_, rfl, q, qs, _, _, rfl, rfl, SqL.of hq, (by show (ixN qs.length (-1)).bind (fun j => qs[j]?) = some (.ref q0); rw [ei]; exact e0), q0, rfl, ⟨_, SqL.of hq0⟩, fun D hD => lc_list (K := K) (a := q0) (xs := ys0) (fun i H' => H' D = some (.lst ((((stD es).take i).map (·.1)).map V.int)) ∧ Same H2 H') ⟨upd_same, Same.upd hD⟩ (fun i H' _ p => SqL.of (p.2 _ _ hq0)) ?_ ?_⟩
      · rintro i x H5 hx ⟨hD1, s5⟩
        obtain ⟨p, hp, a, o, rfl, ea, _⟩ := rows_get dh0 hx
        refine ⟨a, _, rfl, SqT.of (s5 _ _ ea), rfl, _, _, rfl, _, _, rfl, rfl, rfl, ?_⟩
        dsimp only [tYes]
        refine iteT ?_
        refine ⟨_, rfl, _, hD1, ?_, ?_, fun b o' eb => by rw [upd_ne (ne_of_none eb hD)]; exact s5 b o' eb⟩
        · rw [List.length_map, List.length_map, List.length_take]
          exact Nat.lt_of_le_of_lt (show _ ≤ 410 by omega) (by decide)
        · rw [upd_same, List.take_add_one, hp]
          simp
      · rintro H5 ⟨hD5, s5⟩
        rw [l0, List.take_length] at hD5
        exact ⟨D, _, _, rfl, hD5, (s1.trans s2).trans s5⟩
    rintro σ H2 ⟨p, x10, x11, rfl, hp, s2⟩
    clear s1 H1
    refine ⟨fun σ H' => ∃ (p : Addr) (ms : List Int), σ = [some (.ref cv), some (.ref L), some (.ref r), some (.str wd), some n, some v, some y, some (.int (usedD es)), x8, some (.ref p), x10, x11, none, none] ∧ H' p = some (.lst (ms.map V.int)) ∧ (wd = "authors" → ∀ m, m ∈ ms ↔ 0 ≤ m ∧ m < (usedD es : Int)) ∧ (wd ≠ "authors" → ms = (stD es).map (·.1)) ∧ Same H H', ?_, ?_⟩
    · refine ⟨_, rfl, rfl, _, rfl, ?_⟩
      rw [dec_str]
      by_cases w2 : wd = "authors"
      · rw [decide_eq_true w2]
        have lu : usedD es ≤ es.length := List.length_filter_le _ _
        refine iteT ⟨_, rfl, _, rfl, RgOk.of_le (by decide) (by omega) (by decide) (by omega), fun q hq => ⟨q, (List.range (usedD es)).map (fun i : Nat => (i : Int)), rfl, ?_, fun _ m => ?_, fun z => absurd w2 z, s2.trans (Same.upd hq)⟩⟩
        · rw [upd_same]
          unfold rgV
          rw [List.map_map]
          simp [Function.comp_def]
        · rw [List.mem_map]
          constructor
          · rintro ⟨i, hi, rfl⟩
            have := List.mem_range.mp hi
            omega
          · intro hm
            exact ⟨m.toNat, List.mem_range.mpr (by omega), by omega⟩
      · rw [decide_eq_false w2]
        exact iteF ⟨p, _, rfl, hp, fun z => absurd z w2, fun _ => rfl, s2⟩
    clear hp p s2 H2
    rintro σ H2 ⟨p, ms, rfl, hp, m1, m2, s2⟩
    -- the number
    refine ⟨fun σ H' => σ = [some (.ref cv), some (.ref L), some (.ref r), some (.str wd), some n, some v, some y, some (.int (usedD es)), x8, some (.ref p), x10, x11, none, none] ∧ (wd ≠ "add" → wd ≠ "authors" → numU es n dn = none) ∧ (wd = "authors" → usedU es n dn = none) ∧ Same H H', ?_, ?_⟩
    · refine ⟨_, rfl, rfl, _, rfl, ?_⟩
      rw [dec_str]
      by_cases wa : wd = "add"
      · rw [decide_eq_true wa]
        exact iteF (iteF ⟨rfl, fun z => absurd wa z, fun z => absurd (wa.symm.trans z) (by decide +kernel), s2⟩)
      rw [decide_eq_false wa]
      refine iteT ⟨_, rfl, n, _, rfl, (hn.same s2).ty, _, rfl, ?_⟩
      have bad : usedU es n dn = some (2, n) → numU es n dn = some (2, n) → outU (dueU (ps.map (·.2)) es wd n y dn d) = [.str "number", n, .bl true] := fun b1 b2 => by
        by_cases w2 : wd = "authors"
        · rw [due_au w2, b1]; rfl
        · rw [due_num w1 w2 wa b2]; rfl
      rcases int_or hn with ⟨m, rfl, rfl⟩ | ⟨ni, hu⟩
      · refine iteF ⟨_, rfl, _, rfl, p, _, rfl, .inl (SqL.of hp), rfl, by simp [flatV], _, rfl, ?_⟩
        rw [in_ints]
        have eu : usedU es (.int m) (.int m) = if 0 ≤ m ∧ m < (usedD es : Int) then none else some (2, .int m) := rfl
        have en : numU es (.int m) (.int m) = if decide (m ∈ (stD es).map (·.1)) = true then none else some (2, .int m) := rfl
        by_cases mm : m ∈ ms
        · rw [decide_eq_true mm]
          refine iteF ⟨rfl, fun _ w2 => ?_, fun w2 => ?_, s2⟩
          · rw [en, ← m2 w2, decide_eq_true mm, if_pos rfl]
          · rw [eu, if_pos ((m1 w2 m).mp mm)]
        · rw [decide_eq_false mm]
          refine iteT ⟨_, rfl, three, fin s2 ?_⟩
          by_cases w2 : wd = "authors"
          · rw [due_au w2, eu, if_neg (fun z => mm ((m1 w2 m).mpr z))]; rfl
          · rw [due_num w1 w2 wa (x := (2, .int m)) (by rw [en, ← m2 w2, decide_eq_false mm]; rfl)]; rfl
      · rw [show (tyD dn == "int") = false by simpa using ni]
        refine iteT (iteT ⟨_, rfl, three, fin s2 (bad (hu es).2 ?_)⟩)
        unfold numU
        have : standD es dn = false := by cases dn <;> first | rfl | exact absurd rfl ni
        rw [this]
        rfl
    clear m1 m2 hp s2 H2
    rintro σ H2 ⟨rfl, n1, n2, s2⟩
    -- the row
    refine ⟨fun σ H' => ∃ x12 x13 : Option V, σ = [some (.ref cv), some (.ref L), some (.ref r), some (.str wd), some n, some v, some y, some (.int (usedD es)), x8, some (.ref p), x10, x11, x12, x13] ∧ (wd = "add" ∨ wd = "correct" → rowU (ps.map (·.2)) d = none) ∧ Same H H', ?_, ?_⟩
    · refine ⟨_, rfl, by show 2 ≤ sizeLine; decide, fun t ht => ⟨t, _, rfl, .inr (SqT.of upd_same), rfl, rfl, _, rfl, ?_⟩⟩
      have s3 := s2.trans (Same.upd (o := .tup [.str "add", .str "correct"]) ht)
      rw [show inV (.str wd) [.str "add", .str "correct"] = decide (wd ∈ (["add", "correct"] : List Str)) from in_strs (ss := ["add", "correct"])]
      generalize upd H2 t (.tup [.str "add", .str "correct"]) = H3 at s3 ⊢
      clear s2
      by_cases wc : wd ∈ (["add", "correct"] : List Str)
      · rw [decide_eq_true wc]
        have wc' : wd = "add" ∨ wd = "correct" := by simpa using wc
        have w2 : wd ≠ "authors" := by rcases wc' with z | z <;> rw [z] <;> decide +kernel
        have nN : wd ≠ "add" → numU es n dn = none := fun a => n1 a w2
        have ty := (hv.same s3).ty
        have bad : ∀ {x : V}, rowBad (ps.map (·.2)) d = some x → outU (dueU (ps.map (·.2)) es wd n y dn d) = [.str "row", x, .bl true] := fun {x} b => by
          rw [due_row w1 w2 nN wc' (x := (0, x)) (by unfold rowU; rw [b]; rfl)]; rfl
        refine iteT ⟨_, rfl, v, .ty "tuple", _, _, _, rfl, .ty "tuple", ty.x, kit_tuple ty.mem, _, rfl, ?_⟩
        by_cases tt : tyD d = "tuple"
        · rw [tt]
          cases hv with
          | @tup b ys ds hb hds =>
            have ly := hds.len
            have lc := hc.len
            refine iteF ⟨_, rfl, b, ys, rfl, .inr (SqT.of (s3 _ _ hb)), _, rfl, cv, xs, rfl, .inr (SqT.of (s3 _ _ hcv)), rfl, _, rfl, ?_⟩
            by_cases ll : ys.length = xs.length
            · rw [show decide (V.int (ys.length : Int) = V.int (xs.length : Int)) = true from decide_eq_true (by rw [ll])]
              refine iteF ?_
              have rb : rowBad (ps.map (·.2)) (.tuple ds) = (badV (ps.map (·.2)) ds 0).map (fun i => V.int (i : Int)) := by
                show (if ds.length = (ps.map (·.2)).length then _ else _) = _
                rw [if_pos (by rw [List.length_map]; omega)]
              have txd := tx ds rfl
              refine ⟨_, rfl, b, ys, rfl, SqT.of (s3 _ _ hb), for_it (walk_enT (K := K) (a := b) (xs := ys)) (fun i σ H' => (∃ (x12 x13 : Option V), σ = [some (.ref cv), some (.ref L), some (.ref r), some (.str wd), some n, some (.ref b), some y, some (.int (usedD es)), x8, some (.ref p), x10, x11, x12, x13]) ∧ Same H H' ∧ badV ((ps.map (·.2)).drop i) (ds.drop i) i = badV (ps.map (·.2)) ds 0) ⟨⟨_, _, rfl⟩, s3, rfl⟩ (fun i σ H' _ p => SqT.of (p.2.1 _ _ hb)) ?_ ?_⟩
              · rintro i x σ Ha Hb hi ⟨⟨x12, x13, rfl⟩, sa, bd⟩ ⟨q, i', z, rfl, hq, rfl, e1, e2⟩
                obtain rfl : V.int ((i : Nat) : Int) = i' := Option.some.inj e1
                have zq := Same.upd (o := .tup [.int ((i : Nat) : Int), z]) hq
                have sb := sa.trans zq
                have hyl : i < ys.length := (List.getElem?_eq_some_iff.mp e2).1
                have hxl : i < xs.length := by omega
                obtain ⟨a', nm, kk, ex, ea, ep⟩ := hc.get _ _ (List.getElem?_eq_getElem hxl)
                obtain ⟨d', hdi, dh⟩ := hds.get i _ e2
                obtain ⟨hdl, ed⟩ := List.getElem?_eq_some_iff.mp hdi
                have hkl : i < (ps.map (·.2)).length := by rw [List.length_map]; omega
                have ekk : (ps.map (·.2))[i]'hkl = kk := by
                  have : (ps.map (·.2))[i]? = some kk := by rw [List.getElem?_map, ep]; rfl
                  rw [List.getElem?_eq_getElem hkl] at this
                  exact Option.some.inj this
                rw [List.drop_eq_getElem_cons hkl, List.drop_eq_getElem_cons hdl, ekk, ed] at bd
                refine ⟨q, _, rfl, SqT.of upd_same, rfl, _, _, rfl, _, _, rfl, rfl, ?_⟩
                refine ⟨_, rfl, _, rfl, _, rfl, cv, _, _, _, rfl, rfl, SqT.of (sb _ _ hcv), at_of (j := i) rfl (by rw [List.getElem?_eq_getElem hxl, ex]), a', _, _, _, rfl, rfl, SqT.of (sb _ _ ea), rfl, z, kk, d', rfl, dh.same sb, txd d' (List.mem_of_getElem? hdi), hk _ (List.mem_of_getElem? ep), fun Hc sc => ⟨_, rfl, ?_⟩⟩
                have bd2 : (if valD kk d' = true then badV ((ps.map (·.2)).drop (i + 1)) (ds.drop (i + 1)) (i + 1) else some i) = badV (ps.map (·.2)) ds 0 := bd
                cases vv : valD kk d' with
                | true =>
                  rw [vv, if_pos rfl] at bd2
                  exact iteF ⟨⟨_, _, rfl⟩, sb.trans sc, bd2⟩
                | false =>
                  rw [vv, if_neg Bool.false_ne_true] at bd2
                  exact iteT ⟨_, rfl, three, fin (sb.trans sc) (bad (by rw [rb, ← bd2]; rfl))⟩
              · rintro σ H' ⟨⟨x12, x13, rfl⟩, sa, bd⟩
                refine ⟨_, _, rfl, fun _ => ?_, sa⟩
                rw [List.drop_of_length_le (i := ys.length) (l := ds) (by omega)] at bd
                unfold rowU
                rw [rb, ← bd]
                cases (ps.map (·.2)).drop ys.length <;> rfl
            · rw [show decide (V.int (ys.length : Int) = V.int (xs.length : Int)) = false from decide_eq_false (fun q => ll (by injection q with q; omega))]
              have rb : rowBad (ps.map (·.2)) (.tuple ds) = some .non := by
                show (if ds.length = (ps.map (·.2)).length then _ else _) = _
                rw [if_neg (by rw [List.length_map]; omega)]
              exact iteT ⟨three, fin s3 (bad rb)⟩
          | _ => exact absurd tt (by simp [tyD])
        · rw [show (tyD d == "tuple") = false by simpa using tt]
          exact iteT (iteT ⟨three, fin s3 (bad (rowBad_no tt))⟩)
      · rw [decide_eq_false wc]
        exact iteF ⟨_, _, rfl, fun z => absurd (by simpa using z) wc, s3⟩
    clear s2 H2
    rintro σ H2 ⟨x12, x13, rfl, rR, s2⟩
    -- the hand
    refine ⟨_, rfl, rfl, _, rfl, ?_⟩
    rw [dec_str]
    by_cases w2 : wd = "authors"
    · rw [decide_eq_true w2]
      refine iteF (iteF ⟨_, rfl, rfl, _, rfl, ?_⟩)
      rw [dec_str, decide_eq_true w2]
      exact iteF (iteF ⟨one, fin s2 (by rw [due_au w2, n2 w2]; rfl)⟩)
    · rw [decide_eq_false w2]
      have dh := due_hand (ks := ps.map (·.2)) (d := d) (y := y) w1 w2 (fun a => n1 a w2) rR
      rw [dh] at fin
      refine iteT ⟨_, rfl, y, _, rfl, (hy.same s2).ty, fun z e => by subst e; exact ty z (by cases hy; rfl), fun H3 s3 => ⟨_, rfl, ?_⟩⟩
      unfold handD at fin
      cases nb : nameB y with
      | false =>
        rw [if_pos nb] at fin
        exact iteT ⟨_, rfl, three, fin (s2.trans s3) rfl⟩
      | true =>
        rw [if_neg (by rw [nb]; decide)] at fin
        refine iteF ⟨_, rfl, rfl, _, rfl, ?_⟩
        rw [dec_str, decide_eq_false w2]
        refine iteT ⟨_, rfl, L, _, rfl, .inl (SqL.of ((s2.trans s3) _ _ hL)), _, _, rfl, rfl, _, rfl, ?_⟩
        by_cases l : 400 ≤ es.length
        · rw [if_pos l] at fin
          rw [decide_eq_true (by omega)]
          exact iteT ⟨three, fin (s2.trans s3) rfl⟩
        · rw [if_neg l] at fin
          rw [decide_eq_false (by omega)]
          exact iteF ⟨one, fin (s2.trans s3) rfl⟩
end
end K07
set_option Elab.async false
set_option linter.all false
set_option maxRecDepth 100000
set_option maxHeartbeats 4000000
namespace K07
open PySem PySem.Spec PyProof.Rows L2 Lc
abbrev sDn : Stmt := top 50
def tyE : Nat → String
  | 0 => "ValueError"
  | 1 => "ValueError"
  | 2 => "IndexError"
  | 3 => "IndexError"
  | _ => "OverflowError"
/-- the other class that a clause asks for -/
def otE : Nat → Nat
  | 0 => 1
  | 1 => 0
  | 2 => 3
  | _ => 2
structure XA (K : PySem.W.Frag) (A : EA) : Prop where
  xf : ∀ c, c < 5 → XfC K (A.at c)
  xc : ∀ c, c < 5 → XisC K (A.at c)
  cc : ∀ c, c < 5 → PySem.W.exmOne K (.ref (A.at c)) (.ref (A.at c)) = some true
  cn : ∀ i c, i < c → c < 5 → PySem.W.exmOne K (.ref (A.at c)) (.ref (A.at i)) = some false
  cv : ∀ c, c < 5 → PySem.W.kitOne K (.ref (A.at c)) (.type (tyE c)) = some true
  kn : ∀ c, c < 4 → PySem.W.kitOne K (.ref (A.at c)) (.ref (A.at (otE c))) = some false
/-- return (word, e.field, isinstance(e, T) and not isinstance(e, N)) -/
def tsY (K : PySem.W.Frag) (A : EA) (c : Nat) (i : Nat) : Addr → Value → Option Addr → TS := fun a cls d => tRet (tTup (tCons (tC (.str (wordE c))) (tCons (tXf a cls d (A.at c) (fldE c) (tVar i)) (tCons (tAndV (tCB (rIsX K cls d (A.at c) a) (tCons (tVar i) (tCons (tC (.ty (tyE c))) tNil))) (tNotV (tCB (rIsX K cls d (A.at c) a) (tCons (tVar i) (tCons (tC (.ref (A.at (otE c)))) tNil))))) tNil))))
def tsZ (K : PySem.W.Frag) (A : EA) (i : Nat) : Addr → Value → Option Addr → TS := fun a cls d => tRet (tTup (tCons (tC (.str "large")) (tCons (tXf a cls d A.l "size" (tVar i)) (tCons (tCB (rIsX K cls d A.l a) (tCons (tVar i) (tCons (tC (.ty "OverflowError")) tNil))) tNil))))
theorem tsY_go {K : PySem.W.Frag} {A : EA} {a d : Addr} {c i : Nat} {D : Ends} {σ : L2.St} {H : Hp} {x : V} (X : XA K A) (hc : c < 4) (hi : σ[i]? = some (some (.ref a))) (hx : H d = some (.xd [(fldE c, x)])) (k : OutT H [.str (wordE c), x, .bl true] D.rt) : tsY K A c i a (.ref (A.at c)) (some d) D σ H := by
  have dd : ∀ dd, some d = some dd → ∃ fs, H dd = some (.xd fs) := fun dd e => by cases e; exact ⟨_, hx⟩
  refine ⟨_, hi, rfl, rfl, d, _, x, rfl, hx, by simp [List.lookup], _, hi, rfl, _, _, _, rfl, .ty (tyE c), dd, X.cv c (by omega), _, rfl, iteT ?_⟩
  refine ⟨_, hi, rfl, _, _, _, rfl, .own (A.at (otE c)), dd, X.kn c hc, _, rfl, by show 3 ≤ sizeLine; decide, fun r hr => k r _ (Same.upd hr) upd_same⟩
theorem tsZ_go {K : PySem.W.Frag} {A : EA} {a d : Addr} {i : Nat} {D : Ends} {σ : L2.St} {H : Hp} {x : V} (X : XA K A) (hi : σ[i]? = some (some (.ref a))) (hx : H d = some (.xd [("size", x)])) (k : OutT H [.str "large", x, .bl true] D.rt) : tsZ K A i a (.ref A.l) (some d) D σ H := by
  have dd : ∀ dd, some d = some dd → ∃ fs, H dd = some (.xd fs) := fun dd e => by cases e; exact ⟨_, hx⟩
  refine ⟨_, hi, rfl, rfl, d, _, x, rfl, hx, by simp [List.lookup], _, hi, rfl, _, _, _, rfl, .ty "OverflowError", dd, X.cv 4 (by decide), by show 3 ≤ sizeLine; decide, fun r hr => k r _ (Same.upd hr) upd_same⟩
def lDn (K : PySem.W.Frag) (A : EA) : List Cl := [⟨.ref A.r, some 6, tsY K A 0 6⟩, ⟨.ref A.n, some 6, tsY K A 1 6⟩, ⟨.ref A.m, some 6, tsY K A 2 6⟩, ⟨.ref A.v, some 6, tsY K A 3 6⟩, ⟨.ref A.l, some 6, tsZ K A 6⟩]
theorem cl_go {K : PySem.W.Frag} {A : EA} {Wout : WX} {D : Ends} {σ : L2.St} {H : Hp} {d : Addr} {x : V} (X : XA K A) (ls : σ.length = 7) : ∀ (c : Nat), H d = some (.xd [(fldE c, x)]) → OutT H [.str (wordE c), x, .bl true] D.rt → wCl K Wout D (lDn K A) (.ref (A.at c)) (some d) σ H := by
  have at6 : ∀ a : Addr, (putS (some 6) (some (V.ref a)) σ)[6]? = some (some (.ref a)) := fun a => by
    show (σ.set 6 (some (V.ref a)))[6]? = _
    rw [List.getElem?_set_self (by omega)]
  intro c hx k
  match c, hx, k with
  | 0, hx, k => exact ⟨true, X.cc 0 (by decide), fun _ a _ => tsY_go X (by decide) (at6 a) hx k, nofun⟩
  | 1, hx, k => exact ⟨false, X.cn 0 1 (by decide) (by decide), nofun, fun _ => ⟨true, X.cc 1 (by decide), fun _ a _ => tsY_go X (by decide) (at6 a) hx k, nofun⟩⟩
  | 2, hx, k => exact ⟨false, X.cn 0 2 (by decide) (by decide), nofun, fun _ => ⟨false, X.cn 1 2 (by decide) (by decide), nofun, fun _ => ⟨true, X.cc 2 (by decide), fun _ a _ => tsY_go X (by decide) (at6 a) hx k, nofun⟩⟩⟩
  | 3, hx, k => exact ⟨false, X.cn 0 3 (by decide) (by decide), nofun, fun _ => ⟨false, X.cn 1 3 (by decide) (by decide), nofun, fun _ => ⟨false, X.cn 2 3 (by decide) (by decide), nofun, fun _ => ⟨true, X.cc 3 (by decide), fun _ a _ => tsY_go X (by decide) (at6 a) hx k, nofun⟩⟩⟩⟩
  | n + 4, hx, k => exact ⟨false, X.cn 0 4 (by decide) (by decide), nofun, fun _ => ⟨false, X.cn 1 4 (by decide) (by decide), nofun, fun _ => ⟨false, X.cn 2 4 (by decide) (by decide), nofun, fun _ => ⟨false, X.cn 3 4 (by decide) (by decide), nofun, fun _ => ⟨true, X.cc 4 (by decide), fun _ a _ => tsZ_go X (at6 a) hx k, nofun⟩⟩⟩⟩⟩
def intOf : V → Int
  | .int m => m
  | _ => 0
def newEs (es : List En) (wd : Str) (n y : V) (d : PyData) : List En :=
  if wd = "add" then es ++ [⟨"add", usedD es, d, auOf y⟩] else if wd = "correct" then es ++ [⟨"correct", intOf n, d, auOf y⟩] else if wd = "strike" then es ++ [⟨"strike", intOf n, .none, auOf y⟩] else es
def spDn (C : Addr) : Sp := fun vs H Q _ => ∃ (a lg r : Addr) (R : RD) (wd : Str) (n v y : V) (dn d dy : PyData), vs = [.ref a, .ref r] ∧ IsRg C H a lg R ∧ OkR R ∧ H r = some (.tup [.str wd, n, v, y]) ∧ wd ∈ wordsC ∧ Dh H n dn ∧ n ≠ .non ∧ Dh H v d ∧ Dh H y dy ∧ TxD dy ∧ (∀ ds, d = .tuple ds → ∀ x ∈ ds, TxD x) ∧
  (∀ c x, dueU (R.ps.map (·.2)) R.es wd n y dn d = some (c, x) → OutT H [.str (wordE c), x, .bl true] Q) ∧ (dueU (R.ps.map (·.2)) R.es wd n y dn d = none → ∀ H1, SameB lg H H1 → IsRg C H1 a lg { R with es := newEs R.es wd n y d } → OutT H1 [.str "told"] Q)
section
variable {P : Program} {w : World} {K : PySem.W.Frag} {mg : Str → Option Value} {base : Heap} {A : EA} {f C fI fA fR fS fQ fU i0 i1 i2 i3 i4 : Addr} {fd fdA fdR fdS fdQ fdU : FuncData} {gA gR gS : List Value → List Value → List Value}
abbrev nDn : List Str := ["_law_log", "_law_call_here", "_law_word", "_law_number", "_law_values_here", "_law_hand", "e"]
theorem scDn : FnScope nDn ["_law_log", "_law_call_here"] (defScope sDn) := ⟨rfl, rfl, rfl, by decide +kernel, rfl, by decide +kernel, by decide +kernel⟩
theorem ok_dn (F : Fun K "_law_done" "_law_done" sDn f fd) (T : Bt mg) (G : RgF K mg C fI) (X : XA K A) (E0' : ErF K mg "BadRow" "index" A.r i0) (E1 : ErF K mg "BadName" "given" A.n i1) (E2 : ErI K mg "NoRow" "number" A.m i2) (E3 : ErI K mg "NoVersion" "given" A.v i3) (E4 : ErO K mg "TooLarge" "size" A.l i4)
    (hA : Meth K C "add" fA) (GA : FnOk P w K mg base (L2.CX P w) 5 fA fdA ["self", "values", "author"] (spAddX C A)) (bA : KBn K fdA ["self", "values", "author"] 2 ["author"] gA (fun vs zs => vs ++ zs))
    (hR : Meth K C "correct" fR) (GR : FnOk P w K mg base (L2.CX P w) 5 fR fdR ["self", "number", "values", "author"] (spCorX C A)) (bR : KBn K fdR ["self", "number", "values", "author"] 3 ["author"] gR (fun vs zs => vs ++ zs))
    (hS : Meth K C "strike" fS) (GS : FnOk P w K mg base (L2.CX P w) 5 fS fdS ["self", "number", "author"] (spStrX C A)) (bS : KBn K fdS ["self", "number", "author"] 2 ["author"] gS (fun vs zs => vs ++ zs))
    (hQ : Meth K C "rows" fQ) (GQ : FnOk P w K mg base (L2.CX P w) 3 fQ fdQ ["self", "version"] (spRowsX C A)) (bQ : Binds K fdQ ["self", "version"] [])
    (hU : Meth K C "authors" fU) (GU : FnOk P w K mg base (L2.CX P w) 3 fU fdU ["self", "number"] (spAuX C A)) (bU : Binds K fdU ["self", "number"] []) : FnOk P w K mg base CX0 6 f fd ["_law_log", "_law_call_here"] (spDn C) := by
  refine F.ok scDn (fun vs H Q E h => ?_) (fun cdv A' outer s H vs Q E hr h => ?_)
  · obtain ⟨a, lg, r, R, wd, n, v, y, dn, d, dy, rfl, _⟩ := h
    rfl
  · obtain ⟨a, lg, r, R, wd, n, v, y, dn, d, dy, rfl, hI, o, hr0, ww, hn, nn, hv, hy, ty, tx, k1, k2⟩ := h
    have hr3 : Room 3 _ := hr.mono (by decide)
    refine ⟨_, pss_cons (ps_asg (pv 1) (pg_tup rfl (pgs_cons (pg_name (i := 2) scDn.nd rfl (.inl rfl)) (pgs_cons (pg_name (i := 3) scDn.nd rfl (.inl rfl)) (pgs_cons (pg_name (i := 4) scDn.nd rfl (.inl rfl)) (pgs_cons (pg_name (i := 5) scDn.nd rfl (.inl rfl)) pgs_nil))))))
      (Evl.pss_cut (ps_tryL (Wout := fun _ _ _ _ => False) (l := lDn K A) rfl rfl takes0
        (fun W pn xe tk _ => pss_one (ps_if (pt_cmpR op_eq (pv 2) pe_str (nomark _))
            (pss_one (ps_expr (pe_methKS (pv 0) G.cls hA GA hr bA (fun σ => passAt tk σ) (pa_cons (pv 4) pa_nil) (pk_cons (pv 5) pk_nil))))
          (pss_one (ps_if (pt_cmpR op_eq (pv 2) pe_str (nomark _))
            (pss_one (ps_expr (pe_methKS (pv 0) G.cls hR GR hr bR (fun σ => passAt tk σ) (pa_cons (pv 3) (pa_cons (pv 4) pa_nil)) (pk_cons (pv 5) pk_nil))))
          (pss_one (ps_if (pt_cmpR op_eq (pv 2) pe_str (nomark _))
            (pss_one (ps_expr (pe_methKS (pv 0) G.cls hS GS hr bS (fun σ => passAt tk σ) (pa_cons (pv 3) pa_nil) (pk_cons (pv 5) pk_nil))))
          (pss_one (ps_if (pt_cmpR op_eq (pv 2) pe_str (nomark _))
            (pss_one (ps_expr (pe_methS (pv 0) G.cls hQ GQ hr3 bQ (fun σ => passAt tk σ) (pa_cons (pv 3) pa_nil))))
            (pss_one (ps_expr (pe_methS (pv 0) G.cls hU GU hr3 bU (fun σ => passAt tk σ) (pa_cons (pv 3) pa_nil))))))))))))
        (.named (i := 6) ⟨rfl, by decide, Or.inl E0'.gC⟩ rfl scDn.nd rfl rfl (fun a ob cls d pn hz hf => pss_one (ps_ret (pe_tup (pa_cons pe_str (pa_cons (pe_xf (X.xf 0 (by decide)) E0'.nG hz hf (pv 6)) (pa_cons
            (pe_and (pe_callB (call_isX (X.xc 0 (by decide)) hz hf) (by rfl) T.isi boot_isinstance (pa_cons (pv 6) (pa_cons (pe_bltn (v := .ty "ValueError") (by rfl) T.ve PyProof.Rows.Boot.«ValueError» rfl) pa_nil)))
              (pe_one (pe_not (pe_callB (call_isX (X.xc 0 (by decide)) hz hf) (by rfl) T.isi boot_isinstance (pa_cons (pv 6) (pa_cons (pe_glob (v := .ref A.n) (by rfl) E1.gC rfl) pa_nil)))))) pa_nil))))))
        (.named (i := 6) ⟨rfl, by decide, Or.inl E1.gC⟩ rfl scDn.nd rfl rfl (fun a ob cls d pn hz hf => pss_one (ps_ret (pe_tup (pa_cons pe_str (pa_cons (pe_xf (X.xf 1 (by decide)) E1.nG hz hf (pv 6)) (pa_cons
            (pe_and (pe_callB (call_isX (X.xc 1 (by decide)) hz hf) (by rfl) T.isi boot_isinstance (pa_cons (pv 6) (pa_cons (pe_bltn (v := .ty "ValueError") (by rfl) T.ve PyProof.Rows.Boot.«ValueError» rfl) pa_nil)))
              (pe_one (pe_not (pe_callB (call_isX (X.xc 1 (by decide)) hz hf) (by rfl) T.isi boot_isinstance (pa_cons (pv 6) (pa_cons (pe_glob (v := .ref A.r) (by rfl) E0'.gC rfl) pa_nil)))))) pa_nil))))))
        (.named (i := 6) ⟨rfl, by decide, Or.inl E2.gC⟩ rfl scDn.nd rfl rfl (fun a ob cls d pn hz hf => pss_one (ps_ret (pe_tup (pa_cons pe_str (pa_cons (pe_xf (X.xf 2 (by decide)) E2.nG hz hf (pv 6)) (pa_cons
            (pe_and (pe_callB (call_isX (X.xc 2 (by decide)) hz hf) (by rfl) T.isi boot_isinstance (pa_cons (pv 6) (pa_cons (pe_bltn (v := .ty "IndexError") (by rfl) T.ie PyProof.Rows.Boot.«IndexError» rfl) pa_nil)))
              (pe_one (pe_not (pe_callB (call_isX (X.xc 2 (by decide)) hz hf) (by rfl) T.isi boot_isinstance (pa_cons (pv 6) (pa_cons (pe_glob (v := .ref A.v) (by rfl) E3.gC rfl) pa_nil)))))) pa_nil))))))
        (.named (i := 6) ⟨rfl, by decide, Or.inl E3.gC⟩ rfl scDn.nd rfl rfl (fun a ob cls d pn hz hf => pss_one (ps_ret (pe_tup (pa_cons pe_str (pa_cons (pe_xf (X.xf 3 (by decide)) E3.nG hz hf (pv 6)) (pa_cons
            (pe_and (pe_callB (call_isX (X.xc 3 (by decide)) hz hf) (by rfl) T.isi boot_isinstance (pa_cons (pv 6) (pa_cons (pe_bltn (v := .ty "IndexError") (by rfl) T.ie PyProof.Rows.Boot.«IndexError» rfl) pa_nil)))
              (pe_one (pe_not (pe_callB (call_isX (X.xc 3 (by decide)) hz hf) (by rfl) T.isi boot_isinstance (pa_cons (pv 6) (pa_cons (pe_glob (v := .ref A.m) (by rfl) E2.gC rfl) pa_nil)))))) pa_nil))))))
        (.named (i := 6) ⟨rfl, by decide, Or.inl E4.gC⟩ rfl scDn.nd rfl rfl (fun a ob cls d pn hz hf => pss_one (ps_ret (pe_tup (pa_cons pe_str (pa_cons (pe_xf (X.xf 4 (by decide)) E4.nG hz hf (pv 6)) (pa_cons
            (pe_callB (call_isX (X.xc 4 (by decide)) hz hf) (by rfl) T.isi boot_isinstance (pa_cons (pv 6) (pa_cons (pe_bltn (v := .ty "OverflowError") (by rfl) T.oe PyProof.Rows.Boot.«OverflowError» rfl) pa_nil))) pa_nil)))))) .nil))))))
      (pss_one (ps_ret (pe_tup (pa_cons pe_str pa_nil))))), ?_⟩
    obtain ⟨dx, cv, xs, ys, h1, h2, h3, h4, h5⟩ := id hI
    refine ⟨_, rfl, r, _, rfl, SqT.of hr0, rfl, _, _, rfl, _, _, rfl, _, _, rfl, _, _, rfl, rfl, ?_⟩
    refine ⟨fun σ H' => dueU (R.ps.map (·.2)) R.es wd n y dn d = none ∧ SameB lg H H' ∧ IsRg C H' a lg { R with es := newEs R.es wd n y d }, ?_, ?_⟩
    · have go : ∀ {u : Option (Nat × V)} {Q' : Prop} {σ : L2.St} {D : Ends}, σ.length = 7 → D.rt = Q → dueU (R.ps.map (·.2)) R.es wd n y dn d = u → (u = none → Q') → Vd A H u (WE (wCl K (fun _ _ _ _ => False) D (lDn K A)) σ) Q' := fun {u Q' σ D} ls hD e q => by
        refine ⟨q, fun c x eu H' s' d' H'' s'' _ hx => cl_go X ls c hx ?_⟩
        rw [hD]
        exact (k1 c x (e.trans eu)).same (s'.trans s'')
      refine ⟨_, rfl, rfl, _, rfl, ?_⟩
      rw [dec_str]
      by_cases wa : wd = "add"
      · rw [decide_eq_true wa]
        have eu : dueU (R.ps.map (·.2)) R.es wd n y dn d = orU (rowU (R.ps.map (·.2)) d) (handD R.es y) := by
          unfold dueU
          rw [if_neg (by rw [wa]; decide +kernel), if_neg (by rw [wa]; decide +kernel), if_pos wa]
        have en : newEs R.es wd n y d = R.es ++ [⟨"add", usedD R.es, d, auOf y⟩] := by unfold newEs; rw [if_pos wa]
        refine iteT ⟨_, rfl, a, dx, _, rfl, h1, rfl, _, rfl, _, rfl, rfl, rfl, a, lg, R, v, y, d, dy, rfl, hI, o, hv, tx, hy, ty, go rfl rfl eu fun un H1 s1 i1 => ⟨eu.trans un, s1, ?_⟩⟩
        rw [en]
        exact i1
      rw [decide_eq_false wa]
      refine iteF ⟨_, rfl, rfl, _, rfl, ?_⟩
      rw [dec_str]
      by_cases wc : wd = "correct"
      · rw [decide_eq_true wc]
        have eu : dueU (R.ps.map (·.2)) R.es wd n y dn d = orU (numU R.es n dn) (orU (rowU (R.ps.map (·.2)) d) (handD R.es y)) := by
          unfold dueU
          rw [if_neg (by rw [wc]; decide +kernel), if_neg (by rw [wc]; decide +kernel), if_neg wa, if_pos wc]
        have en : newEs R.es wd n y d = R.es ++ [⟨"correct", intOf n, d, auOf y⟩] := by unfold newEs; rw [if_neg wa, if_pos wc]
        refine iteT ⟨_, rfl, a, dx, _, rfl, h1, rfl, _, rfl, _, rfl, _, rfl, rfl, rfl, a, lg, R, n, v, y, dn, d, dy, rfl, hI, o, hn, hv, tx, hy, ty, go rfl rfl eu fun un m em H1 s1 i1 => ⟨eu.trans un, s1, ?_⟩⟩
        rw [en, em]
        exact i1
      rw [decide_eq_false wc]
      refine iteF ⟨_, rfl, rfl, _, rfl, ?_⟩
      rw [dec_str]
      by_cases ws : wd = "strike"
      · rw [decide_eq_true ws]
        have eu : dueU (R.ps.map (·.2)) R.es wd n y dn d = orU (numU R.es n dn) (handD R.es y) := by
          unfold dueU
          rw [if_neg (by rw [ws]; decide +kernel), if_neg (by rw [ws]; decide +kernel), if_neg wa, if_neg wc]
        have en : newEs R.es wd n y d = R.es ++ [⟨"strike", intOf n, .none, auOf y⟩] := by unfold newEs; rw [if_neg wa, if_neg wc, if_pos ws]
        refine iteT ⟨_, rfl, a, dx, _, rfl, h1, rfl, _, rfl, _, rfl, rfl, rfl, a, lg, R, n, y, dn, dy, rfl, hI, o, hn, hy, ty, go rfl rfl eu fun un m em H1 s1 i1 => ⟨eu.trans un, s1, ?_⟩⟩
        rw [en, em]
        exact i1
      rw [decide_eq_false ws]
      have en : newEs R.es wd n y d = R.es := by unfold newEs; rw [if_neg wa, if_neg wc, if_neg ws]
      rw [en]
      refine iteF ⟨_, rfl, rfl, _, rfl, ?_⟩
      rw [dec_str]
      by_cases wr : wd = "rows"
      · rw [decide_eq_true wr]
        have eu := due_rows (ks := R.ps.map (·.2)) (es := R.es) (n := n) (y := y) (dn := dn) (d := d) wr
        exact iteT ⟨_, rfl, a, dx, _, rfl, h1, rfl, _, rfl, a, lg, R, n, dn, rfl, hI, o, hn, nn, go rfl rfl eu fun un q H1 s1 => ⟨eu.trans un, Same.b lg s1, hI.same s1⟩⟩
      · rw [decide_eq_false wr]
        have wu : wd = "authors" := by
          simp only [wordsC, List.mem_cons, List.not_mem_nil, or_false] at ww
          rcases ww with z | z | z | z | z | z
          · exact absurd z wa
          · exact absurd z wc
          · exact absurd z ws
          · exact absurd z wc
          · exact absurd z wr
          · exact z
        have eu := due_au (ks := R.ps.map (·.2)) (es := R.es) (n := n) (y := y) (dn := dn) (d := d) wu
        exact iteF ⟨_, rfl, a, dx, _, rfl, h1, rfl, _, rfl, a, lg, R, n, dn, rfl, hI, o, hn, go rfl rfl eu fun un q H1 s1 => ⟨eu.trans un, Same.b lg s1, hI.same s1⟩⟩
    · rintro σ H1 ⟨un, s1, i1⟩
      exact ⟨by show 1 ≤ sizeLine; decide, fun q hq => k2 un H1 s1 i1 q _ (Same.upd hq) upd_same⟩
end
end K07
set_option Elab.async false
set_option linter.all false
set_option maxRecDepth 100000
set_option maxHeartbeats 4000000
namespace K07
open PySem PySem.Spec PyProof.Rows L2 Lc
theorem orU_none {a b : Option (Nat × V)} (h : orU a b = none) : a = none ∧ b = none := by
  cases a with
  | none => exact ⟨rfl, h⟩
  | some x => cases h
/-- a call that is not refused is an entry, or none at all -/
theorem due_none {ks : List Str} {es : List En} {wd : Str} {n y : V} {dn d : PyData} {H : Hp} (g : ∀ k ∈ ks, KindS k) (hn : Dh H n dn) (ww : wd ∈ wordsC) (h : dueU ks es wd n y dn d = none) :
    (wd = "add" ∧ y = .str (auOf y) ∧ es.length < 400 ∧ OkEn ks es ⟨"add", usedD es, d, auOf y⟩) ∨ (wd = "correct" ∧ ∃ m, n = .int m ∧ y = .str (auOf y) ∧ es.length < 400 ∧ OkEn ks es ⟨"correct", m, d, auOf y⟩) ∨
    (wd = "strike" ∧ ∃ m, n = .int m ∧ y = .str (auOf y) ∧ es.length < 400 ∧ OkEn ks es ⟨"strike", m, .none, auOf y⟩) ∨ ((wd = "rows" ∨ wd = "authors") ∧ newEs es wd n y d = es) := by
  have hand : handD es y = none → y = .str (auOf y) ∧ es.length < 400 ∧ Sh 12 (auOf y) ∧ nameB (.str (auOf y)) = true := fun e => by
    obtain ⟨nb, l⟩ := handD_ok e
    obtain ⟨ey, sa⟩ := name_str nb
    exact ⟨ey, l, sa, by rw [← ey]; exact nb⟩
  simp only [wordsC, List.mem_cons, List.not_mem_nil, or_false] at ww
  unfold dueU at h
  have cor : wd = "correct" → (wd = "correct" ∧ ∃ m, n = .int m ∧ y = .str (auOf y) ∧ es.length < 400 ∧ OkEn ks es ⟨"correct", m, d, auOf y⟩) := fun z => by
    subst z
    rw [if_neg (by decide +kernel), if_neg (by decide +kernel), if_neg (by decide +kernel), if_pos rfl] at h
    obtain ⟨h1, h2⟩ := orU_none h
    obtain ⟨h2, h3⟩ := orU_none h2
    obtain ⟨m, em, hm⟩ := numU_ok hn h1
    obtain ⟨ds, rfl, vk⟩ := row_ok g (rowU_ok h2)
    obtain ⟨e1, e2, e3, e4⟩ := hand h3
    exact ⟨rfl, m, em, e1, e2, ⟨e3, e4⟩, .inr (.inl ⟨rfl, hm, ds, rfl, vk⟩)⟩
  rcases ww with z | z | z | z | z | z
  · subst z
    rw [if_neg (by decide +kernel), if_neg (by decide +kernel), if_pos rfl] at h
    obtain ⟨h1, h2⟩ := orU_none h
    obtain ⟨ds, rfl, vk⟩ := row_ok g (rowU_ok h1)
    obtain ⟨e1, e2, e3, e4⟩ := hand h2
    exact .inl ⟨rfl, e1, e2, ⟨e3, e4⟩, .inl ⟨rfl, rfl, ds, rfl, vk⟩⟩
  · exact .inr (.inl (cor z))
  · subst z
    rw [if_neg (by decide +kernel), if_neg (by decide +kernel), if_neg (by decide +kernel), if_neg (by decide +kernel)] at h
    obtain ⟨h1, h2⟩ := orU_none h
    obtain ⟨m, em, hm⟩ := numU_ok hn h1
    obtain ⟨e1, e2, e3, e4⟩ := hand h2
    exact .inr (.inr (.inl ⟨rfl, m, em, e1, e2, ⟨e3, e4⟩, .inr (.inr ⟨rfl, hm, rfl⟩)⟩))
  · exact .inr (.inl (cor z))
  · exact .inr (.inr (.inr ⟨.inl z, by subst z; unfold newEs; rw [if_neg (by decide +kernel), if_neg (by decide +kernel), if_neg (by decide +kernel)]⟩))
  · exact .inr (.inr (.inr ⟨.inr z, by subst z; unfold newEs; rw [if_neg (by decide +kernel), if_neg (by decide +kernel), if_neg (by decide +kernel)]⟩))
theorem badV_lt : ∀ {ks : List Str} {ds : List PyData} {i j : Nat}, badV ks ds i = some j → j < i + ks.length
  | [], _, _, _, h => by cases h
  | _ :: _, [], _, _, h => by cases h
  | k :: ks, d :: ds, i, j, h => by
    have h : (if valD k d = true then badV ks ds (i + 1) else some i) = some j := h
    rw [List.length_cons]
    split at h
    · have := badV_lt h
      omega
    · injection h with h
      omega
theorem due_some {ks : List Str} {es : List En} {wd : Str} {n y : V} {dn d : PyData} {c : Nat} {x : V} (l8 : ks.length ≤ 8) (h : dueU ks es wd n y dn d = some (c, x)) : x = n ∨ x = y ∨ x = .non ∨ ∃ i : Nat, x = .int i ∧ i ≤ 1000 := by
  have hV : ∀ {c x}, versU es n dn = some (c, x) → x = n := fun {c x} e => by
    cases dn with
    | int m =>
      have e : (if 0 ≤ m ∧ m ≤ (es.length : Int) then none else some (3, n)) = some (c, x) := e
      split at e
      · cases e
      · injection e with e; injection e with _ e; exact e.symm
    | _ => (injection e with e; injection e with _ e; exact e.symm)
  have hU : ∀ {c x}, usedU es n dn = some (c, x) → x = n := fun {c x} e => by
    cases dn with
    | int m =>
      have e : (if 0 ≤ m ∧ m < (usedD es : Int) then none else some (2, n)) = some (c, x) := e
      split at e
      · cases e
      · injection e with e; injection e with _ e; exact e.symm
    | _ => (injection e with e; injection e with _ e; exact e.symm)
  have hN : ∀ {c x}, numU es n dn = some (c, x) → x = n := fun {c x} e => by
    unfold numU at e
    split at e
    · cases e
    · injection e with e; injection e with _ e; exact e.symm
  have hH : ∀ {c x}, handD es y = some (c, x) → x = y ∨ ∃ i : Nat, x = .int i ∧ i ≤ 1000 := fun {c x} e => by
    unfold handD at e
    split at e
    · injection e with e; injection e with _ e; exact .inl e.symm
    · split at e
      · injection e with e; injection e with _ e; exact .inr ⟨401, e.symm, by decide⟩
      · cases e
  have hR : ∀ {c x}, rowU ks d = some (c, x) → x = .non ∨ ∃ i : Nat, x = .int i ∧ i ≤ 1000 := fun {c x} e => by
    unfold rowU at e
    cases q : rowBad ks d with
    | none => rw [q] at e; cases e
    | some w =>
      rw [q] at e
      injection e with e
      injection e with _ e
      subst e
      cases d with
      | tuple ds =>
        have q : (if ds.length = ks.length then (badV ks ds 0).map (fun i => V.int (i : Int)) else some .non) = some w := q
        split at q
        · cases b : badV ks ds 0 with
          | none => rw [b] at q; cases q
          | some j =>
            rw [b] at q
            injection q with q
            have := badV_lt b
            exact .inr ⟨j, q.symm, by omega⟩
        · injection q with q; exact .inl q.symm
      | _ => (injection q with q; exact .inl q.symm)
  have hO : ∀ {a b : Option (Nat × V)}, orU a b = some (c, x) → a = some (c, x) ∨ b = some (c, x) := fun {a b} e => by
    cases a with
    | none => exact .inr e
    | some z => exact .inl e
  have rh : orU (rowU ks d) (handD es y) = some (c, x) → x = n ∨ x = y ∨ x = .non ∨ ∃ i : Nat, x = .int i ∧ i ≤ 1000 := fun e => by
    rcases hO e with e | e
    · exact .inr (.inr (hR e))
    · rcases hH e with e | e
      · exact .inr (.inl e)
      · exact .inr (.inr (.inr e))
  unfold dueU at h
  split at h
  · exact .inl (hV h)
  split at h
  · exact .inl (hU h)
  split at h
  · exact rh h
  split at h
  · rcases hO h with e | e
    · exact .inl (hN e)
    · exact rh e
  · rcases hO h with e | e
    · exact .inl (hN e)
    · rcases hH e with e | e
      · exact .inr (.inl e)
      · exact .inr (.inr (.inr e))
/-- what the tuple holds that is due: its data -/
theorem due_data {ks : List Str} {es : List En} {wd : Str} {n y : V} {dn d dy : PyData} {c : Nat} {x : V} (l8 : ks.length ≤ 8) (cn : Cm dn) (cy : Cm dy) (h : dueU ks es wd n y dn d = some (c, x)) : ∃ dx, Cm dx ∧ ∀ H, Dh H n dn → Dh H y dy → Dh H x dx := by
  rcases due_some l8 h with rfl | rfl | rfl | ⟨i, rfl, hi⟩
  · exact ⟨dn, cn, fun _ h _ => h⟩
  · exact ⟨dy, cy, fun _ _ h => h⟩
  · exact ⟨.none, ⟨tm_up (tm_fl fl_non), nofun, rfl⟩, fun _ _ _ => .non⟩
  · exact ⟨.int i, ⟨tm_up ((tm_int (by omega)).mono (by decide) (by decide)), nofun, rfl⟩, fun _ _ _ => .int _⟩
theorem word_sh (c : Nat) : Sh 100 (wordE c) := by
  match c with
  | 0 => exact ⟨by decide +kernel, by decide +kernel⟩
  | 1 => exact ⟨by decide +kernel, by decide +kernel⟩
  | 2 => exact ⟨by decide +kernel, by decide +kernel⟩
  | 3 => exact ⟨by decide +kernel, by decide +kernel⟩
  | n + 4 => exact (⟨by decide +kernel, by decide +kernel⟩ : Sh 100 ("large" : Str))
theorem out_tm {c : Nat} {dx : PyData} (h : Cm dx) : Tm 2 70000 (.tuple [.str (wordE c), dx, .bool true]) ∧ SeqAt.shaped (.tuple [.str (wordE c), dx, .bool true]) = true := by
  have t := (tm_tup (k := 1) (n := 21000) (ds := [.str (wordE c), dx, .bool true]) (fun d hd => by
    simp only [List.mem_cons, List.not_mem_nil, or_false] at hd
    rcases hd with rfl | rfl | rfl
    · exact (tm_txt (word_sh c)).mono (by decide) (by decide)
    · exact h.tm
    · exact (tm_nonB.2 true).mono (by decide) (by decide))).mono (k' := 2) (n' := 70000) (by decide) (by show 21000 * 3 + 2 * 3 + 4 ≤ 70000; decide)
  refine ⟨t, ?_⟩
  unfold SeqAt.shaped
  rw [Bool.and_eq_true_iff]
  refine ⟨cans_all fun d hd => ?_, decide_eq_true (Nat.le_trans t.dz (by decide))⟩
  simp only [List.mem_cons, List.not_mem_nil, or_false] at hd
  rcases hd with rfl | rfl | rfl
  · exact can_str (word_sh c)
  · exact h.ca
  · rfl
theorem told_tm : Tm 2 70000 (.tuple [.str "told"]) ∧ SeqAt.shaped (.tuple [.str "told"]) = true := by
  refine ⟨(tm_tup (k := 1) (n := 21000) (ds := [.str "told"]) (fun d hd => ?_)).mono (by decide) (by show 21000 * 1 + 2 * 1 + 4 ≤ 70000; decide), by decide +kernel⟩
  rw [List.mem_singleton.mp hd]
  exact (tm_txt ⟨by decide +kernel, by decide +kernel⟩).mono (by decide) (by decide)
/-- one row, then corrected over and over -/
theorem ok_rep {ks : List Str} {ds : List PyData} (vk : Vks ks ds) : ∀ k : Nat, OkEs ks ((⟨"add", 0, .tuple ds, "bo"⟩ : En) :: List.replicate k ⟨"correct", 0, .tuple ds, "di"⟩) ∧ (stD ((⟨"add", 0, .tuple ds, "bo"⟩ : En) :: List.replicate k ⟨"correct", 0, .tuple ds, "di"⟩)).map (·.1) = [0]
  | 0 => by
    have sh : Sh 12 ("bo" : Str) := ⟨by decide +kernel, by decide +kernel⟩
    refine ⟨OkEs.snoc (es := []) .nil ⟨⟨sh, (by decide +kernel : nameB (.str "bo") = true)⟩, .inl ⟨rfl, rfl, ds, rfl, vk⟩⟩, ?_⟩
    simp [stD, stepS]
  | k + 1 => by
    obtain ⟨h1, h2⟩ := ok_rep vk k
    have sh : Sh 12 ("di" : Str) := ⟨by decide +kernel, by decide +kernel⟩
    rw [List.replicate_succ', ← List.cons_append]
    refine ⟨OkEs.snoc h1 ⟨⟨sh, (by decide +kernel : nameB (.str "di") = true)⟩, .inr (.inl ⟨rfl, by rw [h2]; exact List.mem_singleton.mpr rfl, ds, rfl, vk⟩)⟩, ?_⟩
    rw [stD_snoc]
    unfold stepS
    rw [if_neg (by show ("correct" : Str) ≠ "add"; decide +kernel), if_pos rfl, List.map_map]
    refine Eq.trans ?_ h2
    refine List.map_congr_left fun p _ => ?_
    show (if p.1 = 0 then (p.1, PyData.tuple ds) else p).1 = p.1
    split <;> rfl
theorem Same.offL {H H1 H2 : Hp} {l : Addr} (s : Same H H1) (g : H l = none) (b : SameB l H1 H2) : Same H H2 := fun a o e => b a o (ne_of_none e g) (s a o e)
theorem mk_rg {C cv : Addr} {nm : Str} {xs : List V} {ps : List (Str × Str)} {H : Hp} {Q : Addr → Hp → Prop} {E : XK} (sn : Sh 12 nm) (nn : nameB (.str nm) = true) (hcv : H cv = some (.tup xs)) (hc : Cols H xs ps) (ok : ColsOk ps)
    (k : ∀ (a lg : Addr) (H' : Hp), Same H H' → H lg = none → IsRg C H' a lg ⟨nm, ps, []⟩ → Q a H') :
    ∀ x dx, H x = none → H dx = none → dx ≠ x → spRI C [.ref x, .str nm, .ref cv] (upd (upd H dx (.own x)) x (.ins C dx [])) (fun v H2 => v = .non ∧ Q x H2) E := by
  intro x ex hx hex hne
  have s1 : Same H (upd (upd H ex (.own x)) x (.ins C ex [])) := fun b o' e => by
    rw [upd_ne (ne_of_none e hx), upd_ne (ne_of_none e hex)]
    exact e
  exact ⟨x, ex, nm, cv, xs, ps, rfl, upd_same, sn, nn, s1 _ _ hcv, hc.same s1, ok, fun l0 H1 b1 g hI1 => ⟨rfl, k x l0 H1 (fun b o' e => b1 b o' (ne_of_none e hx) (s1 b o' e)) (Same.gone s1 g) hI1⟩⟩
/-- what stands while the calls are made -/
structure Lp (C t c L a lg : Addr) (xs : List V) (ps : List (Str × Str)) (H : Hp) (D : Addr) (zs : List V) (es : List En) : Prop where
  hL : H L = some (.tup xs)
  hc : Cols H xs ps
  hD : H D = some (.lst zs)
  hd : DhAll H zs (es.map En.d)
  ok : OkEs (ps.map (·.2)) es
  l4 : es.length ≤ 400
  tp : TapeL c H t
  nD : D ≠ t
  nl : D ≠ lg
  rg : IsRg C H a lg ⟨"log", ps, es⟩
  n1 : lg ≠ t
  n2 : lg ≠ c
theorem Lp.same {C t c L a lg : Addr} {xs : List V} {ps : List (Str × Str)} {H H' : Hp} {D : Addr} {zs : List V} {es : List En} (h : Lp C t c L a lg xs ps H D zs es) (s : Same H H') : Lp C t c L a lg xs ps H' D zs es :=
  ⟨s _ _ h.hL, h.hc.same s, s _ _ h.hD, DhAll.same s h.hd, h.ok, h.l4, h.tp.same s, h.nD, h.nl, h.rg.same s, h.n1, h.n2⟩
theorem log_ok {ps : List (Str × Str)} {es : List En} (o : ColsOk ps) (h : OkEs (ps.map (·.2)) es) (l : es.length ≤ 400) : OkR ⟨"log", ps, es⟩ := ⟨⟨(⟨by decide +kernel, by decide +kernel⟩ : Sh 12 ("log" : Str)), (by decide +kernel : nameB (.str "log") = true)⟩, o, h, Nat.le_trans l (by decide)⟩
theorem Lp.b {C t c L a lg : Addr} {xs : List V} {ps : List (Str × Str)} {H H' : Hp} {D : Addr} {zs : List V} {es : List En} (h : Lp C t c L a lg xs ps H D zs es) (o : ColsOk ps) (T : TapeL c H' t) (s : SameB t H H') : Lp C t c L a lg xs ps H' D zs es := by
  have st := SameT.b h.tp.tape s
  obtain ⟨_, _, _, _, ht, _⟩ := id h.tp
  exact ⟨st _ _ h.hL, h.hc.t st, s _ _ h.nD h.hD, DhAll.t st h.hd h.ok.noLd, h.ok, h.l4, T, h.nD, h.nl, h.rg.off (log_ok o h.ok h.l4) ht h.n1 s, h.n1, h.n2⟩
/-- the log has grown, the list of deeds not yet -/
structure Lq (C t c L a lg : Addr) (xs : List V) (ps : List (Str × Str)) (H : Hp) (D : Addr) (zs : List V) (es es' : List En) : Prop where
  hL : H L = some (.tup xs)
  hc : Cols H xs ps
  hD : H D = some (.lst zs)
  hd : DhAll H zs (es.map En.d)
  tp : TapeL c H t
  rg : IsRg C H a lg ⟨"log", ps, es'⟩
theorem Lp.q {C t c L a lg : Addr} {xs : List V} {ps : List (Str × Str)} {H H' : Hp} {D : Addr} {zs : List V} {es es' : List En} (h : Lp C t c L a lg xs ps H D zs es) (s : SameB lg H H') (r : IsRg C H' a lg ⟨"log", ps, es'⟩) : Lq C t c L a lg xs ps H' D zs es es' := by
  obtain ⟨ys, hl⟩ := h.rg.list
  have st := SameT.at hl (fun xs => nofun) s
  obtain ⟨ns, p1, p2, p3, ht, hc, h3⟩ := id h.tp
  exact ⟨st _ _ h.hL, h.hc.t st, s _ _ h.nl h.hD, DhAll.t st h.hd h.ok.noLd, ⟨ns, p1, p2, p3, s _ _ (Ne.symm h.n1) ht, s _ _ (Ne.symm h.n2) hc, h3⟩, r⟩
theorem Lq.same {C t c L a lg : Addr} {xs : List V} {ps : List (Str × Str)} {H H' : Hp} {D : Addr} {zs : List V} {es es' : List En} (h : Lq C t c L a lg xs ps H D zs es es') (s : Same H H') : Lq C t c L a lg xs ps H' D zs es es' :=
  ⟨s _ _ h.hL, h.hc.same s, s _ _ h.hD, DhAll.same s h.hd, h.tp.same s, h.rg.same s⟩
end K07
set_option Elab.async false
set_option linter.all false
set_option maxRecDepth 100000
set_option maxHeartbeats 4000000
namespace K07
open PySem PySem.Spec PyProof.Rows L2 Lc
abbrev sLaw : Stmt := top 52
def spLaw (K : PySem.W.Frag) : Sp := fun vs H Q _ => ∃ (a : Addr) (ns : List Int), vs = [.ref a] ∧ SqL K H a (ns.map V.int) ∧ ∀ H', Q (.bl true) H'
abbrev ttLw (K : PySem.W.Frag) : TT := tTest (tOp rEq (tOp (rIxT K) (tVar 4) (tC (.int 0))) (tC (.str "add")))
theorem last_at {zs : List V} {n : Nat} {x : V} (l : zs.length = n + 1) (h : zs[n]? = some x) : atI zs (-1) = some x := by
  have ei : ixN zs.length (-1) = some n := by
    unfold ixN
    rw [l, if_neg (by decide), if_pos (by omega)]
    congr 1
    omega
  show (ixN zs.length (-1)).bind (fun j => zs[j]?) = some x
  rw [ei]
  exact h
section
variable {P : Program} {w : World} {K : PySem.W.Frag} {mg : Str → Option Value} {base : Heap} {f C fI fT fD fC fVs fDe fDo fCa fDu fDn fEd fVe fL fSt fEn fRo : Addr} {fd fdI fdT fdD fdC fdVs fdDe fdDo fdCa fdDu fdDn fdEd fdVe fdL fdSt fdEn fdRo : FuncData}
abbrev nLaw : List Str := ["_law_script", "_law_tape_here", "_law_columns_here", "_law_deeds_here", "_law_deed", "_law_log", "_law_k", "_law_used", "_law_call_here", "_law_due_here", "_law_before"]
theorem scLaw : FnScope nLaw ["_law_script"] (defScope sLaw) := ⟨rfl, rfl, rfl, by decide +kernel, rfl, by decide +kernel, by decide +kernel⟩
theorem ok_law {ds0 : List Value} (F : Fun K "law" "law" sLaw f fd) (T : Bt mg) (G : RgF K mg C fI) (GI : FnOk P w K mg base CX0 4 fI fdI ["self", "name", "columns"] (spRI C)) (bI : Binds K fdI ["self", "name", "columns"] [])
    (GT : FnOk P w K mg base CX0 1 fT fdT ["_law_script"] (spTape K)) (mT : mg "_law_tape" = some (.ref fT)) (kT : PySem.W.keepIn K (.ref fT) = true) (bT : Binds K fdT ["_law_script"] [])
    (GD : FnOk P w K mg base CX0 1 fD fdD ["_law_tape_here", "_law_many"] spDrawL) (mD : mg "_law_draw" = some (.ref fD)) (kD : PySem.W.keepIn K (.ref fD) = true) (bD : Binds K fdD ["_law_tape_here", "_law_many"] [])
    (GC : FnOk P w K mg base CX0 4 fC fdC ["_law_tape_here", "_law_lead", "_law_many", "_law_taken"] spCls) (mC : mg "_law_columns" = some (.ref fC)) (kC : PySem.W.keepIn K (.ref fC) = true) (bC : Binds K fdC ["_law_tape_here", "_law_lead", "_law_many", "_law_taken"] [])
    (GV : FnOk P w K mg base CX0 4 fVs fdVs ["_law_tape_here", "_law_columns_here", "_law_wide"] spVals) (mV : mg "_law_values" = some (.ref fVs)) (kV : PySem.W.keepIn K (.ref fVs) = true) (bV : Binds K fdVs ["_law_tape_here", "_law_columns_here", "_law_wide"] [])
    (GE : FnOk P w K mg base CX0 5 fDe fdDe ["_law_tape_here", "_law_columns_here", "_law_many", "_law_wide"] spDe) (mE : mg "_law_deeds" = some (.ref fDe)) (kE : PySem.W.keepIn K (.ref fDe) = true) (bE : Binds K fdDe ["_law_tape_here", "_law_columns_here", "_law_many", "_law_wide"] [])
    (GO : FnOk P w K mg base CX0 6 fDo fdDo ["_law_log", "_law_deeds_here"] (spDo C)) (mO : mg "_law_do" = some (.ref fDo)) (kO : PySem.W.keepIn K (.ref fDo) = true) (bO : Binds K fdDo ["_law_log", "_law_deeds_here"] [])
    (GA : FnOk P w K mg base CX0 6 fCa fdCa ["_law_tape_here", "_law_columns_here", "_law_used"] spCa) (mA : mg "_law_call" = some (.ref fCa)) (kA : PySem.W.keepIn K (.ref fCa) = true) (bA : Binds K fdCa ["_law_tape_here", "_law_columns_here", "_law_used"] [])
    (GU : FnOk P w K mg base CX0 3 fDu fdDu ["_law_columns_here", "_law_deeds_here", "_law_call_here"] spDu) (mU : mg "_law_due" = some (.ref fDu)) (kU : PySem.W.keepIn K (.ref fDu) = true) (bU : Binds K fdDu ["_law_columns_here", "_law_deeds_here", "_law_call_here"] [])
    (GN : FnOk P w K mg base CX0 6 fDn fdDn ["_law_log", "_law_call_here"] (spDn C)) (mN : mg "_law_done" = some (.ref fDn)) (kN : PySem.W.keepIn K (.ref fDn) = true) (bN : Binds K fdDn ["_law_log", "_law_call_here"] [])
    (GF : FnOk P w K mg base CX0 1 fEd fdEd ["_law_deeds_here", "_law_call_here"] spEd) (mF : mg "_law_entered" = some (.ref fEd)) (kF : PySem.W.keepIn K (.ref fEd) = true) (bF : Binds K fdEd ["_law_deeds_here", "_law_call_here"] [])
    (hVe : Meth K C "version" fVe) (GVe : FnOk P w K mg base CX0 1 fVe fdVe ["self"] (spVe C)) (bVe : Binds K fdVe ["self"] [])
    (hLe : LenC K C fL) (GL : FnOk P w K mg base CX0 3 fL fdL ["self"] (spLen C)) (bL : Binds K fdL ["self"] [])
    (GS : FnOk P w K mg base CX0 1 fSt fdSt ["_law_deeds_here"] spSt) (mS : mg "_law_states" = some (.ref fSt)) (kS : PySem.W.keepIn K (.ref fSt) = true) (bS : Binds K fdSt ["_law_deeds_here"] [])
    (hEn : Meth K C "entries" fEn) (GEn : FnOk P w K mg base CX0 1 fEn fdEn ["self"] (spEn C)) (bEn : Binds K fdEn ["self"] [])
    (hRo : Meth K C "rows" fRo) (GRo : FnOk P w K mg base CX0 2 fRo fdRo ["self", "version"] (spRows C)) (bRo : Binds K fdRo ["self", "version"] ds0) (vRo : Vals [.non] ds0) : FnG P w K mg base 7 f fd ["_law_script"] (spLaw K) := by
  refine Lc.Fun.okG F scLaw (fun vs H Q E h => ?_) (fun cdv A outer s H vs Q E hg hr h => ?_)
  · obtain ⟨a, ns, rfl, _⟩ := h
    rfl
  · obtain ⟨a0, ns, rfl, hS, k⟩ := h
    have hr1 : Room 1 _ := hr.mono (by decide)
    have hr2 : Room 2 _ := hr.mono (by decide)
    have hr3 : Room 3 _ := hr.mono (by decide)
    have hr4 : Room 4 _ := hr.mono (by decide)
    have hr31 : Room (3 + 1) _ := hr.mono (by decide)
    have hr5 : Room (4 + 1) _ := hr.mono (by decide)
    have hr5' : Room 5 _ := hr.mono (by decide)
    refine ⟨_, pss_cons (ps_set (i := 1) scLaw.nd rfl (Or.inl rfl) (pe_call GT hr1 (by rfl) mT kT bT .nil pass0 (pa_cons (pv 0) pa_nil)))
      (pss_cons (ps_set (i := 2) scLaw.nd rfl (Or.inl rfl) (pe_call GC hr4 (by rfl) mC kC bC .nil pass0 (pa_cons (pv 1) (pa_cons (pe_lst (pa_cons pe_str pa_nil)) (pa_cons pe_int (pa_cons (pe_lst pa_nil) pa_nil))))))
      (Evl.pss_cut (ps_set (i := 3) scLaw.nd rfl (Or.inl rfl) (pe_lst (pa_cons (pe_tup (pa_cons pe_str (pa_cons pe_int (pa_cons (pe_call GV hr4 (by rfl) mV kV bV .nil pass0 (pa_cons (pv 1) (pa_cons (pv 2) (pa_cons pe_bl pa_nil)))) (pa_cons pe_str pa_nil))))) pa_nil)))
      (Evl.pss_cut (ps_if (pt_cmpR op_eq (pe_call GD hr1 (by rfl) mD kD bD .nil pass0 (pa_cons (pv 1) (pa_cons pe_int pa_nil))) pe_int (nomark _))
        (pss_one (ps_set (i := 3) scLaw.nd rfl (Or.inl rfl) (pe_op op_cat (pv 3) (pe_op op_rep (pe_lst (pa_cons (pe_tup (pa_cons pe_str (pa_cons pe_int (pa_cons (pe_ix ix_tup (pe_ix ix_list (pv 3) pe_int (fun _ _ => rfl)) pe_int (fun _ _ => rfl)) (pa_cons pe_str pa_nil))))) pa_nil)) (pe_op op_add pe_int (pe_call GD hr1 (by rfl) mD kD bD .nil pass0 (pa_cons (pv 1) (pa_cons pe_int pa_nil))))))))
        (pss_one (ps_setLc (i := 3) (own := [("_law_deed", 4)]) (g := gName 4) (tt := tYes) (te := tVar 4) (by rfl) scLaw.nd rfl rfl (sw_true rfl rfl rfl (by decide +kernel)) (pi_list (pe_call GE hr5' (by rfl) mE kE bE .nil pass0 (pa_cons (pv 1) (pa_cons (pv 2) (pa_cons pe_int (pa_cons pe_bl pa_nil)))))) (blkOk_by (own := [("_law_deed", 4)]) (N := nLaw) (sc := defScope sLaw) (by decide +kernel))
          (fun _ _ _ _ _ => pg_name (i := 4) scLaw.nd rfl (Or.inl rfl)) (fun _ _ _ _ _ => pts_nil) (fun _ _ _ _ _ => pv 4))))
      (Evl.pss_cut (ps_set (i := 5) scLaw.nd rfl (Or.inl rfl) (pe_make G.mkC GI hr5 (by rfl) G.gC bI .nil pass0 (pa_cons pe_str (pa_cons (pv 2) pa_nil))))
      (pss_cons (ps_expr (pe_call GO hr (by rfl) mO kO bO .nil pass0 (pa_cons (pv 5) (pa_cons (pv 3) pa_nil))))
      (pss_cons (ps_for PassesOwn.never rfl (pi_range1 (by rfl) T.range (pa_cons (pe_op op_add pe_int (pe_callB (call_min2 rfl) (by rfl) T.min boot_min (pa_cons (pe_callB call_len_seq (by rfl) T.len PySem.boot_len (pa_cons (pv 0) pa_nil)) (pa_cons pe_int pa_nil)))) pa_nil)) (pg_name (i := 6) scLaw.nd rfl (Or.inl rfl))
        (Evl.pss_cut (ps_set (i := 7) scLaw.nd rfl (Or.inl rfl) (pe_callB call_len_seq (by rfl) T.len PySem.boot_len (pa_cons (pe_lc (own := [("_law_deed", 4)]) (g := gName 4) (tt := ttLw K) (te := tVar 4) (by rfl) scLaw.nd (pi_list (pv 3)) (blkOk_by (own := [("_law_deed", 4)]) (N := nLaw) (sc := defScope sLaw) (by decide +kernel))
              (fun _ _ _ _ _ => pg_name (i := 4) scLaw.nd rfl (Or.inl rfl)) (fun _ _ _ _ _ => pts_one (pt_cmpR op_eq (pe_ix ix_tup (pv 4) pe_int (fun _ _ => rfl)) pe_str (nomark _))) (fun _ _ _ _ _ => pv 4)) pa_nil)))
        (pss_cons (ps_set (i := 8) scLaw.nd rfl (Or.inl rfl) (pe_call GA hr (by rfl) mA kA bA .nil pass0 (pa_cons (pv 1) (pa_cons (pv 2) (pa_cons (pv 7) pa_nil)))))
        (pss_cons (ps_set (i := 9) scLaw.nd rfl (Or.inl rfl) (pe_call GU hr3 (by rfl) mU kU bU .nil pass0 (pa_cons (pv 2) (pa_cons (pv 3) (pa_cons (pv 8) pa_nil)))))
        (pss_cons (ps_set (i := 10) scLaw.nd rfl (Or.inl rfl) (pe_callB (call_reprV hg hr.units) (by rfl) T.repr boot_repr (pa_cons (pv 8) pa_nil)))
        (Evl.pss_cut (ps_if (PW.pt (pw_or (pt_cmpR op_ne (pe_callB (call_reprV hg hr.units) (by rfl) T.repr boot_repr (pa_cons (pe_call GN hr (by rfl) mN kN bN .nil pass0 (pa_cons (pv 5) (pa_cons (pv 8) pa_nil))) pa_nil)) (pe_callB (call_reprV hg hr.units) (by rfl) T.repr boot_repr (pa_cons (pv 9) pa_nil)) (nomark _)) (pw_or1 (pt_cmpR op_ne (pe_callB (call_reprV hg hr.units) (by rfl) T.repr boot_repr (pa_cons (pv 8) pa_nil)) (pv 10) (nomark _))))) (pss_one (ps_ret pe_bl)) pss_nil)
        (Evl.pss_cut (ps_if (pt_cmpR (op_eqD hr.units) (pv 9) (pe_tup (pa_cons pe_str pa_nil)) (nomark _)) (pss_one (ps_set (i := 3) scLaw.nd rfl (Or.inl rfl) (pe_call GF hr1 (by rfl) mF kF bF .nil pass0 (pa_cons (pv 3) (pa_cons (pv 8) pa_nil))))) pss_nil)
        (Evl.pss_cut (ps_if (pt_cmpR op_ne (pe_callB (call_reprV hg hr.units) (by rfl) T.repr boot_repr (pa_cons (pe_lst (pa_cons (pe_meth0 (pv 5) G.cls hVe GVe hr1 bVe .nil pass0) (pa_cons (pe_callB (call_lenI hLe GL hr31 bL) (by rfl) T.len PySem.boot_len (pa_cons (pv 5) pa_nil)) pa_nil))) pa_nil))
            (pe_callB (call_reprV hg hr.units) (by rfl) T.repr boot_repr (pa_cons (pe_lst (pa_cons (pe_callB call_len_seq (by rfl) T.len PySem.boot_len (pa_cons (pv 3) pa_nil)) (pa_cons (pe_callB call_len_seq (by rfl) T.len PySem.boot_len (pa_cons (pe_ix ix_list (pe_call GS hr1 (by rfl) mS kS bS .nil pass0 (pa_cons (pv 3) pa_nil)) (pe_un un_neg pe_int) (fun _ _ => rfl)) pa_nil)) pa_nil))) pa_nil)) (nomark _)) (pss_one (ps_ret pe_bl)) pss_nil)
        (pss_one (ps_if (PW.pt (pw_or (pt_cmpR op_ne (pe_callB (call_reprV hg hr.units) (by rfl) T.repr boot_repr (pa_cons (pe_meth0 (pv 5) G.cls hEn GEn hr1 bEn .nil pass0) pa_nil)) (pe_callB (call_reprV hg hr.units) (by rfl) T.repr boot_repr (pa_cons (pv 3) pa_nil)) (nomark _))
            (pw_or1 (pt_cmpR op_ne (pe_callB (call_reprV hg hr.units) (by rfl) T.repr boot_repr (pa_cons (pe_meth0 (pv 5) G.cls hRo GRo hr2 bRo vRo pass0) pa_nil)) (pe_callB (call_reprV hg hr.units) (by rfl) T.repr boot_repr (pa_cons (pe_ix ix_list (pe_call GS hr1 (by rfl) mS kS bS .nil pass0 (pa_cons (pv 3) pa_nil)) (pe_un un_neg pe_int) (fun _ _ => rfl)) pa_nil)) (nomark _))))) (pss_one (ps_ret pe_bl)) pss_nil))))))))))
      (pss_one (ps_ret pe_bl)))))))), ?_⟩
    have four : 4 ≤ sizeLine := by decide
    have one : 1 ≤ sizeLine := by decide
    have two : 2 ≤ sizeLine := by decide
    refine ⟨_, rfl, a0, ns, rfl, hS, fun t H0 e0 ht hT0 => ?_⟩
    obtain ⟨c, T0⟩ := hT0
    replace T0 : TapeL c H0 t := T0
    -- the columns
    refine ⟨_, rfl, one, fun q1 hq1 => ⟨by show 0 ≤ sizeLine; decide, fun q2 hq2 => ?_⟩⟩
    have z1 := Same.upd (o := .lst [.str "number"]) hq1
    have z2 := Same.upd (o := .lst []) hq2
    have eq1 : upd H0 q1 (.lst [.str "number"]) q1 = some (.lst [.str "number"]) := upd_same
    refine ⟨t, c, q1, q2, 4, ["number"], rfl, (T0.same z1).same z2, z2 _ _ eq1, upd_same, by decide, by decide, by decide, by decide, ?_, fun L xs ps H3 hL hc hp nd l1 l5 T3 S3 => ?_⟩
    · intro k hk
      rw [List.mem_singleton.mp hk]
      exact .inl rfl
    have l1 : 1 ≤ ps.length := l1
    have l5 : ps.length ≤ 5 := l5
    have cok : ColsOk ps := ⟨hp, nd, l1, by omega⟩
    have kk : ∀ p ∈ ps, KindS p.2 := fun p h => (hp p h).2.2
    have l5' : (ps.map (·.2)).length ≤ 5 := by rw [List.length_map]; exact l5
    have e3 : Same H H3 := Same.offL (e0.trans (z1.trans z2)) ht S3
    clear S3 z1 z2 eq1 T0 e0
    -- one entry
    refine ⟨fun σ H' => ∃ (D q b : Addr) (ds : List PyData), σ = [some (.ref a0), some (.ref t), some (.ref L), some (.ref D), none, none, none, none, none, none, none] ∧ H' D = some (.lst [.ref q]) ∧ H' q = some (.tup [.str "add", .int 0, .ref b, .str "bo"]) ∧ Dh H' (.ref b) (.tuple ds) ∧ Vks (ps.map (·.2)) ds ∧ TapeL c H' t ∧ D ≠ t ∧ H' L = some (.tup xs) ∧ Cols H' xs ps ∧ Same H H', ?_, ?_⟩
    · refine ⟨_, rfl, _, rfl, t, c, L, true, xs, ps, rfl, T3, hL, hc, kk, by omega, fun b ds H4 df vk T4 S4 => ⟨four, fun q hq => ⟨one, fun D hD => ?_⟩⟩⟩
      have y1 := Same.upd (o := .tup [.str "add", .int 0, .ref b, .str "bo"]) hq
      have y2 := Same.upd (o := .lst [.ref q]) hD
      have y := y1.trans y2
      exact ⟨D, q, b, ds, rfl, upd_same, y2 _ _ upd_same, df.now.same y, vk, T4.same y, (T4.same y1).tape.ne hD, y _ _ (S4 _ _ (T3.tape.neT hL) hL), (hc.b T3.tape S4).same y, (Same.offL e3 ht S4).trans y⟩
    clear hL hc T3 e3
    rintro σ H3 ⟨D0, q, b, ds, rfl, hD, hq, hb, vk, T3, nD, hL, hc, e3⟩
    -- the deeds
    refine ⟨fun σ H' => ∃ (D : Addr) (zs : List V) (es : List En) (x4 : Option V), σ = [some (.ref a0), some (.ref t), some (.ref L), some (.ref D), x4, none, none, none, none, none, none] ∧ H' D = some (.lst zs) ∧ DhAll H' zs (es.map En.d) ∧ OkEs (ps.map (·.2)) es ∧ es.length ≤ 400 ∧ TapeL c H' t ∧ D ≠ t ∧ H' L = some (.tup xs) ∧ Cols H' xs ps ∧ Same H H', ?_, ?_⟩
    · refine ⟨_, rfl, t, c, _, rfl, T3, by decide, big1000 (by decide) (by decide), fun j H4 _ _ T4 S4 => ⟨rfl, _, rfl, ite2 (fun _ => ?_) (fun _ => ?_)⟩⟩
      · have hD4 := S4 _ _ nD hD
        have st := SameT.b T3.tape S4
        have hq4 := st _ _ hq
        have hb4 := hb.t st (by rw [noL]; exact vk.noL)
        refine ⟨_, rfl, _, rfl, D0, _, _, _, rfl, rfl, SqL.of hD4, rfl, q, _, _, _, rfl, rfl, SqT.of hq4, rfl, four, fun p1 h1 => ⟨one, fun p2 h2 => ?_⟩⟩
        have y1 := Same.upd (o := .tup [.str "correct", .int 0, .ref b, .str "di"]) h1
        have y2 := Same.upd (o := .lst [.ref p1]) h2
        have y := y1.trans y2
        have n1 := T4.tape.ne h1
        have n2 := (T4.same y1).tape.ne h2
        refine ⟨_, rfl, t, c, _, rfl, T4.same y, by decide, big1000 (by decide) (by decide), fun j H5 j0 j4 T5 S5 => ⟨_, _, rfl, rfl, ?_⟩⟩
        obtain ⟨m, hm, m4⟩ : ∃ m : Nat, 396 + j = (m : Int) ∧ m ≤ 399 := ⟨(396 + j).toNat, by omega, by omega⟩
        refine ⟨p2, _, _, rfl, rfl, S5 _ _ n2 upd_same, by omega, by omega, by show 1 * (396 + j).toNat ≤ sizeLine; exact Nat.le_trans (show _ ≤ 400 by omega) (by decide), fun p3 h3 => ?_⟩
        rw [hm]
        have er : (List.replicate ((m : Int)).toNat [V.ref p1]).flatten = List.replicate m (.ref p1) := by
          rw [Int.toNat_natCast]
          clear hm m4
          induction m with
          | zero => rfl
          | succ n ih => rw [List.replicate_succ, List.flatten_cons, ih, List.replicate_succ]; rfl
        rw [er]
        have y3 := Same.upd (o := .lst (List.replicate m (V.ref p1))) h3
        have hD5 : H5 D0 = some (.lst [.ref q]) := S5 _ _ nD (y _ _ hD4)
        refine ⟨D0, p3, _, _, rfl, rfl, y3 _ _ hD5, upd_same, by rw [List.length_replicate]; exact Nat.le_trans (show 1 + m ≤ 400 by omega) (by decide), fun D hDn => ?_⟩
        have y4 := Same.upd (o := .lst ([.ref q] ++ List.replicate m (V.ref p1))) hDn
        have y34 := y3.trans y4
        have st5 := SameT.b (T4.same y).tape S5
        have hq6 := y34 _ _ (st5 _ _ (y _ _ hq4))
        have hp6 := y34 _ _ (st5 _ _ (y2 _ _ (upd_same (H := H4) (a := p1) (o := .tup [.str "correct", .int 0, .ref b, .str "di"]))))
        have hb6 : Dh _ (.ref b) (.tuple ds) := ((hb4.same y).t st5 (by rw [noL]; exact vk.noL)).same y34
        have nDt : D ≠ t := (T5.same y3).tape.ne hDn
        have all : ∀ n : Nat, DhAll (upd (upd H5 p3 (.lst (List.replicate m (V.ref p1)))) D (.lst ([.ref q] ++ List.replicate m (V.ref p1)))) (List.replicate n (V.ref p1)) ((List.replicate n (⟨"correct", 0, .tuple ds, "di"⟩ : En)).map En.d) := fun n => by
          induction n with
          | zero => exact .nil
          | succ n ih =>
            rw [List.replicate_succ, List.replicate_succ, List.map_cons]
            exact .cons (.tup hp6 (.cons (.str _) (.cons (.int _) (.cons hb6 (.cons (.str _) .nil))))) ih
        refine ⟨D, _, (⟨"add", 0, .tuple ds, "bo"⟩ : En) :: List.replicate m ⟨"correct", 0, .tuple ds, "di"⟩, _, rfl, upd_same, .cons (.tup hq6 (.cons (.str _) (.cons (.int _) (.cons hb6 (.cons (.str _) .nil))))) (all m), (ok_rep vk m).1, by rw [List.length_cons, List.length_replicate]; omega, T5.same y34, nDt, y34 _ _ (st5 _ _ (y _ _ (st _ _ hL))), (((hc.t st).same y).t st5).same y34, ?_⟩
        exact (Same.offL ((Same.offL e3 ht S4).trans y) ht S5).trans y34
      · have hL4 := S4 _ _ (T3.tape.neT hL) hL
        have hc4 := hc.b T3.tape S4
        refine ⟨_, rfl, _, rfl, t, c, L, 10, true, xs, ps, rfl, T4, hL4, hc4, kk, by omega, by decide, by decide, fun D ys es H5 hD5 gD hd ok lm nl T5 S5 => ?_⟩
        have ly : ys.length = es.length := by rw [hd.len, List.length_map]
        have lm : es.length ≤ 10 := lm
        refine ⟨D, rfl, ⟨_, SqL.of hD5⟩, fun W hW => lc_list (K := K) (a := D) (xs := ys) (fun i H' => H' W = some (.lst (ys.take i)) ∧ Same H5 H') ⟨upd_same, Same.upd hW⟩ (fun i H' _ p => SqL.of (p.2 _ _ hD5)) ?_ ?_⟩
        · rintro i x H6 hx ⟨hW6, s6⟩
          refine ⟨rfl, ?_⟩
          dsimp only [tYes]
          refine iteT ⟨_, rfl, _, hW6, ?_, ?_, fun b o' eb => by rw [upd_ne (ne_of_none eb hW)]; exact s6 b o' eb⟩
          · rw [List.length_take]
            exact Nat.lt_of_le_of_lt (show _ ≤ 10 by omega) (by decide)
          · rw [upd_same, List.take_add_one, hx]
            rfl
        · rintro H6 ⟨hW6, s6⟩
          rw [List.take_length] at hW6
          exact ⟨W, ys, es, _, rfl, hW6, DhAll.same s6 hd, ok, by omega, T5.same s6, T5.tape.ne hW, s6 _ _ (S5 _ _ (T4.tape.neT hL4) hL4), (hc4.b T4.tape S5).same s6, (Same.offL (Same.offL e3 ht S4) ht S5).trans s6⟩
    clear hD hq hb vk T3 nD hL hc e3
    rintro σ H3 ⟨D, zs, es, x4, rfl, hD, hd, ok, l4, T3, nD, hL, hc, e3⟩
    have lz : zs.length = es.length := by rw [hd.len, List.length_map]
    -- the log
    refine ⟨fun σ H' => ∃ a lg : Addr, σ = [some (.ref a0), some (.ref t), some (.ref L), some (.ref D), x4, some (.ref a), none, none, none, none, none] ∧ IsRg C H' a lg ⟨"log", ps, []⟩ ∧ Same H3 H' ∧ H3 lg = none, ?_, ?_⟩
    · refine ⟨_, rfl, ?_⟩
      dsimp only [tNil]
      exact mk_rg (log_ok cok .nil (Nat.zero_le _)).nm.1 (log_ok cok .nil (Nat.zero_le _)).nm.2 hL hc cok fun a lg H' s' g hI => ⟨a, lg, rfl, hI, s', g⟩
    rintro σ H4 ⟨a, lg, rfl, hI4, s4, glg⟩
    have ngl : H lg = none := Same.gone e3 glg
    have nDl : D ≠ lg := ne_of_none hD glg
    have nlt : lg ≠ t := T3.tape.ne glg
    have nlc : lg ≠ c := by
      obtain ⟨zs', hz⟩ := T3.list
      exact Ne.symm (ne_of_none hz glg)
    refine ⟨_, rfl, _, rfl, a, lg, D, _, zs, es, rfl, hI4, log_ok cok .nil (Nat.zero_le _), s4 _ _ hD, nDl, DhAll.same s4 hd, by show OkEs _ ([] ++ es); exact ok, by show 0 + es.length ≤ 400; omega, fun H5 s5 hI5 => ?_⟩
    have e5 : Same H H5 := Same.offL (e3.trans s4) ngl s5
    have s35 : Same H3 H5 := Same.offL s4 glg s5
    have P5 : Lp C t c L a lg xs ps H5 D zs es := ⟨s35 _ _ hL, hc.same s35, s35 _ _ hD, DhAll.same s35 hd, ok, l4, T3.same s35, nD, nDl, hI5, nlt, nlc⟩
    clear hI5 s35 s5 hI4 s4 hD hd ok l4 T3 nD hL hc e3 lz nDl
    -- the calls
    refine ⟨_, rfl, a0, _, rfl, .inl (e5.seq hS), _, _, rfl, _, _, rfl, rfl, _, rfl, ?_, ?_, for_range (fun i σ H' => ∃ (D : Addr) (zs : List V) (es : List En) (x4 x6 x7 x8 x9 x10 : Option V), σ = [some (.ref a0), some (.ref t), some (.ref L), some (.ref D), x4, some (.ref a), x6, x7, x8, x9, x10] ∧ Lp C t c L a lg xs ps H' D zs es) ⟨D, zs, es, _, _, _, _, _, _, rfl, P5⟩ ?_ (fun σ H' _ => k H')⟩
    · split <;> omega
    · split <;> omega
    clear P5 e5
    rintro i σ H1 hi ⟨D, zs, es, x4, x6, x7, x8, x9, x10, rfl, P1⟩
    have lz : zs.length = es.length := by rw [P1.hd.len, List.length_map]
    have l4 := P1.l4
    have lu : usedD es ≤ es.length := List.length_filter_le _ _
    -- how many are used
    refine ⟨fun σ H' => ∃ x4 : Option V, σ = [some (.ref a0), some (.ref t), some (.ref L), some (.ref D), x4, some (.ref a), some (.int (0 + (i : Int))), some (.int (usedD es)), x8, x9, x10] ∧ Lp C t c L a lg xs ps H' D zs es, ?_, ?_⟩
    · refine ⟨_, rfl, D, rfl, ⟨_, SqL.of P1.hD⟩, fun W hW => lc_list (K := K) (a := D) (xs := zs) (fun i H' => ∃ ys : List V, H' W = some (.lst ys) ∧ ys.length = usedD (es.take i) ∧ Same H1 H') ⟨[], upd_same, rfl, Same.upd hW⟩ (fun i H' _ p => by obtain ⟨_, _, _, s'⟩ := p; exact SqL.of (s' _ _ P1.hD)) ?_ ?_⟩
      · rintro i x H5 hx ⟨ys, hD1, ly, s5⟩
        obtain ⟨e, he, de⟩ := en_get P1.hd hx
        obtain ⟨a', v', rfl, ea, dv⟩ := en_of (de.same s5)
        have ek : es.take (i + 1) = es.take i ++ [e] := by rw [List.take_add_one, he]; rfl
        have eu := usedD_snoc (es.take i) e
        rw [← ek] at eu
        refine ⟨rfl, ?_⟩
        change ttLw K _ _ _
        refine ⟨_, rfl, a', _, _, _, rfl, rfl, SqT.of ea, rfl, rfl, _, rfl, ite2 (fun y => ?_) (fun y => ?_)⟩
        · have ew : e.w = "add" := by have := of_decide_eq_true y; injection this
          rw [if_pos ew] at eu
          refine ⟨_, rfl, ys, hD1, ?_, ys ++ [.ref a'], upd_same, ?_, fun b o eb => by rw [upd_ne (ne_of_none eb hW)]; exact s5 b o eb⟩
          · rw [ly]
            have : usedD (es.take i) ≤ (es.take i).length := List.length_filter_le _ _
            rw [List.length_take] at this
            exact Nat.lt_of_le_of_lt (show _ ≤ 1000 by omega) (by decide)
          · rw [List.length_append, ly, eu]; rfl
        · have ew : e.w ≠ "add" := fun q => y (decide_eq_true (by rw [q]))
          rw [if_neg ew] at eu
          exact ⟨ys, hD1, by rw [ly, eu]; rfl, s5⟩
      · rintro H5 ⟨ys, hD5, ly, s5⟩
        rw [lz, List.take_length] at ly
        exact ⟨W, ys, rfl, .inl (SqL.of hD5), _, by rw [ly]; rfl, P1.same s5⟩
    clear P1
    rintro σ H1 ⟨x4', rfl, P1⟩
    -- the call
    refine ⟨_, rfl, _, rfl, _, rfl, t, c, L, xs, ps, _, rfl, by omega, by omega, P1.tp, P1.hL, P1.hc, kk, by omega, by omega, fun r wd n v y dn d dy H2 ca T2 S2 => ?_⟩
    have P2 := P1.b cok T2 S2
    have glg1 : ∃ o, H1 lg = some o := by obtain ⟨ys, hl⟩ := P1.rg.list; exact ⟨_, hl⟩
    have new : ∀ {H' : Hp}, SameB lg H2 H' → ∀ b o, H1 b = none → H2 b = some o → H' b = some o := fun s b o e1 e2 => s b o (fun z => by obtain ⟨o', e⟩ := glg1; rw [z, e] at e1; cases e1) e2
    have txy : TxD dy := fun z e => ca.cy.st z e
    have txd : ∀ ds, d = .tuple ds → ∀ x ∈ ds, TxD x := fun ds e x hx z ez => by
      obtain ⟨ds', e' | e', _, h⟩ := ca.cv
      · rw [e] at e'; injection e' with e'; subst e'; exact (h x hx).st z ez
      · rw [e] at e'; cases e'
    have tmC : Tm 3 400000 (.tuple [.str wd, dn, d, dy]) := by
      have tw : Tm 2 90000 (.str wd) := by
        have : ∀ x ∈ wordsC, Sh 100 x := fun x hx => by
          simp only [wordsC, List.mem_cons, List.not_mem_nil, or_false] at hx
          rcases hx with rfl | rfl | rfl | rfl | rfl | rfl <;> exact ⟨by decide +kernel, by decide +kernel⟩
        exact (tm_txt (this wd ca.ww)).mono (by decide) (by decide)
      have td : Tm 2 300000 d := by
        obtain ⟨ds, e, l, h⟩ := ca.cv
        have b : 21000 * ds.length + 2 * ds.length + 4 ≤ 300000 := by omega
        rcases e with rfl | rfl
        · exact (tm_tup (k := 1) (n := 21000) (fun x hx => (h x hx).tm)).mono (by decide) b
        · exact (tm_lst (k := 1) (n := 21000) (fun x hx => (h x hx).tm)).mono (by decide) b
      have := tm_tupS (k := 2) (n := 399000) (ds := [.str wd, dn, d, dy]) (fun x hx => ?_) ?_
      · exact this.mono (by decide) (by show 399000 + 2 * 4 + 4 ≤ 400000; decide)
      · simp only [List.mem_cons, List.not_mem_nil, or_false] at hx
        rcases hx with rfl | rfl | rfl | rfl
        · exact ⟨_, tw⟩
        · exact ⟨_, ca.cn.tm.mono (by decide) (Nat.le_refl _)⟩
        · exact ⟨_, td⟩
        · exact ⟨_, ca.cy.tm.mono (by decide) (Nat.le_refl _)⟩
      · have e1 := tw.ln
        have e2 := ca.cn.tm.ln
        have e3 := td.ln
        have e4 := ca.cy.tm.ln
        have ew : (PyData.str wd).shown.length ≤ 2000 := by
          have : ∀ x ∈ wordsC, Sh 100 x := fun x hx => by
            simp only [wordsC, List.mem_cons, List.not_mem_nil, or_false] at hx
            rcases hx with rfl | rfl | rfl | rfl | rfl | rfl <;> exact ⟨by decide +kernel, by decide +kernel⟩
          exact (tm_txt (this wd ca.ww)).ln
        simp only [PyData.shownAll, List.map_cons, List.map_nil, List.sum_cons, List.sum_nil]
        omega
    have dhC : ∀ {H' : Hp}, SameB lg H2 H' → Dh H' (.ref r) (.tuple [.str wd, dn, d, dy]) := fun {H'} s => .tup (new s r _ ca.gr ca.hr) (.cons (.str wd) (.cons (ca.hn H' (new s)) (.cons (ca.hv H' (new s)) (.cons (ca.hy H' (new s)) .nil))))
    have rr : SameB lg H2 H2 := SameB.refl lg H2
    have dn2 : ∀ {H' : Hp}, SameB lg H2 H' → Dh H' n dn := fun s => ca.hn _ (new s)
    have dv2 : ∀ {H' : Hp}, SameB lg H2 H' → Dh H' v d := fun s => ca.hv _ (new s)
    have dy2 : ∀ {H' : Hp}, SameB lg H2 H' → Dh H' y dy := fun s => ca.hy _ (new s)
    have hr2' : ∀ {H' : Hp}, SameB lg H2 H' → H' r = some (.tup [.str wd, n, v, y]) := fun s => new s r _ ca.gr ca.hr
    -- what is due
    refine ⟨_, rfl, _, rfl, _, rfl, L, D, r, xs, zs, ps, es, wd, n, v, y, dn, d, dy, rfl, P2.hL, P2.hc, kk, by omega, P2.hD, P2.hd, P2.ok, by omega, hr2' rr, ca.ww, dn2 rr, dv2 rr, dy2 rr, txy, txd, fun q H3 s3 hq3 => ?_⟩
    have b3 : SameB lg H2 H3 := Same.b lg s3
    have P3 := P2.same s3
    generalize hu : dueU (ps.map (·.2)) es wd n y dn d = u at hq3
    -- before
    refine ⟨_, rfl, _, _, rfl, shwB (dhC b3) tmC (by decide) (by decide), ?_⟩
    -- it is done
    let es' : List En := if u = none then newEs es wd n y d else es
    let Sg : L2.St := [some (.ref a0), some (.ref t), some (.ref L), some (.ref D), x4', some (.ref a), some (.int (0 + (i : Int))), some (.int (usedD es)), some (.ref r), some (.ref q), some (.str (PyData.tuple [.str wd, dn, d, dy]).shown)]
    refine ⟨fun σ H' => σ = Sg ∧ Lq C t c L a lg xs ps H' D zs es es' ∧ H' q = some (.tup (outU u)) ∧ SameB lg H2 H', ?_, ?_⟩
    · have nq : q ≠ lg := by
        obtain ⟨ys, hl⟩ := P3.rg.list
        exact ne_of hq3 hl nofun
      have fin : ∀ {H4 : Hp} {r3 : Addr} {z : Str}, SameB lg H3 H4 → IsRg C H4 a lg ⟨"log", ps, es'⟩ → Shw K H4 (.ref r3) z → Shw K H4 (.ref q) z → _ := fun {H4 r3 z} s4 hI h1 h2 => (⟨s4, hI, h1, h2⟩ : SameB lg H3 H4 ∧ IsRg C H4 a lg ⟨"log", ps, es'⟩ ∧ Shw K H4 (.ref r3) z ∧ Shw K H4 (.ref q) z)
      have hO := log_ok cok P3.ok P3.l4
      refine ⟨_, rfl, _, rfl, a, lg, r, _, wd, n, v, y, dn, d, dy, rfl, P3.rg, hO, hr2' b3, ca.ww, dn2 b3, ?_, dv2 b3, dy2 b3, txy, txd, fun c' x e r3 H4 s4 h4 => ?_, fun e H4 s4 hI4 r3 H5 s5 h5 => ?_⟩
      · intro e
        have := dn2 b3
        rw [e] at this
        cases this
        exact ca.nn rfl
      · have eu : u = some (c', x) := hu.symm.trans e
        obtain ⟨dx, cx, hx⟩ := due_data (Nat.le_trans l5' (by decide)) ca.cn ca.cy e
        have b4 := b3.trans (Same.b lg s4)
        have dX := hx H4 (dn2 b4) (dy2 b4)
        have w1 : Dh H4 (.ref r3) (.tuple [.str (wordE c'), dx, .bool true]) := .tup h4 (.cons (.str _) (.cons dX (.cons (.bl true) .nil)))
        rw [eu] at hq3
        have w2 : Dh H4 (.ref q) (.tuple [.str (wordE c'), dx, .bool true]) := .tup (s4 _ _ hq3) (.cons (.str _) (.cons dX (.cons (.bl true) .nil)))
        have tt := (out_tm (c := c') cx).1
        refine ⟨_, _, rfl, shwB w1 tt (by decide) (by decide), _, rfl, _, _, rfl, shwB w2 tt (by decide) (by decide), rfl, _, rfl, ?_⟩
        rw [decide_eq_true rfl]
        refine iteF ⟨_, rfl, _, _, rfl, shwB (dhC b4) tmC (by decide) (by decide), _, rfl, rfl, _, rfl, ?_⟩
        rw [decide_eq_true rfl]
        have ee : es' = es := by show (if u = none then _ else _) = _; rw [if_neg (by rw [eu]; nofun)]
        refine iteF ⟨rfl, ?_, by rw [eu]; exact s4 _ _ hq3, b4⟩
        rw [ee]
        exact P3.q (Same.b lg s4) (P3.rg.same s4)
      · have eu : u = none := hu.symm.trans e
        have s45 := s4.trans (Same.b lg s5)
        have b5 := b3.trans s45
        rw [eu] at hq3
        have w1 : Dh H5 (.ref r3) (.tuple [.str "told"]) := .tup h5 (.cons (.str _) .nil)
        have w2 : Dh H5 (.ref q) (.tuple [.str "told"]) := .tup (s45 _ _ nq hq3) (.cons (.str _) .nil)
        have tt := told_tm.1
        refine ⟨_, _, rfl, shwB w1 tt (by decide) (by decide), _, rfl, _, _, rfl, shwB w2 tt (by decide) (by decide), rfl, _, rfl, ?_⟩
        rw [decide_eq_true rfl]
        refine iteF ⟨_, rfl, _, _, rfl, shwB (dhC b5) tmC (by decide) (by decide), _, rfl, rfl, _, rfl, ?_⟩
        rw [decide_eq_true rfl]
        have ee : es' = newEs es wd n y d := by show (if u = none then _ else _) = _; rw [if_pos eu]
        refine iteF ⟨rfl, ?_, by rw [eu]; exact s45 _ _ nq hq3, b5⟩
        rw [ee]
        exact P3.q s45 (hI4.same s5)
    clear hq3 P3 b3 s3
    rintro σ H3 ⟨rfl, Q3, hq3, b3⟩
    -- it is entered
    refine ⟨fun σ H' => ∃ (D : Addr) (zs : List V), σ = [some (.ref a0), some (.ref t), some (.ref L), some (.ref D), x4', some (.ref a), some (.int (0 + (i : Int))), some (.int (usedD es)), some (.ref r), some (.ref q), some (.str (PyData.tuple [.str wd, dn, d, dy]).shown)] ∧ Lp C t c L a lg xs ps H' D zs es', ?_, ?_⟩
    · refine ⟨_, rfl, one, fun p hp => ?_⟩
      have zp := Same.upd (o := .tup [.str "told"]) hp
      have b4 := b3.trans (Same.b lg zp)
      have w2 : Dh (upd H3 p (.tup [.str "told"])) (.ref p) (.tuple [.str "told"]) := .tup upd_same (.cons (.str _) .nil)
      cases u with
      | some cx =>
        obtain ⟨c', x⟩ := cx
        obtain ⟨dx, cx, hx⟩ := due_data (Nat.le_trans l5' (by decide)) ca.cn ca.cy hu
        have w1 : Dh (upd H3 p (.tup [.str "told"])) (.ref q) (.tuple [.str (wordE c'), dx, .bool true]) := .tup (zp _ _ hq3) (.cons (.str _) (.cons (hx _ (dn2 b4) (dy2 b4)) (.cons (.bl true) .nil)))
        obtain ⟨t1, t2⟩ := out_tm (c := c') cx
        refine ⟨_, _, w1.dp t1.nd, w2.dp told_tm.1.nd, t2, told_tm.2, _, rfl, ?_⟩
        have ev : PyData.eqv (.tuple [.str (wordE c'), dx, .bool true]) (.tuple [.str "told"]) = false := by simp [PyData.eqv, PyData.eqvAll]
        rw [ev]
        have ee : es' = es := rfl
        refine iteF ⟨D, zs, rfl, ?_⟩
        have Q4 := Q3.same zp
        exact ⟨Q4.hL, Q4.hc, Q4.hD, Q4.hd, P2.ok, P2.l4, Q4.tp, P2.nD, P2.nl, Q4.rg, P2.n1, P2.n2⟩
      | none =>
        have w1 : Dh (upd H3 p (.tup [.str "told"])) (.ref q) (.tuple [.str "told"]) := .tup (zp _ _ hq3) (.cons (.str _) .nil)
        refine ⟨_, _, w1.dp told_tm.1.nd, w2.dp told_tm.1.nd, told_tm.2, told_tm.2, _, rfl, ?_⟩
        have ev : PyData.eqv (.tuple [.str "told"]) (.tuple [.str "told"]) = true := by simp [PyData.eqv, PyData.eqvAll]
        rw [ev]
        have ee : es' = newEs es wd n y d := rfl
        have Q4 := Q3.same zp
        refine iteT ⟨_, rfl, _, rfl, D, r, zs, es, wd, n, v, y, rfl, Q4.hD, Q4.hd, by omega, hr2' b4, ?_⟩
        have grow : ∀ {e : En}, es' = es ++ [e] → es.length < 400 → OkEn (ps.map (·.2)) es e → ∀ (r' : Addr) (zs' : List V) (H' : Hp), Same (upd H3 p (.tup [.str "told"])) H' → upd H3 p (.tup [.str "told"]) r' = none → H' r' = some (.lst zs') → DhAll H' zs' ((es ++ [e]).map En.d) → Lp C t c L a lg xs ps H' r' zs' es' := fun {e} ee l og r' zs' H' s' g' h' dh' => by
          have Q5 := Q4.same s'
          have n1 : r' ≠ t := Q4.tp.tape.ne g'
          have n2 : r' ≠ lg := by
            obtain ⟨ys, hl⟩ := Q4.rg.list
            exact Ne.symm (ne_of_none hl g')
          refine ⟨Q5.hL, Q5.hc, h', by rw [ee]; exact dh', by rw [ee]; exact .snoc P2.ok og, by rw [ee, List.length_append]; show es.length + 1 ≤ 400; omega, Q5.tp, n1, n2, Q5.rg, P2.n1, P2.n2⟩
        rcases due_none cok.kinds (dn2 b4) ca.ww hu with ⟨w, ey, l, og⟩ | ⟨w, m, en, ey, l, og⟩ | ⟨w, m, en, ey, l, og⟩ | ⟨w, en⟩
        · refine .inl ⟨w, d, auOf y, dv2 b4, ey, fun r' zs' H' s' g' h' dh' => ⟨r', zs', rfl, grow (by rw [ee]; unfold newEs; rw [if_pos w]) l og r' zs' H' s' g' h' dh'⟩⟩
        · refine .inr (.inl ⟨w, m, d, auOf y, en, dv2 b4, ey, fun r' zs' H' s' g' h' dh' => ⟨r', zs', rfl, grow (by rw [ee]; unfold newEs; rw [if_neg (by rw [w]; decide +kernel), if_pos w, en]; rfl) l og r' zs' H' s' g' h' dh'⟩⟩)
        · refine .inr (.inr (.inl ⟨w, m, auOf y, en, ey, fun r' zs' H' s' g' h' dh' => ⟨r', zs', rfl, grow (by rw [ee]; unfold newEs; rw [if_neg (by rw [w]; decide +kernel), if_neg (by rw [w]; decide +kernel), if_pos w, en]; rfl) l og r' zs' H' s' g' h' dh'⟩⟩))
        · refine .inr (.inr (.inr ⟨w, fun H' s' => ⟨D, zs, rfl, ?_⟩⟩))
          have Q5 := Q4.same s'
          have e5 : es' = es := ee.trans en
          exact ⟨Q5.hL, Q5.hc, Q5.hD, by rw [e5]; exact Q5.hd, by rw [e5]; exact P2.ok, by rw [e5]; exact P2.l4, Q5.tp, P2.nD, P2.nl, Q5.rg, P2.n1, P2.n2⟩
    clear Q3 hq3 b3 P2 P1 ca new dhC dn2 dv2 dy2 hr2' tmC txd txy rr T2 S2 glg1 lz l4 lu hu
    generalize es' = es1
    rintro σ H3 ⟨D1, zs1, rfl, P3⟩
    have lz : zs1.length = es1.length := by rw [P3.hd.len, List.length_map]
    have l4 := P3.l4
    have o := log_ok cok P3.ok l4
    have lk := P3.ok.keys.2.2
    have tI : ∀ n : Nat, n ≤ 1000 → Tm 0 2000 (.int (n : Int)) := fun n h => tm_int (by omega)
    have t2 : Tm 1 10000 (.list [.int (es1.length : Int), .int ((stD es1).length : Int)]) := by
      have ta := tI es1.length (by omega)
      have tb := tI (stD es1).length (by omega)
      exact (tm_lst (k := 0) (n := 2000) (ds := [.int (es1.length : Int), .int ((stD es1).length : Int)]) (fun d hd => by simp only [List.mem_cons, List.not_mem_nil, or_false] at hd; rcases hd with rfl | rfl <;> assumption)).mono (by decide) (by show 2000 * 2 + 2 * 2 + 4 ≤ _; decide)
    refine ⟨fun σ H' => σ = [some (.ref a0), some (.ref t), some (.ref L), some (.ref D1), x4', some (.ref a), some (.int (0 + (i : Int))), some (.int (usedD es)), some (.ref r), some (.ref q), some (.str (PyData.tuple [.str wd, dn, d, dy]).shown)] ∧ Lp C t c L a lg xs ps H' D1 zs1 es1, ?_, ?_⟩
    · obtain ⟨dx, cv, xs1, ys1, h1, _⟩ := id P3.rg
      refine ⟨_, rfl, a, dx, _, rfl, h1, rfl, a, lg, _, rfl, P3.rg, _, rfl, a, dx, _, rfl, h1, a, lg, _, rfl, P3.rg, o, fun H5 s5 => ⟨_, rfl, by omega, ?_, two, fun q' hq' => ?_⟩⟩
      · have : ((stD es1).length : Int) ≤ 1000 := by omega
        exact Int.lt_of_le_of_lt this (by decide)
      have zq := Same.upd (o := .lst [.int es1.length, .int (stD es1).length]) hq'
      have w1 : Dh (upd H5 q' (.lst [.int es1.length, .int (stD es1).length])) (.ref q') (.list [.int (es1.length : Int), .int ((stD es1).length : Int)]) := .lst upd_same (.cons (.int _) (.cons (.int _) .nil))
      have s6 := s5.trans zq
      have P6 := P3.same s6
      refine ⟨_, _, rfl, shwB w1 t2 (by decide) (by decide), _, rfl, D1, _, rfl, .inl (SqL.of P6.hD), _, rfl, D1, zs1, _, es1, rfl, P6.hD, P6.hd, P6.ok, by omega, fun p ps' H7 s7 hp lp hs => ?_⟩
      obtain ⟨p0, ys0, e0, hp0, dh0⟩ := hs es1.length (Nat.le_refl _)
      rw [List.take_length] at dh0
      have l0 : ys0.length = (stD es1).length := by rw [dh0.len]; unfold rowsD; rw [List.length_map]
      refine ⟨_, rfl, p, ps', _, _, rfl, rfl, SqL.of hp, last_at lp e0, p0, _, rfl, .inl (SqL.of hp0), two, fun q2 hq2 => ?_⟩
      rw [lz, l0]
      have zq2 := Same.upd (o := .lst [.int es1.length, .int (stD es1).length]) hq2
      have w2 : Dh (upd H7 q2 (.lst [.int es1.length, .int (stD es1).length])) (.ref q2) (.list [.int (es1.length : Int), .int ((stD es1).length : Int)]) := .lst upd_same (.cons (.int _) (.cons (.int _) .nil))
      refine ⟨_, _, rfl, shwB w2 t2 (by decide) (by decide), rfl, _, rfl, ?_⟩
      rw [decide_eq_true rfl]
      exact iteF ⟨rfl, P6.same (s7.trans zq2)⟩
    clear P3
    rintro σ H3 ⟨rfl, P3⟩
    obtain ⟨dx, cv, xs1, ys1, h1, _⟩ := id P3.rg
    have tE := P3.ok.tm l5' (by omega)
    have tR := P3.ok.tmR l5' (by omega)
    refine ⟨_, rfl, a, dx, _, rfl, h1, rfl, a, lg, _, rfl, P3.rg, fun r1 z1 H4 s4 _ hr4 dh4 => ?_⟩
    have w1 : Dh H4 (.ref r1) (.list (es1.map En.d)) := .lst hr4 dh4
    have P4 := P3.same s4
    have w2 : Dh H4 (.ref D1) (.list (es1.map En.d)) := .lst P4.hD P4.hd
    refine ⟨_, _, rfl, shwB w1 tE (by decide) (by decide), _, rfl, _, _, rfl, shwB w2 tE (by decide) (by decide), rfl, _, rfl, ?_⟩
    rw [decide_eq_true rfl]
    refine iteF ⟨_, rfl, a, dx, _, rfl, s4 _ _ h1, rfl, a, lg, _, _, es1.length, rfl, P4.rg, o, Nat.le_refl _, .inr ⟨rfl, rfl⟩, fun r2 z2 H5 s5 _ hr5 dh5 => ?_⟩
    have dh5 : DhAll H5 z2 (rowsD (stD (es1.take es1.length))) := dh5
    rw [List.take_length] at dh5
    have w3 : Dh H5 (.ref r2) (.list (rowsD (stD es1))) := .lst hr5 dh5
    have P5 := P4.same s5
    refine ⟨_, _, rfl, shwB w3 tR (by decide) (by decide), _, rfl, D1, zs1, _, es1, rfl, P5.hD, P5.hd, P5.ok, by omega, fun p ps' H7 s7 hp lp hs => ?_⟩
    obtain ⟨p0, ys0, e0, hp0, dh0⟩ := hs es1.length (Nat.le_refl _)
    rw [List.take_length] at dh0
    have w4 : Dh H7 (.ref p0) (.list (rowsD (stD es1))) := .lst hp0 dh0
    refine ⟨_, rfl, p, ps', _, _, rfl, rfl, SqL.of hp, last_at lp e0, _, _, rfl, shwB w4 tR (by decide) (by decide), rfl, _, rfl, ?_⟩
    rw [decide_eq_true rfl]
    exact iteF ⟨D1, zs1, es1, _, _, _, _, _, _, rfl, P5.same s7⟩
end
end K07
set_option Elab.async false
set_option linter.all false
set_option maxRecDepth 100000
set_option maxHeartbeats 4000000
namespace Lc
open PySem PySem.Spec PyProof.Rows L2 He
/-! ## The head's facts, with one more Bool -/
abbrev AlE : Type := AlD × Bool
def obsE (n : Nat) (fa : List Fa) (fn : List DefD) (ex : PySem.W.Frag → Bool) (g : Addr → Option Obj) : AlE := (obsD fa fn (frG g (asD g n)), ex (frG g (asD g n)))
def hookE (n : Nat) (fa : List Fa) (fn : List DefD) (ex : PySem.W.Frag → Bool) : PySem.W.Hook where
  α := AlE
  obs := fun s => obsE n fa fn ex s.heap.get?
  val := fun _ => (valD fn, true)
  says := fun _ h => ∃ K : PySem.W.Frag, K.In h ∧ SaysD fa fn K ∧ ex K = true
  of := fun _ _ e => ⟨_, frG_in, congrArg (fun z : AlE => z.1) e, congrArg (fun z : AlE => z.2) e⟩
  keeps := fun _ _ _ ⟨K, hK, c⟩ k => ⟨K, PySem.W.Frag.In.keeps hK k, c⟩
theorem obsE_eq {n : Nat} {fa : List Fa} {fn : List DefD} {ex : PySem.W.Frag → Bool} {g : Addr → Option Obj} {s : Shared} (h : ∀ a, g a = s.heap.get? a) : obsE n fa fn ex g = (hookE n fa fn ex).obs s := by
  have e : g = s.heap.get? := funext h
  rw [e] <;> rfl
/-! ## What is asked of the error classes -/
def optB (a b : Option Bool) : Bool := decide (a = b)
def optV (a b : Option Value) : Bool := decide (a = b)
def oexB (K : PySem.W.Frag) (C : Addr) : Bool := (match K.lookup C with
  | some ⟨.type "type", _, .cls cd, sl⟩ => (match cd.mro, sl.toList with
    | .ref C' :: bm, [_, _, _, _, some (.builtin n), _] => C' == C && n == "ValueError.__new__" && !cd.hasDel && cd.hasDict && PySem.HandSPX.refsVE bm
    | _, _ => false)
  | _ => false) && (eqO (PySem.W.findIn K (.ref C) "__setattr__") (some (some (.builtin "object.__setattr__"))) && (optB (PySem.W.subIn K (.ref C) (.type "BaseException")) (some true) && (optV (PySem.W.typeIn K (.ref C)) (some (.type "type")) && PySem.W.keepIn K (.ref C))))
theorem oexB_ok {K : PySem.W.Frag} {C : Addr} (h : oexB K C = true) : OexC K C := by
  obtain ⟨q, h⟩ := ba h
  obtain ⟨h1, h⟩ := ba h
  obtain ⟨h2, h⟩ := ba h
  obtain ⟨h3, h4⟩ := ba h
  refine ⟨?_, eqO_ok h1, of_decide_eq_true h2, of_decide_eq_true h3, h4⟩
  split at q
  · rename_i dd cd sl ho
    split at q
    · rename_i C' bm k0 k1 k2 k3 n k5 hm hs
      simp only [Bool.and_eq_true, beq_iff_eq, Bool.not_eq_true'] at q
      obtain ⟨⟨⟨⟨rfl, rfl⟩, hdel⟩, hdi⟩, ht⟩ := q
      obtain ⟨nm, bs, mro, ns, qn, hd, sn, sub, ab, col, del⟩ := cd
      dsimp only at hm hdel hdi
      subst hm hdel hdi
      have hsl : sl = #[k0, k1, k2, k3, some (.builtin "ValueError.__new__"), k5] := by
        obtain ⟨l⟩ := sl
        simp only at hs
        rw [hs]
      subst hsl
      exact ⟨nm, qn, ns, bs, bm, sn, sub, ab, col, dd, k0, k1, k2, k3, k5, ho, ht⟩
    · cases q
  · cases q
def xisB (K : PySem.W.Frag) (C : Addr) : Bool := (PySem.W.clsIn K C).isSome && (eqO (PySem.W.findIn K (.ref C) "__getattribute__") (some (some (.builtin "BaseException.__getattribute__"))) && (eqO (PySem.W.findIn K (.ref C) "__getattr__") (some none) &&
  (optB (PySem.W.subIn K (.ref C) (.type "BaseException")) (some true) && (eqO (PySem.W.findIn K (.ref C) "__class__") (some (some (.builtin "object.__class__"))) && (eqO (PySem.W.specialIn K (.builtin "object.__class__") "__get__") (some (some (.builtin "getset_descriptor.__get__"))) &&
  (optB (PySem.W.takesIn K (.builtin "object.__class__")) (some true) && optB (PySem.W.mroIn K C (.type "object")) (some true)))))))
theorem xisB_ok {K : PySem.W.Frag} {C : Addr} (h : xisB K C = true) : XisC K C := by
  obtain ⟨h1, h⟩ := ba h
  obtain ⟨h2, h⟩ := ba h
  obtain ⟨h3, h⟩ := ba h
  obtain ⟨h4, h⟩ := ba h
  obtain ⟨h5, h⟩ := ba h
  obtain ⟨h6, h⟩ := ba h
  obtain ⟨h7, h8⟩ := ba h
  exact ⟨h1, eqO_ok h2, eqO_ok h3, of_decide_eq_true h4, eqO_ok h5, eqO_ok h6, of_decide_eq_true h7, of_decide_eq_true h8⟩
/-- a def without defaults -/
theorem fun_of {K : PySem.W.Frag} {x qual : Str} {st : Stmt} {f : Addr} {fd : FuncData} (F : FunD K x qual (defArgs st) (defBody st) (defScope st) [] [] f fd) : Fun K x qual st f fd := by
  obtain ⟨oc, od, dV, kV, doc, pm, an, cdv, ct, osl, rfl, lk, hcd, hD, hK⟩ := F.ex
  rcases hD with ⟨_, rfl⟩ | ⟨e, _⟩
  · exact ⟨⟨oc, od, kV, doc, pm, an, cdv, ct, osl, rfl, lk, hcd⟩, F.kp⟩
  · exact absurd rfl e
/-! ## The end of a law whose defs are promised where no repr is under way -/
theorem walk_GE {l : PySem.W.OpenLaw} {n k : Nat} {q : Program} {loose : List Str} {XP : (Str → Option Value) → Heap → Prop} {YP : World → Heap → Prop} {d : DefRec} {x : Str}
    (hn : l.most = some n) (hn2 : n ≤ sizeLine) (hdf : d.params.defaults = []) (hr : Room k callerA)
    (F : ∀ (w : World) (mg : Str → Option Value) (fa : Addr) (h : Heap), YP w h → h.Ns mainGlobals mg → mg d.name = some (.ref fa) →
      ∃ (K : PySem.W.Frag) (fd : FuncData) (sp : Sp), K.In h ∧ (∀ (s : Shared) (u : Value), BindsTo s fd ⟨[u], []⟩ [(x, u)]) ∧
        (∀ (H : Hp) (a : Addr) (ns : List Int), ns.length ≤ n → SqL K H a (ns.map V.int) → sp [.ref a] H (fun v _ => v = .bl true) fun _ _ _ => False) ∧
        ∀ base : Heap, K.In base → base.Ns mainGlobals mg → FnG l.prog w K mg base k fa fd [x] sp) :
    PySem.W.WalkO q loose XP YP l.row.toRowW d [] (fun f vs => PySem.call f vs) := by
  refine Att.attach_call hn hdf fun w _ s mg mb fa _ _ _ _ a vs ns G Y _ _ _ hmg hobj hints hlen hg => ?_
  obtain ⟨K, fd, sp, KX, hb, hsp, hF⟩ := F w mg fa _ Y G.T.g hmg
  exact law_callG KX G.T.g G.T.b G.T.builtins G.T.nolimit hg hobj hints (Nat.le_trans hlen hn2) hr hF hb fun H hS => hsp H a ns hlen hS
end Lc
namespace Lc
theorem all_at {l : List Bool} (h : l.all id = true) (i : Nat) {b : Bool} (e : l[i]? = some b := by rfl) : b = true := List.all_eq_true.mp h b (List.mem_of_getElem? e)
end Lc
set_option Elab.async false
set_option linter.all false
set_option maxRecDepth 100000
set_option maxHeartbeats 4000000
namespace Lc
open PySem PySem.Spec PyProof.Rows L2 He
def oexGB (K : PySem.W.Frag) (C : Addr) (new : String) (tail : List Value) : Bool := (match K.lookup C with
  | some ⟨.type "type", _, .cls cd, sl⟩ => (match cd.mro, sl.toList with
    | .ref C' :: bm, [_, _, _, _, some (.builtin n), _] => C' == C && (n == new && (!cd.hasDel && (cd.hasDict && decide (bm = tail))))
    | _, _ => false)
  | _ => false) && (eqO (PySem.W.findIn K (.ref C) "__setattr__") (some (some (.builtin "object.__setattr__"))) && (optB (PySem.W.subIn K (.ref C) (.type "BaseException")) (some true) && (optV (PySem.W.typeIn K (.ref C)) (some (.type "type")) && PySem.W.keepIn K (.ref C))))
theorem oexGB_ok {K : PySem.W.Frag} {C : Addr} {new : String} {tail : List Value} (h : oexGB K C new tail = true) : OexG K C new tail := by
  unfold oexGB at h
  obtain ⟨q, h⟩ := ba h
  obtain ⟨h1, h⟩ := ba h
  obtain ⟨h2, h⟩ := ba h
  obtain ⟨h3, h4⟩ := ba h
  refine ⟨?_, eqO_ok h1, of_decide_eq_true h2, of_decide_eq_true h3, h4⟩
  split at q
  · rename_i dd cd sl lk
    split at q
    · rename_i C' bm k0 k1 k2 k3 n k5 hm hs
      simp only [Bool.and_eq_true, beq_iff_eq, Bool.not_eq_true', decide_eq_true_eq] at q
      obtain ⟨rfl, rfl, q3, q4, rfl⟩ := q
      obtain ⟨z1, z2, z3, z4, z5, z6, z7, z8, z9, z10, z11⟩ := cd
      dsimp only at hm q3 q4
      subst hm q3 q4
      have es : sl = #[k0, k1, k2, k3, some (.builtin n), k5] := by
        obtain ⟨l⟩ := sl
        have hs : l = _ := hs
        rw [hs]
      subst es
      exact ⟨_, _, _, _, _, _, _, _, _, _, _, _, _, _, lk⟩
    · cases q
  · cases q
end Lc
set_option Elab.async false
set_option linter.all false
set_option maxRecDepth 100000
set_option maxHeartbeats 8000000
namespace K07
open PySem PySem.Spec PyProof.Rows L2 Lc He
/-! ## the head -/
def dOf (x : Str) (st : Stmt) : DefD := ⟨(x, none), x, x, defArgs st, defBody st, defScope st, [], []⟩
def dMt (c m q : Str) (st : Stmt) : DefD := ⟨(c, some m), m, q, defArgs st, defBody st, defScope st, [], []⟩
def dKw (x : Str) (st : Stmt) (kw : List (Str × Dv)) : DefD := ⟨(x, none), x, x, defArgs st, defBody st, defScope st, [], kw⟩
def dDf (x : Str) (st : Stmt) (df : List Dv) : DefD := ⟨(x, none), x, x, defArgs st, defBody st, defScope st, df, []⟩
def dMd (c m q : Str) (st : Stmt) (df : List Dv) : DefD := ⟨(c, some m), m, q, defArgs st, defBody st, defScope st, df, []⟩
def fn : List DefD := [dMt "BadRow" "__init__" "BadRow.__init__" sIniR, dMt "BadName" "__init__" "BadName.__init__" sIniN, dMt "NoRow" "__init__" "NoRow.__init__" sIniM, dMt "NoVersion" "__init__" "NoVersion.__init__" sIniV, dMt "TooLarge" "__init__" "TooLarge.__init__" sIniL, dOf "is_whole" sWhole, dOf "common_divisor" sCd, dOf "is_rational" sIsR, dOf "is_name" sName, dOf "within_limit" sWithin, dOf "is_value" sValue, dOf "is_column" sCol, dOf "check_columns" sCc, dOf "check_name" sCn, dOf "check_row" sCr, dOf "rows_after" sRa, dOf "numbers_used" sNu, dMt "Register" "__init__" "Register.__init__" sRI, dMt "Register" "check_standing" "Register.check_standing" sCs, dMt "Register" "check_entry" "Register.check_entry" sCe, dMt "Register" "add" "Register.add" sAdd, dMt "Register" "correct" "Register.correct" sCor, dMt "Register" "strike" "Register.strike" sStr, dMt "Register" "version" "Register.version" sRV, dMd "Register" "rows" "Register.rows" sRR [.non], dMt "Register" "entries" "Register.entries" sRE, dMt "Register" "authors" "Register.authors" sRA, dMt "Register" "__len__" "Register.__len__" sRL, dOf "_law_tape" sTape, dOf "_law_draw" sDraw, dOf "_law_lowest" sLst, dOf "_law_rational" sRat, dOf "_law_name" sLnm, dOf "_law_fresh" sFr, dOf "_law_columns" sCls, dOf "_law_value" sLv, dOf "_law_values" sLvs, dOf "_law_deeds" sDe, dOf "_law_do" sDo, dOf "_law_is_name" sLis, dOf "_law_whole" sLwh, dOf "_law_states" sSt, dOf "_law_odd" sOdd, dOf "_law_is_value" sLiv, dOf "_law_given" sGv, dOf "_law_call" sCa, dOf "_law_due" sDu, dOf "_law_done" sDn, dOf "_law_entered" sEd, dOf "law" sLaw]
def gl : List Str := (["Register", "KINDS", "BadRow", "BadName", "NoRow", "NoVersion", "TooLarge", "is_whole", "common_divisor", "is_rational", "is_name", "within_limit", "is_value", "is_column", "check_columns", "check_name", "check_row", "rows_after", "numbers_used", "_law_tape"] : List Str) ++ (["_law_draw", "_law_lowest", "_law_rational", "_law_name", "_law_fresh", "_law_columns", "_law_value", "_law_values", "_law_deeds", "_law_do", "_law_is_name", "_law_whole", "_law_states", "_law_odd", "_law_is_value", "_law_given", "_law_call", "_law_due", "_law_done", "_law_entered"] : List Str)
def loose : List Str := gl ++ (["_wall", "LETTERS", "NAME_SIGNS", "LONGEST_NAME", "LIMIT", "MOST_COLUMNS", "MOST_ENTRIES", "BadColumns"] : List Str)
def fa : List Fa := (.glo "law") :: gl.map Fa.glo ++ (btNames ++ (["max"] : List Str)).map Fa.free ++ [.str "LETTERS" letters, .str "NAME_SIGNS" signs, .int "LONGEST_NAME" 12, .int "LIMIT" lim, .int "MOST_COLUMNS" 8, .int "MOST_ENTRIES" 400]
def exL (K : PySem.W.Frag) : List Bool := [oexB K (ga K "BadRow"), eqO (PySem.W.findIn K (.ref (ga K "BadRow")) "__init__") (some (some (.ref (ma K (ga K "BadRow") "__init__")))), optV (PySem.W.typeIn K (.ref (ma K (ga K "BadRow") "__init__"))) (some (.type "function")), eqO (PySem.W.findIn K (.ref (ga K "BadRow")) "index") (some none), xfB K (ga K "BadRow"), xisB K (ga K "BadRow"), optB (PySem.W.exmOne K (.ref (ga K "BadRow")) (.ref (ga K "BadRow"))) (some true), optB (PySem.W.kitOne K (.ref (ga K "BadRow")) (.type "ValueError")) (some true), oexB K (ga K "BadName"), eqO (PySem.W.findIn K (.ref (ga K "BadName")) "__init__") (some (some (.ref (ma K (ga K "BadName") "__init__")))), optV (PySem.W.typeIn K (.ref (ma K (ga K "BadName") "__init__"))) (some (.type "function")), eqO (PySem.W.findIn K (.ref (ga K "BadName")) "given") (some none), xfB K (ga K "BadName"), xisB K (ga K "BadName"), optB (PySem.W.exmOne K (.ref (ga K "BadName")) (.ref (ga K "BadName"))) (some true), optB (PySem.W.kitOne K (.ref (ga K "BadName")) (.type "ValueError")) (some true), oexGB K (ga K "NoRow") "IndexError.__new__" ixT, eqO (PySem.W.findIn K (.ref (ga K "NoRow")) "__init__") (some (some (.ref (ma K (ga K "NoRow") "__init__")))), optV (PySem.W.typeIn K (.ref (ma K (ga K "NoRow") "__init__"))) (some (.type "function")), eqO (PySem.W.findIn K (.ref (ga K "NoRow")) "number") (some none), xfB K (ga K "NoRow"), xisB K (ga K "NoRow"), optB (PySem.W.exmOne K (.ref (ga K "NoRow")) (.ref (ga K "NoRow"))) (some true), optB (PySem.W.kitOne K (.ref (ga K "NoRow")) (.type "IndexError")) (some true), oexGB K (ga K "NoVersion") "IndexError.__new__" ixT, eqO (PySem.W.findIn K (.ref (ga K "NoVersion")) "__init__") (some (some (.ref (ma K (ga K "NoVersion") "__init__")))), optV (PySem.W.typeIn K (.ref (ma K (ga K "NoVersion") "__init__"))) (some (.type "function")), eqO (PySem.W.findIn K (.ref (ga K "NoVersion")) "given") (some none), xfB K (ga K "NoVersion"), xisB K (ga K "NoVersion"), optB (PySem.W.exmOne K (.ref (ga K "NoVersion")) (.ref (ga K "NoVersion"))) (some true), optB (PySem.W.kitOne K (.ref (ga K "NoVersion")) (.type "IndexError")) (some true), oexGB K (ga K "TooLarge") "OverflowError.__new__" ovT, eqO (PySem.W.findIn K (.ref (ga K "TooLarge")) "__init__") (some (some (.ref (ma K (ga K "TooLarge") "__init__")))), optV (PySem.W.typeIn K (.ref (ma K (ga K "TooLarge") "__init__"))) (some (.type "function")), eqO (PySem.W.findIn K (.ref (ga K "TooLarge")) "size") (some none), xfB K (ga K "TooLarge"), xisB K (ga K "TooLarge"), optB (PySem.W.exmOne K (.ref (ga K "TooLarge")) (.ref (ga K "TooLarge"))) (some true), optB (PySem.W.kitOne K (.ref (ga K "TooLarge")) (.type "OverflowError")) (some true), optB (PySem.W.exmOne K (.ref (ga K "BadName")) (.ref (ga K "BadRow"))) (some false), optB (PySem.W.exmOne K (.ref (ga K "NoRow")) (.ref (ga K "BadRow"))) (some false), optB (PySem.W.exmOne K (.ref (ga K "NoRow")) (.ref (ga K "BadName"))) (some false), optB (PySem.W.exmOne K (.ref (ga K "NoVersion")) (.ref (ga K "BadRow"))) (some false), optB (PySem.W.exmOne K (.ref (ga K "NoVersion")) (.ref (ga K "BadName"))) (some false), optB (PySem.W.exmOne K (.ref (ga K "NoVersion")) (.ref (ga K "NoRow"))) (some false), optB (PySem.W.exmOne K (.ref (ga K "TooLarge")) (.ref (ga K "BadRow"))) (some false), optB (PySem.W.exmOne K (.ref (ga K "TooLarge")) (.ref (ga K "BadName"))) (some false), optB (PySem.W.exmOne K (.ref (ga K "TooLarge")) (.ref (ga K "NoRow"))) (some false), optB (PySem.W.exmOne K (.ref (ga K "TooLarge")) (.ref (ga K "NoVersion"))) (some false), optB (PySem.W.kitOne K (.ref (ga K "BadRow")) (.ref (ga K "BadName"))) (some false), optB (PySem.W.kitOne K (.ref (ga K "BadName")) (.ref (ga K "BadRow"))) (some false), optB (PySem.W.kitOne K (.ref (ga K "NoRow")) (.ref (ga K "NoVersion"))) (some false), optB (PySem.W.kitOne K (.ref (ga K "NoVersion")) (.ref (ga K "NoRow"))) (some false), Fa.ok K (.mkr "Register"), Fa.ok K (.cls "Register"), Fa.ok K (.noat "Register" "called"), Fa.ok K (.noat "Register" "shape"), Fa.ok K (.noat "Register" "log"), Fa.ok K (.meth "Register" "check_standing"), Fa.ok K (.meth "Register" "check_entry"), Fa.ok K (.meth "Register" "add"), Fa.ok K (.meth "Register" "correct"), Fa.ok K (.meth "Register" "strike"), Fa.ok K (.meth "Register" "version"), Fa.ok K (.meth "Register" "rows"), Fa.ok K (.meth "Register" "entries"), Fa.ok K (.meth "Register" "authors"), eqO (PySem.W.findIn K (.ref (ga K "Register")) "__len__") (some (some (.ref (ma K (ga K "Register") "__len__")))), PySem.W.isFn K (.ref (ma K (ga K "Register") "__len__")), tupB K "KINDS" [.str "number", .str "word", .str "flag"]]
def ex (K : PySem.W.Frag) : Bool := (exL K).all id
abbrev R : PySem.W.OpenRow := PySem.W.OpenLaw.row PySem.Challenge.rw_liveclaims_k07_refused_entries_change_no
abbrev hk : PySem.W.Hook := hookE 5 fa fn ex
def ob (s : PySem.W.SharedT) : AlE := obsE 5 fa fn ex (HandSHeadRun.getT s)
theorem ob_eq (s : PySem.W.SharedT) : ob s = hk.obs s.abs := obsE_eq (HandSHeadRun.getT_eq s)
theorem run (w : World) : HandSHeadRun.RunEq R (PySem.W.view R.prog [52]) hk ob 4000 loose w := by
  intro os
  kernel_rfl
theorem facts {P : Program} {w : World} {K : PySem.W.Frag} {h : Heap} {mg : Str → Option Value} {f : Addr} (X : K.In h) (G : h.Ns mainGlobals mg) (hfa : mg ("law" : Str) = some (.ref f)) (c : SaysD fa fn K) (e : ex K = true) :
    ∃ fd : FuncData, (∀ (s : Shared) (v : Value), BindsTo s fd ⟨[v], []⟩ [("_law_script", v)]) ∧ ∀ base : Heap, K.In base → base.Ns mainGlobals mg → FnG P w K mg base 7 f fd ["_law_script"] (spLaw K) := by
  obtain ⟨fd0, D0⟩ := c.def_ 0 (d := dMt "BadRow" "__init__" "BadRow.__init__" sIniR) rfl
  obtain ⟨fd1, D1⟩ := c.def_ 1 (d := dMt "BadName" "__init__" "BadName.__init__" sIniN) rfl
  obtain ⟨fd2, D2⟩ := c.def_ 2 (d := dMt "NoRow" "__init__" "NoRow.__init__" sIniM) rfl
  obtain ⟨fd3, D3⟩ := c.def_ 3 (d := dMt "NoVersion" "__init__" "NoVersion.__init__" sIniV) rfl
  obtain ⟨fd4, D4⟩ := c.def_ 4 (d := dMt "TooLarge" "__init__" "TooLarge.__init__" sIniL) rfl
  obtain ⟨fd5, D5⟩ := c.def_ 5 (d := dOf "is_whole" sWhole) rfl
  obtain ⟨fd6, D6⟩ := c.def_ 6 (d := dOf "common_divisor" sCd) rfl
  obtain ⟨fd7, D7⟩ := c.def_ 7 (d := dOf "is_rational" sIsR) rfl
  obtain ⟨fd8, D8⟩ := c.def_ 8 (d := dOf "is_name" sName) rfl
  obtain ⟨fd9, D9⟩ := c.def_ 9 (d := dOf "within_limit" sWithin) rfl
  obtain ⟨fd10, D10⟩ := c.def_ 10 (d := dOf "is_value" sValue) rfl
  obtain ⟨fd11, D11⟩ := c.def_ 11 (d := dOf "is_column" sCol) rfl
  obtain ⟨fd12, D12⟩ := c.def_ 12 (d := dOf "check_columns" sCc) rfl
  obtain ⟨fd13, D13⟩ := c.def_ 13 (d := dOf "check_name" sCn) rfl
  obtain ⟨fd14, D14⟩ := c.def_ 14 (d := dOf "check_row" sCr) rfl
  obtain ⟨fd15, D15⟩ := c.def_ 15 (d := dOf "rows_after" sRa) rfl
  obtain ⟨fd16, D16⟩ := c.def_ 16 (d := dOf "numbers_used" sNu) rfl
  obtain ⟨fd17, D17⟩ := c.def_ 17 (d := dMt "Register" "__init__" "Register.__init__" sRI) rfl
  obtain ⟨fd18, D18⟩ := c.def_ 18 (d := dMt "Register" "check_standing" "Register.check_standing" sCs) rfl
  obtain ⟨fd19, D19⟩ := c.def_ 19 (d := dMt "Register" "check_entry" "Register.check_entry" sCe) rfl
  obtain ⟨fd20, D20⟩ := c.def_ 20 (d := dMt "Register" "add" "Register.add" sAdd) rfl
  obtain ⟨fd21, D21⟩ := c.def_ 21 (d := dMt "Register" "correct" "Register.correct" sCor) rfl
  obtain ⟨fd22, D22⟩ := c.def_ 22 (d := dMt "Register" "strike" "Register.strike" sStr) rfl
  obtain ⟨fd23, D23⟩ := c.def_ 23 (d := dMt "Register" "version" "Register.version" sRV) rfl
  obtain ⟨fd24, D24⟩ := c.def_ 24 (d := dMd "Register" "rows" "Register.rows" sRR [.non]) rfl
  obtain ⟨fd25, D25⟩ := c.def_ 25 (d := dMt "Register" "entries" "Register.entries" sRE) rfl
  obtain ⟨fd26, D26⟩ := c.def_ 26 (d := dMt "Register" "authors" "Register.authors" sRA) rfl
  obtain ⟨fd27, D27⟩ := c.def_ 27 (d := dMt "Register" "__len__" "Register.__len__" sRL) rfl
  obtain ⟨fd28, D28⟩ := c.def_ 28 (d := dOf "_law_tape" sTape) rfl
  obtain ⟨fd29, D29⟩ := c.def_ 29 (d := dOf "_law_draw" sDraw) rfl
  obtain ⟨fd30, D30⟩ := c.def_ 30 (d := dOf "_law_lowest" sLst) rfl
  obtain ⟨fd31, D31⟩ := c.def_ 31 (d := dOf "_law_rational" sRat) rfl
  obtain ⟨fd32, D32⟩ := c.def_ 32 (d := dOf "_law_name" sLnm) rfl
  obtain ⟨fd33, D33⟩ := c.def_ 33 (d := dOf "_law_fresh" sFr) rfl
  obtain ⟨fd34, D34⟩ := c.def_ 34 (d := dOf "_law_columns" sCls) rfl
  obtain ⟨fd35, D35⟩ := c.def_ 35 (d := dOf "_law_value" sLv) rfl
  obtain ⟨fd36, D36⟩ := c.def_ 36 (d := dOf "_law_values" sLvs) rfl
  obtain ⟨fd37, D37⟩ := c.def_ 37 (d := dOf "_law_deeds" sDe) rfl
  obtain ⟨fd38, D38⟩ := c.def_ 38 (d := dOf "_law_do" sDo) rfl
  obtain ⟨fd39, D39⟩ := c.def_ 39 (d := dOf "_law_is_name" sLis) rfl
  obtain ⟨fd40, D40⟩ := c.def_ 40 (d := dOf "_law_whole" sLwh) rfl
  obtain ⟨fd41, D41⟩ := c.def_ 41 (d := dOf "_law_states" sSt) rfl
  obtain ⟨fd42, D42⟩ := c.def_ 42 (d := dOf "_law_odd" sOdd) rfl
  obtain ⟨fd43, D43⟩ := c.def_ 43 (d := dOf "_law_is_value" sLiv) rfl
  obtain ⟨fd44, D44⟩ := c.def_ 44 (d := dOf "_law_given" sGv) rfl
  obtain ⟨fd45, D45⟩ := c.def_ 45 (d := dOf "_law_call" sCa) rfl
  obtain ⟨fd46, D46⟩ := c.def_ 46 (d := dOf "_law_due" sDu) rfl
  obtain ⟨fd47, D47⟩ := c.def_ 47 (d := dOf "_law_done" sDn) rfl
  obtain ⟨fd48, D48⟩ := c.def_ 48 (d := dOf "_law_entered" sEd) rfl
  obtain ⟨fd49, D49⟩ := c.def_ 49 (d := dOf "law" sLaw) rfl
  have ef := hfa.symm.trans (glo_ok X G (c.fact 0 (f := .glo "law") rfl))
  cases ef
  have g : ∀ (i : Nat) (x : Str), fa[i]? = some (.glo x) → mg x = some (.ref (ga K x)) := fun i x z => glo_ok X G (c.fact i (f := .glo x) z)
  have z : ∀ (i : Nat) (x : Str), fa[i]? = some (.free x) → mg x = none := fun i x z => free_ok X G (c.fact i (f := .free x) z)
  have T : Bt mg := ⟨z 41 _ rfl, z 42 _ rfl, z 43 _ rfl, z 44 _ rfl, z 45 _ rfl, z 46 _ rfl, z 47 _ rfl, z 48 _ rfl, z 49 _ rfl, z 50 _ rfl, z 51 _ rfl, z 52 _ rfl, z 53 _ rfl, z 54 _ rfl, z 55 _ rfl, z 56 _ rfl, z 57 _ rfl, z 58 _ rfl⟩
  obtain ⟨uc0, mc0⟩ := str_ok X G (c.fact 60 (f := .str "LETTERS" letters) rfl)
  obtain ⟨uc1, mc1⟩ := str_ok X G (c.fact 61 (f := .str "NAME_SIGNS" signs) rfl)
  obtain ⟨uc2, mc2⟩ := int_ok X G (c.fact 62 (f := .int "LONGEST_NAME" 12) rfl)
  obtain ⟨uc3, mc3⟩ := int_ok X G (c.fact 63 (f := .int "LIMIT" lim) rfl)
  obtain ⟨uc4, mc4⟩ := int_ok X G (c.fact 64 (f := .int "MOST_COLUMNS" 8) rfl)
  obtain ⟨uc5, mc5⟩ := int_ok X G (c.fact 65 (f := .int "MOST_ENTRIES" 400) rfl)
  have a : ∀ (i : Nat) {b : Bool}, (exL K)[i]? = some b → b = true := fun i _ z => all_at e i z
  have b0 : Binds K fd0 ["self", "index"] [] := D0.bindsN fun _ _ _ _ _ _ us hl => match us, hl with | [_, _], _ => rfl
  have b1 : Binds K fd1 ["self", "given"] [] := D1.bindsN fun _ _ _ _ _ _ us hl => match us, hl with | [_, _], _ => rfl
  have b2 : Binds K fd2 ["self", "number"] [] := D2.bindsN fun _ _ _ _ _ _ us hl => match us, hl with | [_, _], _ => rfl
  have b3 : Binds K fd3 ["self", "given"] [] := D3.bindsN fun _ _ _ _ _ _ us hl => match us, hl with | [_, _], _ => rfl
  have b4 : Binds K fd4 ["self", "size"] [] := D4.bindsN fun _ _ _ _ _ _ us hl => match us, hl with | [_, _], _ => rfl
  have b5 : Binds K fd5 ["value"] [] := D5.bindsN fun _ _ _ _ _ _ us hl => match us, hl with | [_], _ => rfl
  have b6 : Binds K fd6 ["a", "b"] [] := D6.bindsN fun _ _ _ _ _ _ us hl => match us, hl with | [_, _], _ => rfl
  have b7 : Binds K fd7 ["value"] [] := D7.bindsN fun _ _ _ _ _ _ us hl => match us, hl with | [_], _ => rfl
  have b8 : Binds K fd8 ["value"] [] := D8.bindsN fun _ _ _ _ _ _ us hl => match us, hl with | [_], _ => rfl
  have b9 : Binds K fd9 ["number"] [] := D9.bindsN fun _ _ _ _ _ _ us hl => match us, hl with | [_], _ => rfl
  have b10 : Binds K fd10 ["value", "kind"] [] := D10.bindsN fun _ _ _ _ _ _ us hl => match us, hl with | [_, _], _ => rfl
  have b11 : Binds K fd11 ["value"] [] := D11.bindsN fun _ _ _ _ _ _ us hl => match us, hl with | [_], _ => rfl
  have b12 : Binds K fd12 ["columns"] [] := D12.bindsN fun _ _ _ _ _ _ us hl => match us, hl with | [_], _ => rfl
  have b13 : Binds K fd13 ["value"] [] := D13.bindsN fun _ _ _ _ _ _ us hl => match us, hl with | [_], _ => rfl
  have b14 : Binds K fd14 ["columns", "values"] [] := D14.bindsN fun _ _ _ _ _ _ us hl => match us, hl with | [_, _], _ => rfl
  have b15 : Binds K fd15 ["entries"] [] := D15.bindsN fun _ _ _ _ _ _ us hl => match us, hl with | [_], _ => rfl
  have b16 : Binds K fd16 ["entries"] [] := D16.bindsN fun _ _ _ _ _ _ us hl => match us, hl with | [_], _ => rfl
  have b17 : Binds K fd17 ["self", "name", "columns"] [] := D17.bindsN fun _ _ _ _ _ _ us hl => match us, hl with | [_, _, _], _ => rfl
  have b18 : Binds K fd18 ["self", "number"] [] := D18.bindsN fun _ _ _ _ _ _ us hl => match us, hl with | [_, _], _ => rfl
  have b19 : Binds K fd19 ["self", "author"] [] := D19.bindsN fun _ _ _ _ _ _ us hl => match us, hl with | [_, _], _ => rfl
  have kb20 : KBn K fd20 ["self", "values", "author"] 2 ["author"] (fun us ws => us ++ ws) (fun vs zs => vs ++ zs) := kbN D20 (fun _ _ _ _ _ _ us ws h1 h2 => match us, ws, h1, h2 with | [_, _], [_], _, _ => rfl)
  have kb21 : KBn K fd21 ["self", "number", "values", "author"] 3 ["author"] (fun us ws => us ++ ws) (fun vs zs => vs ++ zs) := kbN D21 (fun _ _ _ _ _ _ us ws h1 h2 => match us, ws, h1, h2 with | [_, _, _], [_], _, _ => rfl)
  have kb22 : KBn K fd22 ["self", "number", "author"] 2 ["author"] (fun us ws => us ++ ws) (fun vs zs => vs ++ zs) := kbN D22 (fun _ _ _ _ _ _ us ws h1 h2 => match us, ws, h1, h2 with | [_, _], [_], _, _ => rfl)
  have b23 : Binds K fd23 ["self"] [] := D23.bindsN fun _ _ _ _ _ _ us hl => match us, hl with | [_], _ => rfl
  obtain ⟨da24, va24, b24⟩ := FunD.binds1 (ps := ["self", "version"]) D24 2 1 (List.cons_ne_nil _ _) rfl (fun T kV doc pm an cdv ct us its hu hi => match us, its, hu, hi with | [_, _], [_], _, _ => ⟨_, rfl, rfl⟩)
  obtain rfl : da24 = [] := by cases va24; rfl
  obtain ⟨ds24, v24, bd24⟩ := FunD.binds1 (ps := ["self", "version"]) D24 1 0 (List.cons_ne_nil _ _) rfl (fun T kV doc pm an cdv ct us its hu hi => match us, its, hu, hi with | [_], [_], _, _ => ⟨_, rfl, rfl⟩)
  have b25 : Binds K fd25 ["self"] [] := D25.bindsN fun _ _ _ _ _ _ us hl => match us, hl with | [_], _ => rfl
  have b26 : Binds K fd26 ["self", "number"] [] := D26.bindsN fun _ _ _ _ _ _ us hl => match us, hl with | [_, _], _ => rfl
  have b27 : Binds K fd27 ["self"] [] := D27.bindsN fun _ _ _ _ _ _ us hl => match us, hl with | [_], _ => rfl
  have b28 : Binds K fd28 ["_law_script"] [] := D28.bindsN fun _ _ _ _ _ _ us hl => match us, hl with | [_], _ => rfl
  have b29 : Binds K fd29 ["_law_tape_here", "_law_many"] [] := D29.bindsN fun _ _ _ _ _ _ us hl => match us, hl with | [_, _], _ => rfl
  have b30 : Binds K fd30 ["_law_n", "_law_d"] [] := D30.bindsN fun _ _ _ _ _ _ us hl => match us, hl with | [_, _], _ => rfl
  have b31 : Binds K fd31 ["_law_tape_here", "_law_wide"] [] := D31.bindsN fun _ _ _ _ _ _ us hl => match us, hl with | [_, _], _ => rfl
  have b32 : Binds K fd32 ["_law_tape_here"] [] := D32.bindsN fun _ _ _ _ _ _ us hl => match us, hl with | [_], _ => rfl
  have b33 : Binds K fd33 ["_law_tape_here", "_law_taken"] [] := D33.bindsN fun _ _ _ _ _ _ us hl => match us, hl with | [_, _], _ => rfl
  have b34 : Binds K fd34 ["_law_tape_here", "_law_lead", "_law_many", "_law_taken"] [] := D34.bindsN fun _ _ _ _ _ _ us hl => match us, hl with | [_, _, _, _], _ => rfl
  have b35 : Binds K fd35 ["_law_tape_here", "_law_kind", "_law_wide"] [] := D35.bindsN fun _ _ _ _ _ _ us hl => match us, hl with | [_, _, _], _ => rfl
  have b36 : Binds K fd36 ["_law_tape_here", "_law_columns_here", "_law_wide"] [] := D36.bindsN fun _ _ _ _ _ _ us hl => match us, hl with | [_, _, _], _ => rfl
  have b37 : Binds K fd37 ["_law_tape_here", "_law_columns_here", "_law_many", "_law_wide"] [] := D37.bindsN fun _ _ _ _ _ _ us hl => match us, hl with | [_, _, _, _], _ => rfl
  have b38 : Binds K fd38 ["_law_log", "_law_deeds_here"] [] := D38.bindsN fun _ _ _ _ _ _ us hl => match us, hl with | [_, _], _ => rfl
  have b39 : Binds K fd39 ["_law_value_here"] [] := D39.bindsN fun _ _ _ _ _ _ us hl => match us, hl with | [_], _ => rfl
  have b40 : Binds K fd40 ["_law_value_here"] [] := D40.bindsN fun _ _ _ _ _ _ us hl => match us, hl with | [_], _ => rfl
  have b41 : Binds K fd41 ["_law_deeds_here"] [] := D41.bindsN fun _ _ _ _ _ _ us hl => match us, hl with | [_], _ => rfl
  have b42 : Binds K fd42 ["_law_tape_here"] [] := D42.bindsN fun _ _ _ _ _ _ us hl => match us, hl with | [_], _ => rfl
  have b43 : Binds K fd43 ["_law_value_here", "_law_kind"] [] := D43.bindsN fun _ _ _ _ _ _ us hl => match us, hl with | [_, _], _ => rfl
  have b44 : Binds K fd44 ["_law_tape_here", "_law_columns_here"] [] := D44.bindsN fun _ _ _ _ _ _ us hl => match us, hl with | [_, _], _ => rfl
  have b45 : Binds K fd45 ["_law_tape_here", "_law_columns_here", "_law_used"] [] := D45.bindsN fun _ _ _ _ _ _ us hl => match us, hl with | [_, _, _], _ => rfl
  have b46 : Binds K fd46 ["_law_columns_here", "_law_deeds_here", "_law_call_here"] [] := D46.bindsN fun _ _ _ _ _ _ us hl => match us, hl with | [_, _, _], _ => rfl
  have b47 : Binds K fd47 ["_law_log", "_law_call_here"] [] := D47.bindsN fun _ _ _ _ _ _ us hl => match us, hl with | [_, _], _ => rfl
  have b48 : Binds K fd48 ["_law_deeds_here", "_law_call_here"] [] := D48.bindsN fun _ _ _ _ _ _ us hl => match us, hl with | [_, _], _ => rfl
  have bl := FunD.bindsA (ps := ["_law_script"]) D49 fun _ _ _ _ _ _ us hl => match us, hl with | [_], _ => rfl
  refine ⟨fd49, fun s v => bl s [v] rfl, fun base _ _ => ?_⟩
  have m_Register : mg "Register" = some (.ref (ga K "Register")) := g 1 _ rfl
  have m_KINDS : mg "KINDS" = some (.ref (ga K "KINDS")) := g 2 _ rfl
  have m_BadRow : mg "BadRow" = some (.ref (ga K "BadRow")) := g 3 _ rfl
  have m_BadName : mg "BadName" = some (.ref (ga K "BadName")) := g 4 _ rfl
  have m_NoRow : mg "NoRow" = some (.ref (ga K "NoRow")) := g 5 _ rfl
  have m_NoVersion : mg "NoVersion" = some (.ref (ga K "NoVersion")) := g 6 _ rfl
  have m_TooLarge : mg "TooLarge" = some (.ref (ga K "TooLarge")) := g 7 _ rfl
  have m_is_whole : mg "is_whole" = some (.ref (ga K "is_whole")) := g 8 _ rfl
  have m_common_divisor : mg "common_divisor" = some (.ref (ga K "common_divisor")) := g 9 _ rfl
  have m_is_rational : mg "is_rational" = some (.ref (ga K "is_rational")) := g 10 _ rfl
  have m_is_name : mg "is_name" = some (.ref (ga K "is_name")) := g 11 _ rfl
  have m_within_limit : mg "within_limit" = some (.ref (ga K "within_limit")) := g 12 _ rfl
  have m_is_value : mg "is_value" = some (.ref (ga K "is_value")) := g 13 _ rfl
  have m_is_column : mg "is_column" = some (.ref (ga K "is_column")) := g 14 _ rfl
  have m_check_columns : mg "check_columns" = some (.ref (ga K "check_columns")) := g 15 _ rfl
  have m_check_name : mg "check_name" = some (.ref (ga K "check_name")) := g 16 _ rfl
  have m_check_row : mg "check_row" = some (.ref (ga K "check_row")) := g 17 _ rfl
  have m_rows_after : mg "rows_after" = some (.ref (ga K "rows_after")) := g 18 _ rfl
  have m_numbers_used : mg "numbers_used" = some (.ref (ga K "numbers_used")) := g 19 _ rfl
  have m__law_tape : mg "_law_tape" = some (.ref (ga K "_law_tape")) := g 20 _ rfl
  have m__law_draw : mg "_law_draw" = some (.ref (ga K "_law_draw")) := g 21 _ rfl
  have m__law_lowest : mg "_law_lowest" = some (.ref (ga K "_law_lowest")) := g 22 _ rfl
  have m__law_rational : mg "_law_rational" = some (.ref (ga K "_law_rational")) := g 23 _ rfl
  have m__law_name : mg "_law_name" = some (.ref (ga K "_law_name")) := g 24 _ rfl
  have m__law_fresh : mg "_law_fresh" = some (.ref (ga K "_law_fresh")) := g 25 _ rfl
  have m__law_columns : mg "_law_columns" = some (.ref (ga K "_law_columns")) := g 26 _ rfl
  have m__law_value : mg "_law_value" = some (.ref (ga K "_law_value")) := g 27 _ rfl
  have m__law_values : mg "_law_values" = some (.ref (ga K "_law_values")) := g 28 _ rfl
  have m__law_deeds : mg "_law_deeds" = some (.ref (ga K "_law_deeds")) := g 29 _ rfl
  have m__law_do : mg "_law_do" = some (.ref (ga K "_law_do")) := g 30 _ rfl
  have m__law_is_name : mg "_law_is_name" = some (.ref (ga K "_law_is_name")) := g 31 _ rfl
  have m__law_whole : mg "_law_whole" = some (.ref (ga K "_law_whole")) := g 32 _ rfl
  have m__law_states : mg "_law_states" = some (.ref (ga K "_law_states")) := g 33 _ rfl
  have m__law_odd : mg "_law_odd" = some (.ref (ga K "_law_odd")) := g 34 _ rfl
  have m__law_is_value : mg "_law_is_value" = some (.ref (ga K "_law_is_value")) := g 35 _ rfl
  have m__law_given : mg "_law_given" = some (.ref (ga K "_law_given")) := g 36 _ rfl
  have m__law_call : mg "_law_call" = some (.ref (ga K "_law_call")) := g 37 _ rfl
  have m__law_due : mg "_law_due" = some (.ref (ga K "_law_due")) := g 38 _ rfl
  have m__law_done : mg "_law_done" = some (.ref (ga K "_law_done")) := g 39 _ rfl
  have m__law_entered : mg "_law_entered" = some (.ref (ga K "_law_entered")) := g 40 _ rfl
  have mX : mg "max" = none := z 59 _ rfl
  have E0 : ErF K mg "BadRow" "index" (ga K "BadRow") _ := ⟨oexB_ok (a 0 rfl), eqO_ok (a 1 rfl), of_decide_eq_true (a 2 rfl), eqO_ok (a 3 rfl), m_BadRow⟩
  have E1 : ErF K mg "BadName" "given" (ga K "BadName") _ := ⟨oexB_ok (a 8 rfl), eqO_ok (a 9 rfl), of_decide_eq_true (a 10 rfl), eqO_ok (a 11 rfl), m_BadName⟩
  have E2 : ErI K mg "NoRow" "number" (ga K "NoRow") _ := ⟨oexGB_ok (a 16 rfl), eqO_ok (a 17 rfl), of_decide_eq_true (a 18 rfl), eqO_ok (a 19 rfl), m_NoRow⟩
  have E3 : ErI K mg "NoVersion" "given" (ga K "NoVersion") _ := ⟨oexGB_ok (a 24 rfl), eqO_ok (a 25 rfl), of_decide_eq_true (a 26 rfl), eqO_ok (a 27 rfl), m_NoVersion⟩
  have E4 : ErO K mg "TooLarge" "size" (ga K "TooLarge") _ := ⟨oexGB_ok (a 32 rfl), eqO_ok (a 33 rfl), of_decide_eq_true (a 34 rfl), eqO_ok (a 35 rfl), m_TooLarge⟩
  let A : EA := ⟨(ga K "BadRow"), (ga K "BadName"), (ga K "NoRow"), (ga K "NoVersion"), (ga K "TooLarge")⟩
  have XX : XA K A := by
    refine ⟨fun c h => match c, h with | 0, _ => xfB_ok (a 4 rfl) | 1, _ => xfB_ok (a 12 rfl) | 2, _ => xfB_ok (a 20 rfl) | 3, _ => xfB_ok (a 28 rfl) | 4, _ => xfB_ok (a 36 rfl) | n + 5, h => absurd h (by omega), fun c h => match c, h with | 0, _ => xisB_ok (a 5 rfl) | 1, _ => xisB_ok (a 13 rfl) | 2, _ => xisB_ok (a 21 rfl) | 3, _ => xisB_ok (a 29 rfl) | 4, _ => xisB_ok (a 37 rfl) | n + 5, h => absurd h (by omega), fun c h => match c, h with | 0, _ => of_decide_eq_true (a 6 rfl) | 1, _ => of_decide_eq_true (a 14 rfl) | 2, _ => of_decide_eq_true (a 22 rfl) | 3, _ => of_decide_eq_true (a 30 rfl) | 4, _ => of_decide_eq_true (a 38 rfl) | n + 5, h => absurd h (by omega), fun i c hi h => ?_, fun c h => match c, h with | 0, _ => of_decide_eq_true (a 7 rfl) | 1, _ => of_decide_eq_true (a 15 rfl) | 2, _ => of_decide_eq_true (a 23 rfl) | 3, _ => of_decide_eq_true (a 31 rfl) | 4, _ => of_decide_eq_true (a 39 rfl) | n + 5, h => absurd h (by omega), fun c h => match c, h with | 0, _ => of_decide_eq_true (a 50 rfl) | 1, _ => of_decide_eq_true (a 51 rfl) | 2, _ => of_decide_eq_true (a 52 rfl) | 3, _ => of_decide_eq_true (a 53 rfl) | n + 4, h => absurd h (by omega)⟩
    match c, i, hi, h with
    | 1, 0, _, _ => exact of_decide_eq_true (a 40 rfl)
    | 2, 0, _, _ => exact of_decide_eq_true (a 41 rfl)
    | 2, 1, _, _ => exact of_decide_eq_true (a 42 rfl)
    | 3, 0, _, _ => exact of_decide_eq_true (a 43 rfl)
    | 3, 1, _, _ => exact of_decide_eq_true (a 44 rfl)
    | 3, 2, _, _ => exact of_decide_eq_true (a 45 rfl)
    | 4, 0, _, _ => exact of_decide_eq_true (a 46 rfl)
    | 4, 1, _, _ => exact of_decide_eq_true (a 47 rfl)
    | 4, 2, _, _ => exact of_decide_eq_true (a 48 rfl)
    | 4, 3, _, _ => exact of_decide_eq_true (a 49 rfl)
    | 0, n + 0, hi, _ => exact absurd hi (by omega)
    | 1, n + 1, hi, _ => exact absurd hi (by omega)
    | 2, n + 2, hi, _ => exact absurd hi (by omega)
    | 3, n + 3, hi, _ => exact absurd hi (by omega)
    | 4, n + 4, hi, _ => exact absurd hi (by omega)
    | n + 5, _, _, h => exact absurd h (by omega)
  have Rg : RgF K mg (ga K "Register") _ := ⟨mkr_ok (a 54 rfl), cls_ok (a 55 rfl), noat_ok (a 56 rfl), noat_ok (a 57 rfl), noat_ok (a 58 rfl), m_Register⟩
  have Le : LenC K (ga K "Register") _ := ⟨eqO_ok (a 68 rfl), a 69 rfl⟩
  have G0 : FnOk P w K mg base CX0 1 _ fd0 ["self", "index"] (spIni (ga K "BadRow") "index") := ok_iniR (fun_of D0) E0
  have G1 : FnOk P w K mg base CX0 1 _ fd1 ["self", "given"] (spIni (ga K "BadName") "given") := ok_iniN (fun_of D1) E1
  have G2 : FnOk P w K mg base CX0 1 _ fd2 ["self", "number"] (spIni (ga K "NoRow") "number") := ok_iniM (fun_of D2) E2
  have G3 : FnOk P w K mg base CX0 1 _ fd3 ["self", "given"] (spIni (ga K "NoVersion") "given") := ok_iniV (fun_of D3) E3
  have G4 : FnOk P w K mg base CX0 1 _ fd4 ["self", "size"] (spIni (ga K "TooLarge") "size") := ok_iniL (fun_of D4) E4
  have G5 : FnOk P w K mg base CX0 1 _ fd5 ["value"] spWhole := ok_whole (fun_of D5) T
  have G6 : FnOk P w K mg base CX0 1 _ fd6 ["a", "b"] spCd := ok_cd (fun_of D6)
  have G7 : FnOk P w K mg base CX0 2 _ fd7 ["value"] spIsR := ok_isr (fun_of D7) T G5 m_is_whole D5.kp b5 G6 m_common_divisor D6.kp b6
  have G8 : FnOk P w K mg base CX0 1 _ fd8 ["value"] spName := ok_name (fun_of D8) T mc0 mc1 mc2
  have G9 : FnOk P w K mg base CX0 1 _ fd9 ["number"] spWithin := ok_within (fun_of D9) T mc3
  have G10 : FnOk P w K mg base CX0 3 _ fd10 ["value", "kind"] spValue := ok_value (fun_of D10) G7 m_is_rational D7.kp b7 G9 m_within_limit D9.kp b9 G8 m_is_name D8.kp b8
  have G11 : FnOk P w K mg base CX0 2 _ fd11 ["value"] spCol := ok_col (fun_of D11) T G8 m_is_name D8.kp b8 m_KINDS (fun H => tupB_ok (a 70 rfl) H)
  have G12 : FnOk P w K mg base CX0 3 _ fd12 ["columns"] spCcV := ok_ccV (fun_of D12) T mc4 G11 m_is_column D11.kp b11
  have G13 : FnOk P w K mg base CX0 2 _ fd13 ["value"] spCnV := ok_cnV (fun_of D13) G8 m_is_name D8.kp b8
  have G13x : FnOk P w K mg base (L2.CX P w) 3 _ fd13 ["value"] (spCn A.n) := ok_cn (fun_of D13) E1 G1 b1 G8 m_is_name D8.kp b8
  have G14x : FnOk P w K mg base (L2.CX P w) 4 _ fd14 ["columns", "values"] (spCr A.r) := ok_cr (fun_of D14) T E0 G0 b0 G10 m_is_value D10.kp b10
  have G15 : FnOk P w K mg base CX0 1 _ fd15 ["entries"] spRa := ok_ra (fun_of D15)
  have G16 : FnOk P w K mg base CX0 1 _ fd16 ["entries"] spNu := ok_nu (fun_of D16) T
  have G17 : FnOk P w K mg base CX0 4 _ fd17 ["self", "name", "columns"] (spRI (ga K "Register")) := ok_ri (fun_of D17) Rg G13 m_check_name D13.kp b13 G12 m_check_columns D12.kp b12
  have G18x : FnOk P w K mg base (L2.CX P w) 3 _ fd18 ["self", "number"] (spCsX (ga K "Register") A) := ok_csX (fun_of D18) Rg E2 G2 b2 G5 m_is_whole D5.kp b5 G15 m_rows_after D15.kp b15
  have G19x : FnOk P w K mg base (L2.CX P w) 4 _ fd19 ["self", "author"] (spCeX (ga K "Register") A) := ok_ceX (fun_of D19) T Rg mc5 E4 G4 b4 G13x m_check_name D13.kp b13
  have G20x : FnOk P w K mg base (L2.CX P w) 5 _ fd20 ["self", "values", "author"] (spAddX (ga K "Register") A) := ok_addX (fun_of D20) Rg G14x m_check_row D14.kp b14 (meth_ok (a 60 rfl)) G19x b19 G16 m_numbers_used D16.kp b16
  have G21x : FnOk P w K mg base (L2.CX P w) 5 _ fd21 ["self", "number", "values", "author"] (spCorX (ga K "Register") A) := ok_corX (fun_of D21) Rg (meth_ok (a 59 rfl)) G18x b18 G14x m_check_row D14.kp b14 (meth_ok (a 60 rfl)) G19x b19
  have G22x : FnOk P w K mg base (L2.CX P w) 5 _ fd22 ["self", "number", "author"] (spStrX (ga K "Register") A) := ok_strX (fun_of D22) Rg (meth_ok (a 59 rfl)) G18x b18 (meth_ok (a 60 rfl)) G19x b19
  have G20 : FnOk P w K mg base CX0 5 _ fd20 ["self", "values", "author"] (spAddV (ga K "Register")) := fn_quiet G20x add_quiet
  have G21 : FnOk P w K mg base CX0 5 _ fd21 ["self", "number", "values", "author"] (spCorV (ga K "Register")) := fn_quiet G21x cor_quiet
  have G22 : FnOk P w K mg base CX0 5 _ fd22 ["self", "number", "author"] (spStrV (ga K "Register")) := fn_quiet G22x str_quiet
  have G23 : FnOk P w K mg base CX0 1 _ fd23 ["self"] (spVe (ga K "Register")) := ok_rv (fun_of D23) T Rg
  have G24 : FnOk P w K mg base CX0 2 _ fd24 ["self", "version"] (spRows (ga K "Register")) := ok_rr D24 T Rg G5 m_is_whole D5.kp b5 G15 m_rows_after D15.kp b15
  have G24x : FnOk P w K mg base (L2.CX P w) 3 _ fd24 ["self", "version"] (spRowsX (ga K "Register") A) := ok_rrX D24 T Rg E3 G3 b3 G5 m_is_whole D5.kp b5 G15 m_rows_after D15.kp b15
  have G25 : FnOk P w K mg base CX0 1 _ fd25 ["self"] (spEn (ga K "Register")) := ok_re (fun_of D25) T Rg
  have G26x : FnOk P w K mg base (L2.CX P w) 3 _ fd26 ["self", "number"] (spAuX (ga K "Register") A) := ok_auX (fun_of D26) Rg E2 G2 b2 G5 m_is_whole D5.kp b5 G16 m_numbers_used D16.kp b16
  have G27 : FnOk P w K mg base CX0 3 _ fd27 ["self"] (spLen (ga K "Register")) := ok_rl (fun_of D27) T Rg (meth_ok (a 65 rfl)) G24 bd24 v24
  have G28 : FnOk P w K mg base CX0 1 _ fd28 ["_law_script"] (spTape K) := ok_tape (fun_of D28) T
  have G29 : FnOk P w K mg base CX0 1 _ fd29 ["_law_tape_here", "_law_many"] spDrawL := ok_draw (fun_of D29) T
  have G30 : FnOk P w K mg base CX0 1 _ fd30 ["_law_n", "_law_d"] spLowest := ok_lst (fun_of D30) T
  have G31 : FnOk P w K mg base CX0 2 _ fd31 ["_law_tape_here", "_law_wide"] spRatL := ok_rat (fun_of D31) T G29 m__law_draw D29.kp b29 G30 m__law_lowest D30.kp b30
  have G32 : FnOk P w K mg base CX0 2 _ fd32 ["_law_tape_here"] spLNm := ok_lnm (fun_of D32) T G29 m__law_draw D29.kp b29
  have G33 : FnOk P w K mg base CX0 3 _ fd33 ["_law_tape_here", "_law_taken"] spFr := ok_fr (fun_of D33) G32 m__law_name D32.kp b32
  have G34 : FnOk P w K mg base CX0 4 _ fd34 ["_law_tape_here", "_law_lead", "_law_many", "_law_taken"] spCls := ok_cls (fun_of D34) T G29 m__law_draw D29.kp b29 G33 m__law_fresh D33.kp b33
  have G35 : FnOk P w K mg base CX0 3 _ fd35 ["_law_tape_here", "_law_kind", "_law_wide"] spVal := ok_lv (fun_of D35) G29 m__law_draw D29.kp b29 G31 m__law_rational D31.kp b31 G32 m__law_name D32.kp b32
  have G36 : FnOk P w K mg base CX0 4 _ fd36 ["_law_tape_here", "_law_columns_here", "_law_wide"] spVals := ok_lvs (fun_of D36) T G35 m__law_value D35.kp b35
  have G37 : FnOk P w K mg base CX0 5 _ fd37 ["_law_tape_here", "_law_columns_here", "_law_many", "_law_wide"] spDe := ok_de (fun_of D37) T G29 m__law_draw D29.kp b29 G36 m__law_values D36.kp b36
  have G38 : FnOk P w K mg base CX0 6 _ fd38 ["_law_log", "_law_deeds_here"] (spDo (ga K "Register")) := ok_do (fun_of D38) Rg (meth_ok (a 61 rfl)) G20 kb20 (meth_ok (a 62 rfl)) G21 kb21 (meth_ok (a 63 rfl)) G22 kb22
  have G39 : FnOk P w K mg base CX0 1 _ fd39 ["_law_value_here"] spName := ok_lis (fun_of D39) T
  have G40 : FnOk P w K mg base CX0 1 _ fd40 ["_law_value_here"] spWhole := ok_lwh (fun_of D40) T
  have G41 : FnOk P w K mg base CX0 1 _ fd41 ["_law_deeds_here"] spSt := ok_st (fun_of D41) T
  have G42 : FnOk P w K mg base CX0 2 _ fd42 ["_law_tape_here"] spOdd := ok_odd (fun_of D42) G29 m__law_draw D29.kp b29
  have G43 : FnOk P w K mg base CX0 2 _ fd43 ["_law_value_here", "_law_kind"] spLiv := ok_liv (fun_of D43) T G40 m__law_whole D40.kp b40 G39 m__law_is_name D39.kp b39 G30 m__law_lowest D30.kp b30
  have G44 : FnOk P w K mg base CX0 5 _ fd44 ["_law_tape_here", "_law_columns_here"] spGv := ok_gv (fun_of D44) T mX G29 m__law_draw D29.kp b29 G36 m__law_values D36.kp b36 G42 m__law_odd D42.kp b42
  have G45 : FnOk P w K mg base CX0 6 _ fd45 ["_law_tape_here", "_law_columns_here", "_law_used"] spCa := ok_ca (fun_of D45) G29 m__law_draw D29.kp b29 G42 m__law_odd D42.kp b42 G44 m__law_given D44.kp b44
  have G46 : FnOk P w K mg base CX0 3 _ fd46 ["_law_columns_here", "_law_deeds_here", "_law_call_here"] spDu := ok_du (fun_of D46) T G40 m__law_whole D40.kp b40 G41 m__law_states D41.kp b41 G39 m__law_is_name D39.kp b39 G43 m__law_is_value D43.kp b43
  have G47 : FnOk P w K mg base CX0 6 _ fd47 ["_law_log", "_law_call_here"] (spDn (ga K "Register")) := ok_dn (fun_of D47) T Rg XX E0 E1 E2 E3 E4 (meth_ok (a 61 rfl)) G20x kb20 (meth_ok (a 62 rfl)) G21x kb21 (meth_ok (a 63 rfl)) G22x kb22 (meth_ok (a 65 rfl)) G24x b24 (meth_ok (a 67 rfl)) G26x b26
  have G48 : FnOk P w K mg base CX0 1 _ fd48 ["_law_deeds_here", "_law_call_here"] spEd := ok_ed (fun_of D48) T
  exact ok_law (fun_of D49) T Rg G17 b17 G28 m__law_tape D28.kp b28 G29 m__law_draw D29.kp b29 G34 m__law_columns D34.kp b34 G36 m__law_values D36.kp b36 G37 m__law_deeds D37.kp b37 G38 m__law_do D38.kp b38 G45 m__law_call D45.kp b45 G46 m__law_due D46.kp b46 G47 m__law_done D47.kp b47 G48 m__law_entered D48.kp b48 (meth_ok (a 64 rfl)) G23 b23 Le G27 b27 G41 m__law_states D41.kp b41 (meth_ok (a 66 rfl)) G25 b25 (meth_ok (a 65 rfl)) G24 bd24 v24
end K07
open PySem PySem.W PySem.Calls PyProof.Rows
theorem PySem.Challenge.cw_liveclaims_k07_refused_entries_change_no_holds : PySem.Challenge.rw_liveclaims_k07_refused_entries_change_no.Holds := by
  w_on; o_law
  refine HandSHeadRun.head_any (r := OpenLaw.row PySem.Challenge.rw_liveclaims_k07_refused_entries_change_no) (q := view (OpenLaw.row PySem.Challenge.rw_liveclaims_k07_refused_entries_change_no).prog [52]) (H := K07.hk) (ob := K07.ob) (M := 4000) (loose := K07.loose) (d := HandSHeadRun.topDef (OpenLaw.row PySem.Challenge.rw_liveclaims_k07_refused_entries_change_no).prog 52) (kwd := []) K07.ob_eq
    (by kernel_rfl) (fun s => by kernel_rfl) K07.run (by kernel_rfl) (by kernel_rfl) (by kernel_rfl) (by rfl) (by first | assumption | decide +kernel) (by decide +kernel) ⟨rfl, rfl, rfl, rfl, rfl, by decide +kernel⟩ ?hw ?hc
  case hw => w_witness2
  case hc =>
    refine Lc.walk_GE (l := PySem.Challenge.rw_liveclaims_k07_refused_entries_change_no) (n := 63) (k := 7) (x := "_law_script") rfl (by decide) (by kernel_rfl) ⟨rfl, by decide, by decide⟩ ?F
    intro w mg fa h Y G hmg0
    obtain ⟨K, KX, c, e⟩ := Y
    have hmg : mg ("law" : PySem.Str) = some (.ref fa) := by
      have e : (HandSHeadRun.topDef (OpenLaw.row PySem.Challenge.rw_liveclaims_k07_refused_entries_change_no).prog 52).name = ("law" : PySem.Str) := by kernel_rfl
      rw [← e]
      exact hmg0
    obtain ⟨fd, hb, hF⟩ := K07.facts (P := (PySem.Challenge.rw_liveclaims_k07_refused_entries_change_no).prog) (w := w) KX G hmg c e
    exact ⟨K, fd, K07.spLaw K, KX, hb, fun H a ns hl hS => ⟨a, ns, rfl, hS, fun _ => rfl⟩, hF⟩
