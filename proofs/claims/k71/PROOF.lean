import PyProof.Rows.All
import Wide.All
import OpenK.AllK
import Wide.FinOn
import HandS.ForMost
import HandS.ForExc
import HandS.Wide
import HandS.Flow
import HandS.IsInst
import HandS.ExcInit
import HandS.ExcField
import HandS.ExcIs
import HandS.TryMany
import HandS.CallLocal
import HandS.RaiseMore
import HandS.CallSlots
import KE.KExcIs
import PyProof.ReprRoads
import PyProof.ReprText
import HandS.Evl
import HandS.Walk
import HandS.Style
import PyProof.StrBlock2
import PyProof.StrLawsRepr
import PyProof.ReprLen
import KE.GoesEnum
import HandS.Iter
import HandS.TupMul
import HandS.ListItems
import HandS.OwnIter
import HandS.More
import PyProof.InstSpecial
import HandS.Defaults
import HandS.DictComp
import HandS.Zip
import KE.KIntText
import PyProof.StrLawsTight
import PyProof.StrLawsChain
import HandS.StrMore
import HandS.Replace
import HandS.TupSets
import HandS.Strs
import OpenK.KMore
import HandS.Head0
import HandS.Head1
import HandS.Head2
import HandS.HeadHook1
import HandS.HeadHook2
import KE.KStateDown
import HandS.HeadHook3
import PySem.Challenge.RW_liveclaims_k71_merged_cells
set_option maxRecDepth 100000
set_option maxHeartbeats 4000000
set_option linter.all false
namespace Lc
/-! ## Greatest common divisors and lowest terms -/
def gd (a b : Int) : Int := (Int.gcd a b : Int)
theorem gd_nonneg (a b : Int) : 0 ≤ gd a b := Int.natCast_nonneg _
theorem gd_pos {a b : Int} (h : b ≠ 0) : 0 < gd a b := by
  have : 0 < Int.gcd a b := Int.gcd_pos_of_ne_zero_right a h
  unfold gd
  omega
theorem gd_zero {a : Int} (h : 0 ≤ a) : gd a 0 = a := by
  unfold gd
  rw [Int.gcd_zero_right]
  omega
theorem gd_step {a b : Int} (ha : 0 ≤ a) (hb : 0 < b) : gd b (a % b) = gd a b := by
  unfold gd Int.gcd
  have e1 : (a % b).natAbs = a.natAbs % b.natAbs := by
    have h0 : 0 ≤ a % b := Int.emod_nonneg a (by omega)
    have : ((a % b).natAbs : Int) = ((a.natAbs % b.natAbs : Nat) : Int) := by
      rw [Int.natCast_emod, Int.natAbs_of_nonneg h0, Int.natAbs_of_nonneg ha, Int.natAbs_of_nonneg (by omega : 0 ≤ b)]
    exact Int.ofNat.inj this
  rw [e1, Nat.gcd_comm b.natAbs, ← Nat.gcd_rec, Nat.gcd_comm]
theorem gd_abs (a b : Int) : gd (if a < 0 then -a else a) b = gd a b := by
  unfold gd
  split
  · rw [Int.neg_gcd]
  · rfl
theorem gd_abs2 (a b : Int) : gd a (if b < 0 then -b else b) = gd a b := by
  unfold gd
  split
  · rw [Int.gcd_neg]
  · rfl
theorem gd_dvd1 (a b : Int) : gd a b ∣ a := Int.gcd_dvd_left a b
theorem gd_dvd2 (a b : Int) : gd a b ∣ b := Int.gcd_dvd_right a b
theorem gd_natAbs_le {a b : Int} (h : b ≠ 0) : (gd a b).natAbs ≤ b.natAbs := by
  have h1 : Int.gcd a b ≤ b.natAbs := Nat.le_of_dvd (by omega) (Int.gcd_dvd_natAbs_right a b)
  unfold gd
  rw [Int.natAbs_natCast]
  exact h1
def lowN (n d : Int) : Int := n / gd n d
def lowD (n d : Int) : Int := d / gd n d
structure Rt (n d : Int) : Prop where
  pos : 0 < d
  cop : gd n d = 1
theorem low_mul {n d : Int} (h : d ≠ 0) : lowN n d * gd n d = n ∧ lowD n d * gd n d = d := ⟨Int.ediv_mul_cancel (gd_dvd1 n d), Int.ediv_mul_cancel (gd_dvd2 n d)⟩
theorem lowD_pos {n d : Int} (h : 0 < d) : 0 < lowD n d := Int.ediv_pos_of_pos_of_dvd h (gd_nonneg n d) (gd_dvd2 n d)
theorem low_rt {n d : Int} (h : 0 < d) : Rt (lowN n d) (lowD n d) := by
  refine ⟨lowD_pos h, ?_⟩
  have hg : 0 < Int.gcd n d := Int.gcd_pos_of_ne_zero_right n (by omega)
  unfold lowN lowD gd
  rw [Int.gcd_ediv_gcd_ediv_gcd hg]
  rfl
theorem dvd_cop {k m n : Int} (h : k ∣ n * m) (g : Int.gcd m k = 1) : k ∣ n := by
  have h1 : k.natAbs ∣ m.natAbs * n.natAbs := by
    rw [← Int.natAbs_mul, Int.mul_comm]
    exact Int.natAbs_dvd_natAbs.mpr h
  have c : Nat.Coprime k.natAbs m.natAbs := by
    show Nat.gcd k.natAbs m.natAbs = 1
    rw [Nat.gcd_comm]
    exact g
  exact Int.natAbs_dvd_natAbs.mp (c.dvd_of_dvd_mul_left h1)
/-- lowest terms are one pair alone -/
theorem rt_unique {a b c d : Int} (h1 : Rt a b) (h2 : Rt c d) (e : a * d = c * b) : a = c ∧ b = d := by
  have g1 : Int.gcd a b = 1 := by have := h1.cop; unfold gd at this; omega
  have g2 : Int.gcd c d = 1 := by have := h2.cop; unfold gd at this; omega
  have db : b ∣ d := by
    have : b ∣ d * a := ⟨c, by rw [Int.mul_comm d a, e, Int.mul_comm]⟩
    exact dvd_cop this g1
  have dd : d ∣ b := by
    have : d ∣ b * c := ⟨a, by rw [Int.mul_comm b c, ← e, Int.mul_comm]⟩
    exact dvd_cop this g2
  have hb := h1.pos
  have hd := h2.pos
  have ebd : b = d := Int.le_antisymm (Int.le_of_dvd hd db) (Int.le_of_dvd hb dd)
  subst ebd
  exact ⟨Int.eq_of_mul_eq_mul_right (by omega) e, rfl⟩
theorem low_is {n d a b : Int} (hd : 0 < d) (h : Rt a b) (e : n * b = a * d) : lowN n d = a ∧ lowD n d = b := by
  have m := low_mul (n := n) (d := d) (by omega)
  have g := gd_pos (a := n) (b := d) (by omega)
  refine rt_unique (low_rt hd) h ?_
  have e2 : (lowN n d * b) * gd n d = (a * lowD n d) * gd n d := by
    rw [Int.mul_right_comm, m.1, Int.mul_assoc, m.2, e]
  exact Int.eq_of_mul_eq_mul_right (by omega) e2
theorem fdiv_neg_dvd {a g : Int} (hg : 0 < g) (h : g ∣ a) : a.fdiv (-g) = (-a) / g := by
  obtain ⟨m, rfl⟩ := h
  have e1 : g * m = (-g) * (-m) := by rw [Int.neg_mul_neg]
  have e2 : -(g * m) = g * (-m) := by rw [Int.mul_neg]
  rw [e2, Int.mul_ediv_cancel_left _ (by omega), e1, Int.mul_fdiv_cancel_left _ (by omega)]
/-- the sums and products of the law -/
theorem sub_add {an ad bn bd p q : Int} (had : 0 < ad) (hbd : 0 < bd) (hq : 0 < q) (h : p * (ad * bd) = (an * bd + bn * ad) * q) : (p * bd - bn * q) * ad = an * (q * bd) := by
  have e1 : (p * bd - bn * q) * ad = p * (ad * bd) - bn * q * ad := by
    rw [Int.sub_mul, Int.mul_assoc p bd ad, Int.mul_comm bd ad]
  have e2 : (an * bd + bn * ad) * q = an * (q * bd) + bn * q * ad := by
    rw [Int.add_mul, Int.mul_assoc an bd q, Int.mul_comm bd q, Int.mul_assoc bn ad q, Int.mul_comm ad q, Int.mul_assoc bn q ad]
  rw [e1, h, e2]
  omega
theorem mul_div {an ad bn bd p q : Int} (h : p * (ad * bn) = (an * bd) * q) (hbn : bn ≠ 0) : (p * bn) * ad = an * (q * bd) := by
  rw [Int.mul_assoc p bn ad, Int.mul_comm bn ad, h, Int.mul_assoc an bd q, Int.mul_comm bd q]
end Lc
namespace Lc
theorem low_le {n d : Int} (h : d ≠ 0) : (lowN n d).natAbs ≤ n.natAbs ∧ (lowD n d).natAbs ≤ d.natAbs := by
  have m := low_mul (n := n) (d := d) h
  have g := gd_pos (a := n) (b := d) h
  have e1 : n.natAbs = (lowN n d).natAbs * (gd n d).natAbs := by rw [← Int.natAbs_mul, m.1]
  have e2 : d.natAbs = (lowD n d).natAbs * (gd n d).natAbs := by rw [← Int.natAbs_mul, m.2]
  have gp : 0 < (gd n d).natAbs := by omega
  exact ⟨by rw [e1]; exact Nat.le_mul_of_pos_right _ gp, by rw [e2]; exact Nat.le_mul_of_pos_right _ gp⟩
theorem rt_one (n : Int) : Rt n 1 := ⟨by decide, by unfold gd; rw [Int.gcd_one]; rfl⟩
theorem rt_inv {d : Int} (h : 0 < d) : Rt 1 d := ⟨h, by unfold gd; rw [Int.one_gcd]; rfl⟩
theorem rt_ninv {d : Int} (h : 0 < d) : Rt (-1) d := ⟨h, by unfold gd; rw [Int.neg_gcd, Int.one_gcd]; rfl⟩
end Lc
set_option Elab.async false
set_option linter.all false
set_option maxRecDepth 100000
set_option maxHeartbeats 4000000
namespace Lc
open PySem PySem.Spec PyProof.Rows L2
/-! ## A try with clauses of both forms, «except X:» and «except X as n:» -/
structure Cl where
  c : Value
  slot : Option Nat
  ts : Addr → Value → Option Addr → TS
def putS : Option Nat → Option V → L2.St → L2.St
  | none, _, σ => σ
  | some i, v, σ => σ.set i v
def endS (q : Option Nat) (D : Ends) : Ends := ⟨fun σ H => D.nx (putS q none σ) H, D.rt, fun σ H => D.bk (putS q none σ) H, fun σ H => D.ct (putS q none σ) H⟩
def wCl (K : PySem.W.Frag) (Wout : WX) (D : Ends) : List Cl → WX
  | [] => Wout
  | q :: r => fun cls d σ H => ∃ b, PySem.W.exmOne K cls q.c = some b ∧ (b = true → ∀ a, H a = none → q.ts a cls d (endS q.slot D) (putS q.slot (some (.ref a)) σ) H) ∧
      (b = false → wCl K Wout D r cls d σ H)
abbrev SuiteOk (X : Cx) (st : List Stmt) (ts : Addr → Value → Option Addr → TS) : Prop :=
  ∀ (a : Addr) (ob : Obj) (cls : Value) (d : Option Addr) (pn : List (Addr × Obj)), Zc cls d ob → (∃ vs, ob.data = .fields vs) → PSs (X.suite a ((a, ob) :: pn)) st (ts a cls d)
inductive ClsOk (X : Cx) : List ExceptHandler → List Cl → Prop
  | nil : ClsOk X [] []
  | bare {x : Str} {q : Cl} {st : Stmt} {sts : List Stmt} {p1 p2 : Pos} {hds : List ExceptHandler} {l : List Cl} (hc : Names X x q.c) (hq : q.slot = none) (su : SuiteOk X (st :: sts) q.ts) (r : ClsOk X hds l) :
      ClsOk X (.ExceptHandler (some (.Name x p1)) none (st :: sts) p2 :: hds) (q :: l)
  | named {x n : Str} {q : Cl} {i : Nat} {st : Stmt} {sts : List Stmt} {p1 p2 : Pos} {hds : List ExceptHandler} {l : List Cl} (hc : Names X x q.c) (hq : q.slot = some i) (hN : X.N.Nodup) (hi : X.N[i]? = some n) (hn : X.env.kindOf n = some .local)
      (su : SuiteOk X (st :: sts) q.ts) (r : ClsOk X hds l) : ClsOk X (.ExceptHandler (some (.Name x p1)) (some n) (st :: sts) p2 :: hds) (q :: l)
section
variable {X : Cx}
theorem clauses_go {Wout : WX} {D : Ends} {pins : List (Addr × Obj)} {σ : L2.St} {H : Hp} {cls : Value} {d : Option Addr} {a : Addr} {B : Heap} {sI s' : Shared} {h3 : Heap}
    (hs : X.stack = X.env :: X.outer) (hf : X.env.frame = some X.env.locals) (tk : Takes X Wout) (J : Inv X pins σ H sI)
    (nb : ∀ b o, sI.heap.get? b = some o → b ∉ frs X.stack → B.get? b = some o) (na : H a = none) (os : s'.os = sI.os) (ag : AllBare s'.gens)
    (up : sI.heap.UpToSlots h3) (fl : HandSPX.FlyingZ B (X.env :: X.outer) a (Zc cls d) h3) :
    ∀ {hds : List ExceptHandler} {l : List Cl}, ClsOk X hds l → wCl X.K Wout D l cls d σ H → wpAny (model X.prog X.w) X.A (handleBy (.ref a) X.env hds) (SP X pins D) X.xe { s' with heap := h3 } := by
  have ok := J.ok
  have land : ∀ {h4 : Heap}, HandSPX.FlyingZ B (X.env :: X.outer) a (Zc cls d) h4 → sI.heap.UpToSlots h4 → Inv X pins σ H { s' with heap := h4 } ∧ ∃ ob vs, Zc cls d ob ∧ ob.data = .fields vs ∧ h4.get? a = some ob ∧
      Inv (X.suite a ((a, ob) :: (X.pn ++ pins))) [] σ H { s' with heap := h4 } := by
    intro h4 f4 u4
    have J4 : Inv X pins σ H { s' with heap := h4 } := J.landed nb f4.1 u4 os ag
    obtain ⟨ob, vs, hob, hz, hd⟩ := f4.there
    have nfr : a ∉ frs (X.env :: X.outer) := fun hm => by
      obtain ⟨_, ox, ex, nf⟩ := f4.2.2.1.mem hm
      rw [hob] at ex
      cases ex
      exact nf _ hd
    have nL : a ≠ X.env.locals := fun z => nfr (List.mem_filterMap.mpr ⟨X.env, List.mem_cons_self, by rw [hf, z]⟩)
    have nF : a ∉ X.fs := fun hm => by
      obtain ⟨en, hen, qq⟩ := List.mem_filterMap.mp hm
      exact nfr (List.mem_filterMap.mpr ⟨en, List.mem_cons_of_mem _ hen, qq⟩)
    exact ⟨J4, ob, vs, hz, hd, hob, J4.suite hob hd na nL nF⟩
  obtain ⟨J3, o3, vs3, hz3, hd3, ho3, S3⟩ := land fl up
  have ty : PySem.W.Looks (model X.prog X.w) h3 (typeOf (.ref a)) cls := fun _ _ _ _ kk qq => wpAny_typeOf_ref (kk _ _ ho3) (by rw [hz3.1]; exact qq)
  have tst : ∀ {x : Str} {c : Value} {p1 : Pos} {Q : Value → Shared → Prop} {E : Value → Shared → Prop}, Names X x c → Q c { s' with heap := h3 } →
      wpAny (model X.prog X.w) (X.A.mark (some (.ref a))) (eval (.Name x p1) X.env) Q E { s' with heap := h3 } := by
    intro x c p1 Q E hc hq
    rcases hc with ⟨hg, hdb, hm | ⟨hm, hv, hne⟩⟩
    · exact ld_glob (X := X.suite a ((a, o3) :: (X.pn ++ pins))) S3 hg hm hq hdb
    · exact ld_blt (X := X.suite a ((a, o3) :: (X.pn ++ pins))) S3 hg hm hv hq hne hdb
  intro hds l hk
  induction hk with
  | nil =>
    intro wi
    refine wpAny_handleBy_nil ?_
    obtain ⟨_, _, _, ox, vx, T, _, _, hox, _, hdx, h1, _⟩ := id fl
    have out : wpAny (model X.prog X.w) X.A (setFlight (.ref a) X.env.frame) (fun _ s4 => wpAny (model X.prog X.w) X.A (throw (.ref a) : Sem Flow) (SP X pins D) X.xe s4) X.xe { s' with heap := h3 } := by
      rw [hf]
      exact HandSPX.setFlight_upZ fl fun h4 f4 u4 => wpAny_throw (tk _ _ ⟨a, B, sI, pins, σ, H, cls, d, rfl, J, nb, up.trans u4, .inr (.inr (by rw [hs]; exact f4)), na, os, ag, wi⟩)
    unfold PySem.passOn
    refine wpAny_bind (wpAny_field hox hdx h1 ?_)
    rw [if_neg (by simp : ¬ ((Value.ref T == Value.none) = true))]
    first
      | exact wpAny_bind out
      | exact wpAny_bind (wpAny_pure (wpAny_bind out))
  | @bare x q st sts p1 p2 hds2 l2 hc hq su r ih =>
    intro wi
    obtain ⟨b, hb, yes, no⟩ := wi
    refine wpAny_handleBy_cons (codeAny_handlers_test (tst hc ((PySem.W.exm_one (M := model X.prog X.w) J3.kIn ty hb).here ?_))) (by intro z; cases z)
    cases b with
    | false => exact ih (no rfl)
    | true =>
      refine codeAny_handlers_suite (HandSPX.lands_againZ fl fun h4 f4 u4 => ?_)
      obtain ⟨J4, o4, vs4, hz4, hd4, ho4, S4⟩ := land f4 (up.trans u4)
      have yy := yes rfl a na
      rw [hq] at yy
      refine wpAny_mono ((su a o4 cls d (X.pn ++ pins) hz4 ⟨_, hd4⟩).run [] _ _ H _ S4 yy) (fun f s6 hsp => ?_) (fun _ _ z => z.elim)
      cases f with
      | ret u =>
        obtain ⟨v6, σ6, H6, S6, r6, q6⟩ := hsp
        exact ⟨v6, σ6, H6, S6.unsuite ok, r6, q6⟩
      | next => obtain ⟨σ6, H6, S6, q6⟩ := hsp; exact ⟨σ6, H6, S6.unsuite ok, q6⟩
      | brk => obtain ⟨σ6, H6, S6, q6⟩ := hsp; exact ⟨σ6, H6, S6.unsuite ok, q6⟩
      | cont => obtain ⟨σ6, H6, S6, q6⟩ := hsp; exact ⟨σ6, H6, S6.unsuite ok, q6⟩
  | @named x n q i st sts p1 p2 hds2 l2 hc hq hN hi hn su r ih =>
    intro wi
    obtain ⟨b, hb, yes, no⟩ := wi
    refine wpAny_handleBy_cons (codeAny_handlers_test (tst hc ((PySem.W.exm_one (M := model X.prog X.w) J3.kIn ty hb).here ?_))) (by intro z; cases z)
    cases b with
    | false => exact ih (no rfl)
    | true =>
      refine codeAny_handlers_suite_as (HandSPX.lands_againZ fl fun h4 f4 u4 => ?_)
      obtain ⟨J4, o4, vs4, hz4, hd4, ho4, S4⟩ := land f4 (up.trans u4)
      have yy := yes rfl a na
      rw [hq] at yy
      refine store_ok (X := X.suite a ((a, o4) :: (X.pn ++ pins))) (v := .ref a) S4 hN hi (.inl hn) rfl (fun s5 S5 => ?_) (.inr hn)
      refine wpAny_mono ((su a o4 cls d (X.pn ++ pins) hz4 ⟨_, hd4⟩).run [] s5 _ H _ S5 yy) (fun f s6 hsp => ?_) (fun _ _ z => z.elim)
      have fin : ∀ {σ6 : L2.St} {H6 : Hp} {Q : Shared → Prop}, Inv (X.suite a ((a, o4) :: (X.pn ++ pins))) [] σ6 H6 s6 → (∀ s7, Inv X pins (σ6.set i none) H6 s7 → Q s7) →
          wpAny (model X.prog X.w) X.A (do bindName X.env n .none; unbindBehindTheSuite X.env n p2) (fun _ s7 => Q s7) X.xe s6 := fun S6 k => gone_ok (S6.unsuite ok) hN hi hn k
      cases f with
      | ret u =>
        obtain ⟨v6, σ6, H6, S6, r6, q6⟩ := hsp
        exact fin S6 fun s7 J7 => ⟨_, _, _, J7, r6, q6⟩
      | next => obtain ⟨σ6, H6, S6, q6⟩ := hsp; exact fin S6 fun s7 J7 => ⟨_, _, J7, q6⟩
      | brk => obtain ⟨σ6, H6, S6, q6⟩ := hsp; exact fin S6 fun s7 J7 => ⟨_, _, J7, q6⟩
      | cont => obtain ⟨σ6, H6, S6, q6⟩ := hsp; exact fin S6 fun s7 J7 => ⟨_, _, J7, q6⟩
theorem ps_tryL {body : List Stmt} {h₀ : ExceptHandler} {hds : List ExceptHandler} {l : List Cl} {pos : Pos} {tb : WX → TS} {Wout : WX} (hs : X.stack = X.env :: X.outer) (hf : X.env.frame = some X.env.locals) (tk : Takes X Wout)
    (hb : ∀ (W : WX) (pn : List (Addr × Obj)) (xe : Value → Shared → Prop), Takes (X.tr pn xe) W → PassesOwn (model X.prog X.w) X.A X.env xe → PSs (X.tr pn xe) body (tb W)) (hh : ClsOk X (h₀ :: hds) l) :
    PS X (.Try body (h₀ :: hds) [] [] pos) (fun D σ H => tb (wCl X.K Wout D l) D σ H) := by
  refine ⟨fun pins s σ H D I h => ?_⟩
  have ok := I.ok
  have fr : X.A.frames = some (X.env :: X.outer) := ok.frames.trans (congrArg some hs)
  refine wpAny_Try_except (wpAny_mono ((hb (wCl X.K Wout D l) (X.pn ++ pins) (fun e s₁ => wpAny (model X.prog X.w) X.A (noteFrame e X.env) (fun _ s₂ => wpAny (model X.prog X.w) X.A (setFlight e none)
    (fun _ s₃ => wpAny (model X.prog X.w) X.A (handleBy e X.env (h₀ :: hds)) (SP X pins D) X.xe s₃) X.xe s₂) X.xe s₁) (fun u s' xx => ?_) PassesOwn.looking).run [] s σ H D (I.toTry _) h) (fun f s1 hsp => ?_) (fun _ _ he => he))
  · obtain ⟨a, B, sI, _, σ1, H1, cls, d, rfl, J', nb, up, sky, na, os, ag, wi⟩ := xx
    rw [hs] at sky
    exact Sky.land Zc.steady fr hf sky fun h3 f3 u3 => clauses_go hs hf tk (J'.ofTry ok) nb na os ag (up.trans u3) f3 hh wi
  · cases f with
    | ret u =>
      obtain ⟨v1, σ1, H1, J1, r1, q1⟩ := hsp
      exact ⟨v1, σ1, H1, J1.ofTry ok, r1, q1⟩
    | next => obtain ⟨σ1, H1, J1, q1⟩ := hsp; exact wpAny_execs_nil ⟨σ1, H1, J1.ofTry ok, q1⟩
    | brk => obtain ⟨σ1, H1, J1, q1⟩ := hsp; exact ⟨σ1, H1, J1.ofTry ok, q1⟩
    | cont => obtain ⟨σ1, H1, J1, q1⟩ := hsp; exact ⟨σ1, H1, J1.ofTry ok, q1⟩
end
/-! ## isinstance of the caught error, whether it has a dict or not -/
structure XisC (K : PySem.W.Frag) (C : Addr) : Prop where
  hc : (PySem.W.clsIn K C).isSome = true
  ga : PySem.W.findIn K (.ref C) "__getattribute__" = some (some (.builtin "BaseException.__getattribute__"))
  gt : PySem.W.findIn K (.ref C) "__getattr__" = some none
  sb : PySem.W.subIn K (.ref C) (.type "BaseException") = some true
  cl : PySem.W.findIn K (.ref C) "__class__" = some (some (.builtin "object.__class__"))
  sp : PySem.W.specialIn K (.builtin "object.__class__") "__get__" = some (some (.builtin "getset_descriptor.__get__"))
  tk : PySem.W.takesIn K (.builtin "object.__class__") = some true
  mo : PySem.W.mroIn K C (.type "object") = some true
def rIsX (K : PySem.W.Frag) (cls : Value) (d : Option Addr) (C a : Addr) : List V → Hp → VK → Prop := fun xs H Q => cls = .ref C ∧ ∃ (c : V) (cv : Value) (b : Bool), xs = [.ref a, c] ∧ ClsV c cv ∧ (∀ dd, d = some dd → ∃ fs, H dd = some (.xd fs)) ∧
  PySem.W.kitOne K (.ref C) cv = some b ∧ Q (.bl b) H
section
variable {X : Cx}
theorem call_isX {a C : Addr} {ob : Obj} {cls : Value} {d : Option Addr} {pn : List (Addr × Obj)} (T : XisC X.K C) (hz : Zc cls d ob) (hf : ∃ vs, ob.data = .fields vs) : CallR (X.suite a ((a, ob) :: pn)) (.builtin "isinstance") (rIsX X.K cls d C a) := by
  intro pins s σ H xs us Q I r h
  obtain ⟨ec, c, cv, b, rfl, hcv, hd, e, q⟩ := h
  obtain ⟨u1, u2, rfl, r1, r2⟩ := vals2 r
  have e2 := hcv.eq r2
  subst e2 ec
  obtain rfl : u1 = Value.ref a := r1
  obtain ⟨vs, hv⟩ := hf
  obtain ⟨hget, _⟩ := I.pin (a, ob) (List.mem_append_left _ List.mem_cons_self)
  have nc : PySem.W.notCls ob = true := by unfold PySem.W.notCls; rw [hv]
  have key : ∃ od, PySem.W.InstAt s.heap a ob C od := by
    cases d with
    | none => exact ⟨none, hget, hz.1, nc, by rw [hz.2]; trivial⟩
    | some dd =>
      obtain ⟨fs, hfs⟩ := hd dd rfl
      obtain ⟨mA, ⟨o, _, _, ho, _⟩, _⟩ := (show ObjOk X.prog X.w H s.heap dd (.xd fs) from I.hok dd _ hfs)
      exact ⟨some o, hget, hz.1, nc, by rw [hz.2]; exact ho⟩
  obtain ⟨od, J⟩ := key
  exact PySem.W.kia_one (PySem.W.kitx_exc T.hc T.ga T.gt T.sb T.cl T.sp T.tk T.mo) I.kIn J e (fun z => nomatch z) fun tk => ⟨.bl b, H, I.kept (t' := tk) fun _ _ z => z, rfl, q⟩
/-! ## f(e, ..), f a local name that holds a def which may raise -/
def tCallLS (i : Nat) (f : Addr) (sp : Sp) (E : L2.St → XK) (t : TA) : TE := fun σ H Q => σ[i]? = some (some (.ref f)) ∧ t σ H fun vs H1 => sp vs H1 Q (E σ)
theorem pe_callLS {CX : CXT} {k i : Nat} {f : Addr} {fd : FuncData} {ps : List Str} {sp : Sp} {E : L2.St → XK} {x : Str} {p pos : Pos} {e : Expr} {es : List Expr} {t : TA}
    (F : FnOk X.prog X.w X.K X.mg X.base CX k f fd ps sp) (hr : Room k X.A) (hN : X.N[i]? = some x) (hv : Vis X.env.scope x) (hk : PySem.W.keepIn X.K (.ref f) = true) (hb : Binds X.K fd ps []) (hx : ∀ σ, PassesAt CX X σ (E σ)) (ha : PA X (e :: es) t)
    (hdb : (x == ("__debug__" : Str)) = false := by decide) (hcd : (x == ("__classdict__" : Str)) = false := by decide)
    (he : starEach (e :: es) X.env = (false, eval e X.env) :: starEach es X.env := by rfl) (hpl : (backTo pos (starEach es X.env)).any (·.1) = false := by rfl) : PE X (.Call (.Name x p) (e :: es) [] pos) (tCallLS i f sp E t) := by
  refine ⟨fun pins s σ H Q I ⟨hs, ht⟩ => wpAny_Call_Name_kw (thn ((pe_var (pos := p) hN hv hdb hcd).run pins s σ H (fun v H1 => v = .ref f ∧ H1 = H) I ⟨.ref f, hs, rfl, rfl⟩) fun u s1 ⟨v, H1, I1, r1, e1, e2⟩ => ?_)⟩
  subst e1 e2
  obtain rfl : u = Value.ref f := r1
  exact PySem.W.callWith_K (h₀ := X.base) I.ok.mod.kin hk (thn (ha.run pos pins s1 σ _ _ I1 ht) fun us s2 ⟨vs, H2, I2, r, q⟩ => ⟨I2.kIn, run_fnS F hr hb (hx σ) I2 r q⟩) he hpl
/-! ## C(), an own error class without an __init__ -/
theorem pmk_own0 {C : Addr} {bmB : List Value} {B newId initId : String} {x : Str} {p pos : Pos} (F : ExcBaseFacts B newId initId bmB) (q : PySem.W.excIn X.K C bmB newId = true) (gC : X.mg x = some (.ref C)) (kC : PySem.W.keepIn X.K (.ref C) = true)
    (r : Raises X (.ref C)) (hg : Gl X x) (hdb : (x == ("__debug__" : Str)) = false := by decide) : PMk X (.Call (.Name x p) [] [] pos) (fun _ H Q => Q (.ref C) none H) := by
  intro pins s σ H Q I h
  refine wpAny_Call_Name_kw (ld_glob I hg gC (PySem.W.callWith_K0 I.kIn kC ?_) hdb)
  obtain ⟨_, _, _, _, _, _, _, _, _, _, _, _, _, _, _, _, _, hC, hN, hni, T⟩ := exc_obj I.kIn q
  exact wpAny_call_exc_subT F T hC hN hni (fun h' e hm => mk_of I hm r h (I.hok.gone hm.new)) (by show 0 ≤ sizeLine; omega)
/-! ## // by any great number but 0 -/
theorem op_fdivZ : OpR X (binaryOp .FloorDiv) (rI (fun _ j => j ≠ 0 ∧ j.natAbs.log2 < 9000) fun i j => .int (i.fdiv j)) := opI fun _ _ _ _ _ _ _ hc q => floordiv_int hc.1 q (.inl (PyProof.noPylong_of_log2 hc.2))
/-! ## repr of data -/
def rReprD (K : PySem.W.Frag) : List V → Hp → VK → Prop := fun xs H Q => ∃ (a : Addr) (d : PyData), xs = [.ref a] ∧ Dp K H (.ref a) d ∧ d.showable = true ∧ d.hasDict = false ∧ d.depth ≤ 60 ∧ d.shown.length ≤ sizeLine ∧ Q (.str d.shown) H
theorem call_reprD (hu : X.A.units + 64 < cLine) (hg : X.A.guards = some []) : CallR X (.builtin "repr") (rReprD X.K) := by
  intro pins s σ H xs us Q I r h
  obtain ⟨a, d, rfl, hd, hs, hn, hde, hl, q⟩ := h
  obtain ⟨u, rfl, ru⟩ := vals1 r
  obtain rfl : u = Value.ref a := ru
  obtain ⟨as, rd⟩ := Dp.reads I d _ _ hd rfl
  exact repr_of_reads' rd hs (fun z => by rw [hn] at z; cases z) hg (by omega) (fun _ _ e => e) (fun h' u tk hk => ⟨.str d.shown, H, I.kept (t' := tk) hk, ⟨u, rfl⟩, q⟩) hl
end
end Lc
set_option Elab.async false
set_option linter.all false
set_option maxRecDepth 100000
set_option maxHeartbeats 4000000
namespace Lc
open PySem PySem.Spec PyProof.Rows L2
/-! ## Promises of defs that are called where no repr is under way -/
structure FnG (P : Program) (w : World) (K : PySem.W.Frag) (mg : Str → Option Value) (base : Heap) (k : Nat) (f : Addr) (fd : FuncData) (ps : List Str) (sp : Sp) : Prop where
  len : ∀ vs H Q E, sp vs H Q E → vs.length = ps.length
  run : ∀ (A : Around) (outer : List Env) (s : Shared) (H : Hp) (args : Args) (us : List Value) (vs : List V) (Q : VK) (E : XK), A.guards = some [] → Room k A → Env0 P w K mg base A outer s H → BindsTo s fd args (ps.zip us) → Vals vs us → sp vs H Q E →
    codeAny (model P w) A (.call (.ref f) args) (CR CX0 outer P w H s Q E) s
section
variable {P : Program} {w : World} {K : PySem.W.Frag} {mg : Str → Option Value} {base : Heap}
theorem Fun.okG {x qual : Str} {st : Stmt} {f : Addr} {fd : FuncData} {N ps : List Str} {k : Nat} {sp : Sp} (F : Fun K x qual st f fd) (S : FnScope N ps (defScope st)) (len : ∀ vs H Q E, sp vs H Q E → vs.length = ps.length)
    (go : ∀ (cdv : Value) (A : Around) (outer : List Env) (s : Shared) (H : Hp) (vs : List V) (Q : VK) (E : XK), A.guards = some [] → Room k (A.deeper (envOfC qual (defScope st) s.heap.objs.size f cdv)) → sp vs H Q E →
      ∃ t, PSs (cxOf CX0 P w K mg base N qual (defScope st) f cdv A outer s H E).nox (defBody st) t ∧ t { nx := fun _ H' => Q .non H', rt := Q } (start N vs) H) : FnG P w K mg base (k + 1) f fd ps sp := by
  obtain ⟨oc, od, kV, doc, pm, an, cdv, ct, osl, rfl, lk, hcd⟩ := F.ex
  refine ⟨len, fun A outer s H args us vs Q E hg hr e0 hb r hsp => ?_⟩
  have up : ∀ b o, base.get? b = some o → s.heap.get? b = some o := fun b o z => (e0.bs b o z).1
  have KX := e0.mod.kin.keeps up
  refine codeAny_call_function hr.depth (KX _ _ lk) rfl S.co S.gen rfl (PySem.W.codeRec_of KX hcd) (hb _ _ _ _ ?_)
  refine wpAny_newFunctionEnv_cells S.kind (fun y hy => ?_) fun env he s1 x => ?_
  · rcases S.par y.1 (List.of_mem_zip (a := y.1) (b := y.2) hy).1 with z | z
    · exact .inl z
    · exact .inr ⟨z, PySem.W.cellsFrom_some _ _ _ (.inl z)⟩
  subst he
  obtain ⟨t, ht, hq⟩ := go cdv A outer s H vs Q E hg (hr.deeper _) hsp
  have I : Inv (cxOf CX0 P w K mg base N qual (defScope st) f cdv A outer s H E) [] (start N vs) H s1 := inv_start S hr.hd e0 (len _ _ _ _ hsp) r x
  refine ⟨(e0.mod.nolimit.keeps up).keeps x.toInCall.keep, codeAny_func (wpAny_mono (ht.nox.run [] s1 (start N vs) H _ I hq) (fun fl s' hs => ?_) fun _ _ z => z)⟩
  cases fl with
  | ret u => obtain ⟨v, _, H', J, rv, q⟩ := hs; exact ⟨v, H', J.os, J.bare, J.base, J.hok, rv, q⟩
  | next => obtain ⟨_, H', J, q⟩ := hs; exact ⟨V.non, H', J.os, J.bare, J.base, J.hok, rfl, q⟩
  | brk => obtain ⟨_, _, _, q⟩ := hs; exact q.elim
  | cont => obtain ⟨_, _, _, q⟩ := hs; exact q.elim
end
section
variable {X : Cx} {k : Nat} {f : Addr} {fd : FuncData} {ps : List Str} {sp : Sp} {x : Str} {p pos : Pos} {e : Expr} {es : List Expr} {t : TA}
/-- f(e, ..), f kept under FnG -/
theorem pe_callG (F : FnG X.prog X.w X.K X.mg X.base k f fd ps sp) (gg : X.A.guards = some []) (hr : Room k X.A) (hg : Gl X x) (hm : X.mg x = some (.ref f)) (hk : PySem.W.keepIn X.K (.ref f) = true) (hb : Binds X.K fd ps [])
    (ha : PA X (e :: es) t) (hdb : (x == ("__debug__" : Str)) = false := by decide) (he : starEach (e :: es) X.env = (false, eval e X.env) :: starEach es X.env := by rfl) (hpl : (backTo pos (starEach es X.env)).any (·.1) = false := by rfl) :
    PE X (.Call (.Name x p) (e :: es) [] pos) (tCall sp [] E0 t) := by
  refine ⟨fun pins s σ H Q I h => wpAny_Call_Name_kw (ld_glob I hg hm ?_ hdb)⟩
  refine PySem.W.callWith_K (h₀ := X.base) I.ok.mod.kin hk (thn (ha.run pos pins s σ H _ I h) fun us s1 ⟨vs, H1, I1, r, q⟩ => ⟨I1.kIn, ?_⟩) he hpl
  replace q : sp vs H1 Q E0 := by
    have z : sp (vs ++ []) H1 Q E0 := q
    rw [List.append_nil] at z
    exact z
  have hl : us.length = ps.length := by rw [← r.length]; exact F.len _ _ _ _ q
  have b := hb s1 us I1.kIn (by rw [List.append_nil]; exact hl)
  rw [List.append_nil] at b
  refine wpAny_call (codeAny_mono (F.run X.A X.stack s1 H1 ⟨us, []⟩ us vs Q E0 gg hr I1.env0 b r q) fun rr s' hq => ?_)
  cases rr with
  | error er => exact False.elim hq
  | ok fl =>
    cases fl with
    | ret u => exact I1.after hq
    | next => exact False.elim hq
    | brk => exact False.elim hq
    | cont => exact False.elim hq
end
/-! ## The law itself -/
section
variable {P : Program} {w : World} {K : PySem.W.Frag} {mg mb : Str → Option Value} {k : Nat} {fa a : Addr} {fd : FuncData} {x : Str} {sp : Sp} {s : Shared} {vs : List Value} {ns : List Int}
theorem env_of {H : Hp} (KX : K.In s.heap) (hns : s.heap.Ns mainGlobals mg) (hb : s.heap.Ns builtinsNs mb) (hbb : ∀ x : Str, x ≠ "__name__" → mb x = bootBuiltins x) (hlim : s.heap.NoLimit) (hg : s.gens = #[])
    (ha : s.heap.get? a = some { cls := .type "list", data := .seq vs.toArray }) (hok : HOk P w H s.heap) (one : ∀ b, b ≠ a → H b = none) (nk : H a = none ∨ K.lookup a = none) :
    K.In (hidT s.heap H) ∧ (hidT s.heap H).Ns mainGlobals mg ∧ Env0 P w K mg (hidT s.heap H) callerA [] s H := by
  have keepN : ∀ {b : Addr} {m : Str → Option Value}, s.heap.Ns b m → (hidT s.heap H).Ns b m := by
    rintro b m ⟨o, es, ep, e, d, r⟩
    have nb : b ≠ a := fun z => by
      rw [z, ha] at e
      cases e
      exact nomatch (show Data.seq vs.toArray _ = Data.dict es ep from d)
    exact ⟨o, es, ep, hidT_get e (one b nb), d, r⟩
  have kin : K.In (hidT s.heap H) := fun b o e => hidT_get (KX b o e) (by
    by_cases z : b = a
    · rcases nk with q | q
      · rw [z]; exact q
      · rw [z, q] at e; cases e
    · exact one b z)
  obtain ⟨mc, l1, l2⟩ := hlim
  exact ⟨kin, keepN hns, rfl, ⟨kin, keepN hns, ⟨mb, keepN hb, hbb⟩, ⟨mc, keepN l1, l2⟩⟩, fun b o e => of_hidT e, Nat.le_of_eq (hidT_size _ _), trivial, fun b z => absurd (show b ∈ ([] : List Addr) from z) (by simp), hok, .of_eq hg⟩
theorem law_callG (KX : K.In s.heap) (hns : s.heap.Ns mainGlobals mg) (hb : s.heap.Ns builtinsNs mb) (hbb : ∀ x : Str, x ≠ "__name__" → mb x = bootBuiltins x) (hlim : s.heap.NoLimit) (hg : s.gens = #[])
    (ha : s.heap.get? a = some { cls := .type "list", data := .seq vs.toArray }) (hi : IntsAre vs ns) (hl : ns.length ≤ sizeLine) (hr : Room k callerA)
    (F : ∀ base : Heap, K.In base → base.Ns mainGlobals mg → FnG P w K mg base k fa fd [x] sp) (hbind : ∀ (s : Shared) (u : Value), BindsTo s fd ⟨[u], []⟩ [(x, u)])
    (hsp : ∀ H : Hp, SqL K H a (ns.map V.int) → sp [.ref a] H (fun v _ => v = .bl true) fun _ _ _ => False) :
    codeAny (model P w) callerA (.call (.ref fa) ⟨[.ref a], []⟩) (fun r s' => r = .ok (.ret (.bool true)) ∧ OldK s.heap s'.heap ∧ s'.os = s.os ∧ AllBare s'.gens) s := by
  have rv := vals_ints hi
  have go : ∀ H : Hp, SqL K H a (ns.map V.int) → HOk P w H s.heap → (∀ b, b ≠ a → H b = none) → (H a = none ∨ K.lookup a = none) → (∀ o, H a = some o → ∃ ob u, o = .frz ob u) →
      codeAny (model P w) callerA (.call (.ref fa) ⟨[.ref a], []⟩) (fun r s' => r = .ok (.ret (.bool true)) ∧ OldK s.heap s'.heap ∧ s'.os = s.os ∧ AllBare s'.gens) s := by
    intro H hS hok one nk fz
    obtain ⟨k1, k2, e0⟩ := env_of KX hns hb hbb hlim hg ha hok one nk
    refine codeAny_mono ((F _ k1 k2).run callerA [] s H ⟨[.ref a], []⟩ [.ref a] [.ref a] _ _ rfl hr e0 (hbind s (.ref a)) (.cons rfl .nil) (hsp H hS)) fun r s' h => ?_
    cases r with
    | error _ => exact False.elim h
    | ok fl =>
      cases fl with
      | next => exact False.elim h
      | brk => exact False.elim h
      | cont => exact False.elim h
      | ret u =>
        obtain ⟨v, H', os, bare, un, hok', ru, ev⟩ := h
        subst ev
        obtain rfl : u = Value.bool true := ru
        refine ⟨rfl, OldK.of_keep fun b o e => ?_, os, bare⟩
        cases q : H b with
        | none => exact un.keep b o e q (fun z => absurd (show b ∈ ([] : List Addr) from z) (by simp)) (by simp)
        | some oo =>
          have zb : b = a := Classical.byContradiction fun z => by rw [one b z] at q; cases q
          subst zb
          obtain ⟨ob, u, rfl⟩ := fz oo q
          obtain ⟨e1, _⟩ := hok b _ q
          obtain ⟨e2, _⟩ := hok' b _ (un.frzs b ob u q)
          rw [e] at e1
          cases e1
          exact e2
  cases hk : K.lookup a with
  | some o =>
    have e := KX a o hk
    rw [ha] at e
    cases e
    exact go (fun _ => none) (.inr ⟨_, vs.toArray, _, hk, rfl, rfl, rfl, by rw [List.size_toArray, hi.length]; exact hl, by simpa using rv⟩) (fun b u z => nomatch z) (fun _ _ => rfl) (.inl rfl) (fun o z => nomatch z)
  | none =>
    let ob : Obj := { cls := .type "list", data := .seq vs.toArray }
    refine go (upd (fun _ => none) a (.frz ob (.lst (ns.map V.int)))) (.inl (.inr ⟨ob, upd_same⟩)) (fun b u z => ?_) (fun b z => upd_ne z) (.inr hk) (fun o z => ?_)
    · by_cases q : b = a
      · subst q
        rw [upd_same] at z
        cases z
        exact ⟨ha, by rw [List.length_map]; exact hl, vs, _, rv, ha⟩
      · rw [upd_ne q] at z
        cases z
    · rw [upd_same] at z
      cases z
      exact ⟨_, _, rfl⟩
end
theorem walk_G {l : PySem.W.OpenLaw} {n k : Nat} {q : Program} {loose : List Str} {XP : (Str → Option Value) → Heap → Prop} {YP : World → Heap → Prop} {d : DefRec} {K : Params → PySem.W.Frag} {sp : PySem.W.Frag → Sp} {x : Str}
    (hn : l.most = some n) (hn2 : n ≤ sizeLine) (hdf : d.params.defaults = []) (hr : Room k callerA) (hY : ∀ (w : World) (h : Heap), YP w h → (K w.params).In h)
    (F : ∀ (w : World) (mg : Str → Option Value) (fa : Addr) (h : Heap), (K w.params).In h → h.Ns mainGlobals mg → mg d.name = some (.ref fa) →
      ∃ fd : FuncData, (∀ (s : Shared) (u : Value), BindsTo s fd ⟨[u], []⟩ [(x, u)]) ∧ ∀ base : Heap, (K w.params).In base → base.Ns mainGlobals mg → FnG l.prog w (K w.params) mg base k fa fd [x] (sp (K w.params)))
    (hsp : ∀ (K : PySem.W.Frag) (H : Hp) (a : Addr) (ns : List Int), ns.length ≤ n → SqL K H a (ns.map V.int) → sp K [.ref a] H (fun v _ => v = .bl true) fun _ _ _ => False) :
    PySem.W.WalkO q loose XP YP l.row.toRowW d [] (fun f vs => PySem.call f vs) := by
  refine Att.attach_call hn hdf fun w _ s mg mb fa _ _ _ _ a vs ns G Y _ _ _ hmg hobj hints hlen hg => ?_
  obtain ⟨fd, hb, hF⟩ := F w mg fa _ (hY w _ Y) G.T.g hmg
  exact law_callG (hY w _ Y) G.T.g G.T.b G.T.builtins G.T.nolimit hg hobj hints (Nat.le_trans hlen hn2) hr hF hb fun H hS => hsp _ H a ns hlen hS
end Lc
set_option Elab.async false
set_option linter.all false
set_option maxRecDepth 100000
set_option maxHeartbeats 4000000
namespace Lc
open PySem PySem.Spec PyProof.Rows L2
/-! ## Kinds of values -/
inductive TyN (H : Hp) : V → String → Prop
  | non : TyN H .non "NoneType"
  | bl (b : Bool) : TyN H (.bl b) "bool"
  | int (i : Int) : TyN H (.int i) "int"
  | str (x : Str) : TyN H (.str x) "str"
  | tup {a : Addr} {xs : List V} (e : H a = some (.tup xs)) : TyN H (.ref a) "tuple"
  | lst {a : Addr} {xs : List V} (e : H a = some (.lst xs)) : TyN H (.ref a) "list"
  | dct {a : Addr} {kvs : List (Key × V)} (e : H a = some (.dK kvs)) : TyN H (.ref a) "dict"
theorem TyN.x {K : PySem.W.Frag} {H : Hp} {v : V} {t : String} (h : TyN H v t) : TyX K H v (.type t) := by
  cases h with
  | non => exact .base .non
  | bl b => exact .base (.bl b)
  | int i => exact .base (.int i)
  | str x => exact .base (.str x)
  | tup e => exact .base (.tup e)
  | lst e => exact .base (.lst e)
  | dct e => exact .base (.dK e)
theorem TyN.same {H H' : Hp} {v : V} {t : String} (h : TyN H v t) (s : Same H H') : TyN H' v t := by
  cases h with
  | non => exact .non
  | bl b => exact .bl b
  | int i => exact .int i
  | str x => exact .str x
  | tup e => exact .tup (s _ _ e)
  | lst e => exact .lst (s _ _ e)
  | dct e => exact .dct (s _ _ e)
theorem TyN.isInt {H : Hp} {v : V} {t : String} (h : TyN H v t) (e : t = "int") : ∃ i, v = .int i := by
  cases h <;> first | exact ⟨_, rfl⟩ | exact absurd e (by decide)
theorem TyN.isStr {H : Hp} {v : V} {t : String} (h : TyN H v t) (e : t = "str") : ∃ x, v = .str x := by
  cases h <;> first | exact ⟨_, rfl⟩ | exact absurd e (by decide)
theorem TyN.isTup {H : Hp} {v : V} {t : String} (h : TyN H v t) (e : t = "tuple") : ∃ a xs, v = .ref a ∧ H a = some (.tup xs) := by
  cases h <;> first | exact ⟨_, _, rfl, by assumption⟩ | exact absurd e (by decide)
def tyNames : List String := ["NoneType", "bool", "int", "str", "tuple", "list", "dict"]
theorem TyN.mem {H : Hp} {v : V} {t : String} (h : TyN H v t) : t ∈ tyNames := by
  cases h <;> simp [tyNames]
theorem kit_int {K : PySem.W.Frag} {t : String} (h : t ∈ tyNames) : PySem.W.kitOne K (.type t) (.type "int") = some (t == "int" || t == "bool") := by
  have : ∀ t ∈ tyNames, kitB t "int" = some (t == "int" || t == "bool") := by decide +kernel
  exact kit_ty (this t h)
theorem kit_bool {K : PySem.W.Frag} {t : String} (h : t ∈ tyNames) : PySem.W.kitOne K (.type t) (.type "bool") = some (t == "bool") := by
  have : ∀ t ∈ tyNames, kitB t "bool" = some (t == "bool") := by decide +kernel
  exact kit_ty (this t h)
theorem kit_tuple {K : PySem.W.Frag} {t : String} (h : t ∈ tyNames) : PySem.W.kitOne K (.type t) (.type "tuple") = some (t == "tuple") := by
  have : ∀ t ∈ tyNames, kitB t "tuple" = some (t == "tuple") := by decide +kernel
  exact kit_ty (this t h)
theorem kit_str {K : PySem.W.Frag} {t : String} (h : t ∈ tyNames) : PySem.W.kitOne K (.type t) (.type "str") = some (t == "str") := by
  have : ∀ t ∈ tyNames, kitB t "str" = some (t == "str") := by decide +kernel
  exact kit_ty (this t h)
/-! ## What is a rational -/
def ratB : V → V → Bool
  | .int n, .int d => decide (0 < d) && decide (gd n d = 1)
  | _, _ => false
inductive Rk (H : Hp) : V → Bool → Prop
  | other {v : V} {t : String} (h : TyN H v t) (n : t ≠ "tuple") : Rk H v false
  | len {a : Addr} {xs : List V} (e : H a = some (.tup xs)) (n : xs.length ≠ 2) : Rk H (.ref a) false
  | pair {a : Addr} {x y : V} {tx ty : String} (e : H a = some (.tup [x, y])) (hx : TyN H x tx) (hy : TyN H y ty) : Rk H (.ref a) (ratB x y)
theorem Rk.same {H H' : Hp} {v : V} {b : Bool} (h : Rk H v b) (s : Same H H') : Rk H' v b := by
  cases h with
  | other h n => exact .other (h.same s) n
  | len e n => exact .len (s _ _ e) n
  | pair e hx hy => exact .pair (s _ _ e) (hx.same s) (hy.same s)
theorem Rk.of {H : Hp} {a : Addr} {n d : Int} (e : H a = some (.tup [.int n, .int d])) (r : Rt n d) : Rk H (.ref a) true := by
  have z : ratB (.int n) (.int d) = true := by
    show (decide (0 < d) && decide (gd n d = 1)) = true
    rw [decide_eq_true r.pos, decide_eq_true r.cop]
    rfl
  rw [← z]
  exact .pair e (.int n) (.int d)
/-! ## repr -/
inductive Shw (K : PySem.W.Frag) (H : Hp) : V → Str → Prop
  | data {v : V} {d : PyData} (h : Dp K H v d) (h1 : d.showable = true) (h2 : d.hasDict = false) (h3 : d.depth ≤ 60) (h4 : d.shown.length ≤ sizeLine) : Shw K H v d.shown
  | empty {a : Addr} (e : H a = some (.dK [])) : Shw K H (.ref a) (PyData.dict []).shown
def rReprV (K : PySem.W.Frag) : List V → Hp → VK → Prop := fun xs H Q => ∃ (v : V) (z : Str), xs = [v] ∧ Shw K H v z ∧ Q (.str z) H
theorem call_reprV {X : Cx} (hg : X.A.guards = some []) (hu : X.A.units + 64 < cLine) : CallR X (.builtin "repr") (rReprV X.K) := by
  intro pins s σ H xs us Q I r h
  obtain ⟨v, z, rfl, hd, q⟩ := h
  obtain ⟨u, rfl, ru⟩ := vals1 r
  cases hd with
  | @data _ d hd h1 h2 h3 h4 =>
    obtain ⟨as, rd⟩ := Dp.reads I d _ _ hd ru
    cases hd with
    | non =>
      obtain rfl : u = Value.none := ru
      exact P.repr_of_none ⟨.str _, H, I.tok _, ⟨_, rfl⟩, q⟩
    | bl b =>
      obtain rfl : u = Value.bool b := ru
      exact P.repr_of_bool ⟨.str _, H, I.tok _, ⟨_, rfl⟩, q⟩
    | int i =>
      obtain ⟨t, rfl⟩ := (show ∃ t, u = Value.int i t from ru)
      exact P.repr_of_int (of_decide_eq_true (by simpa [PyData.showable] using h1)) ⟨.str _, H, I.tok _, ⟨_, rfl⟩, q⟩
    | str x =>
      obtain ⟨t, rfl⟩ := (show ∃ t, u = Value.str x t from ru)
      exact P.repr_of_str ⟨.str _, H, I.tok _, ⟨_, rfl⟩, q⟩ h4
    | @lst a xs ds e1 e2 =>
      obtain rfl : u = Value.ref a := ru
      exact repr_of_reads' rd h1 (PyData.noDict_hsm h2) hg (by omega) (fun _ _ e => e) (fun h' u tk hk => ⟨.str _, H, I.kept (t' := tk) hk, ⟨u, rfl⟩, q⟩) h4
    | @tup a xs ds e1 e2 =>
      obtain rfl : u = Value.ref a := ru
      exact repr_of_reads' rd h1 (PyData.noDict_hsm h2) hg (by omega) (fun _ _ e => e) (fun h' u tk hk => ⟨.str _, H, I.kept (t' := tk) hk, ⟨u, rfl⟩, q⟩) h4
  | @empty a e =>
    obtain rfl : u = Value.ref a := ru
    obtain ⟨_, ns, vs, kv, o, es, ep, h1, h2, h3, h4⟩ := (show ObjOk X.prog X.w H s.heap a (.dK []) from I.hok a _ e)
    cases kv
    have es0 : es.toList = [] := by
      obtain ⟨_, hp, _⟩ := h4
      generalize es.toList = l at hp
      cases hp
      rfl
    have rd : Reads s.heap (.ref a) (.dict []) (a :: [] ++ []) := Reads.dict h1 h2.1 h3 (by rw [es0]; exact .nil) (by rw [es0]; exact .nil)
    exact repr_of_reads' rd (by decide) (fun _ hm => by
      have : sysModules = a := by simpa using hm
      rw [this] at ns
      simp at ns) hg (by show X.A.units + (PyData.depth (.dict []) + 1) < cLine; have : PyData.depth (.dict []) ≤ 60 := by decide +kernel
                         omega) (fun _ _ e => e) (fun h' u tk hk => ⟨.str _, H, I.kept (t' := tk) hk, ⟨u, rfl⟩, q⟩) (by decide +kernel)
theorem dp_same {K : PySem.W.Frag} {H H' : Hp} (s : Same H H') : ∀ {v : V} {d : PyData}, Dp K H v d → Dp K H' v d := by
  have sq : ∀ {a xs}, SqT K H a xs → SqT K H' a xs := by
    intro a xs h
    rcases h with (h | ⟨o, h⟩) | h
    · exact .inl (.inl (s _ _ h))
    · exact .inl (.inr ⟨o, s _ _ h⟩)
    · exact .inr h
  intro v d h
  induction h using Dp.rec (motive_2 := fun vs ds _ => DpAll K H' vs ds) with
  | non => exact .non
  | bl b => exact .bl b
  | int i => exact .int i
  | str x => exact .str x
  | lst h1 _ ih => exact .lst (s.seq h1) ih
  | tup h1 _ ih => exact .tup (sq h1) ih
  | nil => exact .nil
  | cons _ _ i1 i2 => exact .cons i1 i2
theorem Shw.same {K : PySem.W.Frag} {H H' : Hp} (s : Same H H') {v : V} {z : Str} (h : Shw K H v z) : Shw K H' v z := by
  cases h with
  | data h h1 h2 h3 h4 => exact .data (dp_same s h) h1 h2 h3 h4
  | empty e => exact .empty (s _ _ e)
theorem Same.upd {H : Hp} {p : Addr} {o : HO} (h : H p = none) : Same H (upd H p o) := fun b u e => by rw [upd_ne (ne_of_none e h)]; exact e
end Lc
set_option Elab.async false
set_option linter.all false
set_option maxRecDepth 100000
set_option maxHeartbeats 4000000
namespace Lc
open PySem PySem.Spec PyProof.Rows L2
/-! ## The law's tape -/
def Tape (H : Hp) (t : Addr) : Prop := ∃ (l : Addr) (ns : List Int) (pos rest mix : Int), H t = some (.lst [.ref l, .int pos, .int rest, .int mix]) ∧ H l = some (.lst (ns.map V.int)) ∧ 0 ≤ pos ∧ 0 ≤ rest ∧ 0 ≤ mix ∧ mix < 2147483647
/-- all but what stands at t is as it was -/
def SameB (t : Addr) (H H' : Hp) : Prop := ∀ b o, b ≠ t → H b = some o → H' b = some o
theorem SameB.refl (t : Addr) (H : Hp) : SameB t H H := fun _ _ _ e => e
theorem SameB.trans {t : Addr} {H H1 H2 : Hp} (a : SameB t H H1) (b : SameB t H1 H2) : SameB t H H2 := fun c o n e => b c o n (a c o n e)
theorem Same.b {H H' : Hp} (t : Addr) (s : Same H H') : SameB t H H' := fun b o _ e => s b o e
theorem SameB.upd {t : Addr} {H : Hp} {o : HO} : SameB t H (upd H t o) := fun b u n e => by rw [upd_ne n]; exact e
theorem tape_ne {l t : Addr} {H : Hp} {ns : List Int} {vs : List V} (h1 : H t = some (.lst (.ref l :: vs))) (h2 : H l = some (.lst (ns.map V.int))) : l ≠ t := by
  refine ne_of h2 h1 fun z => ?_
  cases ns with
  | nil => injection z with z; cases z
  | cons n ns => injection z with z; injection z with z; cases z
theorem Tape.same {H H' : Hp} {t : Addr} (h : Tape H t) (s : Same H H') : Tape H' t := by
  obtain ⟨l, ns, pos, rest, mix, h1, h2, h3⟩ := h
  exact ⟨l, ns, pos, rest, mix, s _ _ h1, s _ _ h2, h3⟩
theorem cut_ints (ns : List Int) (lo hi : Option Int) : ∃ ms : List Int, cutV (ns.map V.int) lo hi = ms.map V.int := by
  unfold cutV
  rw [← List.map_drop, ← List.map_take]
  exact ⟨_, rfl⟩
def spTape (K : PySem.W.Frag) : Sp := fun vs H Q _ => ∃ (a : Addr) (ns : List Int), vs = [.ref a] ∧ SqL K H a (ns.map V.int) ∧ ∀ (t : Addr) (H' : Hp), Same H H' → H t = none → Tape H' t → Q (.ref t) H'
def spDraw : Sp := fun vs H Q _ => ∃ (t : Addr) (many : Int), vs = [.ref t, .int many] ∧ Tape H t ∧ 0 < many ∧ many.natAbs < 2 ^ 4000 ∧ ∀ (k : Int) (H' : Hp), 0 ≤ k → k < many → Tape H' t → SameB t H H' → Q (.int k) H'
def New2' (H : Hp) (Q : VK) (n d : Int) : Prop := ∀ p, H p = none → Q (.ref p) (upd H p (.tup [.int n, .int d]))
def spLowest : Sp := fun vs H Q _ => ∃ n d : Int, vs = [.int n, .int d] ∧ 0 < d ∧ d.natAbs < 2 ^ 4000 ∧ New2' H Q (lowN n d) (lowD n d)
def spRational : Sp := fun vs H Q _ => ∃ (t : Addr) (b : Bool), vs = [.ref t, .bl b] ∧ Tape H t ∧ ∀ (p : Addr) (n d : Int) (H' : Hp), Rt n d → n.natAbs < 2 ^ 140 → d.natAbs < 2 ^ 140 → H' p = some (.tup [.int n, .int d]) → H p = none → Tape H' t → SameB t H H' → Q (.ref p) H'
theorem log_lt' {n : Int} (h : n.natAbs < 2 ^ 4000) : n.natAbs.log2 < 9000 := by
  by_cases z : n.natAbs = 0
  · rw [z]
    decide
  · exact Nat.lt_of_lt_of_le ((Nat.log2_lt z).mpr h) (by decide)
end Lc
namespace Lc
open PySem PySem.Spec PyProof.Rows L2
theorem SameB.free {t p : Addr} {H H' : Hp} (s : SameB t H H') (h : Tape H' t) (e : H' p = none) : H p = none := by
  cases q : H p with
  | none => rfl
  | some o =>
    by_cases z : p = t
    · subst z
      obtain ⟨_, _, _, _, _, h1, _⟩ := h
      rw [h1] at e
      cases e
    · rw [s p o z q] at e
      cases e
theorem Tape.ne {t p : Addr} {H : Hp} (h : Tape H t) (e : H p = none) : p ≠ t := by
  intro z
  subst z
  obtain ⟨_, _, _, _, _, h1, _⟩ := h
  rw [h1] at e
  cases e
theorem Tape.neT {t p : Addr} {H : Hp} {xs : List V} (h : Tape H t) (e : H p = some (.tup xs)) : p ≠ t := by
  intro z
  subst z
  obtain ⟨_, _, _, _, _, h1, _⟩ := h
  rw [h1] at e
  cases e
theorem p18 : (10 : Int) ^ (18 : Int).toNat = 1000000000000000000 := by decide
theorem p40 : (10 : Int) ^ (40 : Int).toNat = 10000000000000000000000000000000000000000 := by decide
end Lc
namespace Lc
open PySem PySem.Spec PyProof.Rows L2
/-- the tape, its list at l -/
def TapeL (l : Addr) (H : Hp) (t : Addr) : Prop := ∃ (ns : List Int) (pos rest mix : Int), H t = some (.lst [.ref l, .int pos, .int rest, .int mix]) ∧ H l = some (.lst (ns.map V.int)) ∧ 0 ≤ pos ∧ 0 ≤ rest ∧ 0 ≤ mix ∧ mix < 2147483647
theorem TapeL.tape {l : Addr} {H : Hp} {t : Addr} (h : TapeL l H t) : Tape H t := ⟨l, h⟩
theorem TapeL.same {l : Addr} {H H' : Hp} {t : Addr} (h : TapeL l H t) (s : Same H H') : TapeL l H' t := by
  obtain ⟨ns, pos, rest, mix, h1, h2, h3⟩ := h
  exact ⟨ns, pos, rest, mix, s _ _ h1, s _ _ h2, h3⟩
theorem TapeL.list {l : Addr} {H : Hp} {t : Addr} (h : TapeL l H t) : ∃ xs, H l = some (.lst xs) := by
  obtain ⟨ns, pos, rest, mix, h1, h2, h3⟩ := h
  exact ⟨_, h2⟩
/-- another object is written -/
theorem TapeL.upd {l : Addr} {H : Hp} {t a : Addr} {o : HO} (h : TapeL l H t) (n1 : a ≠ t) (n2 : a ≠ l) : TapeL l (upd H a o) t := by
  obtain ⟨ns, pos, rest, mix, h1, h2, h3⟩ := h
  exact ⟨ns, pos, rest, mix, by rw [upd_ne (Ne.symm n1)]; exact h1, by rw [upd_ne (Ne.symm n2)]; exact h2, h3⟩
def spDrawL : Sp := fun vs H Q _ => ∃ (t l : Addr) (many : Int), vs = [.ref t, .int many] ∧ TapeL l H t ∧ 0 < many ∧ many.natAbs < 2 ^ 4000 ∧ ∀ (k : Int) (H' : Hp), 0 ≤ k → k < many → TapeL l H' t → SameB t H H' → Q (.int k) H'
theorem fn_weak {P : Program} {w : World} {K : PySem.W.Frag} {mg : Str → Option Value} {base : Heap} {CX : CXT} {k : Nat} {f : Addr} {fd : FuncData} {ps : List Str} {sp sp' : Sp} (h : ∀ vs H Q E, sp vs H Q E → sp' vs H Q E) (F : FnOk P w K mg base CX k f fd ps sp') : FnOk P w K mg base CX k f fd ps sp :=
  ⟨fun vs H Q E z => F.len vs H Q E (h vs H Q E z), fun A outer s H args us vs Q E a b c d z => F.run A outer s H args us vs Q E a b c d (h vs H Q E z)⟩
theorem draw_weak {vs : List V} {H : Hp} {Q : VK} {E : XK} (h : spDraw vs H Q E) : spDrawL vs H Q E := by
  obtain ⟨t, m, e, ⟨l, hT⟩, h1, h2, k⟩ := h
  exact ⟨t, l, m, e, hT, h1, h2, fun k1 H' a b c d => k k1 H' a b c.tape d⟩
end Lc
set_option Elab.async false
set_option linter.all false
set_option maxRecDepth 100000
set_option maxHeartbeats 4000000
namespace Lc
open PySem PySem.Spec PyProof.Rows L2
/-- names of built-ins that no text binds -/
structure Bt (mg : Str → Option Value) : Prop where
  isi : mg "isinstance" = none
  int : mg "int" = none
  bool : mg "bool" = none
  str : mg "str" = none
  tuple : mg "tuple" = none
  list : mg "list" = none
  dict : mg "dict" = none
  len : mg "len" = none
  abs : mg "abs" = none
  min : mg "min" = none
  all : mg "all" = none
  repr : mg "repr" = none
  range : mg "range" = none
  enum : mg "enumerate" = none
  ve : mg "ValueError" = none
  zd : mg "ZeroDivisionError" = none
  ie : mg "IndexError" = none
  oe : mg "OverflowError" = none
def btNames : List Str := ["isinstance", "int", "bool", "str", "tuple", "list", "dict", "len", "abs", "min", "all", "repr", "range", "enumerate", "ValueError", "ZeroDivisionError", "IndexError", "OverflowError"]
/-! ## x is True, x any value -/
def rIsBA : R2 := fun x y H Q => ∃ b : Bool, y = .bl b ∧ Q (.bl (decide (x = .bl b))) H
theorem op_isBA {X : Cx} : OpR X (compareOp .Is) rIsBA := by
  intro pins s σ H x y v u Q I rx ry h
  obtain ⟨b, rfl, q⟩ := h
  cases (show u = Value.bool b from ry)
  have key : plainIs v (.bool b) = true ∧ (v == Value.bool b) = decide (x = .bl b) := by
    cases x with
    | non => cases (show v = Value.none from rx); exact ⟨rfl, by cases b <;> rfl⟩
    | bl c => cases (show v = Value.bool c from rx); exact ⟨rfl, by cases b <;> cases c <;> rfl⟩
    | int i => obtain ⟨t, rfl⟩ := (show ∃ t, v = Value.int i t from rx); exact ⟨rfl, by cases b <;> rfl⟩
    | str i => obtain ⟨t, rfl⟩ := (show ∃ t, v = Value.str i t from rx); exact ⟨rfl, by cases b <;> rfl⟩
    | byt i => obtain ⟨t, rfl⟩ := (show ∃ t, v = Value.bytes i t from rx); exact ⟨rfl, by cases b <;> rfl⟩
    | flt i => obtain ⟨t, rfl⟩ := (show ∃ t, v = Value.float i t from rx); exact ⟨rfl, by cases b <;> rfl⟩
    | ref a => cases (show v = Value.ref a from rx); exact ⟨rfl, by cases b <;> rfl⟩
    | ty n => cases (show v = Value.type n from rx); exact ⟨rfl, by cases b <;> rfl⟩
  refine wpAny_is_plain key.1 ?_
  rw [key.2]
  exact ⟨.bl _, H, I, rfl, q⟩
/-! ## Texts of few signs -/
structure Sh (n : Nat) (x : Str) : Prop where
  len : x.cps.toList.length ≤ n
  ok : ∀ c ∈ x.cps.toList, c < 1114112
theorem Sh.mono {n m : Nat} {x : Str} (h : Sh n x) (l : n ≤ m) : Sh m x := ⟨Nat.le_trans h.len l, h.ok⟩
theorem Sh.line {n : Nat} {x : Str} (h : Sh n x) (l : n ≤ 1000) : x.length ≤ sizeLine := by
  have : x.length = x.cps.toList.length := by show x.cps.size = _; simp
  rw [this]
  exact Nat.le_trans h.len (Nat.le_trans l (by decide))
theorem sh_app {n m : Nat} {x y : Str} (h : Sh n x) (g : Sh m y) : Sh (n + m) (x ++ y) := by
  have e : (x ++ y).cps.toList = x.cps.toList ++ y.cps.toList := by
    show (x.cps ++ y.cps).toList = _
    simp
  refine ⟨?_, fun c hc => ?_⟩
  · rw [e, List.length_append]
    exact Nat.add_le_add h.len g.len
  · rw [e] at hc
    rcases List.mem_append.mp hc with hc | hc
    · exact h.ok c hc
    · exact g.ok c hc
theorem sh_one {c : Nat} (h : c < 1114112) : Sh 1 ⟨#[c]⟩ := ⟨Nat.le_refl _, fun d hd => by
  have : d = c := by simpa using hd
  rw [this]
  exact h⟩
theorem sh_sub {n : Nat} {x : Str} {l : List Nat} (h : Sh n x) (s : l.Sublist x.cps.toList) : Sh n ⟨l.toArray⟩ := by
  refine ⟨?_, fun c hc => ?_⟩
  · show l.toArray.toList.length ≤ n
    exact Nat.le_trans s.length_le h.len
  · exact h.ok c (s.subset (by simpa using hc))
theorem sh_cut {n : Nat} {x : Str} (lo hi : Option Int) (h : Sh n x) : Sh n (cutS x lo hi) := sh_sub h ((List.take_sublist _ _).trans (List.drop_sublist _ _))
theorem foldl_app : ∀ (l : List (Array Nat)) (a : Array Nat), (l.foldl (· ++ ·) a).toList = a.toList ++ (l.map Array.toList).flatten
  | [], a => by simp
  | b :: l, a => by
    show ((l.foldl (· ++ ·) (a ++ b))).toList = _
    rw [foldl_app l (a ++ b)]
    simp [List.append_assoc]
theorem sh_mul {x : Str} {n k : Nat} {i : Int} (h : Sh n x) (hi : i.toNat ≤ k) (hn : n ≤ 1) : Sh k (Txt.mul x i) := by
  unfold Txt.mul
  by_cases h1 : i < 1
  · rw [if_pos h1]
    exact ⟨Nat.zero_le _, fun c hc => by cases (by simpa [Str.empty] using hc : c ∈ ([] : List Nat))⟩
  · rw [if_neg h1]
    by_cases h2 : (i == 1 || x.length == 0) = true
    · rw [if_pos h2]
      exact h.mono (by omega)
    · rw [if_neg h2]
      have e : ((List.replicate i.toNat x.cps).foldl (· ++ ·) #[]).toList = (List.replicate i.toNat x.cps.toList).flatten := by
        rw [foldl_app]
        simp
      refine ⟨?_, fun c hc => ?_⟩
      · show ((List.replicate i.toNat x.cps).foldl (· ++ ·) #[]).toList.length ≤ k
        rw [e, List.length_flatten]
        have : ((List.replicate i.toNat x.cps.toList).map List.length).sum ≤ i.toNat * 1 := by
          have key : ∀ m : Nat, ((List.replicate m x.cps.toList).map List.length).sum ≤ m * 1 := by
            intro m
            induction m with
            | zero => simp
            | succ m ih =>
              rw [List.replicate_succ, List.map_cons, List.sum_cons]
              have := Nat.le_trans h.len hn
              omega
          exact key _
        omega
      · have hc : c ∈ ((List.replicate i.toNat x.cps).foldl (· ++ ·) #[]).toList := hc
        rw [e] at hc
        obtain ⟨l, hl, hcl⟩ := List.mem_flatten.mp hc
        rw [List.eq_of_mem_replicate hl] at hcl
        exact h.ok c hcl
theorem mul_ok {x : Str} {i : Int} (h : x.cps.size ≤ 1) (h2 : i < 1000) (h3 : -1000 < i) : MulOk x i := by
  have hx : x.length ≤ 1 := h
  refine ⟨by simp; omega, fun h1 _ => ?_, fun h1 _ => ?_⟩
  · have : (2 ^ 63 - 1 : Int) / i ≥ 1 := by
      have : (1 : Int) * i ≤ 2 ^ 63 - 1 := by omega
      exact (Int.le_ediv_iff_mul_le (by omega)).mpr this
    omega
  · unfold Builtin.Str.tooLong
    have : x.length * i.toNat ≤ 1000 := by
      have : x.length * i.toNat ≤ 1 * i.toNat := Nat.mul_le_mul_right _ hx
      omega
    have : ¬ (x.length * i.toNat > sizeLine) := by
      have : (1000 : Nat) ≤ sizeLine := by decide
      omega
    simpa using this
def rMulS : R2 := fun x y H Q => ∃ (z : Str) (i : Int), x = .str z ∧ y = .int i ∧ MulOk z i ∧ Q (.str (Txt.mul z i)) H
theorem op_mulS {X : Cx} : OpR X (binaryOp .Mult) rMulS := by
  intro pins s σ H x y v u Q I rx ry h
  obtain ⟨z, i, rfl, rfl, ok, q⟩ := h
  obtain ⟨t, rfl⟩ := (show ∃ t, v = Value.str z t from rx)
  obtain ⟨t2, rfl⟩ := (show ∃ t, u = Value.int i t from ry)
  exact SB.mul ok fun t' k => ⟨.str _, H, I.tok _, ⟨_, rfl⟩, q⟩
theorem glued_sh : ∀ (ys : List Str), (∀ y ∈ ys, Sh 1 y) → Sh ys.length (Str.join Str.empty ys)
  | [], _ => ⟨Nat.le_refl _, fun c hc => by cases (by simpa [Str.join, Str.empty] using hc : c ∈ ([] : List Nat))⟩
  | [x], h => h x List.mem_cons_self
  | x :: y :: r, h => by
    have ih := glued_sh (y :: r) fun z hz => h z (List.mem_cons_of_mem _ hz)
    have e : Str.join Str.empty (x :: y :: r) = x ++ Str.empty ++ Str.join Str.empty (y :: r) := rfl
    rw [e]
    have s0 : Sh 0 Str.empty := ⟨Nat.le_refl _, fun c hc => by cases (by simpa [Str.empty] using hc : c ∈ ([] : List Nat))⟩
    exact (sh_app (sh_app (h x List.mem_cons_self) s0) ih).mono (by simp; omega)
/-! ## repr of a short text, of a bounded number -/
theorem shw_text {K : PySem.W.Frag} {H : Hp} {n : Nat} {x : Str} (h : Sh n x) (l : n ≤ 1000) : Shw K H (.str x) (PyData.str x).shown := by
  refine .data (.str x) rfl rfl (by simp [PyData.depth]) ?_
  show (reprText x).length ≤ sizeLine
  have := StrLaws.reprText_len x (fun c hc => Nat.lt_trans (h.ok c hc) (by decide))
  have e : x.length = x.cps.toList.length := by show x.cps.size = _; simp
  have := h.len
  have : (10002 : Nat) ≤ sizeLine := by decide
  omega
theorem num_len {i : Int} (h : i.natAbs < 2 ^ 1000) : (PyData.int i).showable = true ∧ (PyData.int i).shown.length ≤ 1921 := by
  have l : i.natAbs.log2 < 1920 := by
    by_cases z : i.natAbs = 0
    · rw [z]
      decide
    · exact Nat.lt_of_lt_of_le ((Nat.log2_lt z).mpr h) (by decide)
  exact ⟨decide_eq_true l, int_text_len_1921 l⟩
end Lc
namespace Lc
open PySem PySem.Spec PyProof.Rows L2
/-! ## Names -/
def letters : Str := "abcdefghijklmnopqrstuvwxyz"
def signs : Str := "abcdefghijklmnopqrstuvwxyz0123456789"
def inS (c : Nat) : Bool := decide (c ∈ signs.cps.toList)
def inL (c : Nat) : Bool := decide (c ∈ letters.cps.toList)
def nameL : List Nat → Bool
  | [] => false
  | c :: r => decide ((c :: r).length ≤ 12) && (inL c && (c :: r).all inS)
def nameB : V → Bool
  | .str x => nameL x.cps.toList
  | _ => false
abbrev rInS : R2 := fun x y H Q => ∃ (c : Nat) (z : Str), x = .str ⟨#[c]⟩ ∧ y = .str z ∧ Q (.bl (decide (c ∈ z.cps.toList))) H
def spName : Sp := fun vs H Q _ => ∃ (v : V) (t : String), vs = [v] ∧ TyN H v t ∧ (∀ x, v = .str x → x.length ≤ sizeLine) ∧ ∀ H', Same H H' → Q (.bl (nameB v)) H'
def spLName : Sp := fun vs H Q _ => ∃ t : Addr, vs = [.ref t] ∧ Tape H t ∧ ∀ (x : Str) (H' : Hp), Sh 12 x → Tape H' t → SameB t H H' → Q (.str x) H'
theorem lenL (x : Str) : x.length = x.cps.toList.length := by show x.cps.size = _; simp
theorem nil_of {x : Str} (h : x.cps.toList = []) : x = ⟨#[]⟩ := by
  obtain ⟨⟨l⟩⟩ := x
  have : l = [] := h
  rw [this]
theorem dec_empty (x : Str) : decide (V.str x = V.str "") = decide (x.cps.toList = []) := by
  rw [Bool.eq_iff_iff, decide_eq_true_iff, decide_eq_true_iff]
  constructor
  · intro h
    injection h with h
    rw [h]
    rfl
  · intro h
    rw [nil_of h]
    rfl
theorem name_nil {x : Str} (h : x.cps.toList = []) : nameB (.str x) = false := by
  show nameL x.cps.toList = false
  rw [h]
  rfl
theorem name_long {x : Str} (h : ¬ x.cps.toList.length ≤ 12) : nameB (.str x) = false := by
  show nameL x.cps.toList = false
  cases e : x.cps.toList with
  | nil => rfl
  | cons c r =>
    rw [e] at h
    show (decide ((c :: r).length ≤ 12) && _) = false
    rw [decide_eq_false h]
    rfl
theorem name_is {x : Str} {c : Nat} {r : List Nat} (e : x.cps.toList = c :: r) (h : x.cps.toList.length ≤ 12) : nameB (.str x) = (inL c && (c :: r).all inS) := by
  show nameL x.cps.toList = _
  rw [e] at h ⊢
  show (decide ((c :: r).length ≤ 12) && _) = _
  rw [decide_eq_true h]
  rfl
/-- the list of a comprehension over a text's signs, as it grows -/
theorem grow {x : Str} {i : Nat} {c : Nat} (h : x.cps[i]? = some c) (p : Nat → Bool) : (x.cps.toList.take i).map (fun c => V.bl (p c)) ++ [V.bl (p c)] = (x.cps.toList.take (i + 1)).map fun c => V.bl (p c) := by
  have h2 : x.cps.toList[i]? = some c := by rw [Array.getElem?_toList]; exact h
  rw [List.take_succ, h2, List.map_append]
  rfl
end Lc
namespace Lc
open PySem PySem.Spec PyProof.Rows L2
theorem cut26 : cutS signs none (some 26) = letters := by decide +kernel
theorem signs_ok : ∀ c ∈ signs.cps.toList, c < 1114112 := by decide +kernel
theorem signs_len : signs.cps.toList.length = 36 := by decide +kernel
theorem at_text {l : List Nat} {i : Int} (h0 : 0 ≤ i) (h1 : i < (l.length : Int)) : ∃ c, atI l i = some c ∧ c ∈ l := by
  obtain ⟨n, rfl⟩ : ∃ n : Nat, i = (n : Int) := ⟨i.toNat, by omega⟩
  have h : n < l.length := by omega
  exact ⟨l[n], atI_nat (List.getElem?_eq_getElem h), List.getElem_mem h⟩
theorem big1000 {z : Int} (h1 : 0 ≤ z) (h2 : z ≤ 1000) : z.natAbs < 2 ^ 4000 := by
  have e : (2 : Nat) ^ 10 = 1024 := by decide
  exact Nat.lt_of_lt_of_le (show z.natAbs < 2 ^ 10 by omega) (Nat.pow_le_pow_right (by decide) (by decide))
theorem sh_a : Sh 1 (PySem.Str.ofString "a") := ⟨by decide +kernel, by decide +kernel⟩
theorem a_size : (PySem.Str.ofString "a").cps.size ≤ 1 := by decide +kernel
theorem sh_len {n : Nat} {x : Str} (h : Sh n x) : x.length ≤ n := by rw [lenL]; exact h.len
end Lc
namespace Lc
open PySem PySem.Spec PyProof.Rows L2
theorem join_sh (ys : List Str) (h : ∀ y ∈ ys, Sh 1 y) : Sh ys.length (Txt.join (PySem.Str.ofString "") ys) := by
  have e : Txt.join (PySem.Str.ofString "") ys = Str.join Str.empty ys := by
    exact (StrLaws.glued_eq_join (PySem.Str.ofString "") ys).trans rfl
  rw [e]
  exact glued_sh ys h
end Lc
set_option Elab.async false
set_option linter.all false
set_option maxRecDepth 100000
set_option maxHeartbeats 4000000
namespace Lc
open PySem PySem.Spec PyProof.Rows L2
/-! ## Flat values and what they are shown as -/
structure Fl (v : V) (d : PyData) (s : String) : Prop where
  dp : ∀ (K : PySem.W.Frag) (H : Hp), Dp K H v d
  ty : ∀ H : Hp, TyN H v s
  sh : d.showable = true
  nd : d.hasDict = false
  dz : d.depth = 0
  ln : d.shown.length ≤ 20000
theorem fl_non : Fl .non .none "NoneType" := ⟨fun _ _ => .non, fun _ => .non, rfl, rfl, rfl, by decide +kernel⟩
theorem fl_bl (b : Bool) : Fl (.bl b) (.bool b) "bool" := ⟨fun _ _ => .bl b, fun _ => .bl b, rfl, rfl, rfl, by cases b <;> decide +kernel⟩
theorem fl_int {i : Int} (h : i.natAbs < 2 ^ 1000) : Fl (.int i) (.int i) "int" := ⟨fun _ _ => .int i, fun _ => .int i, (num_len h).1, rfl, rfl, Nat.le_trans (num_len h).2 (by decide)⟩
theorem fl_str {x : Str} {n : Nat} (h : Sh n x) (l : n ≤ 1930) : Fl (.str x) (.str x) "str" := by
  refine ⟨fun _ _ => .str x, fun _ => .str x, rfl, rfl, rfl, ?_⟩
  show (reprText x).length ≤ 20000
  have := StrLaws.reprText_len x (fun c hc => Nat.lt_trans (h.ok c hc) (by decide))
  have e := lenL x
  have := h.len
  omega
theorem sh_string (s : String) : ∀ c ∈ (PySem.Str.ofString s).cps.toList, c < 1114112 := by
  intro c hc
  rw [Str.ofString_eq_toList] at hc
  have hc : c ∈ s.toList.map Char.toNat := by simpa using hc
  obtain ⟨ch, _, rfl⟩ := List.mem_map.mp hc
  have := ch.valid
  rcases this with h | ⟨_, h⟩
  · exact Nat.lt_trans h (by decide)
  · exact h
theorem sh_num {i : Int} (h : i.natAbs < 2 ^ 1000) : Sh 1921 (PySem.Str.ofString (toString i)) := ⟨by rw [← lenL]; exact (num_len h).2, sh_string _⟩
/-! ## Things: is it a number within the limit, how is it shown -/
def lim : Int := 10000000000000000000000000000000000000000
def limB : V → V → Bool
  | .int n, .int d => decide ((if n < 0 then -n else n) ≤ lim) && decide (d ≤ lim)
  | _, _ => false
def numB (x y : V) : Bool := ratB x y && limB x y
inductive Thing (H : Hp) : V → Bool → Prop
  | other {v : V} {t : String} (h : TyN H v t) (n : t ≠ "tuple") (l : ∀ x, v = .str x → x.length ≤ sizeLine) : Thing H v false
  | len {a : Addr} {xs : List V} (e : H a = some (.tup xs)) (n : xs.length ≠ 2) : Thing H (.ref a) false
  | pair {a : Addr} {x y : V} {tx ty : String} (e : H a = some (.tup [x, y])) (hx : TyN H x tx) (hy : TyN H y ty) : Thing H (.ref a) (numB x y)
theorem Thing.same {H H' : Hp} {v : V} {b : Bool} (h : Thing H v b) (s : Same H H') : Thing H' v b := by
  cases h with
  | other h n l => exact .other (h.same s) n l
  | len e n => exact .len (s _ _ e) n
  | pair e hx hy => exact .pair (s _ _ e) (hx.same s) (hy.same s)
theorem Thing.ty {H : Hp} {v : V} {b : Bool} (h : Thing H v b) : ∃ t, TyN H v t ∧ ∀ x, v = .str x → x.length ≤ sizeLine := by
  cases h with
  | other h n l => exact ⟨_, h, l⟩
  | len e n => exact ⟨_, .tup e, fun x z => nomatch z⟩
  | pair e hx hy => exact ⟨_, .tup e, fun x z => nomatch z⟩
/-- whatever is done to the tape at t -/
def Thg (K : PySem.W.Frag) (t : Addr) (H : Hp) (v : V) : Prop := ∃ (b : Bool) (z : Str), ∀ H', SameB t H H' → Thing H' v b ∧ Shw K H' v z
theorem thg_flat {K : PySem.W.Frag} {t : Addr} {H : Hp} {v : V} {d : PyData} {s : String} (h : Fl v d s) (n : s ≠ "tuple") (l : ∀ x, v = .str x → x.length ≤ sizeLine) : Thg K t H v :=
  ⟨false, d.shown, fun H' _ => ⟨.other (h.ty H') n l, .data (h.dp K H') h.sh h.nd (by rw [h.dz]; decide) (Nat.le_trans h.ln (by decide))⟩⟩
/-- the items of a display -/
inductive Fls : List V → List PyData → Prop
  | nil : Fls [] []
  | cons {v : V} {d : PyData} {s : String} {vs : List V} {ds : List PyData} (h : Fl v d s) (r : Fls vs ds) : Fls (v :: vs) (d :: ds)
theorem Fls.dps {K : PySem.W.Frag} {H : Hp} : ∀ {vs : List V} {ds : List PyData}, Fls vs ds → DpAll K H vs ds
  | _, _, .nil => .nil
  | _, _, .cons h r => .cons (h.dp K H) r.dps
theorem Fls.facts : ∀ {vs : List V} {ds : List PyData}, Fls vs ds → PyData.showableAll ds = true ∧ PyData.hasDictAll ds = false ∧ PyData.depthAll ds = 0 ∧ ((PyData.shownAll ds).map (·.length)).sum ≤ 20000 * ds.length ∧ (PyData.shownAll ds).length = ds.length ∧ ds.length = vs.length
  | _, _, .nil => ⟨rfl, rfl, rfl, by simp [PyData.shownAll], rfl, rfl⟩
  | _, _, .cons (d := d) (ds := ds) h r => by
    obtain ⟨h1, h2, h3, h4, h5, h6⟩ := r.facts
    refine ⟨?_, ?_, ?_, ?_, ?_, ?_⟩
    · simp [PyData.showableAll, h.sh, h1]
    · simp [PyData.hasDictAll, h.nd, h2]
    · simp [PyData.depthAll, h.dz, h3]
    · simp only [PyData.shownAll, List.map_cons, List.sum_cons, List.length_cons]
      have := h.ln
      omega
    · simp [PyData.shownAll, h5]
    · simp [h6]
theorem shw_tup {K : PySem.W.Frag} {H : Hp} {a : Addr} {vs : List V} {ds : List PyData} (e : H a = some (.tup vs)) (h : Fls vs ds) (l : vs.length ≤ 100) : Shw K H (.ref a) (PyData.tuple ds).shown := by
  obtain ⟨h1, h2, h3, h4, h5, h6⟩ := h.facts
  refine .data (.tup (SqT.of e) h.dps) (by simpa [PyData.showable] using h1) (by simpa [PyData.hasDict] using h2) (by simp [PyData.depth, h3]) ?_
  have := tupleText_len_le (PyData.shownAll ds)
  have s : (3000000 : Nat) ≤ sizeLine := by decide
  simp only [PyData.shown]
  omega
theorem shw_lst {K : PySem.W.Frag} {H : Hp} {a : Addr} {vs : List V} {ds : List PyData} (e : H a = some (.lst vs)) (h : Fls vs ds) (l : vs.length ≤ 100) : Shw K H (.ref a) (PyData.list ds).shown := by
  obtain ⟨h1, h2, h3, h4, h5, h6⟩ := h.facts
  refine .data (.lst (SqL.of e) h.dps) (by simpa [PyData.showable] using h1) (by simpa [PyData.hasDict] using h2) (by simp [PyData.depth, h3]) ?_
  have := listText_len_le (PyData.shownAll ds)
  have s : (3000000 : Nat) ≤ sizeLine := by decide
  simp only [PyData.shown]
  omega
theorem thg_tup {K : PySem.W.Frag} {t a : Addr} {H : Hp} {vs : List V} {ds : List PyData} (n : a ≠ t) (e : H a = some (.tup vs)) (h : Fls vs ds) (l : vs.length ≤ 100) : Thg K t H (.ref a) := by
  by_cases z : vs.length = 2
  · match vs, h, z with
    | [x, y], .cons h1 (.cons h2 .nil), _ => exact ⟨numB x y, _, fun H' s => ⟨.pair (s _ _ n e) (h1.ty H') (h2.ty H'), shw_tup (s _ _ n e) (.cons h1 (.cons h2 .nil)) (by show 2 ≤ 100; decide)⟩⟩
  · exact ⟨false, _, fun H' s => ⟨.len (s _ _ n e) z, shw_tup (s _ _ n e) h l⟩⟩
theorem thg_lst {K : PySem.W.Frag} {t a : Addr} {H : Hp} {vs : List V} {ds : List PyData} (n : a ≠ t) (e : H a = some (.lst vs)) (h : Fls vs ds) (l : vs.length ≤ 100) : Thg K t H (.ref a) :=
  ⟨false, _, fun H' s => ⟨.other (.lst (s _ _ n e)) (by decide) (fun x z => nomatch z), shw_lst (s _ _ n e) h l⟩⟩
theorem thg_dct {K : PySem.W.Frag} {t a : Addr} {H : Hp} (n : a ≠ t) (e : H a = some (.dK [])) : Thg K t H (.ref a) :=
  ⟨false, _, fun H' s => ⟨.other (.dct (s _ _ n e)) (by decide) (fun x z => nomatch z), .empty (s _ _ n e)⟩⟩
theorem Thg.sameB {K : PySem.W.Frag} {t : Addr} {H H' : Hp} {v : V} (h : Thg K t H v) (s : SameB t H H') : Thg K t H' v := by
  obtain ⟨b, z, k⟩ := h
  exact ⟨b, z, fun H2 s2 => k H2 (s.trans s2)⟩
theorem thg_str {K : PySem.W.Frag} {t : Addr} {H : Hp} {n : Nat} {x : Str} (h : Sh n x) (l : n ≤ 1930) : Thg K t H (.str x) :=
  thg_flat (fl_str h l) (by decide) fun y e => by
    injection e with e
    subst e
    rw [lenL]
    exact Nat.le_trans h.len (Nat.le_trans l (by decide))
end Lc
namespace Lc
open PySem PySem.Spec PyProof.Rows L2
theorem ratB_ints {x y : V} (h : ratB x y = true) : ∃ n d : Int, x = .int n ∧ y = .int d ∧ 0 < d ∧ gd n d = 1 := by
  cases x with
  | int n =>
    cases y with
    | int d =>
      have h' : (decide (0 < d) && decide (gd n d = 1)) = true := h
      obtain ⟨h1, h2⟩ := Bool.and_eq_true_iff.mp h'
      exact ⟨n, d, rfl, rfl, of_decide_eq_true h1, of_decide_eq_true h2⟩
    | _ => cases h
  | _ => cases y <;> cases h
end Lc
namespace Lc
open PySem PySem.Spec PyProof.Rows L2
/-! ## A word behind an expression: what follows is shown once -/
def tMid (te : TE) : TE := fun σ H Q => ∃ M : V → Hp → Prop, te σ H M ∧ ∀ v H', M v H' → Q v H'
theorem pe_mid {X : Cx} {e : Expr} {te : TE} (h : PE X e te) : PE X e (tMid te) := by
  refine ⟨fun pins s σ H Q I hq => ?_⟩
  obtain ⟨M, h1, h2⟩ := hq
  exact thn (h.run pins s σ H M I h1) fun u s1 ⟨v, H1, I1, r, q⟩ => ⟨v, H1, I1, r, h2 v H1 q⟩
end Lc
set_option Elab.async false
set_option linter.all false
set_option maxRecDepth 100000
set_option maxHeartbeats 4000000
namespace Lc
open PySem PySem.Spec PyProof.Rows L2
/-! ## enumerate(v), v whatever begins; for .., .. in enumerate(tuple) -/
def itB (h : Heap) (o : Obj) : Heap := (h.push o).push { cls := .type "enumerate", data := .fields #[.none, .bool false, .ref h.objs.size, rawInt 0, .none, .none] }
theorem meets_enum1 {v : Value} {o : Obj} {H : Heap → Prop} (B : Begins v o H) :
    Meets (Builtin.«enumerate.__new__» ⟨[.type "enumerate", v], []⟩) (fun _ R s => H s.heap ∧ R (.ok (.ret (.ref (s.heap.push o).objs.size))) { s with heap := itB s.heap o }) :=
  .of_wp fun prog w A R s h => by
    obtain ⟨hp, g, d, tk, os⟩ := s
    obtain ⟨h1, h⟩ := h
    have hsub := sub_enumerate
    have it1 : ∀ {A' : Around} {E : Value → Shared → Prop} {Q : Value → Shared → Prop}, Q (.ref hp.objs.size) ⟨hp.push o, g, d, tk, os⟩ → wpAny (model prog w) A' (pyIter v) Q E ⟨hp, g, d, tk, os⟩ := fun q => B.iter prog w _ _ ⟨hp, g, d, tk, os⟩ _ h1 q
    wp_walk using it1
    refine wpAny_stack_any fun st => wpAny_pure ?_
    split
    · rename_i c _ _ _ _ _
      cases (c == Value.type "enumerate") <;> (wp_walk using it1; exact ⟨_, rfl, h⟩)
    · wp_walk using it1
      exact ⟨_, rfl, h⟩
theorem call_enum1 {prog : Program} {w : World} {A : Around} {E : Value → Shared → Prop} {s : Shared} {v : Value} {o : Obj} {H : Heap → Prop} {Q : Value → Shared → Prop} (B : Begins v o H) (h1 : H s.heap)
    (h : IsEnum (itB s.heap o) (s.heap.objs.size + 1) s.heap.objs.size 0 .none → (itB s.heap o).get? s.heap.objs.size = some o → (∀ b u, s.heap.get? b = some u → (itB s.heap o).get? b = some u) → Q (.ref (s.heap.objs.size + 1)) { s with heap := itB s.heap o }) :
    wpAny (model prog w) A (call (.type "enumerate") [v]) Q E s := by
  have sz : (s.heap.push o).objs.size = s.heap.objs.size + 1 := Heap.size_push ..
  have en : IsEnum (itB s.heap o) (s.heap.objs.size + 1) s.heap.objs.size 0 .none := by
    have z := Heap.get?_push_size (s.heap.push o) (o := { cls := .type "enumerate", data := .fields #[.none, .bool false, .ref s.heap.objs.size, rawInt 0, .none, .none] }) rfl
    rw [sz] at z
    exact z
  refine callType_new F.called_enumerate (by decide) (F.typeCall_enumerate_1 _) (F.newCall_enumerate_1 _) (fun obj => F.args_object_init_2 obj _) F.entry_enumerate_new (meets_enum1 B) ⟨h1, ?_⟩
  show _ ∧ _
  rw [sz]
  exact ⟨⟨_, en, rfl⟩, h en (Heap.get?_push_of_some _ (Heap.get?_push_size _ B.free)) fun b u e => Heap.get?_push_of_some _ (Heap.get?_push_of_some _ e)⟩
/-- the tuple at a, each item in a new pair with its number -/
def IteT (K : PySem.W.Frag) (a : Addr) : It where
  go := fun i H => ∃ (xs : List V) (x : V), SqT K H a xs ∧ xs[i]? = some x
  yld := fun i H v H' => ∃ (q : Addr) (x : V), v = .ref q ∧ H q = none ∧ H' = upd H q (.tup [.int (i : Nat), x]) ∧ ∀ xs, SqT K H a xs → xs[i]? = some x
  stop := fun i H => ∃ xs : List V, SqT K H a xs ∧ xs.length = i
structure EnT (e it a : Addr) (i : Nat) (h : Heap) : Prop where
  en : ∃ old, IsEnum h e it ((i : Nat) : Int) old
  ti : h.IsTupleIter it a i
  n1 : e ≠ it
  n2 : a ≠ it
  n3 : a ≠ e
theorem turn_enT {P : Program} {w : World} {K : PySem.W.Frag} {elts : List Expr} {kk : Nat} {tpos : Pos} (a e it : Addr) : Turn P w K (.Tuple elts kk tpos) (IteT K a) [e, it] e (EnT e it a) where
  mem := List.mem_cons_self
  obj := fun i h st b hb => by
    rcases List.mem_cons.mp hb with rfl | hb
    · obtain ⟨old, he⟩ := st.en
      exact ⟨_, he, fun v q => nomatch q⟩
    · obtain rfl := List.mem_singleton.mp hb
      obtain ⟨o, ho, _, hd⟩ := st.ti
      exact ⟨o, ho, fun v q => by rw [hd] at q; cases q⟩
  keep := fun i h h' st k => by
    obtain ⟨old, he⟩ := st.en
    obtain ⟨o, ho, r⟩ := st.ti
    exact ⟨⟨old, k e List.mem_cons_self _ he⟩, ⟨o, k it (by simp) o ho, r⟩, st.n1, st.n2, st.n3⟩
  item := by
    intro X hP hw hK hc i pins s σ H E I hf st hg
    subst hP hw hK
    obtain ⟨xs, x, hq, hx⟩ := hg
    obtain ⟨its, rv, tp, _⟩ := I.tuple hq
    obtain ⟨u, hu, ru⟩ := rv.get hx
    obtain ⟨old, he⟩ := st.en
    have hu' : its.toArray[i]? = some u := by simpa using hu
    have li : i < its.toArray.size := (Array.getElem?_eq_some_iff.mp hu').1
    refine wpAny_pyNext_enum_itemD (Draws.tuple (A := X.A.in1) (I.ok.hd hc) it a st.n2 its.toArray) he ⟨st.ti, tp⟩ li st.n1 (by simp [st.n1, Ne.symm st.n3]) fun y h' tk hy ho hs hT hz hk => ?_
    obtain rfl : u = y := Option.some.inj (hu'.symm.trans hy)
    have le : e < s.heap.objs.size := Heap.lt_size he
    have lt : it < s.heap.objs.size := by obtain ⟨_, q, _⟩ := st.ti; exact Heap.lt_size q
    refine ⟨_, rfl, wpAny_letOwnedTupleGo_enum (s := { s with heap := h', toks := tk + 1 }) ho fun h2 he2 sb => ?_⟩
    have pair : h2.get? s.heap.objs.size = some { cls := .type "tuple", data := .seq #[.int i tk, u] } := (sb.2 _ (Nat.ne_of_gt le)).trans hT
    have I2 : Inv X pins σ (upd H s.heap.objs.size (.tup [.int (i : Nat), x])) { s with heap := h2, toks := tk + 1 } := by
      refine I.turnedNew (ch := [e, it]) (fun b ob hb q => ?_) hf (Nat.le_refl _) ⟨by show 2 ≤ sizeLine; decide, [.int i tk, u], .cons ⟨_, rfl⟩ (.cons ru .nil), ⟨_, pair, rfl, _, rfl⟩⟩
      have nb : b ≠ e ∧ b ≠ it := by simpa using hb
      exact (sb.2 b nb.1).trans (hk b ob nb.1 nb.2 q)
    refine ⟨.ref s.heap.objs.size, _, I2, rfl, ⟨_, x, rfl, I.hok.fresh (Nat.le_refl _), rfl, fun ys hy => by rw [I.tuple_inj hy hq]; exact hx⟩, ⟨⟨u, ?_⟩, ?_, st.n1, st.n2, st.n3⟩, fun b hb => ?_⟩
    · rw [show ((i + 1 : Nat) : Int) = (i : Int) + 1 by omega]
      exact he2
    · obtain ⟨o, q, r⟩ := hs.1
      exact ⟨o, (sb.2 it (Ne.symm st.n1)).trans q, r⟩
    · have lb : b < s.heap.objs.size := by
        rcases List.mem_cons.mp hb with rfl | hb
        · exact le
        · rw [List.mem_singleton.mp hb]; exact lt
      rw [upd_ne (Nat.ne_of_lt lb)]
      exact (hf b hb).1
  done := by
    intro X hP hw hK hc i pins s σ H E I hf st hg
    subst hP hw hK
    obtain ⟨xs, hq, hx⟩ := hg
    obtain ⟨its, rv, tp, _⟩ := I.tuple hq
    obtain ⟨old, he⟩ := st.en
    have hl : i = its.toArray.size := by rw [List.size_toArray, ← rv.length]; exact hx.symm
    obtain ⟨f0, f1, _, f3, f4, f5⟩ := hf it (by simp)
    subst hl
    exact wpAny_pyNext_enum_endD (Draws.tuple (A := X.A.in1) (I.ok.hd hc) it a st.n2 its.toArray) he ⟨st.ti, tp⟩ fun h' eb => ⟨rfl, I.turned (t' := s.toks) (fun b o hb q => eb b o hb q) f0 f1 f3 f4 f5⟩
  self := fun A i s Q E st h => by
    obtain ⟨old, he⟩ := st.en
    exact wpAny_pyIter_enum he h
def iEnT (K : PySem.W.Frag) (ta : TA) : TI := fun σ H R => ta σ H fun vs H1 => ∃ a xs, vs = [.ref a] ∧ SqT K H1 a xs ∧ R (IteT K a) H1
theorem pi_enT {X : Cx} {e : Expr} {ta : TA} {p pos tpos : Pos} {elts : List Expr} {kk : Nat} (hg : Gl X "enumerate") (hm : X.mg "enumerate" = none) (ha : PA X [e] ta) (hs : starEach [e] X.env = [(false, eval e X.env)] := by rfl) :
    PI X (.Tuple elts kk tpos) (.Call (.Name "enumerate" p) [e] [] pos) (iEnT X.K ta) := by
  refine ⟨fun pins s σ H R I h => Call_ (ld_blt I hg hm boot_enumerate (PyProof.Rows.callWith_type1 (thn (ha.run pos pins s σ H _ I h) fun us s1 ⟨vs, H1, I1, r1, q1⟩ => ?_) hs rfl))⟩
  obtain ⟨a, xs, rfl, hq, q⟩ := q1
  obtain ⟨u, rfl, ru⟩ := vals1 r1
  cases ru
  obtain ⟨its, rv, tp, _⟩ := I1.tuple hq
  have la : a < s1.heap.objs.size := by obtain ⟨_, z, _⟩ := tp; exact Heap.lt_size z
  refine call_enum1 (begins_tuple a its.toArray) tp fun en ito kp => wpAny_pyIter_enum en ?_
  refine ⟨_, [s1.heap.objs.size + 1, s1.heap.objs.size], _, _, H1, rfl, I1.kept (t' := s1.toks) kp, turn_enT a (s1.heap.objs.size + 1) s1.heap.objs.size, ⟨⟨.none, en⟩, ⟨_, ito, rfl, rfl⟩, Nat.succ_ne_self _, Nat.ne_of_lt la, Nat.ne_of_lt (Nat.lt_succ_of_lt la)⟩, fun b hb => ?_, q⟩
  have le : s1.heap.objs.size ≤ b := by
    rcases List.mem_cons.mp hb with rfl | hb
    · exact Nat.le_add_right _ _
    · rw [List.mem_singleton.mp hb]; exact Nat.le_refl _
  exact I1.fpOk le (I1.hok.fresh le)
theorem walk_enT {K : PySem.W.Frag} {a : Addr} {xs : List V} : Walk (IteT K a) xs.length (fun H => SqT K H a xs) (YPair (fun i => some (.int (i : Nat))) (fun i => xs[i]?)) := by
  refine ⟨fun i _ hi q => ⟨xs, xs[i], q, by simp [hi]⟩, fun _ q => ⟨xs, q, rfl⟩, fun i H v H' _ q y => ?_⟩
  obtain ⟨c, x, h1, h2, h3, h4⟩ := y
  exact ⟨c, .int (i : Nat), x, h1, h2, h3, rfl, h4 xs q⟩
end Lc
set_option Elab.async false
set_option linter.all false
set_option maxRecDepth 100000
set_option maxHeartbeats 4000000
namespace Lc
open PySem PySem.Spec PyProof.Rows L2
/-! ## Deep data that stands in the abstract heap -/
mutual
inductive Dh (H : Hp) : V → PyData → Prop
  | non : Dh H .non .none
  | bl (b : Bool) : Dh H (.bl b) (.bool b)
  | int (i : Int) : Dh H (.int i) (.int i)
  | str (x : Str) : Dh H (.str x) (.str x)
  | tup {a : Addr} {xs : List V} {ds : List PyData} (e : H a = some (.tup xs)) (h : DhAll H xs ds) : Dh H (.ref a) (.tuple ds)
  | lst {a : Addr} {xs : List V} {ds : List PyData} (e : H a = some (.lst xs)) (h : DhAll H xs ds) : Dh H (.ref a) (.list ds)
  | dct {a : Addr} (e : H a = some (.dK [])) : Dh H (.ref a) (.dict [])
inductive DhAll (H : Hp) : List V → List PyData → Prop
  | nil : DhAll H [] []
  | cons {v : V} {vs : List V} {d : PyData} {ds : List PyData} (h : Dh H v d) (r : DhAll H vs ds) : DhAll H (v :: vs) (d :: ds)
end
mutual
theorem Dh.same {H H' : Hp} (s : Same H H') : ∀ {v : V} {d : PyData}, Dh H v d → Dh H' v d
  | _, _, .non => .non
  | _, _, .bl b => .bl b
  | _, _, .int i => .int i
  | _, _, .str x => .str x
  | _, _, .tup e h => .tup (s _ _ e) (DhAll.same s h)
  | _, _, .lst e h => .lst (s _ _ e) (DhAll.same s h)
  | _, _, .dct e => .dct (s _ _ e)
theorem DhAll.same {H H' : Hp} (s : Same H H') : ∀ {vs : List V} {ds : List PyData}, DhAll H vs ds → DhAll H' vs ds
  | _, _, .nil => .nil
  | _, _, .cons h r => .cons (Dh.same s h) (DhAll.same s r)
end
def tyD : PyData → String
  | .none => "NoneType"
  | .bool _ => "bool"
  | .int _ => "int"
  | .str _ => "str"
  | .tuple _ => "tuple"
  | .list _ => "list"
  | .dict _ => "dict"
theorem Dh.ty {H : Hp} {v : V} {d : PyData} (h : Dh H v d) : TyN H v (tyD d) := by
  cases h with
  | non => exact .non
  | bl b => exact .bl b
  | int i => exact .int i
  | str x => exact .str x
  | tup e _ => exact .tup e
  | lst e _ => exact .lst e
  | dct e => exact .dct e
theorem DhAll.len {H : Hp} {vs : List V} {ds : List PyData} (h : DhAll H vs ds) : vs.length = ds.length := by
  match h with
  | .nil => rfl
  | .cons _ r => rw [List.length_cons, List.length_cons, DhAll.len r]
theorem DhAll.get {H : Hp} : ∀ {vs : List V} {ds : List PyData}, DhAll H vs ds → ∀ (i : Nat) (v : V), vs[i]? = some v → ∃ d, ds[i]? = some d ∧ Dh H v d
  | _, _, .nil, i, v, e => by simp at e
  | _, _, .cons h r, 0, v, e => by
    obtain rfl := Option.some.inj e
    exact ⟨_, rfl, h⟩
  | _, _, .cons h r, i + 1, v, e => by
    obtain ⟨d, e1, e2⟩ := DhAll.get r i v (by simpa using e)
    exact ⟨d, by simpa using e1, e2⟩
theorem DhAll.append {H : Hp} : ∀ {vs : List V} {ds : List PyData} {us : List V} {es : List PyData}, DhAll H vs ds → DhAll H us es → DhAll H (vs ++ us) (ds ++ es)
  | _, _, _, _, .nil, r => r
  | _, _, _, _, .cons h t, r => .cons h (DhAll.append t r)
mutual
theorem Dh.dp {K : PySem.W.Frag} {H : Hp} : ∀ {v : V} {d : PyData}, Dh H v d → d.hasDict = false → Dp K H v d
  | _, _, .non, _ => .non
  | _, _, .bl b, _ => .bl b
  | _, _, .int i, _ => .int i
  | _, _, .str x, _ => .str x
  | _, _, .tup e h, n => .tup (SqT.of e) (DhAll.dp h (by simpa [PyData.hasDict] using n))
  | _, _, .lst e h, n => .lst (SqL.of e) (DhAll.dp h (by simpa [PyData.hasDict] using n))
  | _, _, .dct e, n => by simp [PyData.hasDict] at n
theorem DhAll.dp {K : PySem.W.Frag} {H : Hp} : ∀ {vs : List V} {ds : List PyData}, DhAll H vs ds → PyData.hasDictAll ds = false → DpAll K H vs ds
  | _, _, .nil, _ => .nil
  | _, _, .cons h r, n => by
    rw [PyData.hasDictAll, Bool.or_eq_false_iff] at n
    exact .cons (Dh.dp h n.1) (DhAll.dp r n.2)
end
theorem Dh.shw {K : PySem.W.Frag} {H : Hp} {v : V} {d : PyData} (h : Dh H v d) (h1 : d.showable = true) (h2 : d.hasDict = false) (h3 : d.depth ≤ 60) (h4 : d.shown.length ≤ sizeLine) : Shw K H v d.shown := .data (h.dp h2) h1 h2 h3 h4
/-! ## How large it is when it is shown -/
structure Tm (k n : Nat) (d : PyData) : Prop where
  sh : d.showable = true
  nd : d.hasDict = false
  dz : d.depth ≤ k
  ln : d.shown.length ≤ n
theorem Tm.mono {k n k' n' : Nat} {d : PyData} (h : Tm k n d) (a : k ≤ k') (b : n ≤ n') : Tm k' n' d := ⟨h.sh, h.nd, Nat.le_trans h.dz a, Nat.le_trans h.ln b⟩
theorem tm_fl {v : V} {d : PyData} {s : String} (h : Fl v d s) : Tm 0 20000 d := ⟨h.sh, h.nd, Nat.le_of_eq h.dz, h.ln⟩
theorem tm_all {k n : Nat} : ∀ {ds : List PyData}, (∀ d ∈ ds, Tm k n d) → PyData.showableAll ds = true ∧ PyData.hasDictAll ds = false ∧ PyData.depthAll ds ≤ k ∧ ((PyData.shownAll ds).map (·.length)).sum ≤ n * ds.length ∧ (PyData.shownAll ds).length = ds.length
  | [], _ => ⟨rfl, rfl, Nat.zero_le _, by simp [PyData.shownAll], rfl⟩
  | d :: ds, h => by
    obtain ⟨h1, h2, h3, h4, h5⟩ := tm_all (ds := ds) fun x hx => h x (List.mem_cons_of_mem _ hx)
    have hd := h d List.mem_cons_self
    refine ⟨?_, ?_, ?_, ?_, ?_⟩
    · simp [PyData.showableAll, hd.sh, h1]
    · simp [PyData.hasDictAll, hd.nd, h2]
    · simp only [PyData.depthAll]
      have := hd.dz
      omega
    · simp only [PyData.shownAll, List.map_cons, List.sum_cons, List.length_cons]
      have := hd.ln
      rw [Nat.mul_succ]
      omega
    · simp [PyData.shownAll, h5]
theorem tm_tup {k n : Nat} {ds : List PyData} (h : ∀ d ∈ ds, Tm k n d) : Tm (k + 1) (n * ds.length + 2 * ds.length + 4) (.tuple ds) := by
  obtain ⟨h1, h2, h3, h4, h5⟩ := tm_all h
  refine ⟨by simpa [PyData.showable] using h1, by simpa [PyData.hasDict] using h2, ?_, ?_⟩
  · simp only [PyData.depth]
    omega
  · have := tupleText_len_le (PyData.shownAll ds)
    simp only [PyData.shown]
    omega
theorem tm_lst {k n : Nat} {ds : List PyData} (h : ∀ d ∈ ds, Tm k n d) : Tm (k + 1) (n * ds.length + 2 * ds.length + 4) (.list ds) := by
  obtain ⟨h1, h2, h3, h4, h5⟩ := tm_all h
  refine ⟨by simpa [PyData.showable] using h1, by simpa [PyData.hasDict] using h2, ?_, ?_⟩
  · simp only [PyData.depth]
    omega
  · have := listText_len_le (PyData.shownAll ds)
    simp only [PyData.shown]
    omega
theorem Dh.shwT {K : PySem.W.Frag} {H : Hp} {v : V} {d : PyData} {k n : Nat} (h : Dh H v d) (t : Tm k n d) (a : k ≤ 60) (b : n ≤ 3000000) : Shw K H v d.shown := h.shw t.sh t.nd (Nat.le_trans t.dz a) (Nat.le_trans t.ln (Nat.le_trans b (by decide)))
end Lc
set_option Elab.async false
set_option linter.all false
set_option maxRecDepth 100000
set_option maxHeartbeats 4000000
namespace Lc
open PySem PySem.Spec PyProof.Rows L2
/-! ## (x, y) * 0, (x, y) * 1 -/
theorem tuple_mul1 (l : Addr) (items : Array Value) (n : Nat) (dd : Option Addr) (sl : Array (Option Value)) (u : Tok) :
    Meets (Builtin.«tuple.__mul__» ⟨[.ref l, .int 1 u], []⟩) (fun _ R s => s.heap.get? l = some { cls := .type "tuple", dict := dd, data := .seq items n, slots := sl } ∧ R (.ok (.ret (Value.ref l))) s) :=
  .of_wp fun prog w A R s h => by
    obtain ⟨hp, g, d, tk, os⟩ := s
    obtain ⟨hl, h⟩ := h
    have f1 := AutoSeq1.idx_int
    have c0 : (decide ((1 : Int) < -(2 ^ 63)) || decide ((1 : Int) ≥ 2 ^ 63)) = false := by decide
    have c1 : (items.isEmpty || (1 : Int) == 1) = true := by simp
    wp_walk using wpAny_loadPart' hl
    repeat (first
      | (refine wpAny_ite_false (decide_eq_false (by rw [c0]; exact Bool.false_ne_true)) ?_; wp_walk using wpAny_loadPart' hl)
      | (refine wpAny_ite_true (decide_eq_true c1) ?_; wp_walk using wpAny_loadPart' hl))
    exact ⟨_, rfl, h⟩
theorem tuple_mul0 (l : Addr) (items : Array Value) (n : Nat) (dd : Option Addr) (sl : Array (Option Value)) (u : Tok) (hne : items.isEmpty = false) :
    Meets (Builtin.«tuple.__mul__» ⟨[.ref l, .int 0 u], []⟩) (fun _ R s => s.heap.get? l = some { cls := .type "tuple", dict := dd, data := .seq items n, slots := sl } ∧
      R (.ok (.ret (Value.ref s.heap.objs.size))) { s with heap := s.heap.push { cls := Value.type "tuple", data := Data.seq #[] } }) :=
  .of_wp fun prog w A R s h => by
    obtain ⟨hp, g, d, tk, os⟩ := s
    obtain ⟨hl, h⟩ := h
    have f1 := AutoSeq1.idx_int
    have c0 : (decide ((0 : Int) < -(2 ^ 63)) || decide ((0 : Int) ≥ 2 ^ 63)) = false := by decide
    have c1 : (items.isEmpty || (0 : Int) == 1) = false := by rw [hne]; rfl
    have c2 : (decide ((0 : Int) ≤ 0) || items.isEmpty) = true := by simp
    wp_walk using wpAny_loadPart' hl
    repeat (first
      | (refine wpAny_ite_false (decide_eq_false (by rw [c0]; exact Bool.false_ne_true)) ?_; wp_walk using wpAny_loadPart' hl)
      | (refine wpAny_ite_false (decide_eq_false (by rw [c1]; exact Bool.false_ne_true)) ?_; wp_walk using wpAny_loadPart' hl)
      | (refine wpAny_ite_true (decide_eq_true c2) ?_; wp_walk using wpAny_loadPart' hl))
    exact ⟨_, rfl, h⟩
def rRep01 (K : PySem.W.Frag) : R2 := fun x y H Q => ∃ l k xs, x = .ref l ∧ y = .int k ∧ SqT K H l xs ∧ xs ≠ [] ∧ ((k = 1 ∧ Q (.ref l) H) ∨ (k = 0 ∧ ∀ p, H p = none → Q (.ref p) (upd H p (.tup []))))
section
variable {X : Cx}
theorem op_rep01 : OpR X (binaryOp .Mult) (rRep01 X.K) := by
  intro pins s σ H x y v u Q I rx ry h
  obtain ⟨l, k, xs, rfl, rfl, hT, hne, h⟩ := h
  cases rx
  obtain ⟨t, rfl⟩ := ry
  obtain ⟨its, r, ⟨⟨cls, dd, data, sl⟩, ho, hc, n, hd⟩, hs⟩ := I.tuple hT
  simp only at hc hd
  subst hc hd
  have hle : its.length = xs.length := r.length.symm
  have hn : its ≠ [] := fun e => hne (by
    rw [e] at hle
    exact List.eq_nil_of_length_eq_zero hle.symm)
  have hi : its.toArray.isEmpty = false := by
    cases its with
    | nil => exact absurd rfl hn
    | cons a b => rfl
  rcases h with ⟨rfl, q⟩ | ⟨rfl, q⟩
  · exact wpAny_binaryOp_repeat_ref (T := "tuple") (U := "int") (by decide) ⟨_, ho, rfl⟩ (fun s' => typeIs_int s' 1 t) noFill_tuple_mul F.fills_int_mul F.slot_int_rmul repeat_tuple F.slot_int_index.lookup
      (call_meets F.slot_int_rmul (typeIs_int s 1 t) F.entry_int_rmul (F.args_int_rmul_2 _ _) (int_rmul_tuple 1 t l its.toArray n dd sl)
        ⟨ho, rfl, ⟨_, ho, rfl⟩, call_meets F.slot_tuple_mul ⟨_, ho, rfl⟩ F.entry_tuple_mul (F.args_tuple_mul_2 _ _) (tuple_mul1 l its.toArray n dd sl t) ⟨ho, .ref l, H, I, rfl, q⟩⟩)
  · refine wpAny_binaryOp_repeat_ref (T := "tuple") (U := "int") (by decide) ⟨_, ho, rfl⟩ (fun s' => typeIs_int s' 0 t) noFill_tuple_mul F.fills_int_mul F.slot_int_rmul repeat_tuple F.slot_int_index.lookup
      (call_meets F.slot_int_rmul (typeIs_int s 0 t) F.entry_int_rmul (F.args_int_rmul_2 _ _) (int_rmul_tuple 0 t l its.toArray n dd sl)
        ⟨ho, rfl, ⟨_, ho, rfl⟩, call_meets F.slot_tuple_mul ⟨_, ho, rfl⟩ F.entry_tuple_mul (F.args_tuple_mul_2 _ _) (tuple_mul0 l its.toArray n dd sl t hi) ⟨ho, ?_⟩⟩)
    refine ⟨.ref s.heap.objs.size, _, I.laid (t' := s.toks) (o := .tup []) (fun b ob q => Heap.get?_push_of_some _ q) (Nat.le_refl _) ?_, rfl, q _ (I.hok.fresh (Nat.le_refl _))⟩
    exact ⟨Nat.zero_le _, [], .nil, IsTup.new _ _⟩
/-! ## What is never reached -/
theorem pss_dead {b : List Stmt} : PSs X b (fun _ _ _ => False) := ⟨fun _ _ _ _ _ _ h => h.elim⟩
theorem pg_dead {e : Expr} : PG X e (fun _ _ _ _ => False) := ⟨fun _ _ _ _ _ _ _ _ _ h => h.elim⟩
/-! ## C(e, ..) in a try -/
def tMakeS (C : Addr) (sp : Sp) (E : L2.St → XK) (t : TA) : TE := fun σ H Q => t σ H fun vs H1 => ∀ x dx, H1 x = none → H1 dx = none → dx ≠ x →
  sp (.ref x :: vs) (upd (upd H1 dx (.own x)) x (.ins C dx [])) (fun v H2 => v = .non ∧ Q (.ref x) H2) (E σ)
theorem pe_makeS {CX : CXT} {k : Nat} {C f : Addr} {fd : FuncData} {ps : List Str} {sp : Sp} {E : L2.St → XK} {x : Str} {p pos : Pos} {e : Expr} {es : List Expr} {t : TA}
    (M : Mk X.K C f) (F : FnOk X.prog X.w X.K X.mg X.base CX k f fd ps sp) (hr : Room (k + 1) X.A) (hg : Gl X x) (hm : X.mg x = some (.ref C)) (hb : Binds X.K fd ps []) (hx : ∀ σ, PassesAt CX X σ (E σ))
    (ha : PA X (e :: es) t) (hdb : (x == ("__debug__" : Str)) = false := by decide) (he : starEach (e :: es) X.env = (false, eval e X.env) :: starEach es X.env := by rfl) (hpl : (backTo pos (starEach es X.env)).any (·.1) = false := by rfl) :
    PE X (.Call (.Name x p) (e :: es) [] pos) (tMakeS C sp E t) := by
  refine ⟨fun pins s0 σ H0 Q I0 h0 => ?_⟩
  refine wpAny_Call_Name_kw (ld_glob I0 hg hm ?_ hdb)
  refine PySem.W.callWith_K (h₀ := X.base) I0.ok.mod.kin M.kp (thn (ha.run pos pins s0 σ H0 _ I0 h0) fun us s ⟨vs, H, I, r, h⟩ => ⟨I.kIn, ?_⟩) he hpl
  have hq := h (s.heap.objs.size + 1) s.heap.objs.size (I.hok.fresh (Nat.le_succ _)) (I.hok.fresh (Nat.le_refl _)) (Nat.ne_of_lt (Nat.lt_succ_self _))
  have I2 := Inv.made (C := C) I
  have r2 : Vals (V.ref (s.heap.objs.size + 1) :: vs) (Value.ref (s.heap.objs.size + 1) :: us) := .cons rfl r
  have hl : (Value.ref (s.heap.objs.size + 1) :: us).length = ps.length := by
    have e := r2.length
    rw [F.len _ _ _ _ hq] at e
    exact e.symm
  refine wpAny_call (make_map (f := f) I.kIn M.makes M.init (beq_iff_eq.mp M.fn) (codeAny_mono (F.run _ X.stack _ _ ⟨Value.ref (s.heap.objs.size + 1) :: us, []⟩ (Value.ref (s.heap.objs.size + 1) :: us) _ _ (E σ) (hr.make C us [])
    (I2.env0.make C us []) (by
      have z := hb _ (Value.ref (s.heap.objs.size + 1) :: us) I2.kIn (by rw [List.append_nil]; exact hl)
      rw [List.append_nil] at z
      exact z) r2 hq) fun r s' hq' => ?_))
  cases r with
  | error e => exact hx σ pins _ _ e s' I2 hq'
  | ok fl =>
    cases fl with
    | ret u =>
      obtain ⟨v, H', I3, rv, ev, q3⟩ := I2.after hq'
      subst ev
      exact ⟨rv, ⟨V.ref (s.heap.objs.size + 1), H', I3, rfl, q3⟩⟩
    | next => exact False.elim hq'
    | brk => exact False.elim hq'
    | cont => exact False.elim hq'
/-! ## len(o), o of an own class -/
structure LenC (K : PySem.W.Frag) (C f : Addr) : Prop where
  at_ : PySem.W.findIn K (.ref C) "__len__" = some (some (.ref f))
  fn : PySem.W.isFn K (.ref f) = true
def rLenI (C : Addr) (sp : Sp) : List V → Hp → VK → Prop := fun xs H Q => ∃ a dx fs, xs = [.ref a] ∧ H a = some (.ins C dx fs) ∧ sp [.ref a] H (fun v H' => ∃ n : Int, v = .int n ∧ 0 ≤ n ∧ n < 2 ^ 63 ∧ Q (.int n) H') E0
theorem call_lenI {k : Nat} {C f : Addr} {fd : FuncData} {ps : List Str} {sp : Sp} (c : LenC X.K C f) (F : FnOk X.prog X.w X.K X.mg X.base CX0 k f fd ps sp) (hr : Room (k + 1) X.A) (hb : Binds X.K fd ps []) : CallR X (.builtin "len") (rLenI C sp) := by
  intro pins s σ H xs us Q I rv h
  obtain ⟨a, dx, fs, rfl, ha, hsp⟩ := h
  obtain ⟨u, rfl, ru⟩ := vals1 rv
  cases ru
  obtain ⟨mA, J, _⟩ := ins_get I.hok ha
  obtain ⟨od, J, _⟩ := J.look
  refine Calls.call_function_entry kind_len plain_len entry_len (args_len1 _) ?_
  unfold Builtin.«len»
  refine wpAny_bind (m := oneArg "len" _) (wpAny_pure ?_)
  refine wpAny_bind (m := callSpecial? (.ref a) (Str.ofString "__len__")) (PySem.W.special_fn I.kIn J c.at_ (beq_iff_eq.mp c.fn) ?_)
  have e0 : Env0 X.prog X.w X.K X.mg X.base X.A.in1 X.stack s H := by
    have e := I.env0
    exact ⟨e.frames, e.mod, e.bs, e.bsz, e.funs, e.frf, e.hok, e.bare⟩
  have hl := F.len _ _ _ _ hsp
  have r2 : Vals [V.ref a] [Value.ref a] := .cons rfl .nil
  refine wpAny_call (codeAny_mono (F.run X.A.in1 X.stack s H ⟨[.ref a], []⟩ [.ref a] [.ref a] _ _ hr.in1 e0 (by
    have := hb s [.ref a] I.kIn (by simpa using hl)
    simpa using this) r2 hsp) fun r s' hq => ?_)
  cases r with
  | error e => exact hq.elim
  | ok fl =>
    cases fl with
    | ret u =>
      obtain ⟨v, H', I3, rv, n, rfl, h0, h1, q3⟩ := I.after hq
      obtain ⟨t, rfl⟩ := rv
      refine wpAny_bind (wpAny_holding (wpAny_pure ?_))
      refine wpAny_bind (wpAny_letGo ?_)
      show wpAny _ _ (if n < 0 then _ else _) _ _ _
      rw [if_neg (by omega)]
      show wpAny _ _ (if n ≥ 2 ^ 63 then _ else _) _ _ _
      rw [if_neg (by omega)]
      exact wpAny_bind (wpAny_mkInt (wpAny_pure ⟨_, rfl, .int n, H', I3.tok _, ⟨_, rfl⟩, q3⟩))
    | next => exact False.elim hq
    | brk => exact False.elim hq
    | cont => exact False.elim hq
end
end Lc
set_option Elab.async false
set_option linter.all false
set_option maxRecDepth 100000
set_option maxHeartbeats 4000000
namespace Lc
open PySem PySem.Spec PyProof.Rows L2
/-! ## Names that are drawn are names -/
theorem name_of {l : List Nat} {x : Str} (e : x.cps.toList = l) (ne : l ≠ []) (ln : l.length ≤ 12) (h1 : ∀ c r, l = c :: r → inL c = true) (h2 : ∀ c ∈ l, inS c = true) : nameB (.str x) = true := by
  show nameL x.cps.toList = true
  rw [e]
  cases l with
  | nil => exact absurd rfl ne
  | cons c r =>
    show (decide ((c :: r).length ≤ 12) && (inL c && (c :: r).all inS)) = true
    rw [decide_eq_true ln, h1 c r rfl, List.all_eq_true.mpr h2]
    rfl
theorem name_has {x : Str} (h : nameB (.str x) = true) : x.cps.toList ≠ [] ∧ x.cps.toList.length ≤ 12 ∧ (∀ c r, x.cps.toList = c :: r → inL c = true) ∧ ∀ c ∈ x.cps.toList, inS c = true := by
  have h : nameL x.cps.toList = true := h
  generalize x.cps.toList = l at h
  cases l with
  | nil => cases h
  | cons c r =>
    have h : (decide ((c :: r).length ≤ 12) && (inL c && (c :: r).all inS)) = true := h
    obtain ⟨a, h⟩ := Bool.and_eq_true_iff.mp h
    obtain ⟨b, h⟩ := Bool.and_eq_true_iff.mp h
    exact ⟨List.cons_ne_nil _ _, of_decide_eq_true a, fun c' r' e => by cases e; exact b, List.all_eq_true.mp h⟩
theorem app_list (x y : Str) : (x ++ y).cps.toList = x.cps.toList ++ y.cps.toList := by
  show (x.cps ++ y.cps).toList = _
  simp
theorem mul_list (i : Int) : (Txt.mul (PySem.Str.ofString "a") i).cps.toList = List.replicate i.toNat 97 := by
  have ea : (PySem.Str.ofString "a").cps.toList = [97] := by decide +kernel
  have el : ((PySem.Str.ofString "a").length == 0) = false := by decide +kernel
  unfold Txt.mul
  by_cases h1 : i < 1
  · rw [if_pos h1, show i.toNat = 0 by omega]
    rfl
  · rw [if_neg h1, el, Bool.or_false]
    by_cases h2 : (i == 1) = true
    · rw [if_pos h2, ea, show i.toNat = 1 by have := beq_iff_eq.mp h2; omega]
      rfl
    · rw [if_neg h2]
      show ((List.replicate i.toNat (PySem.Str.ofString "a").cps).foldl (· ++ ·) #[]).toList = _
      rw [foldl_app]
      simp only [List.map_replicate, ea]
      generalize i.toNat = n
      induction n with
      | zero => rfl
      | succ n ih =>
        rw [List.replicate_succ, List.replicate_succ]
        simpa using ih
theorem sgn_at {i : Int} (h0 : 0 ≤ i) (h1 : i < 36) : ∃ c, atI signs.cps.toList i = some c ∧ c ∈ signs.cps.toList ∧ inS c = true ∧ (i < 26 → inL c = true) := by
  obtain ⟨n, rfl⟩ : ∃ n : Nat, i = (n : Int) := ⟨i.toNat, by omega⟩
  have h : n < signs.cps.toList.length := by rw [signs_len]; omega
  have m := List.getElem_mem h
  refine ⟨signs.cps.toList[n], atI_nat (List.getElem?_eq_getElem h), m, decide_eq_true m, fun l => ?_⟩
  have all : ∀ k : Fin 26, (signs.cps.toList[k.1]?).all inL = true := by decide +kernel
  have z := all ⟨n, by omega⟩
  rw [List.getElem?_eq_getElem h] at z
  exact z
theorem in97 : inL 97 = true ∧ inS 97 = true := by decide +kernel
theorem name_one {k m : Int} {c : Nat} (h0 : 0 ≤ k) (hm : 0 ≤ m) (l : k + m ≤ 11) (hs : inS c = true) (hl : k = 0 → inL c = true) : nameB (.str (Txt.mul (PySem.Str.ofString "a") k ++ ⟨#[c]⟩ ++ Txt.mul (PySem.Str.ofString "a") m)) = true := by
  have e : (Txt.mul (PySem.Str.ofString "a") k ++ (⟨#[c]⟩ : Str) ++ Txt.mul (PySem.Str.ofString "a") m).cps.toList = List.replicate k.toNat 97 ++ [c] ++ List.replicate m.toNat 97 := by
    rw [app_list, app_list, mul_list, mul_list]
  refine name_of e (by simp) (by simp; omega) (fun c' r' q => ?_) (fun c' q => ?_)
  · by_cases z : k = 0
    · subst z
      have q : c :: List.replicate m.toNat 97 = c' :: r' := q
      cases q
      exact hl rfl
    · obtain ⟨n, hn⟩ : ∃ n, k.toNat = n + 1 := ⟨k.toNat - 1, by omega⟩
      rw [hn, List.replicate_succ] at q
      cases q
      exact in97.1
  · rcases List.mem_append.mp q with q | q
    · rcases List.mem_append.mp q with q | q
      · rw [List.eq_of_mem_replicate q]; exact in97.2
      · rw [List.mem_singleton.mp q]; exact hs
    · rw [List.eq_of_mem_replicate q]; exact in97.2
theorem glued_list : ∀ (cs : List Nat), (Str.join Str.empty (cs.map fun c => (⟨#[c]⟩ : Str))).cps.toList = cs
  | [] => rfl
  | [c] => rfl
  | c :: d :: r => by
    have ih := glued_list (d :: r)
    have e : Str.join Str.empty ((c :: d :: r).map fun c => (⟨#[c]⟩ : Str)) = (⟨#[c]⟩ : Str) ++ Str.empty ++ Str.join Str.empty ((d :: r).map fun c => (⟨#[c]⟩ : Str)) := rfl
    rw [e, app_list, app_list, ih]
    rfl
theorem name_join {cs : List Nat} (ne : cs ≠ []) (ln : cs.length ≤ 12) (h1 : ∀ c r, cs = c :: r → inL c = true) (h2 : ∀ c ∈ cs, inS c = true) : nameB (.str (Txt.join (PySem.Str.ofString "") (cs.map fun c => (⟨#[c]⟩ : Str)))) = true := by
  have e : Txt.join (PySem.Str.ofString "") (cs.map fun c => (⟨#[c]⟩ : Str)) = Str.join Str.empty (cs.map fun c => (⟨#[c]⟩ : Str)) := (StrLaws.glued_eq_join (PySem.Str.ofString "") _).trans rfl
  rw [e]
  exact name_of (glued_list cs) ne ln h1 h2
theorem cut_list (x : Str) : (cutS x none (some 11)).cps.toList = x.cps.toList.take 11 := by
  unfold cutS
  rw [lenL]
  simp [HT.sIx]
theorem name_cut {x : Str} {c : Nat} (h : nameB (.str x) = true) (hc : inS c = true) : nameB (.str (cutS x none (some 11) ++ ⟨#[c]⟩)) = true := by
  obtain ⟨a1, a2, a3, a4⟩ := name_has h
  have e : (cutS x none (some 11) ++ (⟨#[c]⟩ : Str)).cps.toList = x.cps.toList.take 11 ++ [c] := by rw [app_list, cut_list]
  refine name_of e (by simp) (by simp; omega) (fun c' r' q => ?_) (fun c' q => ?_)
  · cases z : x.cps.toList with
    | nil => exact absurd z a1
    | cons d r =>
      rw [z] at q
      have q : d :: (r.take 10 ++ [c]) = c' :: r' := q
      injection q with q1 _
      rw [← q1]
      exact a3 d r z
  · rcases List.mem_append.mp q with q | q
    · exact a4 c' (List.mem_of_mem_take q)
    · rw [List.mem_singleton.mp q]; exact hc
/-! ## Some letter is free -/
theorem pigeon {α : Type} [DecidableEq α] : ∀ {l m : List α}, l.Nodup → (∀ x ∈ l, x ∈ m) → l.length ≤ m.length
  | [], _, _, _ => Nat.zero_le _
  | x :: l, m, n, h => by
    obtain ⟨n1, n2⟩ := List.nodup_cons.mp n
    have hx := h x List.mem_cons_self
    have := pigeon (l := l) (m := m.erase x) n2 fun y hy => (List.mem_erase_of_ne (fun e => n1 (by rw [← e]; exact hy))).mpr (h y (List.mem_cons_of_mem _ hy))
    rw [List.length_erase_of_mem hx] at this
    have := List.length_pos_of_mem hx
    rw [List.length_cons]
    omega
theorem in_strs {z : Str} {ss : List Str} : inV (.str z) (ss.map V.str) = decide (z ∈ ss) := by
  rw [Bool.eq_iff_iff, decide_eq_true_iff]
  unfold inV
  rw [List.any_eq_true]
  constructor
  · rintro ⟨y, hy, e⟩
    obtain ⟨s, hs, rfl⟩ := List.mem_map.mp hy
    have : s = z := by simpa [eqV] using e
    rw [← this]; exact hs
  · intro h
    exact ⟨.str z, List.mem_map.mpr ⟨z, h, rfl⟩, by simp [eqV]⟩
theorem free_letter {x : Str} {ss : List Str} (l : ss.length < 36) (h : ∀ c ∈ signs.cps.toList, cutS x none (some 11) ++ (⟨#[c]⟩ : Str) ∈ ss) : False := by
  have inj : ∀ c d : Nat, cutS x none (some 11) ++ (⟨#[c]⟩ : Str) = cutS x none (some 11) ++ (⟨#[d]⟩ : Str) → c = d := fun c d e => by
    have e := congrArg (fun s : Str => s.cps.toList) e
    simp only [app_list] at e
    have := List.append_cancel_left e
    simpa using this
  have nd : signs.cps.toList.Nodup := by decide +kernel
  have := pigeon (l := signs.cps.toList.map fun c => cutS x none (some 11) ++ (⟨#[c]⟩ : Str)) (m := ss) (List.Pairwise.map _ (fun a b n e => n (inj a b e)) nd) fun y hy => by
    obtain ⟨c, hc, rfl⟩ := List.mem_map.mp hy
    exact h c hc
  rw [List.length_map, signs_len] at this
  omega
end Lc
set_option Elab.async false
set_option linter.all false
set_option maxRecDepth 100000
set_option maxHeartbeats 4000000
namespace Lc
open PySem PySem.Spec PyProof.Rows L2
/-! ## o.m(e, .., k = v, ..) -/
def tMethK (C : Addr) (m : Str) (n l : Nat) (sp : Sp) (gV : List V → List V → List V) (E : XK) (ta : TE) (t tk : TA) : TE := fun σ H Q => ta σ H fun x H1 => ∃ a dx fs, x = .ref a ∧ H1 a = some (.ins C dx fs) ∧ fs.lookup m = none ∧
  t σ H1 fun vs H2 => tk σ H2 fun zs H3 => vs.length = n ∧ zs.length = l ∧ sp (gV (x :: vs) zs) H3 Q E
section
variable {X : Cx} {CX : CXT} {k n : Nat} {f C : Addr} {fd : FuncData} {ps ks : List Str} {sp : Sp} {E : XK} {m : Str} {pos apos : Pos} {e o : Expr} {es : List Expr} {kws : List Keyword} {ta : TE} {t tk : TA} {g : List Value → List Value → List Value} {gV : List V → List V → List V}
theorem pe_methK {pl : Sem Bool} (he : PE X o ta) (c : Cls X.K C) (hm : Meth X.K C m f) (F : FnOk X.prog X.w X.K X.mg X.base CX k f fd ps sp) (hr : Room k X.A) (hb : KBn X.K fd ps (n + 1) ks g gV) (hx : Passes CX X E) (ha : PA X (e :: es) t) (hkw : PK X kws tk)
    (hall : (backToKw pos (keywordEach kws X.env)).all (·.1.isSome) = true := by rfl) (hks : (backToKw pos (keywordEach kws X.env)).filterMap (·.1) = ks := by rfl) (hst : starEach (e :: es) X.env = (false, eval e X.env) :: starEach es X.env := by rfl)
    (hpl : ((backTo pos (starEach (e :: es) X.env)).any (·.1) || (backToKw pos (keywordEach kws X.env)).any (·.1.isNone)) = false := by rfl)
    (ht : eval (.Call (.Attribute o m apos) (e :: es) kws pos) X.env = (do
      let ov ← eval o X.env
      standAt apos.atName
      let (f, first) ← holding [ov] (getMethod ov m pl)
      callWith pos f first (backTo pos (starEach (e :: es) X.env)) (backToKw pos (keywordEach kws X.env))) := by rfl) :
    PE X (.Call (.Attribute o m apos) (e :: es) kws pos) (tMethK C m n ks.length sp gV E ta t tk) := by
  refine ⟨fun pins s σ H Q I h => ?_⟩
  refine PySem.W.methodCall_KW (pl := pl) (thn (he.run pins s σ H _ I h) fun u s1 ⟨x, H1, I1, rx, a, dx, fs, ex, ea, l, q⟩ => ?_) ht
  subst ex
  obtain rfl : u = Value.ref a := rx
  refine getmeth_ok I1 ea c hm l ?_
  refine PySem.W.callWith_KW (first := [.ref a]) (h₀ := X.base) I.ok.mod.kin hm.kp hall (thn (ha.run pos pins s1 σ H1 _ I1 q) fun us s2 ⟨vs, H2, I2, r, q2⟩ => ?_) hpl hst
  refine thn (hkw.run pos pins s2 σ H2 _ I2 q2) fun ws s3 ⟨zs, H3, I3, rz, l1, l2, q3⟩ => ⟨I3.kIn, ?_⟩
  rw [hks]
  exact run_fnN (us := .ref a :: us) (vs := .ref a :: vs) F hr hb hx I3 (.cons rfl r) rz (by rw [List.length_cons, l1]) l2 q3
end
theorem kbN {K : PySem.W.Frag} {x qual : Str} {params : Arguments} {body : List Stmt} {scope : Scope} {kws : List (Str × V)} {f : Addr} {fd : FuncData} {ps ks : List Str} {n : Nat} (F : FunD K x qual params body scope [] kws f fd)
    (h : ∀ (kV doc pm : Value) (an : Option Addr) (cdv ct : Value) (us ws : List Value), us.length = n → ws.length = ks.length → bindArgs (PySem.W.fnOf x qual params body scope .none kV doc pm an cdv ct) ⟨us, ks.zip ws⟩ = pure (ps.zip (us ++ ws))) : KBn K fd ps n ks (fun us ws => us ++ ws) (fun vs zs => vs ++ zs) := by
  obtain ⟨oc, od, dV, kV, doc, pm, an, cdv, ct, osl, rfl, lk, hcd, hD, hK⟩ := F.ex
  rcases hD with ⟨_, rfl⟩ | ⟨e, _⟩
  · exact ⟨fun s us ws X l1 l2 => .of_eq (h kV doc pm an cdv ct us ws l1 l2), fun r1 r2 => r1.append r2⟩
  · exact absurd rfl e
/-! ## Data without lists: it stands as long as the tuples stand -/
def SameT (H H' : Hp) : Prop := ∀ b xs, H b = some (.tup xs) → H' b = some (.tup xs)
theorem SameT.refl (H : Hp) : SameT H H := fun _ _ e => e
theorem SameT.trans {H H1 H2 : Hp} (a : SameT H H1) (b : SameT H1 H2) : SameT H H2 := fun c xs e => b c xs (a c xs e)
theorem SameT.of {H H' : Hp} (s : Same H H') : SameT H H' := fun b xs e => s _ _ e
theorem SameT.b {t : Addr} {H H' : Hp} (T : Tape H t) (s : SameB t H H') : SameT H H' := fun b xs e => s _ _ (T.neT e) e
theorem SameT.at {a : Addr} {H H' : Hp} {o : HO} (h : H a = some o) (n : ∀ xs, o ≠ .tup xs) (s : SameB a H H') : SameT H H' := fun b xs e => s _ _ (fun z => by rw [z, h] at e; exact n xs (Option.some.inj e)) e
theorem SameT.lst {H : Hp} {a : Addr} {ys : List V} {o : HO} (h : H a = some (.lst ys)) : SameT H (upd H a o) := fun b xs e => by rw [upd_ne (ne_of e h nofun)]; exact e
mutual
def noL : PyData → Bool
  | .list _ => false
  | .dict _ => false
  | .tuple ds => noLs ds
  | _ => true
def noLs : List PyData → Bool
  | [] => true
  | d :: ds => noL d && noLs ds
end
mutual
theorem Dh.t {H H' : Hp} (s : SameT H H') : ∀ {v : V} {d : PyData}, Dh H v d → noL d = true → Dh H' v d
  | _, _, .non, _ => .non
  | _, _, .bl b, _ => .bl b
  | _, _, .int i, _ => .int i
  | _, _, .str x, _ => .str x
  | _, _, .tup e h, n => .tup (s _ _ e) (DhAll.t s h (by simpa [noL] using n))
  | _, _, .lst e h, n => by simp [noL] at n
  | _, _, .dct e, n => by simp [noL] at n
theorem DhAll.t {H H' : Hp} (s : SameT H H') : ∀ {vs : List V} {ds : List PyData}, DhAll H vs ds → noLs ds = true → DhAll H' vs ds
  | _, _, .nil, _ => .nil
  | _, _, .cons h r, n => by
    rw [noLs, Bool.and_eq_true_iff] at n
    exact .cons (Dh.t s h n.1) (DhAll.t s r n.2)
end
theorem noLs_app {a b : List PyData} : noLs (a ++ b) = (noLs a && noLs b) := by
  induction a with
  | nil => rfl
  | cons x a ih => rw [List.cons_append, noLs, noLs, ih, Bool.and_assoc]
theorem noLs_all {a : List PyData} : noLs a = true ↔ ∀ d ∈ a, noL d = true := by
  induction a with
  | nil => exact ⟨fun _ => nofun, fun _ => rfl⟩
  | cons x a ih =>
    rw [noLs, Bool.and_eq_true_iff, ih]
    constructor
    · rintro ⟨h1, h2⟩ d hd
      rcases List.mem_cons.mp hd with rfl | hd
      · exact h1
      · exact h2 d hd
    · exact fun h => ⟨h x List.mem_cons_self, fun d hd => h d (List.mem_cons_of_mem _ hd)⟩
end Lc
set_option Elab.async false
set_option linter.all false
set_option maxRecDepth 100000
set_option maxHeartbeats 4000000
namespace Lc
open PySem PySem.Spec PyProof.Rows L2
/-! ## a dict comprehension that is stored in a local name -/
section
variable {X : Cx}
theorem sw_dict {e1 e2 : Expr} {cs : List Comprehension} {sc : Scope} {p1 p2 : Pos} {nm : Str} {ln : Nat} {en : Env} (h1 : en.scope.kind = .function) (h2 : en.scope.names.lookup nm = some .local) (h3 : (p2.line == p1.line) = true)
    (h4 : (sc.names.any fun (a, b) => a == nm && (b == .local || b == .cell)) = false) : swapsWith (.DictComp e1 e2 cs sc p1) (some (.Name nm p2)) ln en = pure true := by
  have k1 : en.kindOf nm = some .local := h2
  have k2 : en.blockKind = .function := by
    unfold Env.blockKind
    rw [h1]
    rfl
  unfold swapsWith
  simp only [k2, k1, h4, Expr.pos, h3]
  rfl
theorem ps_setDc {i : Nat} {nm : Str} {p2 p1 p3 : Pos} {kx vx tg it : Expr} {ifs : List Expr} {sc : Scope} {own : List (Str × Nat)} {wi : TI} {g : TG} {tt : TT} {tk tv : TE} (calm : X.calm = true) (nd : X.N.Nodup) (at_ : X.N[i]? = some nm) (loc : X.env.scope.names.lookup nm = some .local)
    (sw : swapsWith (.DictComp kx vx [⟨tg, it, ifs, 0⟩] sc p1) (some (.Name nm p2)) p3.line X.env = pure true) (hi : PI X tg it wi) (ok : BlkOk X.N X.env.scope sc own)
    (hg : ∀ (s : Shared) (H : Hp) (C : Addr) (cl : List (Str × Addr)) (fp : List Addr), PG (X.blk s H sc (compEnvC sc cl C X.env) fp) tg g) (ht : ∀ (s : Shared) (H : Hp) (C : Addr) (cl : List (Str × Addr)) (fp : List Addr), PTs (X.blk s H sc (compEnvC sc cl C X.env) fp) ifs tt)
    (hk : ∀ (s : Shared) (H : Hp) (C : Addr) (cl : List (Str × Addr)) (fp : List Addr), PE (X.blk s H sc (compEnvC sc cl C X.env) fp) kx tk) (hv : ∀ (s : Shared) (H : Hp) (C : Addr) (cl : List (Str × Addr)) (fp : List Addr), PE (X.blk s H sc (compEnvC sc cl C X.env) fp) vx tv) (hs : ∀ x, foldedSetIterable it X.env x = pure x := by intro _; rfl) :
    PS X (.Assign [.Name nm p2] (.DictComp kx vx [⟨tg, it, ifs, 0⟩] sc p1) p3) (tAsg (tDc wi g tt tk tv (own.map (·.2))) (gName i)) := by
  refine ⟨fun pins st σ H D I q0 => ?_⟩
  rw [exec_Assign_Name_used _ _ _ _ sw]
  refine wpAny_bind (wpAny_standAt (wpAny_bind ?_))
  show wpAny _ X.A (do let _ ← comprehension (.DictComp kx vx [⟨tg, it, ifs, 0⟩] sc p1) sc X.env (firstIterPos [⟨tg, it, ifs, 0⟩] p1) newDict false (eval it X.env) (some (assign (.Name nm p2) X.env))) _ _ st
  have q1 : tDc wi g tt tk tv (own.map (·.2)) σ H (fun x H1 => gName i x σ H1 D.nx) := q0
  refine wpAny_bind (thn (dc_core (Qf := fun _ s' => SP X pins D .next s') calm nd I hi ok hg ht hk hv hs q1 fun L C s' mm H' I' qq hn fr => ?_) fun _ s' z => wpAny_pure (wpAny_pure z))
  show wpAny _ _ (assign (.Name nm p2) X.env (.ref L)) _ _ _
  refine wpAny_assign_Name (store_ok2 (v := V.ref L) I' nd at_ (.inl loc) rfl (fun s2 I2 ⟨a, sb, ha⟩ => ?_) (.inr loc))
  obtain ⟨g0, g1, _, g3, g4, g5⟩ := fr
  have ne : C ≠ a := by
    rcases ha with z | z
    · exact z ▸ g1
    · exact fun e => g4 nm a z e.symm
  refine ⟨mm, hn.sameBut sb ne, fun h3 sb3 => ?_⟩
  refine ⟨_, H', I2.turned (t' := s2.toks) (fun b o hb e => ?_) g0 g1 g3 g4 g5, qq⟩
  exact (sb3.2 b hb).trans e
end
/-- a dict comprehension over zip of two tuples of one length -/
theorem dc_zip {K : PySem.W.Frag} {a b : Addr} {xs ys : List V} {g : TG} {tt : TT} {tk tv : TE} {vs : List Nat} {σ : L2.St} {H1 : Hp} {D : Addr} {Qd : Hp → Prop} (hl : xs.length = ys.length) (Pv : Nat → Hp → Prop) (h0 : Pv 0 (upd H1 D (.dK []))) (hq : ∀ i H, Pv i H → SqT K H a xs ∧ SqT K H b ys)
    (hs : ∀ (i : Nat) (x y : V) (T : Addr) (H : Hp), xs[i]? = some x → ys[i]? = some y → Pv i H → H T = none → g (.ref T) (wipe σ vs) (upd H T (.tup [x, y])) fun σ2 H2 => wipe σ2 vs = wipe σ vs ∧ tt σ2 H2 fun c H3 =>
      if c = true then tk σ2 H3 fun k H4 => tv σ2 H4 fun z H5 => ∃ kvs kk, k = kV kk ∧ H5 D = some (.dK kvs) ∧ kvs.length < sizeLine ∧ Pv (i + 1) (upd H5 D (.dK (putK kvs kk z))) else Pv (i + 1) H3) (hd : ∀ H, Pv xs.length H → Qd H) :
    ∃ W : Nat → Nat → Hp → Prop, (∃ m, W 0 m (upd H1 D (.dK []))) ∧ ∀ i m H, W i m H →
      ((RZ.ItzT K a b).stop i H ∧ Qd H) ∨ ((RZ.ItzT K a b).go i H ∧ ∃ N : Hp → Prop, (∀ H', N H' → ∃ m', m' < m ∧ W (i + 1) m' H') ∧ ∀ v H', (RZ.ItzT K a b).yld i H v H' → g v (wipe σ vs) H' fun σ2 H2 => wipe σ2 vs = wipe σ vs ∧ tt σ2 H2 fun c H3 =>
        if c = true then tk σ2 H3 fun k H4 => tv σ2 H4 fun z H5 => ∃ kvs kk, k = kV kk ∧ H5 D = some (.dK kvs) ∧ kvs.length < sizeLine ∧ N (upd H5 D (.dK (putK kvs kk z))) else N H3) := by
  refine ⟨fun i m H => i + m = xs.length ∧ Pv i H, ⟨xs.length, Nat.zero_add _, h0⟩, ?_⟩
  rintro i m H ⟨em, pv⟩
  obtain ⟨q1, q2⟩ := hq i H pv
  cases m with
  | zero =>
    obtain rfl : i = xs.length := by omega
    exact .inl ⟨⟨xs, ys, q1, q2, .inl (Nat.le_refl _)⟩, hd H pv⟩
  | succ m =>
    have l1 : i < xs.length := by omega
    have l2 : i < ys.length := by omega
    refine .inr ⟨⟨xs, ys, _, _, q1, q2, List.getElem?_eq_getElem l1, List.getElem?_eq_getElem l2⟩, Pv (i + 1), fun H' p' => ⟨m, by omega, by omega, p'⟩, fun v H' yl => ?_⟩
    obtain ⟨T, x', y', rfl, hT, rfl, f1, f2⟩ := yl
    exact hs i x' y' T H (f1 xs q1) (f2 ys q2) pv hT
section
variable {X : Cx} {k : Nat} {f : Addr} {fd : FuncData} {ps : List Str} {sp : Sp} {x : Str} {p pos : Pos}
/-- f(), f kept under FnG -/
theorem pe_callG0 (F : FnG X.prog X.w X.K X.mg X.base k f fd ps sp) (gg : X.A.guards = some []) (hr : Room k X.A) (hg : Gl X x) (hm : X.mg x = some (.ref f)) (hk : PySem.W.keepIn X.K (.ref f) = true) (hb : Binds X.K fd ps []) (hdb : (x == ("__debug__" : Str)) = false := by decide) :
    PE X (.Call (.Name x p) [] [] pos) (tCall sp [] E0 tNil) := by
  refine ⟨fun pins s σ H Q I h => wpAny_Call_Name_kw (ld_glob I hg hm ?_ hdb)⟩
  refine PySem.W.callWith_K0 I.kIn hk ?_
  have q : sp [] H Q E0 := h
  have hl : ([] : List V).length = ps.length := F.len _ _ _ _ q
  have b := hb s [] I.kIn hl
  refine wpAny_call (codeAny_mono (F.run X.A X.stack s H ⟨[], []⟩ [] [] Q E0 gg hr I.env0 b .nil q) fun rr s' hq => ?_)
  cases rr with
  | error er => exact hq.elim
  | ok fl =>
    cases fl with
    | ret u => exact I.after hq
    | next => exact hq.elim
    | brk => exact hq.elim
    | cont => exact hq.elim
end
/-- a list comprehension over zip of two tuples of one length -/
theorem lc_zip {K : PySem.W.Frag} {a b : Addr} {xs ys : List V} {g : TG} {tt : TT} {te : TE} {vs : List Nat} {σ : L2.St} {H1 : Hp} {D : Addr} {Qd : Hp → Prop} (hl : xs.length = ys.length) (Pv : Nat → Hp → Prop) (h0 : Pv 0 (upd H1 D (.lst []))) (hq : ∀ i H, Pv i H → SqT K H a xs ∧ SqT K H b ys)
    (hs : ∀ (i : Nat) (x y : V) (T : Addr) (H : Hp), xs[i]? = some x → ys[i]? = some y → Pv i H → H T = none → g (.ref T) (wipe σ vs) (upd H T (.tup [x, y])) fun σ2 H2 => wipe σ2 vs = wipe σ vs ∧ tt σ2 H2 fun c H3 =>
      if c = true then te σ2 H3 fun z H4 => ∃ acc, H4 D = some (.lst acc) ∧ acc.length < sizeLine ∧ Pv (i + 1) (upd H4 D (.lst (acc ++ [z]))) else Pv (i + 1) H3) (hd : ∀ H, Pv xs.length H → Qd H) :
    ∃ W : Nat → Nat → Hp → Prop, (∃ m, W 0 m (upd H1 D (.lst []))) ∧ ∀ i m H, W i m H →
      ((RZ.ItzT K a b).stop i H ∧ Qd H) ∨ ((RZ.ItzT K a b).go i H ∧ ∃ N : Hp → Prop, (∀ H', N H' → ∃ m', m' < m ∧ W (i + 1) m' H') ∧ ∀ v H', (RZ.ItzT K a b).yld i H v H' → g v (wipe σ vs) H' fun σ2 H2 => wipe σ2 vs = wipe σ vs ∧ tt σ2 H2 fun c H3 =>
        if c = true then te σ2 H3 fun z H4 => ∃ acc, H4 D = some (.lst acc) ∧ acc.length < sizeLine ∧ N (upd H4 D (.lst (acc ++ [z]))) else N H3) := by
  refine ⟨fun i m H => i + m = xs.length ∧ Pv i H, ⟨xs.length, Nat.zero_add _, h0⟩, ?_⟩
  rintro i m H ⟨em, pv⟩
  obtain ⟨q1, q2⟩ := hq i H pv
  cases m with
  | zero =>
    obtain rfl : i = xs.length := by omega
    exact .inl ⟨⟨xs, ys, q1, q2, .inl (Nat.le_refl _)⟩, hd H pv⟩
  | succ m =>
    have l1 : i < xs.length := by omega
    have l2 : i < ys.length := by omega
    refine .inr ⟨⟨xs, ys, _, _, q1, q2, List.getElem?_eq_getElem l1, List.getElem?_eq_getElem l2⟩, Pv (i + 1), fun H' p' => ⟨m, by omega, by omega, p'⟩, fun v H' yl => ?_⟩
    obtain ⟨T, x', y', rfl, hT, rfl, f1, f2⟩ := yl
    exact hs i x' y' T H (f1 xs q1) (f2 ys q2) pv hT
theorem paired_snoc {α β : Type} {R : α → β → Prop} {a : α} {b : β} (h : R a b) : ∀ {l : List α} {m : List β}, Paired R l m → Paired R (l ++ [a]) (m ++ [b])
  | _, _, .nil => .cons h .nil
  | _, _, .cons g r => .cons g (paired_snoc h r)
theorem paired_imp {α β : Type} {R S : α → β → Prop} (h : ∀ a b, R a b → S a b) : ∀ {l : List α} {m : List β}, Paired R l m → Paired S l m
  | _, _, .nil => .nil
  | _, _, .cons g r => .cons (h _ _ g) (paired_imp h r)
end Lc
set_option Elab.async false
set_option linter.all false
set_option maxRecDepth 100000
set_option maxHeartbeats 4000000
namespace Lc
open PySem PySem.Spec PyProof.Rows L2 PySem.NumText
/-! ## Digits -/
def digs (m : Nat) : List Nat := (Nat.toDigits 10 m).map Char.toNat
theorem digs_small {m : Nat} (h : m < 10) : digs m = [48 + m] := by
  unfold digs
  rw [Nat.toDigits_of_lt_base h]
  have : ∀ k < 10, (Nat.digitChar k).toNat = 48 + k := by decide
  show [(Nat.digitChar m).toNat] = _
  rw [this m h]
theorem digs_big {m : Nat} (h : 10 ≤ m) : digs m = digs (m / 10) ++ [48 + m % 10] := by
  have hm : m % 10 < 10 := Nat.mod_lt m (by decide)
  have t : Nat.toDigits 10 (m / 10) ++ Nat.toDigits 10 (m % 10) = Nat.toDigits 10 (10 * (m / 10) + m % 10) := Nat.toDigits_append_toDigits (by decide) (by omega) hm
  rw [Nat.div_add_mod] at t
  have e := digs_small hm
  unfold digs at e ⊢
  rw [← t, List.map_append, e]
theorem digs_val (m : Nat) : digitsVal (digs m) = m := W.KIN.val_back m
theorem digs_all : ∀ m, AllDigits (digs m) := by
  intro m
  induction m using Nat.strongRecOn with
  | _ m ih =>
    by_cases h : m < 10
    · rw [digs_small h]
      intro c hc
      have : c = 48 + m := by simpa using hc
      omega
    · rw [digs_big (by omega)]
      intro c hc
      rcases List.mem_append.mp hc with hc | hc
      · exact ih (m / 10) (by omega) c hc
      · have : c = 48 + m % 10 := by simpa using hc
        omega
theorem digs_head : ∀ m, ∃ c r, digs m = c :: r ∧ (c = 48 → r = []) := by
  intro m
  have key : ∀ m, ∃ c r, digs m = c :: r ∧ (0 < m → 49 ≤ c) := by
    intro m
    induction m using Nat.strongRecOn with
    | _ m ih =>
      by_cases h : m < 10
      · exact ⟨48 + m, [], digs_small h, fun _ => by omega⟩
      · obtain ⟨c, r, e, g⟩ := ih (m / 10) (by omega)
        refine ⟨c, r ++ [48 + m % 10], ?_, fun _ => g (by omega)⟩
        rw [digs_big (by omega), e]
        rfl
  by_cases z : m = 0
  · exact ⟨48, [], by rw [z]; exact digs_small (by decide), fun _ => rfl⟩
  · obtain ⟨c, r, e, g⟩ := key m
    exact ⟨c, r, e, fun h => by have := g (by omega); omega⟩
theorem digs_len : ∀ (p m : Nat), 0 < p → m < 10 ^ p → (digs m).length ≤ p := by
  intro p
  induction p with
  | zero => intro m h; omega
  | succ p ih =>
    intro m _ h
    by_cases z : m < 10
    · rw [digs_small z]
      simp
    · rw [digs_big (by omega), List.length_append]
      have hp : 0 < p := by
        cases p with
        | zero => omega
        | succ q => omega
      have : m / 10 < 10 ^ p := by
        rw [Nat.div_lt_iff_lt_mul (by decide)]
        rw [Nat.pow_succ] at h
        exact h
      have := ih (m / 10) hp this
      simp only [List.length_cons, List.length_nil]
      omega
def zf (p r : Nat) : List Nat := List.replicate (p - (digs r).length) 48 ++ digs r
theorem zf_len {p r : Nat} (hp : 0 < p) (h : r < 10 ^ p) : (zf p r).length = p := by
  have := digs_len p r hp h
  unfold zf
  rw [List.length_append, List.length_replicate]
  omega
theorem zf_all (p r : Nat) : AllDigits (zf p r) := by
  intro c hc
  rcases List.mem_append.mp hc with hc | hc
  · have := List.eq_of_mem_replicate hc
    omega
  · exact digs_all r c hc
theorem val_from (l : List Nat) : ∀ a : Nat, l.foldl (fun acc c => acc * 10 + (c - 48)) a = a * 10 ^ l.length + digitsVal l := by
  induction l with
  | nil => intro a; simp [digitsVal]
  | cons c l ih =>
    intro a
    show l.foldl _ (a * 10 + (c - 48)) = _
    have e2 : digitsVal (c :: l) = l.foldl (fun acc c => acc * 10 + (c - 48)) (0 * 10 + (c - 48)) := rfl
    rw [ih, e2, ih, List.length_cons, Nat.pow_succ, Nat.zero_mul, Nat.zero_add, Nat.add_mul, Nat.mul_assoc, Nat.mul_comm 10]
    omega
theorem val_app (a b : List Nat) : digitsVal (a ++ b) = digitsVal a * 10 ^ b.length + digitsVal b := by
  unfold digitsVal
  rw [List.foldl_append]
  exact val_from b _
theorem val_zeros (k : Nat) : digitsVal (List.replicate k 48) = 0 := by
  induction k with
  | zero => rfl
  | succ k ih =>
    rw [List.replicate_succ, digitsVal_zero]
    exact ih
theorem zf_val (p r : Nat) : digitsVal (zf p r) = r := by
  unfold zf
  rw [val_app, val_zeros, digs_val]
  omega
/-! ## A text cut at the point -/
def jl : List (List Nat) → List Nat
  | [] => []
  | [x] => x
  | x :: y :: r => x ++ 46 :: jl (y :: r)
theorem cut_eq : ∀ {a b x y : List Nat}, 46 ∉ a → 46 ∉ b → a ++ 46 :: x = b ++ 46 :: y → a = b ∧ x = y
  | [], [], _, _, _, _, e => ⟨rfl, (List.cons.inj e).2⟩
  | [], c :: b, _, _, _, hb, e => absurd (List.cons.inj e).1 (fun z => hb (by rw [z]; exact List.mem_cons_self))
  | c :: a, [], _, _, ha, _, e => absurd (List.cons.inj e).1.symm (fun z => ha (by rw [z]; exact List.mem_cons_self))
  | c :: a, d :: b, x, y, ha, hb, e => by
    obtain ⟨e1, e2⟩ := List.cons.inj e
    obtain ⟨h1, h2⟩ := cut_eq (fun z => ha (List.mem_cons_of_mem _ z)) (fun z => hb (List.mem_cons_of_mem _ z)) e2
    exact ⟨by rw [e1, h1], h2⟩
theorem jl_one {ps : List (List Nat)} {a : List Nat} (hne : a ≠ []) (ha : 46 ∉ a) (e : jl ps = a) : ps = [a] := by
  match ps, e with
  | [], e => exact absurd e.symm hne
  | [x], e => rw [← show x = a from e]
  | x :: y :: r, e => exact absurd (by rw [← show x ++ 46 :: jl (y :: r) = a from e]; simp) ha
theorem jl_two {ps : List (List Nat)} {a b : List Nat} (hf : ∀ p ∈ ps, 46 ∉ p) (ha : 46 ∉ a) (hb : 46 ∉ b) (hne : b ≠ []) (e : jl ps = a ++ 46 :: b) : ps = [a, b] := by
  match ps, hf, e with
  | [], _, e => exact absurd e (by simp [jl])
  | [x], hf, e => exact absurd (by rw [show x = a ++ 46 :: b from e]; simp) (hf x List.mem_cons_self)
  | x :: y :: r, hf, e =>
    obtain ⟨h1, h2⟩ := cut_eq (hf x List.mem_cons_self) ha (show x ++ 46 :: jl (y :: r) = a ++ 46 :: b from e)
    rw [h1, jl_one hne hb h2]
theorem toL_join : ∀ ps : List Str, (Str.join ⟨#[46]⟩ ps).cps.toList = jl (ps.map fun p => p.cps.toList)
  | [] => rfl
  | [x] => rfl
  | x :: y :: r => by
    have ih := toL_join (y :: r)
    have e : Str.join ⟨#[46]⟩ (x :: y :: r) = x ++ ⟨#[46]⟩ ++ Str.join ⟨#[46]⟩ (y :: r) := rfl
    rw [e]
    show (x.cps ++ #[46] ++ (Str.join ⟨#[46]⟩ (y :: r)).cps).toList = _
    rw [Array.toList_append, Array.toList_append, ih]
    show x.cps.toList ++ [46] ++ jl (y.cps.toList :: r.map fun p => p.cps.toList) = x.cps.toList ++ 46 :: jl (y.cps.toList :: r.map fun p => p.cps.toList)
    rw [List.append_assoc]
    rfl
theorem dot_eq : PySem.Str.ofString "." = ⟨#[46]⟩ := by decide +kernel
theorem map_toL {ps : List Str} {ls : List (List Nat)} (h : ps.map (fun p => p.cps.toList) = ls) : ps = ls.map fun l => (⟨l.toArray⟩ : Str) := by
  rw [← h, List.map_map]
  have : ((fun l => (⟨l.toArray⟩ : Str)) ∘ fun p : Str => p.cps.toList) = id := by
    funext p
    obtain ⟨⟨l⟩⟩ := p
    rfl
  rw [this, List.map_id]
theorem split_jl (x : Str) : jl ((Txt.split x ⟨#[46]⟩).map fun p => p.cps.toList) = x.cps.toList := by
  rw [← toL_join, StrLaws.join_split]
theorem split_one {x : Str} (h : 46 ∉ x.cps.toList) (hne : x.cps.toList ≠ []) : Txt.split x ⟨#[46]⟩ = [x] := by
  have e := map_toL (jl_one hne h (split_jl x))
  rw [e]
  obtain ⟨⟨l⟩⟩ := x
  rfl
theorem split_two {x : Str} {a b : List Nat} (e : x.cps.toList = a ++ 46 :: b) (ha : 46 ∉ a) (hb : 46 ∉ b) (hne : b ≠ []) : Txt.split x ⟨#[46]⟩ = [⟨a.toArray⟩, ⟨b.toArray⟩] := by
  refine map_toL (jl_two (fun p hp => ?_) ha hb hne ((split_jl x).trans e))
  obtain ⟨q, hq, rfl⟩ := List.mem_map.mp hp
  exact StrLaws.split_free x 46 q hq
/-! ## Rounding -/
def ab (n : Int) : Int := if n < 0 then -n else n
def nu (n d s : Int) : Int := if n < 0 then -((2 * ab n * s + d) / (2 * d)) else (2 * ab n * s + d) / (2 * d)
theorem ab_nonneg (n : Int) : 0 ≤ ab n := by unfold ab; split <;> omega
theorem ab_nat (n : Int) : ab n = (n.natAbs : Int) := by unfold ab; split <;> omega
theorem nu_ab {n d s : Int} (hd : 0 < d) (hs : 0 < s) : ab (nu n d s) = (2 * ab n * s + d) / (2 * d) ∧ (nu n d s < 0 → n < 0) := by
  have h0 : 0 ≤ (2 * ab n * s + d) / (2 * d) := Int.ediv_nonneg (by have := Int.mul_nonneg (Int.mul_nonneg (by decide : (0:Int) ≤ 2) (ab_nonneg n)) (Int.le_of_lt hs); omega) (by omega)
  unfold nu
  generalize (2 * ab n * s + d) / (2 * d) = q at h0
  split
  · exact ⟨by unfold ab; split <;> omega, fun _ => by assumption⟩
  · exact ⟨by unfold ab; split <;> omega, fun h => by omega⟩
theorem nu_near {n d s : Int} (hd : 0 < d) (hs : 0 < s) : 2 * (ab (nu n d s) * d) ≤ 2 * (ab n * s) + d ∧ 2 * (ab n * s) < 2 * (ab (nu n d s) * d) + d := by
  rw [(nu_ab hd hs).1]
  have e := Int.mul_ediv_add_emod (2 * ab n * s + d) (2 * d)
  have r0 := Int.emod_nonneg (2 * ab n * s + d) (by omega : 2 * d ≠ 0)
  have r1 := Int.emod_lt_of_pos (2 * ab n * s + d) (by omega : 0 < 2 * d)
  generalize (2 * ab n * s + d) / (2 * d) = q at e
  generalize (2 * ab n * s + d) % (2 * d) = r at e r0 r1
  rw [Int.mul_assoc 2 d q, Int.mul_comm d q, Int.mul_assoc 2 (ab n) s] at e
  omega
/-- the same units again -/
theorem nu_again {u s a b : Int} (hs : 0 < s) (hb : 0 < b) (h : a * s = u * b) (hsg : (a < 0) ↔ (u < 0)) : nu a b s = u := by
  have e1 : ab a * s = ab u * b := by
    unfold ab
    by_cases z : a < 0
    · rw [if_pos z, if_pos (hsg.mp z), Int.neg_mul, Int.neg_mul, h]
    · rw [if_neg z, if_neg (fun q => z (hsg.mpr q)), h]
  have e2 : (2 * ab a * s + b) / (2 * b) = ab u := by
    have : 2 * ab a * s + b = b + 2 * b * ab u := by
      rw [Int.mul_assoc, e1, Int.mul_comm (ab u) b, ← Int.mul_assoc]
      omega
    rw [this, Int.add_mul_ediv_left _ _ (by omega : 2 * b ≠ 0), Int.ediv_eq_zero_of_lt (by omega) (by omega)]
    omega
  unfold nu
  rw [e2]
  unfold ab
  by_cases z : a < 0
  · rw [if_pos z, if_pos (hsg.mp z)]
    omega
  · rw [if_neg z, if_neg (fun q => z (hsg.mpr q))]
/-! ## What a decimal looks like -/
def tenP (p : Nat) : Nat := 10 ^ p
def decB (u : Int) (p : Nat) : List Nat := digs (u.natAbs / 10 ^ p) ++ (if p = 0 then [] else 46 :: zf p (u.natAbs % 10 ^ p))
def decL (u : Int) (p : Nat) : List Nat := (if u < 0 then [45] else []) ++ decB u p
end Lc
namespace Lc
open PySem PySem.Spec PyProof.Rows L2 PySem.NumText
theorem appL (x y : Str) : (x ++ y).cps.toList = x.cps.toList ++ y.cps.toList := by
  show (x.cps ++ y.cps).toList = _
  simp
theorem numL (m : Nat) : (PySem.Str.ofString (toString ((m : Nat) : Int))).cps.toList = digs m := W.KIN.signs_num m
theorem zfillL {a : Str} {k r : Nat} (h : a.cps.toList = digs r) : (Txt.zfill a (k : Int)).cps.toList = zf k r := by
  have ln : a.length = (digs r).length := by rw [lenL, h]
  unfold Txt.zfill
  by_cases z : (k : Int) ≤ a.length
  · rw [if_pos z, h]
    unfold zf
    rw [show k - (digs r).length = 0 by omega]
    rfl
  · rw [if_neg z]
    obtain ⟨c, rr, e, _⟩ := digs_head r
    have c0 : a.cps[0]? = some c := by
      rw [← Array.getElem?_toList, h, e]
      rfl
    have cd := digs_all r c (by rw [e]; exact List.mem_cons_self)
    have e2 : zfilled a ((k : Int).toNat - a.length) = Builtin.Str.padded a ((k : Int).toNat - a.length) 0 48 := by
      unfold zfilled
      rw [c0]
      split
      · rename_i q
        injection q with q
        omega
      · rename_i q
        injection q with q
        omega
      · rfl
    rw [e2]
    unfold Builtin.Str.padded zf
    show (Array.replicate ((k : Int).toNat - a.length) 48 ++ a.cps ++ Array.replicate 0 48).toList = _
    rw [Array.toList_append, Array.toList_append, Array.toList_replicate, Array.toList_replicate, h, ln]
    simp
theorem nu_le {n d s : Int} (hd : 0 < d) (hs : 0 < s) : ab (nu n d s) ≤ ab n * s := by
  have h := (nu_near (n := n) hd hs).1
  have N0 : 0 ≤ ab n * s := Int.mul_nonneg (ab_nonneg n) (Int.le_of_lt hs)
  generalize ab n * s = N at h N0
  generalize ab (nu n d s) = U at h
  rcases (by omega : N < U ∨ U ≤ N) with z | z
  · have a1 : (N + 1) * d ≤ U * d := Int.mul_le_mul_of_nonneg_right (by omega) (by omega)
    have a2 : N * 1 ≤ N * d := Int.mul_le_mul_of_nonneg_left (by omega) N0
    rw [Int.add_mul, Int.one_mul] at a1
    omega
  · exact z
inductive Pk (H : Hp) : V → Prop
  | ty {v : V} {t : String} (h : TyN H v t) (n : t ≠ "int") : Pk H v
  | out {k : Int} (h : k < 0 ∨ 9 < k) : Pk H (.int k)
theorem Pk.same {H H' : Hp} {v : V} (h : Pk H v) (s : Same H H') : Pk H' v := by
  cases h with
  | ty h n => exact .ty (h.same s) n
  | out h => exact .out h
theorem pad9 {k : Nat} (h : k ≤ 9) : PadOk (k : Int) = true := by
  have : ∀ k ≤ 9, PadOk ((k : Nat) : Int) = true := by decide +kernel
  exact this k h
theorem ten_pos (k : Nat) : (0 : Int) < 10 ^ k := Int.pow_pos (by decide)
theorem ten_small {k : Nat} (h : k ≤ 9) : ((10 : Int) ^ k).natAbs < 2 ^ 40 := by
  have : ∀ k ≤ 9, ((10 : Int) ^ k).natAbs < 2 ^ 40 := by decide +kernel
  exact this k h
end Lc
namespace Lc
open PySem PySem.Spec PyProof.Rows L2 PySem.NumText
theorem cut_first (x : Str) : (cutS x none (some 1)).cps.toList = x.cps.toList.take 1 := by
  have e : HT.sIx x.length 0 none = 0 := rfl
  have e2 : HT.sIx x.length x.length (some 1) = min 1 x.length := rfl
  unfold cutS
  rw [e, e2]
  show (x.cps.toList.drop 0).take (min 1 x.length - 0) = _
  rw [List.drop_zero, Nat.sub_zero, lenL]
  cases x.cps.toList with
  | nil => rfl
  | cons c r => simp
theorem cut_rest (x : Str) : (cutS x (some 1) none).cps.toList = x.cps.toList.drop 1 := by
  have e : HT.sIx x.length 0 (some 1) = min 1 x.length := rfl
  have e2 : HT.sIx x.length x.length none = x.length := rfl
  unfold cutS
  rw [e, e2]
  show (x.cps.toList.drop (min 1 x.length)).take (x.length - min 1 x.length) = _
  rw [lenL]
  cases x.cps.toList with
  | nil => rfl
  | cons c r => simp
theorem str_ext {x y : Str} (h : x.cps.toList = y.cps.toList) : x = y := by
  obtain ⟨⟨l⟩⟩ := x
  obtain ⟨⟨m⟩⟩ := y
  have : l = m := h
  rw [this]
theorem dec_head (u : Int) (k : Nat) : ∃ c r, decB u k = c :: r ∧ 48 ≤ c ∧ c ≤ 57 := by
  obtain ⟨c, r, e, _⟩ := digs_head (u.natAbs / 10 ^ k)
  have h := digs_all (u.natAbs / 10 ^ k) c (by rw [e]; exact List.mem_cons_self)
  exact ⟨c, _, by unfold decB; rw [e]; rfl, h.1, h.2⟩
theorem minus_is {x : Str} {u : Int} {k : Nat} (h : x.cps.toList = decL u k) : decide (V.str (cutS x none (some 1)) = V.str "-") = decide (u < 0) := by
  rw [Bool.eq_iff_iff, decide_eq_true_iff, decide_eq_true_iff]
  have e45 : (PySem.Str.ofString "-").cps.toList = [45] := by decide +kernel
  constructor
  · intro q
    injection q with q
    have z := cut_first x
    rw [q, h, e45] at z
    rcases (by omega : u < 0 ∨ ¬ u < 0) with g | g
    · exact g
    · obtain ⟨c, r, e, h1, h2⟩ := dec_head u k
      unfold decL at z
      rw [if_neg g, e] at z
      have : (45 : Nat) = c := by simpa using z
      omega
  · intro q
    have : cutS x none (some 1) = PySem.Str.ofString "-" := by
      apply str_ext
      rw [cut_first, h, e45]
      unfold decL
      rw [if_pos q]
      rfl
    rw [this]
theorem below_is {x : Str} {u : Int} {k : Nat} (h : x.cps.toList = decL u k) (n : u < 0) : (cutS x (some 1) none).cps.toList = decB u k := by
  rw [cut_rest, h]
  unfold decL
  rw [if_pos n]
  rfl
theorem digs_len_le {m : Nat} (h : m < 2 ^ 1100) : (digs m).length ≤ 1921 := by
  rw [← numL, ← lenL]
  refine int_text_len_1921 ?_
  rw [Int.natAbs_natCast]
  by_cases z : m = 0
  · rw [z]
    decide
  · exact Nat.lt_of_lt_of_le ((Nat.log2_lt z).mpr h) (by decide)
theorem decL_len {u : Int} {k : Nat} (h : u.natAbs < 2 ^ 1100) (k9 : k ≤ 9) : (decL u k).length ≤ 1940 ∧ (decB u k).length ≤ 1939 := by
  have h1 := digs_len_le (Nat.lt_of_le_of_lt (Nat.div_le_self u.natAbs (10 ^ k)) h)
  have h2 : (decB u k).length ≤ 1939 := by
    unfold decB
    rw [List.length_append]
    split
    · simp; omega
    · have := zf_len (p := k) (r := u.natAbs % 10 ^ k) (by omega) (Nat.mod_lt _ (Nat.pow_pos (by decide)))
      rw [List.length_cons, this]
      omega
  refine ⟨?_, h2⟩
  unfold decL
  rw [List.length_append]
  split
  · simp only [List.length_cons, List.length_nil]; omega
  · simp only [List.length_nil]; omega
theorem joinL_toL (ys : List Str) : (Txt.join (PySem.Str.ofString "") ys).cps.toList = (ys.map fun y => y.cps.toList).flatten := by
  have e : Txt.join (PySem.Str.ofString "") ys = Str.join Str.empty ys := (StrLaws.glued_eq_join (PySem.Str.ofString "") ys).trans rfl
  rw [e]
  have key : ∀ ys : List Str, (Str.join Str.empty ys).cps.toList = (ys.map fun y => y.cps.toList).flatten := by
    intro ys
    induction ys with
    | nil => rfl
    | cons x r ih =>
      cases r with
      | nil =>
        show x.cps.toList = _
        simp
      | cons y r =>
        have e : Str.join Str.empty (x :: y :: r) = x ++ Str.empty ++ Str.join Str.empty (y :: r) := rfl
        rw [e, appL, appL, ih]
        simp [Str.empty]
  exact key ys
def ten10 : Str := "0123456789"
theorem index_ten {c : Nat} (h : 48 ≤ c ∧ c ≤ 57) : Builtin.Str.occurrences ten10 ⟨#[c]⟩ 0 ten10.length 1 = [c - 48] := by
  have key : ∀ d < 10, Builtin.Str.occurrences ten10 ⟨#[48 + d]⟩ 0 ten10.length 1 = [d] := by decide +kernel
  have := key (c - 48) (by omega)
  rw [show 48 + (c - 48) = c by omega] at this
  exact this
theorem in_ten {c : Nat} (h : 48 ≤ c ∧ c ≤ 57) : decide (c ∈ ten10.cps.toList) = true := by
  have key : ∀ d < 10, decide (48 + d ∈ ten10.cps.toList) = true := by decide +kernel
  have := key (c - 48) (by omega)
  rw [show 48 + (c - 48) = c by omega] at this
  exact this
end Lc
set_option Elab.async false
set_option linter.all false
set_option maxRecDepth 100000
set_option maxHeartbeats 4000000
namespace Lc
open PySem PySem.Spec PyProof.Rows L2
/-! ## repr of deep data that may hold empty dicts -/
section
variable {X : Cx} {pins : List (Addr × Obj)} {σ : L2.St} {H : Hp} {s : Shared}
mutual
theorem Dh.reads (I : Inv X pins σ H s) (sm : H sysModules = none) : ∀ (d : PyData) (v : V) (u : Value), Dh H v d → RelV v u → ∃ as, Reads s.heap u d as ∧ sysModules ∉ as
  | .none, _, _, h, r => by
    cases h
    cases r
    exact ⟨_, Reads.none, List.not_mem_nil⟩
  | .bool b, _, _, h, r => by
    cases h
    cases r
    exact ⟨_, Reads.bool b, List.not_mem_nil⟩
  | .int i, _, _, h, r => by
    cases h
    obtain ⟨t, rfl⟩ := r
    exact ⟨_, Reads.int i t, List.not_mem_nil⟩
  | .str x, _, _, h, r => by
    cases h
    obtain ⟨t, rfl⟩ := r
    exact ⟨_, Reads.str x t, List.not_mem_nil⟩
  | .list ds, _, _, h, r => by
    cases h with
    | @lst a xs _ e ha =>
      cases r
      obtain ⟨its, rv, ⟨o, n, ho, hc, _, hd⟩, _⟩ := I.list (SqL.of e)
      obtain ⟨as, hr, hn⟩ := Dh.readsAll I sm ds _ its ha rv
      refine ⟨_, Reads.list ho hc hd hr, fun hm => ?_⟩
      rcases List.mem_cons.mp hm with q | q
      · rw [q, e] at sm; cases sm
      · exact hn q
  | .tuple ds, _, _, h, r => by
    cases h with
    | @tup a xs _ e ha =>
      cases r
      obtain ⟨its, rv, ⟨o, ho, hc, n, hd⟩, _⟩ := I.tuple (SqT.of e)
      obtain ⟨as, hr, hn⟩ := Dh.readsAll I sm ds _ its ha rv
      exact ⟨_, Reads.tuple ho hc hd hr, hn⟩
  | .dict kv, _, u, h, r => by
    cases h with
    | @dct a e =>
      obtain rfl : u = Value.ref a := r
      obtain ⟨_, ns, vs, kv, o, es, ep, h1, h2, h3, h4⟩ := (show ObjOk X.prog X.w H s.heap a (.dK []) from I.hok a _ e)
      cases kv
      have es0 : es.toList = [] := by
        obtain ⟨_, hp, _⟩ := h4
        generalize es.toList = l at hp
        cases hp
        rfl
      have rd : Reads s.heap (.ref a) (.dict []) (a :: [] ++ []) := Reads.dict h1 h2.1 h3 (by rw [es0]; exact .nil) (by rw [es0]; exact .nil)
      refine ⟨_, rd, fun hm => ?_⟩
      have : sysModules = a := by simpa using hm
      rw [this, e] at sm
      cases sm
theorem Dh.readsAll (I : Inv X pins σ H s) (sm : H sysModules = none) : ∀ (ds : List PyData) (vs : List V) (us : List Value), DhAll H vs ds → Vals vs us → ∃ as, ReadsAll s.heap us ds as ∧ sysModules ∉ as
  | [], _, _, h, r => by
    cases h
    cases r
    exact ⟨_, ReadsAll.nil, List.not_mem_nil⟩
  | d :: ds, _, _, h, r => by
    cases h with
    | cons h1 h2 =>
      cases r with
      | cons r1 r2 =>
        obtain ⟨as, q1, n1⟩ := Dh.reads I sm d _ _ h1 r1
        obtain ⟨bs, q2, n2⟩ := Dh.readsAll I sm ds _ _ h2 r2
        exact ⟨_, ReadsAll.cons q1 q2, fun hm => (List.mem_append.mp hm).elim n1 n2⟩
end
end
def rReprF : List V → Hp → VK → Prop := fun xs H Q => ∃ (v : V) (d : PyData), xs = [v] ∧ Dh H v d ∧ d.showable = true ∧ d.depth ≤ 60 ∧ d.shown.length ≤ sizeLine ∧ Q (.str d.shown) H
def SmK (K : PySem.W.Frag) : Prop := ∃ o, K.lookup sysModules = some o
theorem call_reprF {X : Cx} (sm : SmK X.K) (hg : X.A.guards = some []) (hu : X.A.units + 64 < cLine) : CallR X (.builtin "repr") rReprF := by
  intro pins s σ H xs us Q I r h
  obtain ⟨v, d, rfl, hd, h1, h3, h4, q⟩ := h
  obtain ⟨u, rfl, ru⟩ := vals1 r
  obtain ⟨o, sm⟩ := sm
  have sm1 : H sysModules = none := (I.bs _ _ (I.ok.mod.kin _ _ sm)).2
  obtain ⟨as, rd, ns⟩ := Dh.reads I sm1 d _ _ hd ru
  cases hd with
  | non =>
    obtain rfl : u = Value.none := ru
    exact P.repr_of_none ⟨.str _, H, I.tok _, ⟨_, rfl⟩, q⟩
  | bl b =>
    obtain rfl : u = Value.bool b := ru
    exact P.repr_of_bool ⟨.str _, H, I.tok _, ⟨_, rfl⟩, q⟩
  | int i =>
    obtain ⟨t, rfl⟩ := (show ∃ t, u = Value.int i t from ru)
    exact P.repr_of_int (of_decide_eq_true (by simpa [PyData.showable] using h1)) ⟨.str _, H, I.tok _, ⟨_, rfl⟩, q⟩
  | str x =>
    obtain ⟨t, rfl⟩ := (show ∃ t, u = Value.str x t from ru)
    exact P.repr_of_str ⟨.str _, H, I.tok _, ⟨_, rfl⟩, q⟩ h4
  | @lst a xs ds e1 e2 =>
    obtain rfl : u = Value.ref a := ru
    exact repr_of_reads' rd h1 (fun _ => ns) hg (by omega) (fun _ _ e => e) (fun h' u tk hk => ⟨.str _, H, I.kept (t' := tk) hk, ⟨u, rfl⟩, q⟩) h4
  | @tup a xs ds e1 e2 =>
    obtain rfl : u = Value.ref a := ru
    exact repr_of_reads' rd h1 (fun _ => ns) hg (by omega) (fun _ _ e => e) (fun h' u tk hk => ⟨.str _, H, I.kept (t' := tk) hk, ⟨u, rfl⟩, q⟩) h4
  | @dct a e =>
    obtain rfl : u = Value.ref a := ru
    exact repr_of_reads' rd h1 (fun _ => ns) hg (by omega) (fun _ _ e => e) (fun h' u tk hk => ⟨.str _, H, I.kept (t' := tk) hk, ⟨u, rfl⟩, q⟩) h4
end Lc
set_option Elab.async false
set_option linter.all false
set_option maxRecDepth 100000
set_option maxHeartbeats 4000000
namespace Lc
open PySem PySem.Spec PyProof.Rows L2
/-! ## sets of texts: made of a list, sorted -/
def keyX (e : Int × Value) : Str := match e.2 with | .str k _ => k | _ => Str.empty
def GoodX (w : World) (e : Int × Value) : Prop := ∃ k tk, e.2 = Value.str k tk ∧ e.1 = hashStr w k
/-- the set of the texts ks at a -/
def SetX (w : World) (h : Heap) (a : Addr) (ks : List Str) : Prop :=
  ∃ o es ep t, h.get? a = some o ∧ o.ExactSet ∧ o.data = .set es ep t ∧ (∀ e ∈ es.toList, GoodX w e) ∧ (es.toList.map keyX).Nodup ∧ (∀ k, k ∈ ks ↔ k ∈ es.toList.map keyX) ∧
    es.size < scanBound ∧ es.size ≤ ks.length ∧ t.fits es.size = true ∧ Ris t.place.toList ∧ (w.params.followText "set-order" = true ∨ t.led = true)
section
variable {P : Program} {w : World} {h h' : Heap} {a : Addr} {ks : List Str}
theorem SetX.at (R : SetX w h a ks) (k : ∀ o, h.get? a = some o → h'.get? a = some o) : SetX w h' a ks := by
  obtain ⟨o, es, ep, t, ho, r⟩ := R
  exact ⟨o, es, ep, t, k o ho, r⟩
theorem goodX_elems {l : List (Int × Value)} (g : ∀ e ∈ l, GoodX w e) : ElemsOf (strKind P w) l := fun e he => by
  obtain ⟨k, tk, h1, h2⟩ := g e he
  exact ⟨⟨k, by rw [h1]; exact strKind_is _ _ _ _, h2⟩, by rw [h1] <;> rfl⟩
theorem goodX_is {e : Int × Value} (g : GoodX w e) (k : Str) : (strKind P w).is k e.2 = true ↔ keyX e = k := by
  obtain ⟨k0, tk, h1, _⟩ := g
  unfold keyX
  rw [h1]
  constructor
  · intro q
    exact (strKind P w).inj (.str k0 tk) k0 k (strKind_is _ _ _ _) q
  · intro q
    rw [← q]
    exact strKind_is _ _ _ _
theorem goodX_mem {l : List (Int × Value)} (g : ∀ e ∈ l, GoodX w e) (k : Str) : k ∈ l.map keyX ↔ ∃ e ∈ l, (strKind P w).is k e.2 = true := by
  rw [List.mem_map]
  constructor
  · rintro ⟨e, he, q⟩
    exact ⟨e, he, (goodX_is (g e he) k).2 q⟩
  · rintro ⟨e, he, q⟩
    exact ⟨e, he, (goodX_is (g e he) k).1 q⟩
end
section
variable {P : Program} {w : World} {A : Around} {E : Value → Shared → Prop} {s : Shared} {a : Addr} {ks : List Str}
theorem setX_tail {g : Bool → Sem Unit} (hg : ∀ (b : Bool) (s₁ : Shared) (Q' : Unit → Shared → Prop), Q' () s₁ → wpAny (model P w) A (g b) Q' E s₁)
    {o : Obj} {es : Array (Int × Value)} {ep : Nat} {t : SetTable} (ho : s.heap.get? a = some o) (hex : o.ExactSet) (hd : o.data = .set es ep t)
    {es1 : Array (Int × Value)} {t2 : SetTable} {ks' : List Str} (g1 : ∀ e ∈ es1.toList, GoodX w e) (nd1 : (es1.toList.map keyX).Nodup) (m1 : ∀ k, k ∈ ks' ↔ k ∈ es1.toList.map keyX)
    (hb1 : es1.size < scanBound) (hl1 : es1.size ≤ ks'.length) (hf2 : t2.fits es1.size = true) (hr : Ris t2.place.toList) (hl : w.params.followText "set-order" = true ∨ t2.led = true) {wasDummy : Bool} {R : Option Bool → Shared → Prop}
    (hR : ∀ h', Heap.SameBut a s.heap h' → SetX w h' a ks' → R (some true) { s with heap := h' }) :
    wpAny (model P w) A (do
        storeSet a es1 t2
        if (!wasDummy && t2.tooFull) = true then do
            g (relayAll t2 es1 (SetTable.grown es1.size)).2.2
            storeSet a (relayAll t2 es1 (SetTable.grown es1.size)).1 (relayAll t2 es1 (SetTable.grown es1.size)).2.1
            pure (some true)
          else pure (some true)) R E s := by
  refine wpAny_bind (wpAny_storeSet_of ho hd ?_ (fits_of_scanBound hb1))
  have ho1 := store_at (es' := es1) (t' := t2) ho hd
  have sb1 := Heap.SameBut.update s.heap a (Obj.putSet es1 t2)
  split
  · have pm := relayAll_perm t2 es1 (SetTable.grown es1.size)
    have hf3 := relayAll_fits t2 es1 (SetTable.grown es1.size)
    have hr3 := relayAll_ris t2 es1 (SetTable.grown es1.size)
    have hl3 := relayAll_led t2 es1 (SetTable.grown es1.size)
    generalize relayAll t2 es1 (SetTable.grown es1.size) = Z at pm hf3 hr3 hl3 ⊢
    obtain ⟨es2, t3, gave⟩ := Z
    dsimp only at pm hf3 hr3 hl3 ⊢
    have hsz : es2.size = es1.size := by rw [← Array.length_toList, pm.length_eq, Array.length_toList]
    refine wpAny_bind (hg _ _ _ ?_)
    refine wpAny_bind (wpAny_storeSet_of ho1 rfl ?_ (fits_of_scanBound (by rw [hsz]; exact hb1)))
    have ho2 := store_at (es' := es2) (t' := t3) ho1 rfl
    refine wpAny_pure (hR _ (sb1.trans (Heap.SameBut.update _ a _)) ?_)
    exact ⟨_, es2, _, t3, ho2, hex, rfl, fun e he => g1 e (pm.mem_iff.mp he), (pm.map keyX).nodup_iff.mpr nd1, fun k => (m1 k).trans (pm.map keyX).mem_iff.symm, by rw [hsz]; exact hb1, by rw [hsz]; exact hl1, hf3, hr3,
      hl.imp id fun z => by rw [hl3]; exact z⟩
  · exact wpAny_pure (hR _ sb1 ⟨_, es1, _, t2, ho1, hex, rfl, g1, nd1, m1, hb1, hl1, hf2, hr, hl⟩)
theorem setX_add {k : Str} {tk : Tok} {Q : Bool → Shared → Prop} (R : SetX w s.heap a ks) (room : ks.length + 1 < scanBound)
    (hQ : ∀ b h', Heap.SameBut a s.heap h' → SetX w h' a (ks ++ [k]) → Q b { s with heap := h' }) :
    wpAny (model P w) A (setAddHashed a (.str k tk) ((strKind P w).hash k)) Q E s := by
  obtain ⟨o, es, ep, t, ho, hex, hd, g, nd, hm, hb, hlen, hf, hr, hl⟩ := R
  have hkey : (strKind P w).is k (.str k tk) = true := strKind_is _ _ _ _
  have hsc : (Value.str k tk).scannable = true := rfl
  have hel : ElemsOf (strKind P w) es.toList := goodX_elems g
  unfold setAddHashed setAddHashedIn
  refine wpAny_holding (wpAny_bind (wpAny_setState_of ho hd hf ?_))
  dsimp only
  rw [byScan_of hsc hb hel]
  simp only [↓reduceIte]
  unfold setAddByScan
  refine wpAny_bind ?_
  refine wpAny_bind (wpAny_rule ?_)
  refine wpAny_bind (wpAny_setScan_of hkey ho hd hf hel ?_)
  cases hfi : List.findIdx? (fun e => (strKind P w).is k e.2) es.toList with
  | some j =>
    dsimp only
    obtain ⟨hj, pj, _⟩ := List.findIdx?_eq_some_iff_getElem.mp hfi
    have hk : k ∈ es.toList.map keyX := (goodX_mem (P := P) (w := w) g k).2 ⟨es.toList[j], List.getElem_mem hj, pj⟩
    refine wpAny_pure (wpAny_pure ?_)
    exact hQ _ s.heap (Heap.SameBut.refl a s.heap) ⟨o, es, ep, t, ho, hex, hd, g, nd, fun i => by
      rw [List.mem_append, List.mem_singleton, hm i]
      exact ⟨fun z => z.elim id (fun e => e ▸ hk), .inl⟩, hb, by rw [List.length_append]; omega, hf, hr, hl⟩
  | none =>
    dsimp only
    have hnk : k ∉ es.toList.map keyX := fun z => by
      obtain ⟨e, he, q⟩ := (goodX_mem (P := P) (w := w) g k).1 z
      have c := List.findIdx?_eq_none_iff.mp hfi e he
      rw [q] at c
      cases c
    have hgw : ∀ (b : Bool) {s₁ : Shared} {Q' : Unit → Shared → Prop}, Q' () s₁ → wpAny (model P w) A (match b with | true => rule "set.scan.the-table-gave-way" | false => pure ()) Q' E s₁ :=
      fun b s₁ Q' q => by cases b <;> first | exact wpAny_pure q | exact wpAny_rule q
    have pm := layNew_perm t es ((strKind P w).hash k) (.str k tk)
    have hf1 := layNew_fits t es ((strKind P w).hash k) (.str k tk)
    have hr1 := layNew_ris t es ((strKind P w).hash k) (.str k tk) hr
    have hl1 := layNew_led t es ((strKind P w).hash k) (.str k tk)
    generalize layNew t es ((strKind P w).hash k) (.str k tk) = Z at pm hf1 hr1 hl1 ⊢
    obtain ⟨es1, t1, wasDummy, gave⟩ := Z
    dsimp only at pm hf1 hr1 hl1 ⊢
    rw [Array.toList_push] at pm
    have pc : es1.toList.Perm (((strKind P w).hash k, Value.str k tk) :: es.toList) := pm.trans (List.perm_append_singleton _ _)
    have pk : (es1.toList.map keyX).Perm (k :: es.toList.map keyX) := pc.map keyX
    have g1 : ∀ e ∈ es1.toList, GoodX w e := fun e he => by
      rcases List.mem_cons.mp (pc.mem_iff.mp he) with z | z
      · rw [z]; exact ⟨k, tk, rfl, rfl⟩
      · exact g e z
    have nd1 : (es1.toList.map keyX).Nodup := pk.nodup_iff.mpr (List.nodup_cons.mpr ⟨hnk, nd⟩)
    have m1 : ∀ i, i ∈ ks ++ [k] ↔ i ∈ es1.toList.map keyX := fun i => by
      rw [List.mem_append, List.mem_singleton, hm i, pk.mem_iff, List.mem_cons]
      exact Or.comm
    have hsz : es1.size = es.size + 1 := by rw [← Array.length_toList, pc.length_eq, List.length_cons, Array.length_toList]
    have hb1 : es1.size < scanBound := by omega
    have hln : es1.size ≤ (ks ++ [k]).length := by rw [List.length_append]; show _ ≤ _ + 1; omega
    have hled : w.params.followText "set-order" = true ∨ t1.led = true := hl.imp id fun z => by rw [hl1]; exact z
    refine wpAny_bind (hgw _ ?_)
    split
    · refine wpAny_bind ?_
      rw [hashByValue_scannable 8 hsc]
      refine wpAny_pure ?_
      refine setX_tail ?_ ho hex hd g1 nd1 m1 hb1 hln ?_ ?_ ?_ ?_
      · intro b s₁ Q' q; cases b <;> first | exact wpAny_pure q | exact wpAny_rule q
      · first | (split <;> first | exact hf1 | exact SetTable.fits_plain_off hf1) | exact hf1
      · first | (split <;> exact hr1) | exact hr1
      · first | (split <;> exact hled) | exact hled
      · intro h' sb r; dsimp only; exact wpAny_pure (hQ _ h' sb r)
    · refine wpAny_bind (wpAny_pure ?_)
      simp only [↓reduceIte]
      refine setX_tail ?_ ho hex hd g1 nd1 m1 hb1 hln hf1 hr1 hled ?_
      · intro b s₁ Q' q; cases b <;> first | exact wpAny_pure q | exact wpAny_rule q
      · intro h' sb r; dsimp only; exact wpAny_pure (hQ _ h' sb r)
theorem setX_fresh {h : Heap} {a : Addr} (ho : h.get? a = some { cls := .type "set", dict := none, data := .set #[] 0 (.fresh 0 0 (!w.params.followText "set-order")) }) : SetX w h a [] :=
  ⟨_, #[], 0, _, ho, ⟨rfl, rfl, rfl⟩, rfl, (fun e he => by simp at he), (by simp), (fun k => by simp), (by decide), Nat.le_refl _, (by rfl), List.Pairwise.nil, by
    show _ ∨ (!w.params.followText "set-order") = true
    cases w.params.followText "set-order"
    · exact .inr rfl
    · exact .inl rfl⟩
end
/-! ### set(xs) -/
section
variable {P : Program} {w : World} {A : Around} {R : Result → Shared → Prop} {I : Addr} {fp wr : List Addr} {G : Array GenState → Array GenState → Prop} {n : Nat} {Pv : Nat → Value → Prop} {St : Nat → Shared → Prop}
theorem setX_loop (W : WalksS P w A.in1 I fp wr G n Pv St) (S : Addr) (hSf : S ∉ fp) (ks : List Str) (hn : n = ks.length) (hfew : ks.length < 1000) (hval : ∀ i v, Pv i v → ∃ x t, ks[i]? = some x ∧ v = .str x t) :
    ∀ (k i : Nat) (s : Shared), n - i = k → i ≤ n → St i s → SetX w s.heap S (ks.take i) →
      (∀ s', Moved (S :: wr) G s s' → SetX w s'.heap S ks → R (.ok (.ret .none)) s') →
      codeAny (model P w) A (.builtin "set.update.loop" ⟨[.ref S, .ref I], []⟩) R s := by
  have hSw : S ∉ wr := fun h => hSf (W.sub _ h)
  have hsub : ∀ b ∈ wr, b ∈ S :: wr := fun b hb => List.mem_cons_of_mem _ hb
  intro k
  induction k with
  | zero =>
    intro i s hk hi hst hS hR
    have hin : i = n := by omega
    subst hin
    refine codeAny_builtin F.entry_set_update_loop ?_
    rw [Around.under_plainId F.plain_set_update_loop _]
    show wpAny _ A.in1 (pyNext (.ref I) >>= _) _ _ s
    refine wpAny_bind (W.done s _ _ hst fun s' hm => ?_)
    show wpAny _ A.in1 (ret Value.none) _ _ s'
    rw [hn, List.take_length] at hS
    exact wpAny_pure (hR s' (hm.mono hsub) (hS.at fun o e => hm.heap S o hSw e))
  | succ k ih =>
    intro i s hk hi hst hS hR
    have hlt : i < n := by omega
    refine codeAny_builtin F.entry_set_update_loop ?_
    rw [Around.under_plainId F.plain_set_update_loop _]
    show wpAny _ A.in1 (pyNext (.ref I) >>= _) _ _ s
    refine wpAny_bind (W.item i s _ _ hlt hst fun v s' hP hst' hm => ?_)
    obtain ⟨x, t, ex, rfl⟩ := hval i v hP
    have hS' : SetX w s'.heap S (ks.take i) := hS.at fun o e => hm.heap S o hSw e
    show wpAny _ A.in1 (holding [Value.str x t] (setAdd S (.str x t)) >>= _) _ _ s'
    refine wpAny_bind (wpAny_holding ?_)
    unfold setAdd
    refine wpAny_holding ?_
    refine wpAny_bind ((strKind P w).pyHash (k := x) (strKind_is _ _ _ _) ?_)
    refine setX_add (s := { s' with toks := s'.toks + 1 }) hS' (by rw [List.length_take]; unfold scanBound; omega) fun b h' hsb hS2 => ?_
    have e2 : ks.take i ++ [x] = ks.take (i + 1) := by rw [List.take_add_one, ex] <;> rfl
    rw [e2] at hS2
    refine wpAny_pure ⟨plainId_quiet F.plain_set_update_loop _, ih (i + 1) _ (by omega) hlt (W.frame _ s' _ _ hst' (Nat.le_succ _) fun b hb o e => ?_) hS2 fun s'' hm'' hS'' => ?_⟩
    · rw [hsb.2 b (fun h : b = S => hSf (by rw [← h]; exact hb))]; exact e
    · refine hR s'' (Moved.trans W.gtrans ((hm.mono hsub).then_heap (Nat.le_succ _) fun b o hb e => ?_) hm'') hS''
      rw [hsb.2 b (fun h : b = S => hb (by rw [h]; exact List.mem_cons_self))]; exact e
end
section
variable {P : Program} {w : World} {A : Around} {E : Value → Shared → Prop} {s : Shared}
theorem call_setX {l : Addr} {items : Array Value} {ks : List Str} {Q : Value → Shared → Prop} (hh : A.handled = none) (hl : s.heap.IsList l items) (hit : StrsAre items.toList ks) (hfew : ks.length < 1000)
    (h : ∀ (h' : Heap) (tk : Nat), SetX w h' s.heap.objs.size ks → (∀ b o, s.heap.get? b = some o → h'.get? b = some o) → Q (.ref s.heap.objs.size) { s with heap := h', toks := tk }) :
    wpAny (model P w) A (call (.type "set") [.ref l]) Q E s := by
  have hisz : items.size = ks.length := by rw [← Array.length_toList]; exact StrsAre.len_eq hit
  obtain ⟨c, tl, hmro⟩ := F.called_set.mro
  have hmade := F.called_set.made
  have hsub := F.called_set.sub
  refine wpAny_call (codeAny_of_tree ?_)
  show wpAny _ _ (callAny (.type "set") _) _ _ _
  refine wpAny_pure ⟨Code.quiet_builtin _ (by decide +kernel), codeAny_builtin F.entry_type_call ?_⟩
  rw [Around.under_plain (weight_type_call_type "set" [.ref l] []) rfl]
  have h1 := F.called_set.notType
  have h2 := F.called_set.canCreate
  have hct := F.typeCall_set_1 (.ref l)
  repeat (any_goals (first | assumption | wp_step))
  refine codeAny_mono (code_set_led1 (.ref l) (E := E) (Q₁ := fun obj s₁ => obj = .ref s.heap.objs.size ∧ s₁ = { s with heap := s.heap.push { cls := .type "set", dict := none, data := .set #[] 0 (.fresh 0 0 (!w.params.followText "set-order")) } }) ⟨rfl, rfl⟩) fun r s₁ hr => ?_
  cases r with
  | error e => exact hr
  | ok fl =>
    cases fl with
    | ret obj =>
      obtain ⟨rfl, rfl⟩ := hr
      have hS : (s.heap.push { cls := .type "set", dict := none, data := .set #[] 0 (.fresh 0 0 (!w.params.followText "set-order")) }).get? s.heap.objs.size = some { cls := .type "set", dict := none, data := .set #[] 0 (.fresh 0 0 (!w.params.followText "set-order")) } := Heap.get?_push_size _ rfl
      have hT : Shared.TypeIs { s with heap := s.heap.push { cls := .type "set", dict := none, data := .set #[] 0 (.fresh 0 0 (!w.params.followText "set-order")) } } (.ref s.heap.objs.size) "set" := ⟨_, hS, rfl⟩
      have hli := F.called_set.init.lookup
      have hbi := F.called_set.init.bind (.ref s.heap.objs.size)
      repeat (any_goals (first | assumption | wp_step))
      refine codeAny_mono (codeAny_call_builtin (R := wants (fun r s₂ => r = .none ∧ ∃ h' tk, s₂ = { s with heap := h', toks := tk } ∧ SetX w h' s.heap.objs.size ks ∧ (∀ b o, s.heap.get? b = some o → h'.get? b = some o)) E) F.called_set.init.plain F.entry_set_init (check_set_init_1 hT ?_)) fun r₂ s₂ hr₂ => ?_
      · obtain ⟨ol, hol, hcl, nl, hdl⟩ := hl
        obtain ⟨ocls, odict, odata, oslots⟩ := ol
        simp only at hcl hdl
        subst hcl; subst hdl
        have hol' : (s.heap.push { cls := .type "set", dict := none, data := .set #[] 0 (.fresh 0 0 (!w.params.followText "set-order")) }).get? l = some { cls := .type "list", dict := odict, data := .seq items nl, slots := oslots } := Heap.get?_push_of_some _ hol
        have hsls := F.sub_list_set
        have hslf := F.sub_list_frozenset
        have hne : (Value.type "list" == Value.type "dict") = false := by decide
        have hl1 : (s.heap.push { cls := .type "set", dict := none, data := .set #[] 0 (.fresh 0 0 (!w.params.followText "set-order")) }).IsList l items := ⟨_, hol', rfl, nl, rfl⟩
        unfold Builtin.«set.__init__» noKeywords Builtin.Frozenset.updateFrom
        generalize hPI : pyIter = PI
        wp_walk
        subst hPI
        refine wpAny_pyIter_list hl1 ?_
        refine wpAny_bind (wpAny_runValue ?_)
        have hlS : l < s.heap.objs.size := Heap.lt_size hol
        have hh3 : A.in1.in1.in1.handled = none := by simp [hh]
        have hneI : l ≠ (s.heap.push { cls := .type "set", dict := none, data := .set #[] 0 (.fresh 0 0 (!w.params.followText "set-order")) }).objs.size := by
          rw [Heap.size_push]; exact Nat.ne_of_lt (Nat.lt_succ_of_lt hlS)
        have hSf : s.heap.objs.size ∉ [(s.heap.push { cls := .type "set", dict := none, data := .set #[] 0 (.fresh 0 0 (!w.params.followText "set-order")) }).objs.size, l] := by
          rw [Heap.size_push]; simp only [List.mem_cons, List.mem_singleton, List.not_mem_nil, or_false, not_or]
          exact ⟨Nat.ne_of_lt (Nat.lt_succ_self _), Nat.ne_of_gt hlS⟩
        have hval : ∀ (i : Nat) (v : Value), items[i]? = some v → ∃ x t, ks[i]? = some x ∧ v = .str x t := fun i v hv => by
          obtain ⟨t, e⟩ := SS.strs_at hit i v (by rw [Array.getElem?_toList]; exact hv)
          have hi : i < ks.length := by rw [← hisz]; exact (Array.getElem?_eq_some_iff.mp hv).1
          refine ⟨_, t, List.getElem?_eq_getElem hi, ?_⟩
          rw [e, List.getD_eq_getElem?_getD, List.getElem?_eq_getElem hi] <;> rfl
        refine setX_loop ((Walks.list hh3 _ l hneI items).toS) s.heap.objs.size hSf ks hisz hfew hval (items.size - 0) 0 _ (by omega) (Nat.zero_le _)
          ⟨⟨_, Heap.get?_push_size _ rfl, rfl, rfl⟩, (hl1.push _)⟩ ?hS0 ?hR
        case hS0 =>
          exact setX_fresh (Heap.get?_push_of_some _ hS)
        case hR =>
          intro s' hm hS'
          obtain ⟨h', g2, d', tk', os'⟩ := s'
          have eg : g2 = s.gens := hm.gens
          have ed : d' = s.drawn := hm.drawn
          have eo : os' = s.os := hm.os
          subst eg; subst ed; subst eo
          show wpAny _ _ _ _ _ _
          refine wpAny_pure ?_
          show wpAny _ _ (ret Value.none) _ _ _
          refine wpAny_pure ⟨rfl, h', tk', rfl, hS', fun b o e => ?_⟩
          have hb := Heap.lt_size e
          have hb1 : b ≠ s.heap.objs.size := Nat.ne_of_lt hb
          have hb2 : b ≠ (s.heap.push { cls := .type "set", dict := none, data := .set #[] 0 (.fresh 0 0 (!w.params.followText "set-order")) }).objs.size := by
            rw [Heap.size_push]; exact Nat.ne_of_lt (Nat.lt_succ_of_lt hb)
          exact hm.heap b o (by simp only [List.mem_cons, List.mem_singleton, List.not_mem_nil, or_false, not_or]; exact ⟨hb1, hb2⟩) (Heap.get?_push_of_some _ (Heap.get?_push_of_some _ e))
      · cases r₂ with
        | error e => exact hr₂
        | ok fl₂ =>
          cases fl₂ with
          | ret r =>
            obtain ⟨rfl, h', tk, rfl, hS', hk'⟩ := hr₂
            repeat (any_goals (first | assumption | wp_step))
            exact h _ _ hS' hk'
          | _ => exact hr₂.elim
    | _ => exact hr.elim
end
end Lc
set_option Elab.async false
set_option linter.all false
set_option maxRecDepth 100000
set_option maxHeartbeats 4000000
namespace Lc
open PySem PySem.Spec PyProof.Rows L2
/-! ## sorted(set(xs)), xs a list of texts -/
def SetXO (w : World) (a : Addr) (ks : List Str) : HO := .ext fun h => SetX w h a ks
theorem setXO_new {P : Program} {w : World} {H : Hp} {h : Heap} {a : Addr} {ks : List Str} (R : SetX w h a ks) : ObjOk P w H h a (SetXO w a ks) := by
  have ⟨o, es, ep, t, ho, r⟩ := R
  refine ⟨R, ⟨o, ho⟩, fun h1 h2 p k => ?_⟩
  exact SetX.at (show SetX w h1 a ks from p) k
theorem strs_vals : ∀ {ks : List Str} {us : List Value}, Vals (ks.map V.str) us → StrsAre us ks
  | [], _, .nil => .nil
  | k :: ks, _, .cons r t => by
    obtain ⟨tk, rfl⟩ := r
    exact .cons _ _ (strs_vals t)
section
variable {P : Program} {w : World} {A : Around} {E : Value → Shared → Prop} {s : Shared} {a : Addr} {ks : List Str}
theorem strs_key : ∀ (l : List Value), (∀ v ∈ l, ∃ k tk, v = Value.str k tk) → StrsAre l (l.map fun v => keyX (0, v))
  | [], _ => .nil
  | v :: l, h => by
    obtain ⟨k, tk, rfl⟩ := h v List.mem_cons_self
    exact .cons k tk (strs_key l fun u hu => h u (List.mem_cons_of_mem _ hu))
theorem sorted_setX {Q : Value → Shared → Prop} (R : SetX w s.heap a ks) (hh : A.handled = none) (h64 : ks.length < 64)
    (hQ : ∀ s' p (out : Array Value) (c : Nat) (ys : List Str), (∀ b o, s.heap.get? b = some o → s'.heap.get? b = some o) → s'.gens = s.gens → s'.os = s.os → s.heap.objs.size ≤ p →
      s'.heap.get? p = some (seqObj "list" out c) → StrsAre out.toList ys → sortedS ys = true → ys.Nodup → (∀ k, k ∈ ys ↔ k ∈ ks) → ys.length < 64 → Q (.ref p) s') :
    wpAny (model P w) A (call (.builtin "sorted") [.ref a]) Q E s := by
  obtain ⟨o, es, ep, t, ho, hex, hd, g, nd, hm, hb, hlen, hf, hr, hl⟩ := R
  refine Calls.call_function_entry kind_sorted plain_sorted entry_sorted (args_sorted1 _) ?_
  unfold Builtin.«sorted»
  refine wpAny_bind (m := checkCount "sorted" 1 1 _) (wpAny_pure ?_)
  refine wpAny_bind (collect_set (A := A.in1) hh ⟨o, ho, hex.1, hd⟩ hf hb hr hl fun s1 vs k1 hz g1 o1 pm => ?_)
  have hvl : vs.length = es.size := by rw [pm.length_eq, List.length_map, Array.length_toList]
  have hI : StrsAre vs (vs.map fun v => keyX (0, v)) := strs_key vs fun v hv => by
    obtain ⟨e, he, q⟩ := List.mem_map.mp (pm.mem_iff.mp hv)
    obtain ⟨k, tk, h1, _⟩ := g e he
    exact ⟨k, tk, by rw [← q]; exact h1⟩
  have pk : (vs.map fun v => keyX (0, v)).Perm (es.toList.map keyX) := by
    have q := pm.map fun v => keyX (0, v)
    rw [List.map_map] at q
    exact q
  refine wpAny_bind (wpAny_newList ?_ (by rw [hvl, sizeLine_eq]; omega))
  have hoL : (s1.heap.push (seqObj "list" vs.toArray 0)).get? s1.heap.objs.size = some (seqObj "list" vs.toArray 0) := Heap.get?_push_size _ rfl
  refine wpAny_bind (wpAny_holding (wpAny_call_entry slot_list_sort ⟨_, hoL, rfl⟩ entry_list_sort
    (list_sort_treeK strKind_oneLt (s := { s1 with heap := s1.heap.push (seqObj "list" vs.toArray 0) }) hoL hI.keysOf (fun v₁ v₂ rest e => keyKind_strs (by rw [← e]; exact hI)) (by rw [hvl]; omega) fun st' hp hs => ⟨_, rfl, ?_⟩) (args_list_sort _)))
  obtain ⟨ys, q1, q2, q3⟩ := sorted_out_str hI hp hs
  obtain ⟨c, hc⟩ := sortedHeap_at (vs := vs) (out := (arrOf st').map (·.2)) hoL
  have pn : ys.Perm (es.toList.map keyX) := q2.trans pk
  refine wpAny_pure ⟨_, rfl, hQ _ s1.heap.objs.size ((arrOf st').map (·.2)) c ys (fun b u e => ?_) g1 o1 hz hc q1 q3 (pn.nodup_iff.mpr nd) (fun k => by rw [pn.mem_iff, ← hm k]) ?_⟩
  · have q := k1 b u e
    have hlt := Heap.lt_size q
    rw [sortedHeap_old (Nat.ne_of_lt hlt) (by rw [size_push']; exact Nat.lt_succ_of_lt hlt)]
    exact Heap.get?_push_of_some _ q
  · rw [pn.length_eq, List.length_map, Array.length_toList]; omega
end
section
variable {X : Cx}
def rSetX (K : PySem.W.Frag) (w : World) : List V → Hp → VK → Prop := fun xs H Q => ∃ (l : Addr) (ks : List Str), xs = [V.ref l] ∧ SqL K H l (ks.map V.str) ∧ ks.length < 1000 ∧ ∀ a, H a = none → Q (.ref a) (upd H a (SetXO w a ks))
theorem cr_setX (hc : X.calm = true) : CallR X (.type "set") (rSetX X.K X.w) := by
  intro pins s σ H xs us Q I r h
  obtain ⟨l, ks, rfl, hl, hf, q⟩ := h
  rw [Vals.ref1 r]
  obtain ⟨its, rv, pl, hz⟩ := I.list hl
  have hn : H s.heap.objs.size = none := I.hok.fresh (Nat.le_refl _)
  refine call_setX (P := X.prog) (w := X.w) (I.ok.hd hc) pl.isList (by simpa using strs_vals rv) hf fun h' tk R k => ?_
  exact ⟨.ref s.heap.objs.size, upd H s.heap.objs.size (SetXO X.w s.heap.objs.size ks), I.laid (t' := tk) k (Nat.le_refl _) (setXO_new R), rfl, q _ hn⟩
def rSortX (w : World) : List V → Hp → VK → Prop := fun vs H Q => ∃ (a : Addr) (ks : List Str), vs = [V.ref a] ∧ H a = some (SetXO w a ks) ∧ ks.length < 64 ∧
  ∀ (ys : List Str) (p : Addr), sortedS ys = true → ys.Nodup → (∀ k, k ∈ ys ↔ k ∈ ks) → H p = none → Q (.ref p) (upd H p (.lst (ys.map V.str)))
theorem cr_sortX (hc : X.calm = true) : CallR X (.builtin "sorted") (rSortX X.w) := by
  intro pins s σ H vs us Q I r h
  obtain ⟨a, ks, rfl, ha, h64, q⟩ := h
  have R0 : SetX X.w s.heap a ks := (I.hok a _ ha).1
  rw [Vals.ref1 r]
  refine sorted_setX R0 (I.ok.hd hc) h64 fun s' p out c ys k g o hp hg hout so nd mem few => ?_
  have hlen : (ys.map V.str).length ≤ sizeLine := by rw [List.length_map, sizeLine_eq]; omega
  have hn : H p = none := I.hok.fresh hp
  have J : Inv X pins σ (upd H p (.lst (ys.map V.str))) { s with heap := s'.heap, gens := s'.gens, drawn := s'.drawn, toks := s'.toks } :=
    I.call (ch := []) (Un.laid k hp hn) (I.hok.laid k hp ⟨hlen, out.toList, c, vals_of_strs hout, hg⟩) (by rw [g]; exact I.bare) (fun _ z => nomatch z)
  have e : s' = { s with heap := s'.heap, gens := s'.gens, drawn := s'.drawn, toks := s'.toks } := by
    cases s'
    cases s
    cases o
    rfl
  rw [e]
  exact ⟨.ref p, _, J, rfl, q ys p so nd mem hn⟩
end
end Lc
set_option Elab.async false
set_option linter.all false
set_option maxRecDepth 100000
set_option maxHeartbeats 4000000
namespace Lc
open PySem PySem.Spec PyProof.Rows L2
/-! ## xs[::c], c a written number: some of the list's items -/
theorem vals_pick {xs : List V} {its : List Value} (r : Vals xs its) : ∀ (l : List Nat), Vals (l.filterMap fun i => xs[i]?) (l.filterMap fun i => its.toArray[i]?)
  | [] => .nil
  | i :: l => by
    have ih := vals_pick r l
    have hlen := r.length
    rw [List.filterMap_cons, List.filterMap_cons]
    have e : its.toArray[i]? = its[i]? := by simp
    rw [e]
    rcases Nat.lt_or_ge i xs.length with h | h
    · obtain ⟨u, eu, ru⟩ := r.get (List.getElem?_eq_getElem h)
      rw [eu, List.getElem?_eq_getElem h]
      exact .cons ru ih
    · rw [List.getElem?_eq_none h, List.getElem?_eq_none (by omega)]
      exact ih
def tStepL (K : PySem.W.Frag) (te : TE) : TE := fun σ H Q => te σ H fun x H1 => ∃ a xs, x = .ref a ∧ SqL K H1 a xs ∧ ∀ p ys, (∀ y ∈ ys, y ∈ xs) → H1 p = none → Q (.ref p) (upd H1 p (.lst ys))
section
variable {X : Cx}
theorem pe_stepL {e : Expr} {te : TE} {k : Nat} {c : Int} {p1 p3 pos : Pos} (he : PE X e te) (hc : c ≠ 0 := by decide) : PE X (.Subscript e (.Slice none none (some (.Constant (.int c) k p1)) p3) pos) (tStepL X.K te) := by
  refine ⟨fun pins s σ H Q I h => ?_⟩
  refine Subscript_ (thn (he.run pins s σ H _ I h) fun v s1 ⟨x, H1, I1, r1, q1⟩ => ?_)
  obtain ⟨a, xs, ex, hx, q⟩ := q1
  subst ex
  cases r1
  have hst : PO X (some (.Constant (.int c) k p1)) (tPart (tC (.int c))) := po_some pe_int
  refine wpAny_Slice (thn (po_none.run pins s1 σ H1 (fun o H2 => o = none ∧ H2 = H1) I1 ⟨rfl, rfl⟩) fun vl s2 ⟨l, H2, I2, pl, el, e2⟩ => ?_)
  subst el e2
  refine thn (po_none.run pins s2 σ H2 (fun o H3 => o = none ∧ H3 = H2) I2 ⟨rfl, rfl⟩) fun vu s3 ⟨u, H3, I3, pu, eu, e3⟩ => ?_
  subst eu e3
  refine thn (hst.run pins s3 σ H3 (fun o H4 => o = some c ∧ H4 = H3) I3 ⟨c, rfl, rfl, rfl⟩) fun vs s4 ⟨o, H4, I4, ps, eo, e4⟩ => ?_
  subst eo e4
  have I5 : Inv X pins σ H4 { s4 with heap := s4.heap.push { cls := .type "slice", data := .fields #[vl, vu, vs] } } := I4.kept (t' := s4.toks) fun b ob q => Heap.get?_push_of_some _ q
  obtain ⟨its, r, ht, hz⟩ := I5.list hx
  have hlen := r.length
  show wpAny (model X.prog X.w) X.A (subscriptTail e (.Slice none none (some (.Constant (.int c) k p1)) p3) (.ref a) (.ref s4.heap.objs.size)) (EP X pins σ Q) X.xe { s4 with heap := s4.heap.push { cls := .type "slice", data := .fields #[vl, vu, vs] } }
  refine tail_any (ops := [.ref a, .ref s4.heap.objs.size]) ht.isList.typeIs (PySem.slot_list_getitem.lookup) ?_ (by with_unfolding_all rfl)
  refine wpAny_getItem_list_slice ht.isList (Heap.IsSliceOf.new _ vl vu vs) pl pu ps (by intro z; exact hc (Option.some.inj z)) ?_ (by rw [List.size_toArray]; omega)
  have small := slicePick_size_le its.toArray none none (some c)
  obtain ⟨idx, hidx⟩ : ∃ l : List Nat, slicePick its.toArray none none (some c) = (l.filterMap fun i => its.toArray[i]?).toArray := ⟨_, rfl⟩
  rw [hidx] at small ⊢
  have rv := vals_pick r idx
  have hl2 := rv.length
  rw [List.size_toArray, List.size_toArray] at small
  refine ⟨.ref _, _, I5.laid (t' := s4.toks) (o := .lst (idx.filterMap fun i => xs[i]?)) (fun b ob q => Heap.get?_push_of_some _ q) (Nat.le_refl _) ?_, rfl, q _ _ (fun y hy => ?_) (I5.hok.fresh (Nat.le_refl _))⟩
  · exact ⟨by omega, _, 0, rv, Heap.get?_push_size _ rfl⟩
  · obtain ⟨i, _, e⟩ := List.mem_filterMap.mp hy
    exact List.mem_of_getElem? e
end
end Lc
set_option Elab.async false
set_option linter.all false
set_option maxRecDepth 100000
set_option maxHeartbeats 4000000
namespace Lc
open PySem PySem.Spec PyProof.Rows L2
/-! ## repr of lists and tuples that hold dicts with text keys -/
mutual
inductive Dd (H : Hp) : V → PyData → Prop
  | base {v : V} {d : PyData} (h : Dh H v d) : Dd H v d
  | dct {a : Addr} {kvs : List (Key × V)} {es : List (PyData × PyData)} (e : H a = some (.dK kvs)) (h : DdKv H kvs es) : Dd H (.ref a) (.dict es)
  | lst {a : Addr} {xs : List V} {ds : List PyData} (e : H a = some (.lst xs)) (h : DdAll H xs ds) : Dd H (.ref a) (.list ds)
  | tup {a : Addr} {xs : List V} {ds : List PyData} (e : H a = some (.tup xs)) (h : DdAll H xs ds) : Dd H (.ref a) (.tuple ds)
inductive DdAll (H : Hp) : List V → List PyData → Prop
  | nil : DdAll H [] []
  | cons {v : V} {vs : List V} {d : PyData} {ds : List PyData} (h : Dd H v d) (r : DdAll H vs ds) : DdAll H (v :: vs) (d :: ds)
inductive DdKv (H : Hp) : List (Key × V) → List (PyData × PyData) → Prop
  | nil : DdKv H [] []
  | cons {z : Str} {v : V} {kvs : List (Key × V)} {d : PyData} {es : List (PyData × PyData)} (h : Dd H v d) (r : DdKv H kvs es) : DdKv H ((Sum.inr z, v) :: kvs) ((.str z, d) :: es)
end
section
variable {X : Cx} {pins : List (Addr × Obj)} {σ : L2.St} {H : Hp} {s : Shared}
mutual
theorem Dd.reads (I : Inv X pins σ H s) (sm : H sysModules = none) : ∀ {v : V} {d : PyData}, Dd H v d → ∀ u : Value, RelV v u → ∃ as, Reads s.heap u d as ∧ sysModules ∉ as
  | v, d, .base h, u, r => Dh.reads I sm d v u h r
  | .ref a, .dict es, .dct e h, u, r => by
    obtain rfl : u = Value.ref a := r
    obtain ⟨_, ns, vs, kv, o, de, ep, h1, h2, h3, _, hp, _⟩ := (show ObjOk X.prog X.w H s.heap a (.dK _) from I.hok a _ e)
    obtain ⟨as, bs, q1, q2, n1, n2⟩ := DdKv.reads I sm h vs kv de.toList hp
    refine ⟨_, Reads.dict h1 h2.1 h3 q1 q2, fun hm => ?_⟩
    rcases List.mem_append.mp hm with hm | hm
    · rcases List.mem_cons.mp hm with hm | hm
      · rw [hm, e] at sm; cases sm
      · exact n1 hm
    · exact n2 hm
  | .ref a, .list ds, .lst e h, u, r => by
    obtain rfl : u = Value.ref a := r
    obtain ⟨its, rv, ⟨o, n, ho, hc, _, hd⟩, _⟩ := I.list (SqL.of e)
    obtain ⟨as, hr, hn⟩ := DdAll.reads I sm h its rv
    refine ⟨_, Reads.list ho hc hd hr, fun hm => ?_⟩
    rcases List.mem_cons.mp hm with q | q
    · rw [q, e] at sm; cases sm
    · exact hn q
  | .ref a, .tuple ds, .tup e h, u, r => by
    obtain rfl : u = Value.ref a := r
    obtain ⟨its, rv, ⟨o, ho, hc, n, hd⟩, _⟩ := I.tuple (SqT.of e)
    obtain ⟨as, hr, hn⟩ := DdAll.reads I sm h its rv
    exact ⟨_, Reads.tuple ho hc hd hr, hn⟩
theorem DdAll.reads (I : Inv X pins σ H s) (sm : H sysModules = none) : ∀ {vs : List V} {ds : List PyData}, DdAll H vs ds → ∀ us : List Value, Vals vs us → ∃ as, ReadsAll s.heap us ds as ∧ sysModules ∉ as
  | _, _, .nil, us, r => by
    cases r
    exact ⟨_, ReadsAll.nil, List.not_mem_nil⟩
  | _, _, .cons h1 h2, us, r => by
    cases r with
    | cons r1 r2 =>
      obtain ⟨as, q1, n1⟩ := Dd.reads I sm h1 _ r1
      obtain ⟨bs, q2, n2⟩ := DdAll.reads I sm h2 _ r2
      exact ⟨_, ReadsAll.cons q1 q2, fun hm => (List.mem_append.mp hm).elim n1 n2⟩
theorem DdKv.reads (I : Inv X pins σ H s) (sm : H sysModules = none) : ∀ {kvs : List (Key × V)} {es : List (PyData × PyData)}, DdKv H kvs es → ∀ (vs : List (Key × Value)), KV kvs vs → ∀ l : List DictEntry, Pairs (mixKind X.prog X.w) l vs →
    ∃ as bs, ReadsAll s.heap (l.map (·.key)) (es.map (·.1)) as ∧ ReadsAll s.heap (l.map (·.val)) (es.map (·.2)) bs ∧ sysModules ∉ as ∧ sysModules ∉ bs
  | _, _, .nil, vs, kv, l, hp => by
    cases kv
    cases hp
    exact ⟨_, _, ReadsAll.nil, ReadsAll.nil, List.not_mem_nil, List.not_mem_nil⟩
  | _, _, @DdKv.cons _ z _ _ _ _ h1 h2, vs, kv, l, hp => by
    cases kv with
    | cons k1 k2 =>
      cases hp with
      | @cons e _ _ _ p1 p2 p3 =>
        obtain ⟨as, bs, q1, q2, n1, n2⟩ := DdKv.reads I sm h2 _ k2 _ p3
        obtain ⟨cs, q3, n3⟩ := Dd.reads I sm h1 _ k1.2
        have p1' := p1
        rw [← k1.1] at p1'
        have p1' : keyIs (Sum.inr z) e.key = true := p1'
        have ek : ∃ t, e.key = Value.str z t := by
          rcases keyIs_shape p1' with ⟨i, t, e1, e2⟩ | ⟨x, t, e1, e2⟩
          · cases e1
          · cases e1
            exact ⟨t, e2⟩
        obtain ⟨t, ek⟩ := ek
        rw [← p2] at q3
        refine ⟨_, _, ReadsAll.cons (show Reads s.heap e.key (.str z) [] by rw [ek]; exact Reads.str _ t) q1, ReadsAll.cons q3 q2, ?_, fun hm => (List.mem_append.mp hm).elim n3 n2⟩
        exact fun hm => (List.mem_append.mp hm).elim (fun z => by cases z) n1
end
end
def rReprD2 : List V → Hp → VK → Prop := fun xs H Q => ∃ (a : Addr) (d : PyData), xs = [.ref a] ∧ Dd H (.ref a) d ∧ d.showable = true ∧ d.depth ≤ 60 ∧ d.shown.length ≤ sizeLine ∧ Q (.str d.shown) H
theorem call_reprD2 {X : Cx} (sm : SmK X.K) (hg : X.A.guards = some []) (hu : X.A.units + 64 < cLine) : CallR X (.builtin "repr") rReprD2 := by
  intro pins s σ H xs us Q I r h
  obtain ⟨a, d, rfl, hd, h1, h3, h4, q⟩ := h
  obtain ⟨u, rfl, ru⟩ := vals1 r
  obtain ⟨o, sm⟩ := sm
  have sm1 : H sysModules = none := (I.bs _ _ (I.ok.mod.kin _ _ sm)).2
  obtain ⟨as, rd, ns⟩ := Dd.reads I sm1 hd _ ru
  obtain rfl : u = Value.ref a := ru
  exact repr_of_reads' rd h1 (fun _ => ns) hg (by omega) (fun _ _ e => e) (fun h' u tk hk => ⟨.str _, H, I.kept (t' := tk) hk, ⟨u, rfl⟩, q⟩) h4
end Lc
set_option Elab.async false
set_option linter.all false
set_option maxRecDepth 100000
set_option maxHeartbeats 4000000
namespace Lc
open PySem PySem.Spec PyProof.Rows L2
/-! ## f(k = v, ..), keywords only -/
section
variable {X : Cx} {CX : CXT} {k : Nat} {f : Addr} {fd : FuncData} {ps ks : List Str} {sp : Sp} {E : XK} {x : Str} {p pos : Pos} {kws : List Keyword} {tk : TA} {g : List Value → List Value → List Value} {gV : List V → List V → List V}
theorem pe_callKO (F : FnOk X.prog X.w X.K X.mg X.base CX k f fd ps sp) (hr : Room k X.A) (hg : Gl X x) (hm : X.mg x = some (.ref f)) (hk : PySem.W.keepIn X.K (.ref f) = true) (hb : KBinds X.K fd ps ks g gV) (hx : Passes CX X E)
    (hkw : PK X kws tk) (hall : (backToKw pos (keywordEach kws X.env)).all (·.1.isSome) = true := by rfl) (hks : (backToKw pos (keywordEach kws X.env)).filterMap (·.1) = ks := by rfl)
    (hdb : (x == ("__debug__" : Str)) = false := by decide) (hpl : ((backTo pos (starEach [] X.env)).any (·.1) || (backToKw pos (keywordEach kws X.env)).any (·.1.isNone)) = false := by rfl) : PE X (.Call (.Name x p) [] kws pos) (tCallK sp gV E tNil tk) := by
  refine ⟨fun pins s σ H Q I h => ?_⟩
  refine wpAny_Call_Name_kw (ld_glob I hg hm ?_ hdb)
  refine PySem.W.callWith_KW0 (h₀ := X.base) I.ok.mod.kin hk hall (thn (hkw.run pos pins s σ H _ I h) fun ws s2 ⟨zs, H2, I2, rz, q2⟩ => ⟨I2.kIn, ?_⟩) hpl
  rw [hks]
  exact run_fnk F hr hb hx I2 .nil rz q2
end
end Lc
set_option Elab.async false
set_option linter.all false
set_option maxRecDepth 100000
set_option maxHeartbeats 4000000
namespace K71
open PySem PySem.Spec PyProof.Rows L2 Lc
def top (i : Nat) : Stmt := PySem.Challenge.pw_liveclaims_k71_merged_cells.main.body.getD i (.Pass ⟨0, 0, 0, 0⟩)
abbrev sWhole : Stmt := top 1
def spWhole : Sp := fun vs H Q _ => ∃ (v : V) (t : String), vs = [v] ∧ TyN H v t ∧ Q (.bl (t == "int")) H
section
variable {P : Program} {w : World} {K : PySem.W.Frag} {mg : Str → Option Value} {base : Heap} {f C : Addr} {fd : FuncData}
theorem scWhole : FnScope ["value"] ["value"] (defScope sWhole) := ⟨rfl, rfl, rfl, by decide +kernel, rfl, by decide +kernel, by decide +kernel⟩
theorem ok_whole (F : Fun K "is_whole" "is_whole" sWhole f fd) (T : Bt mg) : FnOk P w K mg base CX0 1 f fd ["value"] spWhole := by
  refine F.ok scWhole (fun vs H Q E h => ?_) (fun cdv A outer s H vs Q E hr h => ?_)
  · obtain ⟨v, t, rfl, _⟩ := h
    rfl
  · obtain ⟨v, t, rfl, ty, k⟩ := h
    refine ⟨_, pss_one (ps_ret (pe_and (pe_callB call_isi (by rfl) T.isi boot_isinstance (pa_cons (pv 0) (pa_cons (pe_bltn (v := .ty "int") (by rfl) T.int boot_int rfl) pa_nil)))
      (pe_one (pe_not (pe_callB call_isi (by rfl) T.isi boot_isinstance (pa_cons (pv 0) (pa_cons (pe_bltn (v := .ty "bool") (by rfl) T.bool boot_bool rfl) pa_nil))))))), ?_⟩
    refine ⟨_, rfl, v, .ty "int", _, _, _, rfl, .ty "int", ty.x, kit_int ty.mem, _, rfl, ?_⟩
    refine ite2 (fun hi => ?_) (fun hi => ?_)
    · refine ⟨_, rfl, v, .ty "bool", _, _, _, rfl, .ty "bool", ty.x, kit_bool ty.mem, _, rfl, ?_⟩
      have e : (!(t == "bool")) = (t == "int") := by cases ty <;> first | rfl | exact absurd hi (by decide)
      show Q (.bl (!(t == "bool"))) H
      rw [e]
      exact k
    · have e : false = (t == "int") := by cases ty <;> first | rfl | exact absurd rfl hi
      show Q (.bl false) H
      rw [e]
      exact k
end
abbrev sTape : Stmt := top 9
section
variable {P : Program} {w : World} {K : PySem.W.Frag} {mg : Str → Option Value} {base : Heap} {f : Addr} {fd : FuncData}
theorem scTape : FnScope ["_law_script"] ["_law_script"] (defScope sTape) := ⟨rfl, rfl, rfl, by decide +kernel, rfl, by decide +kernel, by decide +kernel⟩
theorem ok_tape (F : Fun K "_law_tape" "_law_tape" sTape f fd) (T : Bt mg) : FnOk P w K mg base CX0 1 f fd ["_law_script"] (spTape K) := by
  refine F.ok scTape (fun vs H Q E h => ?_) (fun cdv A outer s H vs Q E hr h => ?_)
  · obtain ⟨a, ns, rfl, _⟩ := h
    rfl
  · obtain ⟨a, ns, rfl, hS, k⟩ := h
    refine ⟨_, pss_one (ps_ret (pe_lst (pa_cons (pe_callTy call_list_of (by rfl) T.list boot_list (pa_cons (pe_slice sl_list (pv 0) po_none (po_some pe_int)) pa_nil)) (pa_cons pe_int (pa_cons pe_int (pa_cons pe_int pa_nil)))))), ?_⟩
    obtain ⟨ms, e⟩ := cut_ints ns none (some 63)
    refine ⟨_, rfl, _, rfl, a, _, rfl, hS, fun p hp => ⟨p, _, rfl, .inl (SqL.of upd_same), fun l hl => ⟨by show 4 ≤ sizeLine; decide, fun t ht => ?_⟩⟩⟩
    have s1 : Same H (upd H p (.lst (cutV (ns.map V.int) none (some 63)))) := Same.upd hp
    have s2 := Same.upd (o := .lst (cutV (ns.map V.int) none (some 63))) hl
    have s3 := Same.upd (o := .lst [.ref l, .int 0, .int 0, .int 17]) ht
    refine k t _ ((s1.trans s2).trans s3) ((s1.trans s2).free ht) ⟨l, ms, 0, 0, 17, upd_same, ?_, by decide, by decide, by decide, by decide⟩
    rw [← e]
    exact s3 _ _ upd_same
end
abbrev sDraw : Stmt := top 10
section
variable {P : Program} {w : World} {K : PySem.W.Frag} {mg : Str → Option Value} {base : Heap} {f : Addr} {fd : FuncData}
theorem scDraw : FnScope ["_law_tape_here", "_law_many", "_law_digit", "_law_cell", "_law_near"] ["_law_tape_here", "_law_many"] (defScope sDraw) := ⟨rfl, rfl, rfl, by decide +kernel, rfl, by decide +kernel, by decide +kernel⟩
theorem ok_draw (F : Fun K "_law_draw" "_law_draw" sDraw f fd) (T : Bt mg) : FnOk P w K mg base CX0 1 f fd ["_law_tape_here", "_law_many"] spDrawL := by
  refine F.ok scDraw (fun vs H Q E h => ?_) (fun cdv A outer s H vs Q E hr h => ?_)
  · obtain ⟨t, l, m, rfl, _⟩ := h
    rfl
  · obtain ⟨t, l, m, rfl, ⟨ns, pos, rest, mix, ht, hl, p0, r0, m0, m1⟩, hm, hm2, k⟩ := h
    refine ⟨_, pss_cons (ps_if (pt_cmpR op_gt (pe_ix ix_list (pv 0) pe_int (fun _ _ => rfl)) pe_int (nomark _))
        (pss_cons (ps_set (i := 2) scDraw.nd rfl (Or.inl rfl) (pe_op op_mod (pe_ix ix_list (pv 0) pe_int (fun _ _ => rfl)) (pv 1)))
        (pss_cons (ps_asg (pe_op op_fdivW (pe_ix ix_list (pv 0) pe_int (fun _ _ => rfl)) (pv 1)) (pg_sub (pv 0) pe_int set_list)) (pss_one (ps_ret (pv 2))))) pss_nil)
      (pss_cons (ps_set (i := 3) scDraw.nd rfl (Or.inl rfl) pe_int)
      (Evl.pss_cut (ps_if (pt_cmpR op_lt (pe_ix ix_list (pv 0) pe_int (fun _ _ => rfl)) (pe_callB call_len_seq (by rfl) T.len PySem.boot_len (pa_cons (pe_ix ix_list (pv 0) pe_int (fun _ _ => rfl)) pa_nil)) (nomark _))
        (pss_one (ps_set (i := 3) scDraw.nd rfl (Or.inl rfl) (pe_ix ix_list (pe_ix ix_list (pv 0) pe_int (fun _ _ => rfl)) (pe_ix ix_list (pv 0) pe_int (fun _ _ => rfl)) (fun _ _ => rfl)))) pss_nil)
      (pss_cons (ps_asg (pe_op op_add (pe_ix ix_list (pv 0) pe_int (fun _ _ => rfl)) pe_int) (pg_sub (pv 0) pe_int set_list))
      (pss_cons (ps_if (pt_cmpR op_ge (pv 3) (pe_op op_pow pe_int pe_int) (nomark _))
        (pss_cons (ps_asg (pe_op op_fdivW (pv 3) (pv 1)) (pg_sub (pv 0) pe_int set_list)) (pss_one (ps_ret (pe_op op_mod (pv 3) (pv 1))))) pss_nil)
      (pss_cons (ps_set (i := 4) scDraw.nd rfl (Or.inl rfl) (pe_op op_add (pe_op op_add (pe_op op_mod (pv 3) pe_int) (pe_op op_mul pe_int (pe_ix ix_list (pv 0) pe_int (fun _ _ => rfl)))) pe_int))
      (pss_cons (ps_asg (pe_op op_mod (pe_op op_add (pe_op op_mul (pe_ix ix_list (pv 0) pe_int (fun _ _ => rfl)) pe_int) (pv 4)) pe_int) (pg_sub (pv 0) pe_int set_list))
      (pss_one (ps_ret (pe_op op_mod (pe_op op_mod (pe_op op_pow (pe_ix ix_list (pv 0) pe_int (fun _ _ => rfl)) pe_int) pe_int) (pv 1)))))))))), ?_⟩
    have nl := tape_ne ht hl
    have dv : ∀ c : Int, CDivW c m := fun c => ⟨hm, log_lt' hm2⟩
    have M0 : (0 : Int) < 2147483647 := by decide
    refine ⟨_, rfl, t, _, _, _, rfl, rfl, SqL.of ht, rfl, _, _, rfl, rfl, _, rfl, ?_⟩
    refine ite2 (fun z => ?_) (fun z => ?_)
    · have z' : 0 < rest := of_decide_eq_true z
      refine ⟨_, rfl, t, _, _, _, rfl, rfl, SqL.of ht, rfl, _, rfl, _, _, rfl, rfl, hm, ?_⟩
      refine ⟨_, rfl, t, _, _, _, rfl, rfl, SqL.of ht, rfl, _, rfl, _, _, rfl, rfl, dv _, _, rfl, t, _, _, 2, rfl, rfl, ht, rfl, ?_⟩
      refine ⟨_, rfl, ?_⟩
      refine k _ _ (Int.emod_nonneg _ (by omega)) (Int.emod_lt_of_pos _ hm) ⟨ns, pos, rest / m, mix, upd_same, by rw [upd_ne nl]; exact hl, p0, Int.ediv_nonneg r0 (by omega), m0, m1⟩ SameB.upd
    · refine ⟨fun σ' H' => ∃ c : Int, σ' = [some (.ref t), some (.int m), none, some (.int c), none] ∧ H' = H, ?_, ?_⟩
      · refine ⟨_, rfl, t, _, _, _, rfl, rfl, SqL.of ht, rfl, _, rfl, t, _, _, _, rfl, rfl, SqL.of ht, rfl, l, _, rfl, .inl (SqL.of hl), _, _, rfl, rfl, _, rfl, ?_⟩
        refine ite2 (fun y => ?_) (fun y => ?_)
        · have y' : pos < ((ns.map V.int).length : Int) := of_decide_eq_true y
          rw [List.length_map] at y'
          have g : (ns.map V.int)[pos.toNat]? = some (.int (ns[pos.toNat]'(by omega))) := by
            rw [List.getElem?_map, List.getElem?_eq_getElem (by omega : pos.toNat < ns.length)]
            rfl
          exact ⟨_, rfl, t, _, _, _, rfl, rfl, SqL.of ht, rfl, _, rfl, t, _, _, _, rfl, rfl, SqL.of ht, rfl, l, _, _, _, rfl, rfl, SqL.of hl, at_of (by omega) g, _, rfl, rfl⟩
        · exact ⟨0, rfl, rfl⟩
      · rintro σ' H' ⟨c, rfl, rfl⟩
        refine ⟨_, rfl, t, _, _, _, rfl, rfl, SqL.of ht, rfl, _, _, rfl, rfl, _, rfl, t, _, _, 1, rfl, rfl, ht, rfl, ?_⟩
        refine ⟨_, rfl, _, _, rfl, rfl, ⟨by decide, by decide, by decide⟩, _, _, rfl, rfl, _, rfl, ?_⟩
        refine ite2 (fun y => ?_) (fun y => ?_)
        · have y' : (10 : Int) ^ (18 : Int).toNat ≤ c := of_decide_eq_true y
          have c0 : 0 ≤ c := Int.le_trans (by decide) y'
          refine ⟨_, rfl, _, rfl, _, _, rfl, rfl, dv _, _, rfl, t, _, _, 2, rfl, rfl, upd_same, rfl, ?_⟩
          refine ⟨_, rfl, _, rfl, _, _, rfl, rfl, hm, ?_⟩
          exact k _ _ (Int.emod_nonneg _ (by omega)) (Int.emod_lt_of_pos _ hm) ⟨ns, pos + 1, c / m, mix, upd_same, by rw [upd_ne nl, upd_ne nl]; exact hl, by omega, Int.ediv_nonneg c0 (by omega), m0, m1⟩ (SameB.upd.trans SameB.upd)
        · refine ⟨_, rfl, _, _, rfl, rfl, M0, _, rfl, t, _, _, _, rfl, rfl, SqL.of upd_same, rfl, _, _, rfl, rfl, .inl ⟨by decide, by decide⟩, _, _, rfl, rfl, _, _, rfl, rfl, ?_⟩
          refine ⟨_, rfl, t, _, _, _, rfl, rfl, SqL.of upd_same, rfl, _, _, rfl, rfl, .inl ⟨by omega, by omega⟩, _, rfl, _, _, rfl, rfl, _, _, rfl, rfl, M0, _, rfl, t, _, _, 3, rfl, rfl, upd_same, rfl, ?_⟩
          have q0 := Int.emod_nonneg (mix * 48271 + (c % 2147483647 + 7919 * (pos + 1) + 11)) (by decide : (2147483647 : Int) ≠ 0)
          have q1 := Int.emod_lt_of_pos (mix * 48271 + (c % 2147483647 + 7919 * (pos + 1) + 11)) M0
          refine ⟨_, rfl, t, _, _, _, rfl, rfl, SqL.of upd_same, rfl, _, _, rfl, rfl, ⟨by decide, by decide, ?_⟩, _, _, rfl, rfl, M0, _, rfl, _, _, rfl, rfl, hm, ?_⟩
          · omega
          · exact k _ _ (Int.emod_nonneg _ (by omega)) (Int.emod_lt_of_pos _ hm) ⟨ns, pos + 1, rest, _, upd_same, by rw [upd_ne nl, upd_ne nl]; exact hl, by omega, r0, q0, q1⟩ (SameB.upd.trans SameB.upd)
end
end K71
set_option Elab.async false
set_option linter.all false
set_option maxRecDepth 100000
set_option maxHeartbeats 4000000
namespace K71
open PySem PySem.Spec PyProof.Rows L2 Lc
def spLNm : Sp := fun vs H Q _ => ∃ (t l : Addr), vs = [.ref t] ∧ TapeL l H t ∧ ∀ (x : Str) (H' : Hp), Sh 12 x → nameB (.str x) = true → TapeL l H' t → SameB t H H' → Q (.str x) H'
abbrev sLnm : Stmt := top 11
section
variable {P : Program} {w : World} {K : PySem.W.Frag} {mg : Str → Option Value} {base : Heap} {f fD : Addr} {fd fdD : FuncData}
theorem scLnm : FnScope ["_law_tape_here", "_law_letters", "_law_size", "_law_place", "_law_sign", "_law_k"] ["_law_tape_here"] (defScope sLnm) := ⟨rfl, rfl, rfl, by decide +kernel, rfl, by decide +kernel, by decide +kernel⟩
theorem ok_lnm (F : Fun K "_law_name" "_law_name" sLnm f fd) (T : Bt mg) (GD : FnOk P w K mg base CX0 1 fD fdD ["_law_tape_here", "_law_many"] spDrawL) (mD : mg "_law_draw" = some (.ref fD)) (kD : PySem.W.keepIn K (.ref fD) = true) (bD : Binds K fdD ["_law_tape_here", "_law_many"] []) :
    FnOk P w K mg base CX0 2 f fd ["_law_tape_here"] spLNm := by
  refine F.ok scLnm (fun vs H Q E h => ?_) (fun cdv A outer s H vs Q E hr h => ?_)
  · obtain ⟨t, l, rfl, _⟩ := h
    rfl
  · obtain ⟨t, l, rfl, hT, k⟩ := h
    replace hT : TapeL l H t := hT
    refine ⟨_, pss_cons (ps_set (i := 1) scLnm.nd rfl (Or.inr rfl) pe_str)
      (pss_cons (ps_set (i := 2) scLnm.nd rfl (Or.inl rfl) (pe_op op_add pe_int (pe_call GD hr (by rfl) mD kD bD .nil pass0 (pa_cons (pv 0) (pa_cons pe_int pa_nil)))))
      (pss_cons (ps_if (pt_cmpR op_eq (pe_call GD hr (by rfl) mD kD bD .nil pass0 (pa_cons (pv 0) (pa_cons pe_int pa_nil))) pe_int (nomark _))
        (pss_cons (ps_set (i := 3) scLnm.nd rfl (Or.inl rfl) (pe_call GD hr (by rfl) mD kD bD .nil pass0 (pa_cons (pv 0) (pa_cons (pv 2) pa_nil))))
        (pss_cons (ps_set (i := 4) scLnm.nd rfl (Or.inl rfl) (pe_ix ix_str (pv 1) (pe_call GD hr (by rfl) mD kD bD .nil pass0 (pa_cons (pv 0) (pa_cons (pe_op op_add pe_int (pe_op op_mul pe_int (pe_callTy call_int1 (by rfl) T.int boot_int (pa_cons (pe_cmpR op_gt (pv 3) pe_int (nomark _)) pa_nil)))) pa_nil))) (fun _ _ => rfl)))
        (pss_one (ps_ret (pe_op op_add_str (pe_op op_add_str (pe_op op_mulS pe_str (pv 3)) (pv 4)) (pe_op op_mulS pe_str (pe_op op_sub (pe_op op_sub (pv 2) pe_int) (pv 3)))))))) pss_nil)
      (pss_one (ps_ret (pe_join pe_str (pe_lc (own := [("_law_k", 5)]) (g := gName 5) (tt := tYes) (te := tOp rIxS (tVar 1) (tCall spDrawL [] E0 (tCons (tVar 0) (tCons (tOp (rI0 fun i j => .int (i + j)) (tC (.int 26)) (tOp (rI CMul fun i j => .int (i * j)) (tC (.int 10)) (tCB (fun xs H Q => (∃ i, xs = [.int i] ∧ Q (.int i) H) ∨ ∃ k, xs = [.bl k] ∧ Q (.int (if k then 1 else 0)) H) (tCons (tOp (rI0 fun i j => .bl (decide (j < i))) (tVar 5) (tC (.int 0))) tNil)))) tNil)))) (by rfl) scLnm.nd (pi_range1 (by rfl) T.range (pa_cons (pv 2) pa_nil))
        (blkOk_by (own := [("_law_k", 5)]) (N := ["_law_tape_here", "_law_letters", "_law_size", "_law_place", "_law_sign", "_law_k"]) (sc := defScope sLnm) (by decide +kernel)) (fun _ _ _ _ _ => pg_name (i := 5) scLnm.nd rfl (Or.inl rfl)) (fun _ _ _ _ _ => pts_nil)
        (fun _ _ _ _ _ => pe_ix ix_str (pv 1) (pe_call GD hr (by rfl) mD kD bD .nil pass0 (pa_cons (pv 0) (pa_cons (pe_op op_add pe_int (pe_op op_mul pe_int (pe_callTy call_int1 (by rfl) T.int boot_int (pa_cons (pe_cmpR op_gt (pv 5) pe_int (nomark _)) pa_nil)))) pa_nil))) (fun _ _ => rfl)))))))), ?_⟩
    have big : ∀ z : Int, 0 ≤ z → z ≤ 1000 → z.natAbs < 2 ^ 4000 := fun z h1 h2 => big1000 h1 h2
    have sl : (signs.cps.toList.length : Int) = 36 := by rw [signs_len]; rfl
    have sz : signs.length ≤ sizeLine := by rw [lenL, signs_len]; decide
    refine ⟨_, rfl, t, l, _, rfl, hT, by decide, big _ (by decide) (by decide), fun k1 H1 u1 v1 T1 S1 => ⟨_, _, rfl, rfl, ?_⟩⟩
    refine ⟨_, rfl, t, l, _, rfl, T1, by decide, big _ (by decide) (by decide), fun k2 H2 u2 v2 T2 S2 => ⟨rfl, _, rfl, ?_⟩⟩
    refine ite2 (fun _ => ?_) (fun _ => ?_)
    · refine ⟨_, rfl, _, rfl, t, l, _, rfl, T2, by omega, big _ (by omega) (by omega), fun k3 H3 u3 v3 T3 S3 => ?_⟩
      refine ⟨_, rfl, _, rfl, _, rfl, _, _, rfl, rfl, .inr ⟨_, rfl, _, _, rfl, rfl, .inl ⟨by decide, by decide⟩, _, _, rfl, rfl, t, l, _, rfl, T3, by split <;> decide, big _ (by split <;> decide) (by split <;> decide), fun k4 H4 u4 v4 T4 S4 => ?_⟩⟩
      obtain ⟨c, hc, mc, isc, ilc⟩ := sgn_at (i := k4) u4 (by split at v4 <;> omega)
      refine ⟨signs, k4, c, rfl, rfl, sz, hc, ?_⟩
      have m1 : Sh k3.toNat (Txt.mul (PySem.Str.ofString "a") k3) := sh_mul sh_a (Nat.le_refl _) (Nat.le_refl _)
      have m2 : Sh 1 (⟨#[c]⟩ : Str) := sh_one (signs_ok c mc)
      have m3 : Sh (1 + k1 - 1 - k3).toNat (Txt.mul (PySem.Str.ofString "a") (1 + k1 - 1 - k3)) := sh_mul sh_a (Nat.le_refl _) (Nat.le_refl _)
      have ss : (100 : Nat) ≤ sizeLine := by decide
      refine ⟨_, rfl, _, _, rfl, rfl, mul_ok a_size (by omega) (by omega), _, rfl, _, _, rfl, rfl, ?_, _, rfl, _, _, rfl, rfl, _, rfl, _, _, rfl, rfl, _, _, rfl, rfl, mul_ok a_size (by omega) (by omega), _, _, rfl, rfl, ?_, ?_⟩
      · have := sh_len m1
        have := sh_len m2
        omega
      · have := sh_len (sh_app m1 m2)
        have := sh_len m3
        omega
      · exact k _ _ ((sh_app (sh_app m1 m2) m3).mono (by omega)) (name_one u3 (by omega) (by omega) isc (fun z => ilc (by rw [z] at v4; simpa using v4))) T4 (((S1.trans S2).trans S3).trans S4)
    · refine ⟨⟨_, rfl⟩, _, rfl, _, rfl, by omega, by omega, fun D hD => ?_⟩
      have nD : D ≠ t := T2.tape.ne hD
      have nL : D ≠ l := by
        obtain ⟨xs, z⟩ := T2.list
        exact Ne.symm (ne_of_none z hD)
      let one : Nat → Str := fun c => ⟨#[c]⟩
      refine lc_it walk_range (fun i H' => ∃ cs : List Nat, H' D = some (.lst ((cs.map one).map V.str)) ∧ cs.length = i ∧ (∀ c ∈ cs, c ∈ signs.cps.toList ∧ inS c = true) ∧ (∀ c r, cs = c :: r → inL c = true) ∧ TapeL l H' t ∧ SameB t H2 H') ⟨[], upd_same, rfl, by simp, nofun, T2.same (Same.upd hD), Same.b t (Same.upd hD)⟩ (fun _ _ _ _ => True.intro) ?_ ?_
      · rintro i y H' H'' hi ⟨cs, h1, h2, h3, h3b, h4, h5⟩ ⟨rfl, rfl⟩
        refine ⟨rfl, ?_⟩
        change tOp rIxS (tVar 1) _ _ _ _
        refine ⟨_, rfl, _, rfl, _, rfl, _, _, rfl, rfl, .inr ⟨_, rfl, _, _, rfl, rfl, .inl ⟨by decide, by decide⟩, _, _, rfl, rfl, t, l, _, rfl, h4, by split <;> decide, big _ (by split <;> decide) (by split <;> decide), fun k4 H4 u4 v4 T4 S4 => ?_⟩⟩
        obtain ⟨c, hc, mc, isc, ilc⟩ := sgn_at (i := k4) u4 (by split at v4 <;> omega)
        refine ⟨signs, k4, c, rfl, rfl, sz, hc, _, S4 _ _ nD h1, by rw [List.length_map, List.length_map, h2]; exact Nat.lt_trans hi (Nat.lt_of_le_of_lt (show (1 + k1).toNat ≤ 12 by omega) (by decide)), ?_⟩
        refine ⟨cs ++ [c], by rw [upd_same, List.map_append, List.map_append]; rfl, by rw [List.length_append, h2]; rfl, fun y hy => ?_, fun c' r' e => ?_, T4.upd nD nL, fun b o n e => ?_⟩
        · rcases List.mem_append.mp hy with hy | hy
          · exact h3 y hy
          · rw [List.mem_singleton.mp hy]
            exact ⟨mc, isc⟩
        · cases cs with
          | nil =>
            have e : c = c' := by injection e
            rw [← e]
            have i0 : i = 0 := by rw [← h2]; rfl
            subst i0
            exact ilc (by simpa using v4)
          | cons d r =>
            injection e with e _
            rw [← e]
            exact h3b d r rfl
        · rw [upd_ne (ne_of_none e hD)]
          exact (h5.trans S4) b o n e
      · rintro H' ⟨cs, h1, h2, h3, h3b, h4, h5⟩
        have e12 : cs.length ≤ 12 := by omega
        have s1 : ∀ y ∈ cs.map one, Sh 1 y := fun y hy => by
          obtain ⟨c, hc, rfl⟩ := List.mem_map.mp hy
          exact sh_one (signs_ok c (h3 c hc).1)
        have sum : ∀ l : List Str, (∀ y ∈ l, Sh 1 y) → (l.map (·.length)).sum ≤ l.length := by
          intro l
          induction l with
          | nil => intro _; simp
          | cons y l ih =>
            intro h
            have := ih fun z hz => h z (List.mem_cons_of_mem _ hz)
            have := sh_len (h y List.mem_cons_self)
            simp only [List.map_cons, List.sum_cons, List.length_cons]
            omega
        have lm : (cs.map one).length = cs.length := List.length_map ..
        refine ⟨_, D, cs.map one, rfl, rfl, .inl (SqL.of h1), by have := sum _ s1; show _ + (cs.map one).length * 0 ≤ _; omega, ?_⟩
        exact k _ _ ((join_sh _ s1).mono (by omega)) (name_join (fun z => by rw [z] at h2; have : (0 : Nat) = (1 + k1).toNat := h2; omega) e12 h3b (fun c hc => (h3 c hc).2)) h4 ((S1.trans S2).trans h5)
end
abbrev sFr : Stmt := top 12
def spFr : Sp := fun vs H Q _ => ∃ (t c l : Addr) (ss : List Str), vs = [.ref t, .ref l] ∧ TapeL c H t ∧ H l = some (.lst (ss.map V.str)) ∧ ss.length < 36 ∧ ∀ (x : Str) (H' : Hp), Sh 12 x → nameB (.str x) = true → x ∉ ss → TapeL c H' t → SameB t H H' → Q (.str x) H'
theorem ne_tape {H : Hp} {t l : Addr} {ss : List Str} (T : Tape H t) (h : H l = some (.lst (ss.map V.str))) : l ≠ t := fun z => by
  obtain ⟨a, _, _, _, _, ht, _⟩ := T
  rw [z, ht] at h
  cases ss with
  | nil => cases h
  | cons x r =>
    injection h with h
    injection h with h
    injection h with h1 _
    cases h1
section
variable {P : Program} {w : World} {K : PySem.W.Frag} {mg : Str → Option Value} {base : Heap} {f fN : Addr} {fd fdN : FuncData}
theorem scFr : FnScope ["_law_tape_here", "_law_taken", "_law_name_here", "_law_letter"] ["_law_tape_here", "_law_taken"] (defScope sFr) := ⟨rfl, rfl, rfl, by decide +kernel, rfl, by decide +kernel, by decide +kernel⟩
theorem ok_fr (F : Fun K "_law_fresh" "_law_fresh" sFr f fd) (GN : FnOk P w K mg base CX0 2 fN fdN ["_law_tape_here"] spLNm) (mN : mg "_law_name" = some (.ref fN)) (kN : PySem.W.keepIn K (.ref fN) = true) (bN : Binds K fdN ["_law_tape_here"] []) :
    FnOk P w K mg base CX0 3 f fd ["_law_tape_here", "_law_taken"] spFr := by
  refine F.ok scFr (fun vs H Q E h => ?_) (fun cdv A outer s H vs Q E hr h => ?_)
  · obtain ⟨t, c, l, ss, rfl, _⟩ := h
    rfl
  · obtain ⟨t, tl, l, ss, rfl, hT, hl, l36, k⟩ := h
    refine ⟨_, pss_cons (ps_set (i := 2) scFr.nd rfl (Or.inl rfl) (pe_call GN hr (by rfl) mN kN bN .nil pass0 (pa_cons (pv 0) pa_nil)))
      (pss_cons (ps_if (pt_cmpR op_notIn_seq (pv 2) (pv 1) (by rfl)) (pss_one (ps_ret (pv 2))) pss_nil)
      (pss_cons (ps_for PassesOwn.never rfl (pi_str pe_str) (pg_name (i := 3) scFr.nd rfl (Or.inl rfl))
        (pss_one (ps_if (pt_cmpR op_notIn_seq (pe_op op_add_str (pe_slice sl_str (pv 2) po_none (po_some pe_int)) (pv 3)) (pv 1) (by rfl)) (pss_one (ps_ret (pe_op op_add_str (pe_slice sl_str (pv 2) po_none (po_some pe_int)) (pv 3)))) pss_nil)))
      (pss_one (ps_ret (pv 2))))), ?_⟩
    refine ⟨_, rfl, t, tl, rfl, hT, fun x H1 hx nx T1 S1 => ?_⟩
    have hl1 := S1 _ _ (ne_tape hT.tape hl) hl
    have fl : (ss.map V.str).all flatV = true := by simp [flatV]
    have ln := hx.line (by decide)
    refine ⟨_, rfl, _, rfl, l, _, rfl, .inl (SqL.of hl1), rfl, fl, _, rfl, ite2 (fun y => ?_) (fun y => ?_)⟩
    · refine ⟨_, rfl, k x H1 hx nx (fun m => ?_) T1 S1⟩
      rw [if_pos rfl, in_strs, decide_eq_true m] at y
      cases y
    · refine ⟨_, rfl, for_it walk_str (fun i σ H' => (∃ x3 : Option V, σ = [some (.ref t), some (.ref l), some (.str x), x3]) ∧ H' = H1 ∧ ∀ (j : Nat) (c : Nat), j < i → signs.cps[j]? = some c → cutS x none (some 11) ++ (⟨#[c]⟩ : Str) ∈ ss) ⟨⟨_, rfl⟩, rfl, fun j c h => absurd h (Nat.not_lt_zero _)⟩ (fun _ _ _ _ _ => trivial) ?_ ?_⟩
      · rintro i v σ Ha Hb hi ⟨⟨x3, rfl⟩, rfl, all⟩ ⟨rfl, c, hc, rfl⟩
        have hc : signs.cps[i]? = some c := hc
        have mc : c ∈ signs.cps.toList := Array.mem_toList_iff.mpr (Array.mem_of_getElem? hc)
        have isc : inS c = true := decide_eq_true mc
        have cs : c < 1114112 := signs_ok c mc
        have sc : Sh 11 (cutS x none (some 11)) := ⟨by rw [cut_list, List.length_take]; omega, (sh_cut none (some 11) hx).ok⟩
        have so : Sh 1 (⟨#[c]⟩ : Str) := sh_one cs
        have lt : (cutS x none (some 11)).length + (⟨#[c]⟩ : Str).length ≤ sizeLine := Nat.le_trans (Nat.add_le_add (sh_len sc) (sh_len so)) (by decide)
        refine ⟨_, rfl, 11, rfl, x, rfl, ln, _, rfl, _, _, rfl, rfl, lt, _, rfl, l, _, rfl, .inl (SqL.of hl1), rfl, fl, _, rfl, ite2 (fun y => ?_) (fun y => ?_)⟩
        · refine ⟨_, rfl, 11, rfl, x, rfl, ln, _, rfl, _, _, rfl, rfl, lt, k _ _ (sh_app sc so) (name_cut nx isc) (fun m => ?_) T1 S1⟩
          rw [if_pos rfl, in_strs, decide_eq_true m] at y
          cases y
        · refine ⟨⟨_, rfl⟩, rfl, fun j c' hj hc' => ?_⟩
          by_cases e : j = i
          · subst e
            rw [hc] at hc'
            cases hc'
            rw [if_pos rfl, in_strs] at y
            exact of_decide_eq_true (by simpa using y)
          · exact all j c' (by omega) hc'
      · rintro σ H' ⟨⟨x3, rfl⟩, rfl, all⟩
        refine (free_letter (x := x) l36 fun c mc => ?_).elim
        obtain ⟨j, hj⟩ := List.mem_iff_getElem?.mp mc
        rw [Array.getElem?_toList] at hj
        exact all j c (Array.getElem?_eq_some_iff.mp hj).1 hj
end
end K71
set_option Elab.async false
set_option linter.all false
set_option maxRecDepth 100000
set_option maxHeartbeats 4000000
namespace K71
open PySem PySem.Spec PyProof.Rows L2 Lc
/-! ## is_same -/
section
variable {X : Cx}
def rInDk (neg : Bool) : R2 := fun x y H Q => ∃ a o, y = .ref a ∧ DGet H a x o ∧ Q (.bl (if neg then !o.isSome else o.isSome)) H
theorem op_inDk (hu : X.A.units + 1 < cLine) : OpR X (compareOp .In) (rInDk false) := by
  intro pins s σ H x y v u Q I rx ry h
  obtain ⟨a, o, rfl, g, q⟩ := h
  obtain rfl : u = Value.ref a := ry
  exact d_in hu I g rx fun s' I' => ⟨.bl o.isSome, H, I', rfl, q⟩
theorem op_notInDk (hu : X.A.units + 1 < cLine) : OpR X (compareOp .NotIn) (rInDk true) := by
  intro pins s σ H x y v u Q I rx ry h
  obtain ⟨a, o, rfl, g, q⟩ := h
  obtain rfl : u = Value.ref a := ry
  exact d_notIn hu I g rx fun s' I' => ⟨.bl (!o.isSome), H, I', rfl, q⟩
end
def isT : PyData → Bool | .tuple _ => true | _ => false
def sameE (d e : PyData) : Bool := if (tyD d == "bool") ≠ (tyD e == "bool") ∨ (tyD d == "int") ≠ (tyD e == "int") then false else PyData.eqv d e
def sameL (R : PyData → PyData → Bool) : List PyData → List PyData → Bool
  | x :: xs, y :: ys => R x y && sameL R xs ys
  | _, _ => true
def sameF : Nat → PyData → PyData → Bool
  | n + 1, .tuple a, .tuple b => decide (a.length = b.length) && sameL (sameF n) a b
  | _, d, e => sameE d e
/-- data that can be compared: at most n deep in tuples -/
def okS : Nat → PyData → Bool
  | 0, _ => false
  | n + 1, .tuple a => SeqAt.shaped (.tuple a) && decide (a.length ≤ 100) && a.all (okS n)
  | n + 1, d => SeqAt.shaped d
theorem okS0 {d : PyData} (h : okS 0 d = true) : False := by
  unfold okS at h
  cases h
theorem okS_shp {n : Nat} {d : PyData} (h : okS n d = true) : SeqAt.shaped d = true := by
  unfold okS at h
  split at h
  · cases h
  · simp only [Bool.and_eq_true] at h
    exact h.1.1
  · exact h
theorem okS_tup {n : Nat} {ds : List PyData} (h : okS (n + 1) (.tuple ds) = true) : ds.length ≤ 100 ∧ ∀ d ∈ ds, okS n d = true := by
  rw [okS] at h
  simp only [Bool.and_eq_true, decide_eq_true_eq, List.all_eq_true] at h
  exact ⟨h.1.2, h.2⟩
theorem sameF_not {n : Nat} {d e : PyData} (h : ¬ (isT d = true ∧ isT e = true)) : sameF n d e = sameE d e := by
  unfold sameF
  split
  · exact absurd ⟨rfl, rfl⟩ h
  · rfl
theorem ty_isT {d : PyData} : (tyD d == "tuple") = isT d := by cases d <;> rfl
def spSm (n : Nat) : Sp := fun vs H Q _ => ∃ (v u : V) (d e : PyData), vs = [v, u] ∧ Dh H v d ∧ Dh H u e ∧ okS n d = true ∧ okS n e = true ∧ ∀ H', Same H H' → Q (.bl (sameF n d e)) H'
section
variable {P : Program} {w : World} {K : PySem.W.Frag} {mg : Str → Option Value} {base : Heap} {f : Addr} {fd : FuncData}
abbrev sSm : Stmt := top 3
abbrev nSm : List Str := ["one", "other", "a", "b"]
abbrev pSm : List Str := ["one", "other"]
theorem scSm : FnScope nSm pSm (defScope sSm) := ⟨rfl, rfl, rfl, by decide +kernel, rfl, by decide +kernel, by decide +kernel⟩
section
variable {fA_ fB_ : Addr} {fdA_ fdB_ : FuncData}
theorem ok_Sm (F : Fun K "is_same" "is_same" sSm f fd) (T : Bt mg) (n : Nat) (mZ : mg "zip" = none)
    (GA_ : FnOk P w K mg base CX0 1 fA_ fdA_ ["value"] (spWhole)) (mA_ : mg "is_whole" = some (.ref fA_)) (kA_ : PySem.W.keepIn K (.ref fA_) = true) (bA_ : Binds K fdA_ ["value"] [])
    (GB_ : FnOk P w K mg base CX0 (1 + n) fB_ fdB_ ["one", "other"] (spSm n)) (mB_ : mg "is_same" = some (.ref fB_)) (kB_ : PySem.W.keepIn K (.ref fB_) = true) (bB_ : Binds K fdB_ ["one", "other"] []) : FnOk P w K mg base CX0 (1 + n + 1) f fd pSm (spSm (n + 1)) := by
  refine F.ok scSm (fun vs H Q E h => ?_) (fun cdv A outer s H vs Q E hr h => ?_)
  · obtain ⟨v, u, d, e, rfl, _⟩ := h
    rfl
  · obtain ⟨v, u, d, e, rfl, hd, he, o1, o2, k⟩ := h
    have hrA_ : Room (1) _ := hr.mono (by first | decide | omega)
    have hrB_ : Room ((1 + n)) _ := hr.mono (by first | decide | omega)
    refine ⟨_, (Evl.pss_cut (ps_if (PW.pt (pw_and (pt_val (pe_callB call_isi (by rfl) T.isi boot_isinstance (pa_cons (pv 0) (pa_cons (pe_bltn (v := .ty "tuple") (by rfl) T.tuple boot_tuple rfl) pa_nil)))) (pw_and1 (pt_val (pe_callB call_isi (by rfl) T.isi boot_isinstance (pa_cons (pv 1) (pa_cons (pe_bltn (v := .ty "tuple") (by rfl) T.tuple boot_tuple rfl) pa_nil))))))) (pss_one (ps_ret (pe_and (pe_cmpR op_eq (pe_callB call_len_seq (by rfl) T.len PySem.boot_len (pa_cons (pv 0) pa_nil)) (pe_callB call_len_seq (by rfl) T.len PySem.boot_len (pa_cons (pv 1) pa_nil)) (nomark _)) (pe_one (pe_callB (cr_all rfl) (by rfl) T.all (by decide +kernel) (pa_cons (pe_lc (own := [("a", 2), ("b", 3)]) (g := (gTup K 2 (gCons (gName 2) (gCons (gName 3) gNil)))) (tt := tYes) (te := (tCall (spSm n) [] E0 (tCons (tVar 2) (tCons (tVar 3) tNil)))) (by rfl) scSm.nd (RZ.pi_zipA (by rfl) mZ (pa_cons (pv 0) (pa_cons (pv 1) pa_nil))) (blkOk_by (own := [("a", 2), ("b", 3)]) (N := nSm) (sc := defScope sSm) (by decide +kernel)) (fun _ _ _ _ _ => (pg_tup rfl (pgs_cons (pg_name (i := 2) scSm.nd rfl (.inl rfl)) (pgs_cons (pg_name (i := 3) scSm.nd rfl (.inl rfl)) pgs_nil)))) (fun _ _ _ _ _ => pts_nil) (fun _ _ _ _ _ => (pe_call GB_ hrB_ (by rfl) mB_ kB_ bB_ .nil pass0 (pa_cons (pv 2) (pa_cons (pv 3) pa_nil))))) pa_nil)))))) pss_nil)
      (pss_cons (ps_if (PW.pt (pw_or (pt_cmpR op_ne (pe_callB call_isi (by rfl) T.isi boot_isinstance (pa_cons (pv 0) (pa_cons (pe_bltn (v := .ty "bool") (by rfl) T.bool boot_bool rfl) pa_nil))) (pe_callB call_isi (by rfl) T.isi boot_isinstance (pa_cons (pv 1) (pa_cons (pe_bltn (v := .ty "bool") (by rfl) T.bool boot_bool rfl) pa_nil))) (nomark _)) (pw_or1 (pt_cmpR op_ne (pe_call GA_ hrA_ (by rfl) mA_ kA_ bA_ .nil pass0 (pa_cons (pv 0) pa_nil)) (pe_call GA_ hrA_ (by rfl) mA_ kA_ bA_ .nil pass0 (pa_cons (pv 1) pa_nil)) (nomark _))))) (pss_one (ps_ret pe_bl)) pss_nil)
      (pss_one (ps_ret (pe_cmpR (op_eqD hr.units) (pv 0) (pv 1) (nomark _)))))), ?_⟩
    have sd := okS_shp o1
    have se := okS_shp o2
    have hnd : d.hasDict = false := PyData.hasDict_of_canLay _ (SeqAt.canLay_of_shaped sd)
    have hne : e.hasDict = false := PyData.hasDict_of_canLay _ (SeqAt.canLay_of_shaped se)
    refine ⟨fun σ H' => σ = [some v, some u, none, none] ∧ H' = H ∧ ¬ (isT d = true ∧ isT e = true), ?_, ?_⟩
    · refine ⟨_, rfl, v, .ty "tuple", _, _, _, rfl, .ty "tuple", hd.ty.x, kit_tuple hd.ty.mem, _, rfl, ?_⟩
      rw [ty_isT]
      refine ite2 (fun t1 => ?_) (fun t1 => iteF ⟨rfl, rfl, fun z => t1 z.1⟩)
      refine ⟨_, rfl, u, .ty "tuple", _, _, _, rfl, .ty "tuple", he.ty.x, kit_tuple he.ty.mem, _, rfl, ?_⟩
      rw [ty_isT]
      refine ite2 (fun t2 => ?_) (fun t2 => ⟨rfl, rfl, fun z => t2 z.2⟩)
      cases hd with
      | @tup a xs ds ea hs =>
        cases he with
        | @tup b ys es eb gs =>
          have lx := hs.len
          have ly := gs.len
          obtain ⟨l1, ok1⟩ := okS_tup o1
          obtain ⟨l2, ok2⟩ := okS_tup o2
          have kk : sameF (n + 1) (.tuple ds) (.tuple es) = (decide (ds.length = es.length) && sameL (sameF n) ds es) := rfl
          rw [kk] at k
          refine ⟨_, rfl, a, _, rfl, .inr (SqT.of ea), _, rfl, b, _, rfl, .inr (SqT.of eb), rfl, _, rfl, ite2 (fun q => ?_) (fun q => ?_)⟩
          · have q : ds.length = es.length := by have := of_decide_eq_true q; injection this with this; omega
            rw [decide_eq_true q, Bool.true_and] at k
            refine ⟨_, rfl, _, rfl, a, b, xs, ys, rfl, .inr ⟨SqT.of ea, SqT.of eb, fun D hD => lc_zip (K := K) (a := a) (b := b) (xs := xs) (ys := ys) (by omega) (fun i H' => ∃ bs : List Bool, H' D = some (.lst (bs.map V.bl)) ∧ bs.length = i ∧ (bs.all id && sameL (sameF n) (ds.drop i) (es.drop i)) = sameL (sameF n) ds es ∧ Same H H') ⟨[], upd_same, rfl, by simp, Same.upd hD⟩ (fun i H' pr => by obtain ⟨_, _, _, _, s'⟩ := pr; exact ⟨SqT.of (s' _ _ ea), SqT.of (s' _ _ eb)⟩) ?_ ?_⟩⟩
            · rintro i x y T8 H8 hx hy ⟨bs, hD8, ln, pr, s8⟩ hT8
              obtain ⟨dx, ex, hdx⟩ := hs.get _ _ hx
              obtain ⟨dy, ey, hdy⟩ := gs.get _ _ hy
              have ltx : i < ds.length := (List.getElem?_eq_some_iff.mp ex).1
              have lty : i < es.length := (List.getElem?_eq_some_iff.mp ey).1
              have zT := Same.upd (o := .tup [x, y]) hT8
              have sT := s8.trans zT
              refine ⟨T8, _, rfl, SqT.of upd_same, rfl, _, _, rfl, _, _, rfl, rfl, rfl, ?_⟩
              dsimp only [tYes]
              refine iteT ?_
              change tCall (spSm n) [] E0 (tCons (tVar 2) (tCons (tVar 3) tNil)) _ _ _
              refine ⟨_, rfl, _, rfl, x, y, dx, dy, rfl, hdx.same sT, hdy.same sT, ok1 _ (List.mem_of_getElem? ex), ok2 _ (List.mem_of_getElem? ey), fun H9 s9 => ?_⟩
              have e1 : ds.drop i = dx :: ds.drop (i + 1) := by rw [List.drop_eq_getElem_cons ltx, (List.getElem?_eq_some_iff.mp ex).2]
              have e2 : es.drop i = dy :: es.drop (i + 1) := by rw [List.drop_eq_getElem_cons lty, (List.getElem?_eq_some_iff.mp ey).2]
              rw [e1, e2] at pr
              refine ⟨_, (zT.trans s9) _ _ hD8, by rw [List.length_map, ln]; exact Nat.lt_of_lt_of_le ltx (Nat.le_trans l1 (by decide)), bs ++ [sameF n dx dy], by rw [upd_same, List.map_append]; rfl, by rw [List.length_append, ln]; rfl, ?_, fun b' o e => by rw [upd_ne (ne_of_none e hD)]; exact (sT.trans s9) b' o e⟩
              rw [List.all_append, ← pr]
              simp [sameL, Bool.and_assoc]
            · rintro H8 ⟨bs, hD8, ln, pr, s8⟩
              refine ⟨D, bs, rfl, SqL.of hD8, ?_⟩
              have k8 := k H8 s8
              rw [lx, List.drop_length] at pr
              rw [← pr] at k8
              simpa [sameL] using k8
          · have q : ¬ ds.length = es.length := fun z => q (decide_eq_true (by rw [show xs.length = ys.length by omega]))
            rw [decide_eq_false q, Bool.false_and] at k
            exact k H (Same.refl H)
        | _ => cases t2
      | _ => cases t1
    rintro σ H1 ⟨rfl, rfl, nb⟩
    rw [sameF_not nb] at k
    unfold sameE at k
    have vb : ∀ a b : Bool, decide (V.bl a = V.bl b) = decide (a = b) := fun a b => decide_eq_decide.mpr ⟨fun e => by injection e, fun e => by rw [e]⟩
    have k0 := k H1 (Same.refl H1)
    refine ⟨_, rfl, v, .ty "bool", _, _, _, rfl, .ty "bool", hd.ty.x, kit_bool hd.ty.mem, _, rfl, u, .ty "bool", _, _, _, rfl, .ty "bool", he.ty.x, kit_bool he.ty.mem, rfl, _, rfl, ?_⟩
    rw [vb]
    by_cases b1 : (tyD d == "bool") = (tyD e == "bool")
    · rw [decide_eq_true b1]
      refine iteF ⟨_, rfl, v, tyD d, rfl, hd.ty, _, rfl, u, tyD e, rfl, he.ty, rfl, _, rfl, ?_⟩
      rw [vb]
      by_cases b2 : (tyD d == "int") = (tyD e == "int")
      · rw [decide_eq_true b2]
        rw [if_neg (fun z => z.elim (fun z => z b1) (fun z => z b2))] at k0
        exact iteF ⟨_, rfl, _, rfl, d, e, hd.dp hnd, he.dp hne, sd, se, k0⟩
      · rw [decide_eq_false b2]
        rw [if_pos (.inr b2)] at k0
        exact iteT k0
    · rw [decide_eq_false b1]
      rw [if_pos (.inl b1)] at k0
      exact iteT (iteT k0)
end
theorem ok_SmN {fA : Addr} {fdA : FuncData} (F : Fun K "is_same" "is_same" sSm f fd) (T : Bt mg) (mZ : mg "zip" = none) (GA : FnOk P w K mg base CX0 1 fA fdA ["value"] spWhole) (mA : mg "is_whole" = some (.ref fA)) (kA : PySem.W.keepIn K (.ref fA) = true) (bA : Binds K fdA ["value"] [])
    (mX : mg "is_same" = some (.ref f)) (kX : PySem.W.keepIn K (.ref f) = true) (bX : Binds K fd pSm []) : ∀ n : Nat, FnOk P w K mg base CX0 (1 + n) f fd pSm (spSm n)
  | 0 => ⟨fun vs H Q E ⟨_, _, _, _, _, _, _, o, _⟩ => (okS0 o).elim, fun A outer s H args us vs Q E _ _ _ _ ⟨_, _, _, _, _, _, _, o, _⟩ => (okS0 o).elim⟩
  | n + 1 => ok_Sm F T n mZ GA mA kA bA (ok_SmN F T mZ GA mA kA bA mX kX bX n) mX kX bX
end
end K71
set_option Elab.async false
set_option linter.all false
set_option maxRecDepth 100000
set_option maxHeartbeats 4000000
namespace K71
open PySem PySem.Spec PyProof.Rows L2 Lc
/-! ## dicts of cells -/
abbrev Es : Type := List (Str × PyData)
def Cv (H : Hp) : List (Key × V) → Es → Prop := Paired fun (p : Key × V) (e : Str × PyData) => p.1 = Sum.inr e.1 ∧ Dh H p.2 e.2
def Dct (H : Hp) (a : Addr) (es : Es) : Prop := ∃ kvs, H a = some (.dK kvs) ∧ Cv H kvs es
structure EsOk (es : Es) : Prop where
  nd : (es.map (·.1)).Nodup
  ln : es.length ≤ 20
  ok : ∀ e ∈ es, okS 8 e.2 = true ∧ noL e.2 = true
theorem cv_t {H H' : Hp} (s : SameT H H') {kvs : List (Key × V)} {es : Es} (h : Cv H kvs es) (o : ∀ e ∈ es, noL e.2 = true) : Cv H' kvs es := by
  unfold Cv at h ⊢
  induction h with
  | nil => exact .nil
  | cons h r ih => exact .cons ⟨h.1, h.2.t s (o _ List.mem_cons_self)⟩ (ih fun e he => o e (List.mem_cons_of_mem _ he))
theorem cv_val {H : Hp} {kvs : List (Key × V)} {es : Es} (h : Cv H kvs es) (z : Str) : (es.lookup z = none ∧ valV kvs (Sum.inr z : Key) = none) ∨ ∃ d v, es.lookup z = some d ∧ valV kvs (Sum.inr z : Key) = some v ∧ Dh H v d ∧ (z, d) ∈ es := by
  unfold Cv at h
  induction h with
  | nil => exact .inl ⟨rfl, rfl⟩
  | @cons p e kvs es h r ih =>
    obtain ⟨k, v⟩ := p
    obtain ⟨y, d⟩ := e
    obtain ⟨h1, h2⟩ := h
    dsimp only at h1 h2
    subst h1
    rw [List.lookup_cons]
    by_cases q : z = y
    · subst q
      rw [show (z == z) = true by simp]
      refine .inr ⟨d, v, rfl, ?_, h2, List.mem_cons_self⟩
      simp [valV]
    · rw [show (z == y) = false by simpa using q]
      have e1 : valV ((Sum.inr y, v) :: kvs) (Sum.inr z : Key) = valV kvs (Sum.inr z : Key) := by
        have : ¬ (Sum.inr y : Key) = Sum.inr z := fun w => q (by injection w with w; exact w.symm)
        simp [valV, this]
      rw [e1]
      rcases ih with ih | ⟨d', v', i1, i2, i3, i4⟩
      · exact .inl ih
      · exact .inr ⟨d', v', i1, i2, i3, List.mem_cons_of_mem _ i4⟩
def agreeD (es fs : Es) (z : Str) : Bool := match es.lookup z, fs.lookup z with
  | some d, some e => sameF 8 d e
  | none, none => true
  | _, _ => false
/-- which side is taken: some true = ours, some false = theirs -/
def sideD (bs os ts : Es) (z : Str) : Option Bool := if agreeD os ts z = true ∨ agreeD bs ts z = true then some true else if agreeD bs os z = true then some false else none
def spAg : Sp := fun vs H Q _ => ∃ (a b : Addr) (z : Str) (es fs : Es), vs = [.ref a, .ref b, .str z] ∧ Dct H a es ∧ Dct H b fs ∧ EsOk es ∧ EsOk fs ∧ ∀ H', Same H H' → Q (.bl (agreeD es fs z)) H'
def sideV (o t : Addr) : Option Bool → V
  | some true => .ref o
  | some false => .ref t
  | none => .non
def spSd : Sp := fun vs H Q _ => ∃ (b o t : Addr) (z : Str) (bs os ts : Es), vs = [.ref b, .ref o, .ref t, .str z] ∧ Dct H b bs ∧ Dct H o os ∧ Dct H t ts ∧ EsOk bs ∧ EsOk os ∧ EsOk ts ∧ ∀ H', Same H H' → Q (sideV o t (sideD bs os ts z)) H'
section
variable {P : Program} {w : World} {K : PySem.W.Frag} {mg : Str → Option Value} {base : Heap} {f : Addr} {fd : FuncData}
abbrev sAg : Stmt := top 5
abbrev nAg : List Str := ["one", "other", "name"]
abbrev pAg : List Str := ["one", "other", "name"]
theorem scAg : FnScope nAg pAg (defScope sAg) := ⟨rfl, rfl, rfl, by decide +kernel, rfl, by decide +kernel, by decide +kernel⟩
section
variable {fA_ : Addr} {fdA_ : FuncData}
theorem ok_Ag (F : Fun K "agree" "agree" sAg f fd) (T : Bt mg)
    (GA_ : FnOk P w K mg base CX0 9 fA_ fdA_ ["one", "other"] (spSm 8)) (mA_ : mg "is_same" = some (.ref fA_)) (kA_ : PySem.W.keepIn K (.ref fA_) = true) (bA_ : Binds K fdA_ ["one", "other"] []) : FnOk P w K mg base CX0 10 f fd pAg (spAg) := by
  refine F.ok scAg (fun vs H Q E h => ?_) (fun cdv A outer s H vs Q E hr h => ?_)
  · obtain ⟨a, b, z, es, fs, rfl, _⟩ := h
    rfl
  · obtain ⟨a, b, z, es, fs, rfl, ha, hb, oe, of, k⟩ := h
    have hrA_ : Room (9) _ := hr.mono (by first | decide | omega)
    refine ⟨_, (pss_cons (ps_if (PW.pt (pw_or (pt_cmpR (op_notInDk (hu_of hr)) (pv 2) (pv 0) (by rfl)) (pw_or1 (pt_cmpR (op_notInDk (hu_of hr)) (pv 2) (pv 1) (by rfl))))) (pss_one (ps_ret (pe_and (pe_cmpR (op_notInDk (hu_of hr)) (pv 2) (pv 0) (by rfl)) (pe_one (pe_cmpR (op_notInDk (hu_of hr)) (pv 2) (pv 1) (by rfl)))))) pss_nil)
      (pss_one (ps_ret (pe_call GA_ hrA_ (by rfl) mA_ kA_ bA_ .nil pass0 (pa_cons (pe_dget (hu_of hr) (pv 0) (pv 2) (fun _ _ => rfl)) (pa_cons (pe_dget (hu_of hr) (pv 1) (pv 2) (fun _ _ => rfl)) pa_nil)))))), ?_⟩
    obtain ⟨kvs, ka, ca⟩ := ha
    obtain ⟨kws, kb, cb⟩ := hb
    have k0 := k H (Same.refl H)
    have g1 : DGet H a (.str z) (valV kvs (Sum.inr z : Key)) := DGet.k (k := Sum.inr z) ka
    have g2 : DGet H b (.str z) (valV kws (Sum.inr z : Key)) := DGet.k (k := Sum.inr z) kb
    unfold agreeD at k k0
    rcases cv_val ca z with ⟨i1, i2⟩ | ⟨d, v, i1, i2, i3, i4⟩
    · rw [i1] at k0
      rw [i2] at g1
      refine ⟨_, rfl, _, rfl, a, _, rfl, g1, _, rfl, iteT (iteT ⟨_, rfl, _, rfl, a, _, rfl, g1, _, rfl, iteT ⟨_, rfl, _, rfl, b, _, rfl, g2, ?_⟩⟩)⟩
      rcases cv_val cb z with ⟨j1, j2⟩ | ⟨e, u, j1, j2, j3, j4⟩
      · rw [j1] at k0
        rw [j2]
        exact k0
      · rw [j1] at k0
        rw [j2]
        exact k0
    · rw [i2] at g1
      rw [i1] at k k0
      refine ⟨_, rfl, _, rfl, a, _, rfl, g1, _, rfl, iteF ?_⟩
      rcases cv_val cb z with ⟨j1, j2⟩ | ⟨e, u, j1, j2, j3, j4⟩
      · rw [j1] at k0
        rw [j2] at g2
        exact ⟨_, rfl, _, rfl, b, _, rfl, g2, _, rfl, iteT ⟨_, rfl, _, rfl, a, _, rfl, g1, _, rfl, iteF k0⟩⟩
      · rw [j1] at k
        rw [j2] at g2
        exact ⟨_, rfl, _, rfl, b, _, rfl, g2, _, rfl, iteF ⟨_, rfl, _, rfl, a, v, rfl, g1, _, rfl, _, rfl, b, u, rfl, g2, v, u, d, e, rfl, i3, j3, (oe.ok _ i4).1, (of.ok _ j4).1, k⟩⟩
end
abbrev sSd : Stmt := top 6
abbrev nSd : List Str := ["base", "ours", "theirs", "name"]
abbrev pSd : List Str := ["base", "ours", "theirs", "name"]
theorem scSd : FnScope nSd pSd (defScope sSd) := ⟨rfl, rfl, rfl, by decide +kernel, rfl, by decide +kernel, by decide +kernel⟩
section
variable {fA_ : Addr} {fdA_ : FuncData}
theorem ok_Sd (F : Fun K "side_taken" "side_taken" sSd f fd) (T : Bt mg)
    (GA_ : FnOk P w K mg base CX0 10 fA_ fdA_ ["one", "other", "name"] (spAg)) (mA_ : mg "agree" = some (.ref fA_)) (kA_ : PySem.W.keepIn K (.ref fA_) = true) (bA_ : Binds K fdA_ ["one", "other", "name"] []) : FnOk P w K mg base CX0 11 f fd pSd (spSd) := by
  refine F.ok scSd (fun vs H Q E h => ?_) (fun cdv A outer s H vs Q E hr h => ?_)
  · obtain ⟨b, o, t, z, bs, os, ts, rfl, _⟩ := h
    rfl
  · obtain ⟨b, o, t, z, bs, os, ts, rfl, hb, ho, ht, ob, oo, ot, k⟩ := h
    have hrA_ : Room (10) _ := hr.mono (by first | decide | omega)
    refine ⟨_, (pss_cons (ps_if (PW.pt (pw_or (pt_val (pe_call GA_ hrA_ (by rfl) mA_ kA_ bA_ .nil pass0 (pa_cons (pv 1) (pa_cons (pv 2) (pa_cons (pv 3) pa_nil))))) (pw_or1 (pt_val (pe_call GA_ hrA_ (by rfl) mA_ kA_ bA_ .nil pass0 (pa_cons (pv 0) (pa_cons (pv 2) (pa_cons (pv 3) pa_nil)))))))) (pss_one (ps_ret (pv 1))) pss_nil)
      (pss_one (ps_ret (pe_ifExp (pt_val (pe_call GA_ hrA_ (by rfl) mA_ kA_ bA_ .nil pass0 (pa_cons (pv 0) (pa_cons (pv 1) (pa_cons (pv 3) pa_nil))))) (pv 2) pe_non)))), ?_⟩
    have dc : ∀ {H' : Hp} {a : Addr} {es : Es}, Same H H' → Dct H a es → EsOk es → Dct H' a es := fun {H' a es} s' ⟨kvs, e, c⟩ o => ⟨kvs, s' _ _ e, cv_t (SameT.of s') c fun e he => (o.ok e he).2⟩
    unfold sideD at k
    refine ⟨_, rfl, _, rfl, _, rfl, o, t, z, os, ts, rfl, ho, ht, oo, ot, fun H1 s1 => ⟨_, rfl, ite2 (fun q => ?_) (fun q => ?_)⟩⟩
    · rw [if_pos (.inl q)] at k
      exact iteT ⟨_, rfl, k H1 s1⟩
    · refine ⟨_, rfl, _, rfl, _, rfl, b, t, z, bs, ts, rfl, dc s1 hb ob, dc s1 ht ot, ob, ot, fun H2 s2 => ⟨_, rfl, ite2 (fun q2 => ?_) (fun q2 => ?_)⟩⟩
      · rw [if_pos (.inr q2)] at k
        exact ⟨_, rfl, k H2 (s1.trans s2)⟩
      · rw [if_neg (fun w => w.elim q q2)] at k
        refine ⟨_, rfl, _, rfl, _, rfl, b, o, z, bs, os, rfl, dc (s1.trans s2) hb ob, dc (s1.trans s2) ho oo, ob, oo, fun H3 s3 => ⟨_, rfl, ite2 (fun q3 => ?_) (fun q3 => ?_)⟩⟩
        · rw [if_pos q3] at k
          exact ⟨_, rfl, k H3 ((s1.trans s2).trans s3)⟩
        · rw [if_neg q3] at k
          exact k H3 ((s1.trans s2).trans s3)
end
end
end K71
set_option Elab.async false
set_option linter.all false
set_option maxRecDepth 100000
set_option maxHeartbeats 4000000
namespace K71
open PySem PySem.Spec PyProof.Rows L2 Lc
/-! ## merged -/
theorem cv_keys {H : Hp} {kvs : List (Key × V)} {es : Es} (h : Cv H kvs es) : (kvs.map fun kv => kV kv.1) = (es.map (·.1)).map V.str := by
  unfold Cv at h
  induction h with
  | nil => rfl
  | cons h r ih => rw [List.map_cons, ih, h.1]; rfl
theorem cv_new {H : Hp} {kvs : List (Key × V)} {es : Es} (h : Cv H kvs es) {z : Str} (n : z ∉ es.map (·.1)) (v : V) : putK kvs (Sum.inr z : Key) v = kvs ++ [(Sum.inr z, v)] := by
  have : (kvs.any fun kv => decide (kv.1 = (Sum.inr z : Key))) = false := by
    unfold Cv at h
    induction h with
    | nil => rfl
    | @cons p e kvs es h r ih =>
      rw [List.map_cons, List.mem_cons] at n
      rw [List.any_cons, ih fun q => n (.inr q), h.1, Bool.or_false]
      exact decide_eq_false fun q => n (.inl (by injection q with q; exact q.symm))
  unfold putK
  rw [if_neg (by rw [this]; decide)]
theorem cv_snoc {H : Hp} {kvs : List (Key × V)} {es : Es} (h : Cv H kvs es) {z : Str} {v : V} {d : PyData} (g : Dh H v d) : Cv H (kvs ++ [(Sum.inr z, v)]) (es ++ [(z, d)]) := Paired.snoc h ⟨rfl, g⟩
theorem cv_len {H : Hp} {kvs : List (Key × V)} {es : Es} (h : Cv H kvs es) : kvs.length = es.length := Paired.length h
/-- what is taken at a name: none, a conflict; some none, nothing; some some, this -/
def takeD (bs os ts : Es) (z : Str) : Option (Option PyData) := (sideD bs os ts z).map fun b => if b = true then os.lookup z else ts.lookup z
def mrgC (bs os ts : Es) (ys : List Str) : Es := ys.filterMap fun z => (takeD bs os ts z).bind fun r => r.map fun d => (z, d)
def mrgX (bs os ts : Es) (ys : List Str) : List Str := ys.filter fun z => (takeD bs os ts z).isNone
theorem mrgC_keys {bs os ts : Es} : ∀ {ys : List Str} {z : Str}, z ∈ (mrgC bs os ts ys).map (·.1) → z ∈ ys
  | ys, z, h => by
    obtain ⟨e, he, rfl⟩ := List.mem_map.mp h
    obtain ⟨y, hy, q⟩ := List.mem_filterMap.mp he
    cases r : takeD bs os ts y with
    | none => rw [r] at q; cases q
    | some r2 =>
      rw [r] at q
      cases r2 with
      | none => cases q
      | some d => cases q; exact hy
theorem look_mem : ∀ {es : Es} {z : Str} {d : PyData}, es.lookup z = some d → (z, d) ∈ es
  | (y, e) :: es, z, d, h => by
    rw [List.lookup_cons] at h
    by_cases q : z = y
    · subst q
      rw [show (z == z) = true by simp] at h
      cases h
      exact List.mem_cons_self
    · rw [show (z == y) = false by simpa using q] at h
      exact List.mem_cons_of_mem _ (look_mem h)
theorem mrgC_ok {bs os ts : Es} {ys : List Str} (ho : EsOk os) (ht : EsOk ts) : ∀ e ∈ mrgC bs os ts ys, okS 8 e.2 = true ∧ noL e.2 = true := by
  intro e he
  obtain ⟨y, hy, q⟩ := List.mem_filterMap.mp he
  unfold takeD at q
  cases r : sideD bs os ts y with
  | none => rw [r] at q; cases q
  | some b =>
    rw [r] at q
    cases b with
    | true =>
      cases l : os.lookup y with
      | none => simp [l] at q
      | some d => simp [l] at q; rw [← q]; exact ho.ok _ (look_mem l)
    | false =>
      cases l : ts.lookup y with
      | none => simp [l] at q
      | some d => simp [l] at q; rw [← q]; exact ht.ok _ (look_mem l)
def addD (z : Str) : Option (Option PyData) → Es
  | some (some d) => [(z, d)]
  | _ => []
theorem mrgC_snoc {bs os ts : Es} {l : List Str} {z : Str} : mrgC bs os ts (l ++ [z]) = mrgC bs os ts l ++ addD z (takeD bs os ts z) := by
  unfold mrgC
  rw [List.filterMap_append]
  congr 1
  rw [List.filterMap_cons]
  cases takeD bs os ts z with
  | none => rfl
  | some r => cases r <;> rfl
theorem mrgX_snoc {bs os ts : Es} {l : List Str} {z : Str} : mrgX bs os ts (l ++ [z]) = mrgX bs os ts l ++ (if (takeD bs os ts z).isNone = true then [z] else []) := by
  unfold mrgX
  rw [List.filter_append]
  congr 1
  rw [List.filter_cons]
  cases takeD bs os ts z <;> rfl
def Srt (ys : List Str) (bs os ts : Es) : Prop := sortedS ys = true ∧ ys.Nodup ∧ ∀ z, z ∈ ys ↔ z ∈ bs.map (·.1) ++ os.map (·.1) ++ ts.map (·.1)
def spMg : Sp := fun vs H Q _ => ∃ (b o t : Addr) (bs os ts : Es), vs = [.ref b, .ref o, .ref t] ∧ Dct H b bs ∧ Dct H o os ∧ Dct H t ts ∧ EsOk bs ∧ EsOk os ∧ EsOk ts ∧
  ∀ (ys : List Str) (p c q : Addr) (H' : Hp), Srt ys bs os ts → Same H H' → H p = none → H c = none → H q = none → H' p = some (.tup [.ref c, .ref q]) → Dct H' c (mrgC bs os ts ys) → H' q = some (.lst ((mrgX bs os ts ys).map V.str)) → Q (.ref p) H'
section
variable {P : Program} {w : World} {K : PySem.W.Frag} {mg : Str → Option Value} {base : Heap} {f : Addr} {fd : FuncData}
abbrev sMg : Stmt := top 7
abbrev nMg : List Str := ["base", "ours", "theirs", "cells", "conflicts", "name", "side"]
abbrev pMg : List Str := ["base", "ours", "theirs"]
theorem scMg : FnScope nMg pMg (defScope sMg) := ⟨rfl, rfl, rfl, by decide +kernel, rfl, by decide +kernel, by decide +kernel⟩
section
variable {fA_ : Addr} {fdA_ : FuncData}
theorem ok_Mg (F : Fun K "merged" "merged" sMg f fd) (T : Bt mg) (mS : mg "sorted" = none) (mE : mg "set" = none)
    (GA_ : FnOk P w K mg base CX0 11 fA_ fdA_ ["base", "ours", "theirs", "name"] (spSd)) (mA_ : mg "side_taken" = some (.ref fA_)) (kA_ : PySem.W.keepIn K (.ref fA_) = true) (bA_ : Binds K fdA_ ["base", "ours", "theirs", "name"] []) : FnOk P w K mg base CX0 12 f fd pMg (spMg) := by
  refine F.ok scMg (fun vs H Q E h => ?_) (fun cdv A outer s H vs Q E hr h => ?_)
  · obtain ⟨b, o, t, bs, os, ts, rfl, _⟩ := h
    rfl
  · obtain ⟨b, o, t, bs, os, ts, rfl, hb, ho, ht, ob, oo, ot, k⟩ := h
    have hrA_ : Room (11) _ := hr.mono (by first | decide | omega)
    refine ⟨_, (pss_cons (ps_set (i := 3) scMg.nd rfl (Or.inl rfl) pe_dnewK)
      (pss_cons (ps_set (i := 4) scMg.nd rfl (Or.inl rfl) (pe_lst pa_nil))
      (pss_cons (ps_for PassesOwn.never rfl (pi_list (pe_callB (cr_sortX rfl) (by rfl) mS (by decide +kernel) (pa_cons (pe_callTy (cr_setX rfl) (by rfl) mE boot_set (pa_cons (pe_op op_cat (pe_op op_cat (pe_callTy (call_listD rfl) (by rfl) T.list boot_list (pa_cons (pv 0) pa_nil)) (pe_callTy (call_listD rfl) (by rfl) T.list boot_list (pa_cons (pv 1) pa_nil))) (pe_callTy (call_listD rfl) (by rfl) T.list boot_list (pa_cons (pv 2) pa_nil))) pa_nil)) pa_nil))) (pg_name (i := 5) scMg.nd rfl (.inl rfl)) (pss_cons (ps_set (i := 6) scMg.nd rfl (Or.inl rfl) (pe_call GA_ hrA_ (by rfl) mA_ kA_ bA_ .nil pass0 (pa_cons (pv 0) (pa_cons (pv 1) (pa_cons (pv 2) (pa_cons (pv 5) pa_nil))))))
      (pss_one (ps_if (pt_cmpR op_isN (pv 6) pe_non (nomark _)) (pss_one (ps_expr (pe_bm PySem.F.plainAttrs_list PySem.F.slot_list_append PySem.F.type_list_append mt_append (pv 4) (pa_cons (pv 5) pa_nil)))) (pss_one (ps_if (pt_cmpR (op_inDk (hu_of hr)) (pv 5) (pv 6) (by rfl)) (pss_one (ps_dput (hu_of hr) (pv 3) (pv 5) (pe_dget (hu_of hr) (pv 6) (pv 5) (fun _ _ => rfl)) (by rfl))) pss_nil))))))
      (pss_one (ps_ret (pe_tup (pa_cons (pv 3) (pa_cons (pv 4) pa_nil)))))))), ?_⟩
    have dc : ∀ {H' : Hp} {a : Addr} {es : Es}, Same H H' → Dct H a es → EsOk es → Dct H' a es := fun {H' a es} s' ⟨kvs, e, c⟩ o => ⟨kvs, s' _ _ e, cv_t (SameT.of s') c fun e he => (o.ok e he).2⟩
    have hb0 := hb
    have ho0 := ho
    have ht0 := ht
    obtain ⟨kb, eb, cb⟩ := hb
    obtain ⟨ko, eo, co⟩ := ho
    obtain ⟨kt, et, ct⟩ := ht
    have lb := ob.ln
    have lo := oo.ln
    have lt := ot.ln
    intro c hc
    have z1 := Same.upd (o := .dK []) hc
    have c1 : upd H c (.dK []) c = some (.dK []) := upd_same
    generalize upd H c (.dK []) = H1 at z1 c1 ⊢
    refine ⟨by show 0 ≤ sizeLine; decide, fun q hq => ?_⟩
    have hq0 : H q = none := by cases w : H q with | none => rfl | some o => rw [z1 _ _ w] at hq; cases hq
    have z2 := Same.upd (o := .lst []) hq
    have q2 : upd H1 q (.lst []) q = some (.lst []) := upd_same
    generalize upd H1 q (.lst []) = H2 at z2 q2 ⊢
    have s2 := z1.trans z2
    have c2 := z2 _ _ c1
    refine ⟨_, rfl, b, kb, rfl, .inl (s2 _ _ eb), fun l1 h1 => ?_⟩
    rw [cv_keys cb]
    have z3 := Same.upd (o := .lst ((bs.map (·.1)).map V.str)) h1
    have e3 : upd H2 l1 (.lst ((bs.map (·.1)).map V.str)) l1 = some (.lst ((bs.map (·.1)).map V.str)) := upd_same
    generalize upd H2 l1 (.lst ((bs.map (·.1)).map V.str)) = H3 at z3 e3 ⊢
    refine ⟨_, rfl, o, ko, rfl, .inl ((s2.trans z3) _ _ eo), fun l2 h2 => ?_⟩
    rw [cv_keys co]
    have z4 := Same.upd (o := .lst ((os.map (·.1)).map V.str)) h2
    have e4 : upd H3 l2 (.lst ((os.map (·.1)).map V.str)) l2 = some (.lst ((os.map (·.1)).map V.str)) := upd_same
    generalize upd H3 l2 (.lst ((os.map (·.1)).map V.str)) = H4 at z4 e4 ⊢
    have big : (100 : Nat) ≤ sizeLine := by decide
    refine ⟨l1, l2, _, _, rfl, rfl, z4 _ _ e3, e4, by simp only [List.length_map]; omega, fun l3 h3 => ?_⟩
    rw [← List.map_append]
    have z5 := Same.upd (o := .lst ((bs.map (·.1) ++ os.map (·.1)).map V.str)) h3
    have e5 : upd H4 l3 (.lst ((bs.map (·.1) ++ os.map (·.1)).map V.str)) l3 = some (.lst ((bs.map (·.1) ++ os.map (·.1)).map V.str)) := upd_same
    generalize upd H4 l3 (.lst ((bs.map (·.1) ++ os.map (·.1)).map V.str)) = H5 at z5 e5 ⊢
    have s5 := ((s2.trans z3).trans z4).trans z5
    refine ⟨_, rfl, t, kt, rfl, .inl (s5 _ _ et), fun l4 h4 => ?_⟩
    rw [cv_keys ct]
    have z6 := Same.upd (o := .lst ((ts.map (·.1)).map V.str)) h4
    have e6 : upd H5 l4 (.lst ((ts.map (·.1)).map V.str)) l4 = some (.lst ((ts.map (·.1)).map V.str)) := upd_same
    generalize upd H5 l4 (.lst ((ts.map (·.1)).map V.str)) = H6 at z6 e6 ⊢
    refine ⟨l3, l4, _, _, rfl, rfl, z6 _ _ e5, e6, by simp only [List.length_map, List.length_append]; omega, fun l5 h5 => ?_⟩
    rw [← List.map_append]
    generalize hks : bs.map (·.1) ++ os.map (·.1) ++ ts.map (·.1) = ks
    have lks : ks.length ≤ 60 := by rw [← hks]; simp only [List.length_map, List.length_append]; omega
    have z7 := Same.upd (o := .lst (ks.map V.str)) h5
    have e7 : upd H6 l5 (.lst (ks.map V.str)) l5 = some (.lst (ks.map V.str)) := upd_same
    generalize upd H6 l5 (.lst (ks.map V.str)) = H7 at z7 e7 ⊢
    refine ⟨l5, ks, rfl, SqL.of e7, by omega, fun S hS => ?_⟩
    have z8 := Same.upd (o := SetXO w S ks) hS
    have e8 : upd H7 S (SetXO w S ks) S = some (SetXO w S ks) := upd_same
    refine ⟨S, ks, rfl, e8, by omega, fun ys L so nd mem hL => ?_⟩
    have z9 := Same.upd (o := .lst (ys.map V.str)) hL
    have e9 : upd (upd H7 S (SetXO w S ks)) L (.lst (ys.map V.str)) L = some (.lst (ys.map V.str)) := upd_same
    have z9 : Same (upd H7 S (SetXO w S ks)) (upd (upd H7 S (SetXO w S ks)) L (.lst (ys.map V.str))) := z9
    have s29 := ((((((z3.trans z4).trans z5).trans z6).trans z7).trans z8).trans z9)
    have s9 := s2.trans s29
    have srt : Srt ys bs os ts := ⟨so, nd, fun z => by rw [mem z, hks]⟩
    have lys : ys.length ≤ 60 := Nat.le_trans (List.Nodup.length_le_of_subset nd fun z hz => (mem z).mp hz) lks
    have cq : c ≠ q := ne_of_none c1 hq
    have cL : c ≠ L := ne_of_none ((((((z3.trans z4).trans z5).trans z6).trans z7).trans z8) _ _ c2) hL
    have qL : q ≠ L := ne_of_none ((((((z3.trans z4).trans z5).trans z6).trans z7).trans z8) _ _ q2) hL
    refine ⟨L, rfl, ⟨_, SqL.of e9⟩, for_list (K := K) (a := L) (xs := ys.map V.str) (fun i σ H' => (∃ x5 x6 : Option V, σ = [some (.ref b), some (.ref o), some (.ref t), some (.ref c), some (.ref q), x5, x6]) ∧ Dct H' c (mrgC bs os ts (ys.take i)) ∧ H' q = some (.lst ((mrgX bs os ts (ys.take i)).map V.str)) ∧ Same H H' ∧ H' L = some (.lst (ys.map V.str))) ⟨⟨_, _, rfl⟩, ⟨[], s29 _ _ c2, .nil⟩, s29 _ _ q2, s9, e9⟩ (fun i σ H' _ pr => SqL.of pr.2.2.2.2) ?_ ?_⟩
    · rintro i x σ H' hx ⟨⟨x5, x6, rfl⟩, dk, hq', s', hL'⟩
      rw [List.getElem?_map] at hx
      cases ez : ys[i]? with
      | none => rw [ez] at hx; cases hx
      | some z =>
      rw [ez] at hx
      cases hx
      have lti : i < ys.length := (List.getElem?_eq_some_iff.mp ez).1
      have et : ys.take (i + 1) = ys.take i ++ [z] := by rw [List.take_add_one, ez]; rfl
      rw [et]
      refine ⟨_, rfl, _, rfl, _, rfl, _, rfl, b, o, t, z, bs, os, ts, rfl, dc s' hb0 ob, dc s' ho0 oo, dc s' ht0 ot, ob, oo, ot, fun H2' s2' => ?_⟩
      have sA := s'.trans s2'
      obtain ⟨kc, ec, cc⟩ := dk
      have zi : z ∉ ys.take i := fun hm => by
        obtain ⟨j, hj, ej⟩ := List.getElem_of_mem hm
        rw [List.length_take] at hj
        rw [List.getElem_take] at ej
        have ez' := (List.getElem?_eq_some_iff.mp ez).2
        have := List.pairwise_iff_getElem.mp nd j i (by omega) lti (by omega)
        exact this (ej.trans ez'.symm)
      have zn : z ∉ (mrgC bs os ts (ys.take i)).map (·.1) := fun hm => zi (mrgC_keys hm)
      have c2' := s2' _ _ ec
      have q2' := s2' _ _ hq'
      have L2' := s2' _ _ hL'
      have cc2 := cv_t (SameT.of s2') cc fun e he => (mrgC_ok oo ot e he).2
      refine ⟨_, rfl, rfl, _, rfl, ?_⟩
      rw [mrgC_snoc, mrgX_snoc]
      cases hs : sideD bs os ts z with
      | none =>
        have et : takeD bs os ts z = none := by unfold takeD; rw [hs]; rfl
        rw [et]
        rw [show sideV o t none = V.non from rfl, decide_eq_true rfl]
        refine iteT ⟨_, rfl, .inl ⟨rfl, _, SqL.of q2'⟩, _, rfl, q, _, _, rfl, rfl, q2', by rw [List.length_map]; exact Nat.lt_of_le_of_lt (List.length_filter_le _ _) (by rw [List.length_take]; omega), ⟨⟨_, _, rfl⟩, ?_, ?_, ?_, ?_⟩⟩
        · show Dct _ c (mrgC bs os ts (ys.take i) ++ [])
          rw [List.append_nil]
          exact ⟨kc, by rw [upd_ne cq]; exact c2', cv_t (SameT.lst q2') cc2 fun e he => (mrgC_ok oo ot e he).2⟩
        · rw [upd_same, List.map_append]
          rfl
        · exact fun b' o' e' => by rw [upd_ne (ne_of_none e' hq0)]; exact sA b' o' e'
        · rw [upd_ne (Ne.symm qL)]
          exact L2'
      | some sd =>
        obtain ⟨a, es, ev, ha, et⟩ : ∃ a es, sideV o t (some sd) = V.ref a ∧ Dct H2' a es ∧ takeD bs os ts z = some (es.lookup z) := by
          cases sd with
          | true => exact ⟨o, os, rfl, dc sA ho0 oo, by unfold takeD; rw [hs]; rfl⟩
          | false => exact ⟨t, ts, rfl, dc sA ht0 ot, by unfold takeD; rw [hs]; rfl⟩
        rw [ev, decide_eq_false (show V.ref a ≠ V.non from nofun), et]
        refine iteF ?_
        obtain ⟨ke, ee, ce⟩ := ha
        have g : DGet H2' a (.str z) (valV ke (Sum.inr z : Key)) := DGet.k (k := Sum.inr z) ee
        rcases cv_val ce z with ⟨i1, i2⟩ | ⟨d, v, i1, i2, i3, i4⟩
        · rw [i2] at g
          rw [i1]
          refine ⟨_, rfl, _, rfl, a, _, rfl, g, _, rfl, iteF ⟨⟨_, _, rfl⟩, ?_, ?_, sA, L2'⟩⟩
          · show Dct _ c (mrgC bs os ts (ys.take i) ++ [])
            rw [List.append_nil]
            exact ⟨kc, c2', cc2⟩
          · show H2' q = some (.lst ((mrgX bs os ts (ys.take i) ++ []).map V.str))
            rw [List.append_nil]
            exact q2'
        · rw [i2] at g
          rw [i1]
          have lc : kc.length < sizeLine := by
            rw [cv_len cc2]
            exact Nat.lt_of_le_of_lt (List.length_filterMap_le _ _) (by rw [List.length_take]; omega)
          refine ⟨_, rfl, _, rfl, a, _, rfl, g, _, rfl, iteT ⟨_, rfl, _, rfl, a, v, rfl, g, _, rfl, _, rfl, c, _, rfl, .inl ⟨kc, Sum.inr z, c2', rfl, lc, rfl⟩, ⟨⟨_, _, rfl⟩, ?_, ?_, ?_, ?_⟩⟩⟩
          · rw [cv_new cc2 zn]
            have st : SameT H2' (upd H2' c (.dK (kc ++ [(Sum.inr z, v)]))) := fun b' xs e' => by rw [upd_ne (ne_of e' c2' nofun)]; exact e'
            have n1 : ∀ e ∈ mrgC bs os ts (ys.take i) ++ [(z, d)], noL e.2 = true := by
              have := mrgC_ok (bs := bs) (ys := ys.take i ++ [z]) oo ot
              rw [mrgC_snoc, et, i1] at this
              exact fun e he => (this e he).2
            exact ⟨_, upd_same, cv_t st (cv_snoc cc2 i3) n1⟩
          · show upd _ _ _ q = some (.lst ((mrgX bs os ts (ys.take i) ++ []).map V.str))
            rw [List.append_nil, upd_ne (Ne.symm cq)]
            exact q2'
          · exact fun b' o' e' => by rw [upd_ne (ne_of_none e' hc)]; exact sA b' o' e'
          · rw [upd_ne (Ne.symm cL)]
            exact L2'
    · rintro σ H' ⟨⟨x5, x6, rfl⟩, dk, hq', s', hL'⟩
      rw [List.length_map, List.take_length] at dk hq'
      refine ⟨_, rfl, _, rfl, by show 2 ≤ sizeLine; decide, fun p hp => ?_⟩
      have zp := Same.upd (o := .tup [.ref c, .ref q]) hp
      have hp0 : H p = none := by cases w : H p with | none => rfl | some o => rw [s' _ _ w] at hp; cases hp
      obtain ⟨kc, ec, cc⟩ := dk
      exact k ys p c q _ srt (s'.trans zp) hp0 hc hq0 upd_same ⟨kc, zp _ _ ec, cv_t (SameT.of zp) cc fun e he => (mrgC_ok oo ot e he).2⟩ (zp _ _ hq')
end
end
end K71
set_option Elab.async false
set_option linter.all false
set_option maxRecDepth 100000
set_option maxHeartbeats 4000000
namespace K71
open PySem PySem.Spec PyProof.Rows L2 Lc
def dl (t : Addr) (H : Hp) : Hp := fun b => if b = t then none else H b
theorem dl_at {t a : Addr} {H : Hp} {o : HO} (n : a ≠ t) (e : H a = some o) : dl t H a = some o := by
  unfold dl
  rw [if_neg n]
  exact e
theorem dl_of {t a : Addr} {H : Hp} {o : HO} (e : dl t H a = some o) : a ≠ t ∧ H a = some o := by
  unfold dl at e
  by_cases q : a = t
  · rw [if_pos q] at e; cases e
  · rw [if_neg q] at e; exact ⟨q, e⟩
theorem dl_same {t : Addr} {H H' : Hp} (s : SameB t H H') : Same (dl t H) (dl t H') := fun b o e => dl_at (dl_of e).1 (s b o (dl_of e).1 (dl_of e).2)
theorem dl_here {t : Addr} {H : Hp} : Same (dl t H) H := fun b o e => (dl_of e).2
abbrev DhT (t : Addr) (H : Hp) (v : V) (d : PyData) : Prop := Dh (dl t H) v d
/-- what is drawn is showable, at most k deep and n long -/
structure Sz (k n : Nat) (d : PyData) : Prop where
  sh : d.showable = true
  dz : d.depth ≤ k
  ln : d.shown.length ≤ n
theorem Sz.mono {k n k' n' : Nat} {d : PyData} (h : Sz k n d) (a : k ≤ k') (b : n ≤ n') : Sz k' n' d := ⟨h.sh, Nat.le_trans h.dz a, Nat.le_trans h.ln b⟩
theorem tm_sz {k n : Nat} {d : PyData} (h : Tm k n d) : Sz k n d := ⟨h.sh, h.dz, h.ln⟩
inductive SzA (k : Nat) : Nat → List PyData → Prop
  | nil : SzA k 0 []
  | cons {n m : Nat} {d : PyData} {ds : List PyData} (h : Sz k n d) (r : SzA k m ds) : SzA k (n + m) (d :: ds)
theorem SzA.all {k n : Nat} {ds : List PyData} (h : SzA k n ds) : PyData.showableAll ds = true ∧ PyData.depthAll ds ≤ k ∧ ((PyData.shownAll ds).map (·.length)).sum ≤ n ∧ (PyData.shownAll ds).length = ds.length := by
  induction h with
  | nil => exact ⟨rfl, Nat.zero_le _, Nat.le_refl _, rfl⟩
  | @cons n m d ds h r ih =>
    obtain ⟨h1, h2, h3, h4⟩ := ih
    refine ⟨by simp [PyData.showableAll, h.sh, h1], ?_, ?_, by simp [PyData.shownAll, h4]⟩
    · simp only [PyData.depthAll]
      have := h.dz
      omega
    · simp only [PyData.shownAll, List.map_cons, List.sum_cons]
      have := h.ln
      omega
theorem SzA.tup {k n : Nat} {ds : List PyData} (h : SzA k n ds) : Sz (k + 1) (n + 2 * ds.length + 3) (.tuple ds) := by
  obtain ⟨h1, h2, h3, h4⟩ := h.all
  refine ⟨by simpa [PyData.showable] using h1, ?_, ?_⟩
  · simp only [PyData.depth]
    omega
  · have := tupleText_len_le (PyData.shownAll ds)
    simp only [PyData.shown]
    omega
theorem SzA.app {k n m : Nat} {ds es : List PyData} (h : SzA k n ds) (g : SzA k m es) : SzA k (n + m) (ds ++ es) := by
  induction h with
  | nil => rw [Nat.zero_add]; exact g
  | cons h r ih => rw [Nat.add_assoc]; exact .cons h ih
theorem SzA.mono {k n : Nat} {k' : Nat} {ds : List PyData} (h : SzA k n ds) (l : k ≤ k') : SzA k' n ds := by
  induction h with
  | nil => exact .nil
  | cons h r ih => exact .cons (h.mono l (Nat.le_refl _)) ih
theorem newT {t c : Addr} {H : Hp} {a : Addr} {xs : List V} {ds : List PyData} (T : TapeL c H t) (g : H a = none) (h : DhAll (dl t H) xs ds) : ∃ H1, upd H a (.tup xs) = H1 ∧ DhT t H1 (.ref a) (.tuple ds) ∧ TapeL c H1 t ∧ Same H H1 := by
  have s := Same.upd (o := .tup xs) g
  exact ⟨_, rfl, .tup (dl_at (T.tape.ne g) upd_same) (h.same (dl_same (Same.b t s))), T.same s, s⟩
theorem newL {t c : Addr} {H : Hp} {a : Addr} {xs : List V} {ds : List PyData} (T : TapeL c H t) (g : H a = none) (h : DhAll (dl t H) xs ds) : ∃ H1, upd H a (.lst xs) = H1 ∧ DhT t H1 (.ref a) (.list ds) ∧ TapeL c H1 t ∧ Same H H1 := by
  have s := Same.upd (o := .lst xs) g
  exact ⟨_, rfl, .lst (dl_at (T.tape.ne g) upd_same) (h.same (dl_same (Same.b t s))), T.same s, s⟩
theorem newD {t c : Addr} {H : Hp} {a : Addr} (T : TapeL c H t) (g : H a = none) : ∃ H1, upd H a (.dK []) = H1 ∧ DhT t H1 (.ref a) (.dict []) ∧ TapeL c H1 t ∧ Same H H1 := by
  have s := Same.upd (o := .dK []) g
  exact ⟨_, rfl, .dct (dl_at (T.tape.ne g) upd_same), T.same s, s⟩
theorem dts {t : Addr} {H H1 : Hp} {v : V} {d : PyData} (h : DhT t H v d) (s : Same H H1) : DhT t H1 v d := h.same (dl_same (Same.b t s))
theorem dtsA {t : Addr} {H H1 : Hp} {vs : List V} {ds : List PyData} (h : DhAll (dl t H) vs ds) (s : Same H H1) : DhAll (dl t H1) vs ds := h.same (dl_same (Same.b t s))
/-! ## terms of data -/
structure Lit (te : TE) (d : PyData) : Prop where
  go : ∀ {σ : L2.St} {H : Hp} {Q : VK} {t c : Addr}, TapeL c H t → (∀ v H', DhT t H' v d → TapeL c H' t → Same H H' → Q v H') → te σ H Q
structure LitA (ta : TA) (ds : List PyData) : Prop where
  go : ∀ {σ : L2.St} {H : Hp} {Q : List V → Hp → Prop} {t c : Addr}, TapeL c H t → (∀ vs H', DhAll (dl t H') vs ds → TapeL c H' t → Same H H' → Q vs H') → ta σ H Q
theorem lit_non : Lit (tC .non) .none := ⟨fun T k => k _ _ .non T (Same.refl _)⟩
theorem lit_int {i : Int} : Lit (tC (.int i)) (.int i) := ⟨fun T k => k _ _ (.int _) T (Same.refl _)⟩
theorem lit_str {z : Str} : Lit (tC (.str z)) (.str z) := ⟨fun T k => k _ _ (.str _) T (Same.refl _)⟩
theorem lit_bl {b : Bool} : Lit (tC (.bl b)) (.bool b) := ⟨fun T k => k _ _ (.bl _) T (Same.refl _)⟩
theorem lita_nil : LitA tNil [] := ⟨fun T k => k _ _ .nil T (Same.refl _)⟩
theorem lita_cons {te : TE} {ta : TA} {d : PyData} {ds : List PyData} (h : Lit te d) (r : LitA ta ds) : LitA (tCons te ta) (d :: ds) := ⟨fun T k => h.go T fun v H1 d1 T1 s1 => r.go T1 fun vs H2 d2 T2 s2 => k _ _ (.cons (dts d1 s2) d2) T2 (s1.trans s2)⟩
theorem lit_tup {ta : TA} {ds : List PyData} (h : LitA ta ds) (l : ds.length ≤ sizeLine := by decide) : Lit (tTup ta) (.tuple ds) := ⟨fun T k => h.go T fun vs H1 d1 T1 s1 => ⟨by rw [d1.len]; exact l, fun p hp => by
  obtain ⟨H2, e, d2, T2, s2⟩ := newT T1 hp d1
  rw [e]
  exact k _ _ d2 T2 (s1.trans s2)⟩⟩
theorem lit_lst {ta : TA} {ds : List PyData} (h : LitA ta ds) (l : ds.length ≤ sizeLine := by decide) : Lit (tLst ta) (.list ds) := ⟨fun T k => h.go T fun vs H1 d1 T1 s1 => ⟨by rw [d1.len]; exact l, fun p hp => by
  obtain ⟨H2, e, d2, T2, s2⟩ := newL T1 hp d1
  rw [e]
  exact k _ _ d2 T2 (s1.trans s2)⟩⟩
theorem lit_dct : Lit tDNewK (.dict []) := ⟨fun T k p hp => by
  obtain ⟨H2, e, d2, T2, s2⟩ := newD T hp
  rw [e]
  exact k _ _ d2 T2 s2⟩
/-- a local that holds a list, and a list of data -/
theorem lit_cat {i : Nat} {te : TE} {ds es : List PyData} (h : Lit te (.list es)) (l : ds.length + es.length ≤ sizeLine := by decide) {σ : L2.St} {H : Hp} {Q : VK} {t c : Addr} {v : V} (T : TapeL c H t) (hi : σ[i]? = some (some v)) (hv : DhT t H v (.list ds))
    (k : ∀ v H', DhT t H' v (.list (ds ++ es)) → TapeL c H' t → Same H H' → Q v H') : tOp rCat (tVar i) te σ H Q := by
  refine ⟨v, hi, h.go T fun u H1 d1 T1 s1 => ?_⟩
  cases dts hv s1 with
  | @lst a xs _ e1 e2 =>
  cases d1 with
  | @lst b ys _ g1 g2 =>
  refine ⟨_, _, _, _, rfl, rfl, (dl_of e1).2, (dl_of g1).2, by rw [e2.len, g2.len]; exact l, fun p hp => ?_⟩
  obtain ⟨H2, e, d2, T2, s2⟩ := newL T1 hp (e2.append g2)
  rw [e]
  exact k _ _ d2 T2 (s1.trans s2)
/-! ## cells of the law -/
def stD : List PyData := [.tuple [], .tuple [.tuple [.str "first", .int 1]], .tuple [.tuple [.str "first", .bool true]], .tuple [.tuple [.str "first", .int 0]], .tuple [.tuple [.str "first", .bool false]], .tuple [.tuple [.str "distinct"]], .tuple [.tuple [.str "keep", .tuple [.str "value", .bool true]]], .tuple [.tuple [.str "keep", .tuple [.str "value", .tuple [.int 1, .int 1]]]], .tuple [.tuple [.str "keep", .tuple [.str "value", .tuple [.bool true, .int 1]]]], .tuple [.tuple [.str "sort", .str "a", .str "up"], .tuple [.str "first", .int 1]], .tuple [.tuple [.str "choose", .str "z", .tuple [.tuple [.tuple [.str "first", .int 1]], .tuple []]]], .tuple [.tuple [.str "choose", .str "z", .tuple [.tuple [.tuple [.str "first", .bool true]], .tuple []]]], .tuple [.tuple [.str "sample", .int 0, .int 1, .int 0]], .tuple [.tuple [.str "sample", .int 0, .int 1, .bool false]]]
/-- the cells that are drawn -/
def cellL : List PyData := (stD.map fun d => PyData.tuple [.str "r", d]) ++ stD.map fun d => PyData.tuple [.str "s", d]
def cellC (d : PyData) : Bool := okS 8 d && noL d && d.showable && decide (d.depth ≤ 20) && decide (d.shown.length ≤ 500)
theorem cell_all : cellL.all cellC = true := by decide +kernel
/-- on these, to be the same is to be shown alike -/
theorem cell_same : (cellL.all fun d => cellL.all fun e => sameF 8 d e == decide (d.shown = e.shown)) = true := by decide +kernel
theorem cell_none : cellL.all (fun d => decide (d.shown ≠ PyData.none.shown)) = true := by decide +kernel
end K71
set_option Elab.async false
set_option linter.all false
set_option maxRecDepth 100000
set_option maxHeartbeats 4000000
namespace K71
open PySem PySem.Spec PyProof.Rows L2 Lc
/-! ## cells drawn -/
def spSt : Sp := fun vs H Q _ => ∃ (t c : Addr), vs = [.ref t] ∧ TapeL c H t ∧ ∀ (v : V) (d : PyData) (H' : Hp), Dh H' v d → d ∈ stD → TapeL c H' t → SameB t H H' → Q v H'
theorem cell_of {d : PyData} (h : d ∈ cellL) : okS 8 d = true ∧ noL d = true ∧ Sz 20 500 d := by
  have := List.all_eq_true.mp cell_all d h
  unfold cellC at this
  simp only [Bool.and_eq_true, decide_eq_true_eq] at this
  exact ⟨this.1.1.1.1, this.1.1.1.2, this.1.1.2, this.1.2, this.2⟩
theorem cell_mk {x : Str} {d : PyData} (hx : x = "r" ∨ x = "s") (h : d ∈ stD) : PyData.tuple [.str x, d] ∈ cellL := by
  unfold cellL
  rcases hx with rfl | rfl
  · exact List.mem_append_left _ (List.mem_map.mpr ⟨d, h, rfl⟩)
  · exact List.mem_append_right _ (List.mem_map.mpr ⟨d, h, rfl⟩)
/-- cells under some of the names -/
structure Cells (es : Es) (ns : List Str) : Prop where
  nd : (es.map (·.1)).Nodup
  ok : ∀ e ∈ es, e.1 ∈ ns ∧ e.2 ∈ cellL
theorem Cells.es {es : Es} {ns : List Str} (h : Cells es ns) (l : ns.length ≤ 20) : EsOk es := by
  refine ⟨h.nd, ?_, fun e he => ⟨(cell_of (h.ok e he).2).1, (cell_of (h.ok e he).2).2.1⟩⟩
  have := List.Nodup.length_le_of_subset h.nd (l₂ := ns) fun z hz => by
    obtain ⟨e, he, rfl⟩ := List.mem_map.mp hz
    exact (h.ok e he).1
  rw [List.length_map] at this
  omega
def spCo : Sp := fun vs H Q _ => ∃ (t c N : Addr) (ns : List Str), vs = [.ref t, .ref N] ∧ TapeL c H t ∧ H N = some (.lst (ns.map V.str)) ∧ N ≠ t ∧ ns.Nodup ∧ ns.length ≤ 8 ∧ ∀ (a : Addr) (es : Es) (H' : Hp), H a = none → Dct H' a es → Cells es ns → TapeL c H' t → SameB t H H' → Q (.ref a) H'
section
variable {P : Program} {w : World} {K : PySem.W.Frag} {mg : Str → Option Value} {base : Heap} {f : Addr} {fd : FuncData}
abbrev sSt : Stmt := top 13
abbrev nSt : List Str := ["_law_tape_here", "_law_some"]
abbrev pSt : List Str := ["_law_tape_here"]
theorem scSt : FnScope nSt pSt (defScope sSt) := ⟨rfl, rfl, rfl, by decide +kernel, rfl, by decide +kernel, by decide +kernel⟩
section
variable {fA_ : Addr} {fdA_ : FuncData}
theorem ok_St (F : Fun K "_law_steps_of" "_law_steps_of" sSt f fd) (T : Bt mg)
    (GA_ : FnOk P w K mg base CX0 1 fA_ fdA_ ["_law_tape_here", "_law_many"] (spDrawL)) (mA_ : mg "_law_draw" = some (.ref fA_)) (kA_ : PySem.W.keepIn K (.ref fA_) = true) (bA_ : Binds K fdA_ ["_law_tape_here", "_law_many"] []) : FnOk P w K mg base CX0 2 f fd pSt (spSt) := by
  refine F.ok scSt (fun vs H Q E h => ?_) (fun cdv A outer s H vs Q E hr h => ?_)
  · obtain ⟨t, c, rfl, _⟩ := h
    rfl
  · obtain ⟨t, c, rfl, hT, k⟩ := h
    have hrA_ : Room (1) _ := hr.mono (by first | decide | omega)
    refine ⟨_, (pss_cons (ps_set (i := 1) scSt.nd rfl (Or.inl rfl) (pe_lst (pa_cons (pe_tup pa_nil) (pa_cons (pe_tup (pa_cons (pe_tup (pa_cons pe_str (pa_cons pe_int pa_nil))) pa_nil)) (pa_cons (pe_tup (pa_cons (pe_tup (pa_cons pe_str (pa_cons pe_bl pa_nil))) pa_nil)) (pa_cons (pe_tup (pa_cons (pe_tup (pa_cons pe_str (pa_cons pe_int pa_nil))) pa_nil)) (pa_cons (pe_tup (pa_cons (pe_tup (pa_cons pe_str (pa_cons pe_bl pa_nil))) pa_nil)) (pa_cons (pe_tup (pa_cons (pe_tup (pa_cons pe_str pa_nil)) pa_nil)) (pa_cons (pe_tup (pa_cons (pe_tup (pa_cons pe_str (pa_cons (pe_tup (pa_cons pe_str (pa_cons pe_bl pa_nil))) pa_nil))) pa_nil)) (pa_cons (pe_tup (pa_cons (pe_tup (pa_cons pe_str (pa_cons (pe_tup (pa_cons pe_str (pa_cons (pe_tup (pa_cons pe_int (pa_cons pe_int pa_nil))) pa_nil))) pa_nil))) pa_nil)) (pa_cons (pe_tup (pa_cons (pe_tup (pa_cons pe_str (pa_cons (pe_tup (pa_cons pe_str (pa_cons (pe_tup (pa_cons pe_bl (pa_cons pe_int pa_nil))) pa_nil))) pa_nil))) pa_nil)) (pa_cons (pe_tup (pa_cons (pe_tup (pa_cons pe_str (pa_cons pe_str (pa_cons pe_str pa_nil)))) (pa_cons (pe_tup (pa_cons pe_str (pa_cons pe_int pa_nil))) pa_nil))) (pa_cons (pe_tup (pa_cons (pe_tup (pa_cons pe_str (pa_cons pe_str (pa_cons (pe_tup (pa_cons (pe_tup (pa_cons (pe_tup (pa_cons pe_str (pa_cons pe_int pa_nil))) pa_nil)) (pa_cons (pe_tup pa_nil) pa_nil))) pa_nil)))) pa_nil)) (pa_cons (pe_tup (pa_cons (pe_tup (pa_cons pe_str (pa_cons pe_str (pa_cons (pe_tup (pa_cons (pe_tup (pa_cons (pe_tup (pa_cons pe_str (pa_cons pe_bl pa_nil))) pa_nil)) (pa_cons (pe_tup pa_nil) pa_nil))) pa_nil)))) pa_nil)) (pa_cons (pe_tup (pa_cons (pe_tup (pa_cons pe_str (pa_cons pe_int (pa_cons pe_int (pa_cons pe_int pa_nil))))) pa_nil)) (pa_cons (pe_tup (pa_cons (pe_tup (pa_cons pe_str (pa_cons pe_int (pa_cons pe_int (pa_cons pe_bl pa_nil))))) pa_nil)) pa_nil))))))))))))))))
      (pss_one (ps_ret (pe_ix ix_list (pv 1) (pe_call GA_ hrA_ (by rfl) mA_ kA_ bA_ .nil pass0 (pa_cons (pv 0) (pa_cons pe_int pa_nil))) (fun _ _ => rfl))))), ?_⟩
    have l0 : Lit _ (.list stD) := (lit_lst (lita_cons (lit_tup lita_nil) (lita_cons (lit_tup (lita_cons (lit_tup (lita_cons lit_str (lita_cons lit_int lita_nil))) lita_nil)) (lita_cons (lit_tup (lita_cons (lit_tup (lita_cons lit_str (lita_cons lit_bl lita_nil))) lita_nil)) (lita_cons (lit_tup (lita_cons (lit_tup (lita_cons lit_str (lita_cons lit_int lita_nil))) lita_nil)) (lita_cons (lit_tup (lita_cons (lit_tup (lita_cons lit_str (lita_cons lit_bl lita_nil))) lita_nil)) (lita_cons (lit_tup (lita_cons (lit_tup (lita_cons lit_str lita_nil)) lita_nil)) (lita_cons (lit_tup (lita_cons (lit_tup (lita_cons lit_str (lita_cons (lit_tup (lita_cons lit_str (lita_cons lit_bl lita_nil))) lita_nil))) lita_nil)) (lita_cons (lit_tup (lita_cons (lit_tup (lita_cons lit_str (lita_cons (lit_tup (lita_cons lit_str (lita_cons (lit_tup (lita_cons lit_int (lita_cons lit_int lita_nil))) lita_nil))) lita_nil))) lita_nil)) (lita_cons (lit_tup (lita_cons (lit_tup (lita_cons lit_str (lita_cons (lit_tup (lita_cons lit_str (lita_cons (lit_tup (lita_cons lit_bl (lita_cons lit_int lita_nil))) lita_nil))) lita_nil))) lita_nil)) (lita_cons (lit_tup (lita_cons (lit_tup (lita_cons lit_str (lita_cons lit_str (lita_cons lit_str lita_nil)))) (lita_cons (lit_tup (lita_cons lit_str (lita_cons lit_int lita_nil))) lita_nil))) (lita_cons (lit_tup (lita_cons (lit_tup (lita_cons lit_str (lita_cons lit_str (lita_cons (lit_tup (lita_cons (lit_tup (lita_cons (lit_tup (lita_cons lit_str (lita_cons lit_int lita_nil))) lita_nil)) (lita_cons (lit_tup lita_nil) lita_nil))) lita_nil)))) lita_nil)) (lita_cons (lit_tup (lita_cons (lit_tup (lita_cons lit_str (lita_cons lit_str (lita_cons (lit_tup (lita_cons (lit_tup (lita_cons (lit_tup (lita_cons lit_str (lita_cons lit_bl lita_nil))) lita_nil)) (lita_cons (lit_tup lita_nil) lita_nil))) lita_nil)))) lita_nil)) (lita_cons (lit_tup (lita_cons (lit_tup (lita_cons lit_str (lita_cons lit_int (lita_cons lit_int (lita_cons lit_int lita_nil))))) lita_nil)) (lita_cons (lit_tup (lita_cons (lit_tup (lita_cons lit_str (lita_cons lit_int (lita_cons lit_int (lita_cons lit_bl lita_nil))))) lita_nil)) lita_nil)))))))))))))))
    unfold tSeq tAsg
    refine l0.go hT fun v H1 d1 T1 s1 => ?_
    cases d1 with
    | @lst r xs _ er dr =>
    have er := dl_of er
    refine ⟨_, rfl, _, rfl, t, c, _, rfl, T1, by decide, big1000 (by decide) (by decide), fun i H2 i0 i9 T2 S2 => ?_⟩
    have lr := dr.len
    have hi : i.toNat < xs.length := by rw [lr]; show i.toNat < 14; omega
    obtain ⟨d, ed, dd⟩ := dr.get _ _ (List.getElem?_eq_getElem hi)
    refine ⟨r, _, _, _, rfl, rfl, SqL.of (S2 _ _ er.1 er.2), at_of (j := i.toNat) (by omega) (List.getElem?_eq_getElem hi), ?_⟩
    exact k _ d _ ((dd.same (dl_same S2)).same dl_here) (List.mem_of_getElem? ed) T2 ((Same.b t s1).trans S2)
end
abbrev sCo : Stmt := top 14
abbrev nCo : List Str := ["_law_tape_here", "_law_names", "_law_found", "_law_name_here"]
abbrev pCo : List Str := ["_law_tape_here", "_law_names"]
theorem scCo : FnScope nCo pCo (defScope sCo) := ⟨rfl, rfl, rfl, by decide +kernel, rfl, by decide +kernel, by decide +kernel⟩
section
variable {fA_ fB_ : Addr} {fdA_ fdB_ : FuncData}
theorem ok_Co (F : Fun K "_law_cells_of" "_law_cells_of" sCo f fd) (T : Bt mg)
    (GA_ : FnOk P w K mg base CX0 1 fA_ fdA_ ["_law_tape_here", "_law_many"] (spDrawL)) (mA_ : mg "_law_draw" = some (.ref fA_)) (kA_ : PySem.W.keepIn K (.ref fA_) = true) (bA_ : Binds K fdA_ ["_law_tape_here", "_law_many"] [])
    (GB_ : FnOk P w K mg base CX0 2 fB_ fdB_ ["_law_tape_here"] (spSt)) (mB_ : mg "_law_steps_of" = some (.ref fB_)) (kB_ : PySem.W.keepIn K (.ref fB_) = true) (bB_ : Binds K fdB_ ["_law_tape_here"] []) : FnOk P w K mg base CX0 3 f fd pCo (spCo) := by
  refine F.ok scCo (fun vs H Q E h => ?_) (fun cdv A outer s H vs Q E hr h => ?_)
  · obtain ⟨t, c, N, ns, rfl, _⟩ := h
    rfl
  · obtain ⟨t, c, N, ns, rfl, hT, hN, nt, nd, l8, k⟩ := h
    have hrA_ : Room (1) _ := hr.mono (by first | decide | omega)
    have hrB_ : Room (2) _ := hr.mono (by first | decide | omega)
    refine ⟨_, (pss_cons (ps_set (i := 2) scCo.nd rfl (Or.inl rfl) pe_dnewK)
      (pss_cons (ps_for PassesOwn.never rfl (pi_list (pv 1)) (pg_name (i := 3) scCo.nd rfl (.inl rfl)) (pss_one (ps_if (pt_cmpR op_gt (pe_call GA_ hrA_ (by rfl) mA_ kA_ bA_ .nil pass0 (pa_cons (pv 0) (pa_cons pe_int pa_nil))) pe_int (nomark _)) (pss_one (ps_dput (hu_of hr) (pv 2) (pv 3) (pe_tup (pa_cons (pe_ix ix_list (pe_lst (pa_cons pe_str (pa_cons pe_str pa_nil))) (pe_call GA_ hrA_ (by rfl) mA_ kA_ bA_ .nil pass0 (pa_cons (pv 0) (pa_cons pe_int pa_nil))) (fun _ _ => rfl)) (pa_cons (pe_call GB_ hrB_ (by rfl) mB_ kB_ bB_ .nil pass0 (pa_cons (pv 0) pa_nil)) pa_nil))) (by rfl))) pss_nil)))
      (pss_one (ps_ret (pv 2))))), ?_⟩
    intro a ha
    have z1 := Same.upd (o := .dK []) ha
    have a1 : upd H a (.dK []) a = some (.dK []) := upd_same
    have at' := hT.tape.ne ha
    generalize upd H a (.dK []) = H1 at z1 a1 ⊢
    have T1 := hT.same z1
    have two : 2 ≤ sizeLine := by decide
    refine ⟨_, rfl, N, rfl, ⟨_, SqL.of (z1 _ _ hN)⟩, for_list (K := K) (a := N) (xs := ns.map V.str) (fun i σ H' => (∃ x3 : Option V, σ = [some (.ref t), some (.ref N), some (.ref a), x3]) ∧ (∃ es, Dct H' a es ∧ Cells es (ns.take i)) ∧ TapeL c H' t ∧ SameB t H H') ⟨⟨_, rfl⟩, ⟨[], ⟨[], a1, .nil⟩, ⟨List.nodup_nil, nofun⟩⟩, T1, Same.b t z1⟩ (fun i σ H' _ pr => SqL.of (pr.2.2.2 _ _ nt hN)) ?_ ?_⟩
    · rintro i x σ H2 hx ⟨⟨x3, rfl⟩, ⟨es, ⟨kvs, ea, cv⟩, ce⟩, T2, S2⟩
      rw [List.getElem?_map] at hx
      cases ez : ns[i]? with
      | none => rw [ez] at hx; cases hx
      | some z =>
      rw [ez] at hx
      cases hx
      have lti : i < ns.length := (List.getElem?_eq_some_iff.mp ez).1
      have et : ns.take (i + 1) = ns.take i ++ [z] := by rw [List.take_add_one, ez]; rfl
      have zi : z ∉ ns.take i := fun hm => by
        obtain ⟨j, hj, ej⟩ := List.getElem_of_mem hm
        rw [List.length_take] at hj
        rw [List.getElem_take] at ej
        have ez' := (List.getElem?_eq_some_iff.mp ez).2
        exact List.pairwise_iff_getElem.mp nd j i (by omega) lti (by omega) (ej.trans ez'.symm)
      have zn : z ∉ es.map (·.1) := fun hm => by
        obtain ⟨e, he, eq⟩ := List.mem_map.mp hm
        exact zi (eq ▸ (ce.ok e he).1)
      have keepC : Cells es (ns.take (i + 1)) := ⟨ce.nd, fun e he => ⟨by rw [et]; exact List.mem_append_left _ (ce.ok e he).1, (ce.ok e he).2⟩⟩
      have okE : ∀ e ∈ es, noL e.2 = true := fun e he => (cell_of (ce.ok e he).2).2.1
      refine ⟨_, rfl, t, c, _, rfl, T2, by decide, big1000 (by decide) (by decide), fun j H3 j0 j3 T3 S3 => ⟨_, _, rfl, rfl, _, rfl, ite2 (fun _ => ?_) (fun _ => ⟨⟨_, rfl⟩, ⟨es, ⟨kvs, S3 _ _ at' ea, cv_t (SameT.b T2.tape S3) cv okE⟩, keepC⟩, T3, S2.trans S3⟩)⟩⟩
      refine ⟨two, fun Y hY => ?_⟩
      have zY := Same.upd (o := .lst [.str "r", .str "s"]) hY
      have nY := T3.tape.ne hY
      refine ⟨_, rfl, t, c, _, rfl, T3.same zY, by decide, big1000 (by decide) (by decide), fun u H4 u0 u2 T4 S4 => ?_⟩
      obtain ⟨xx, exx, hxx⟩ : ∃ xx : Str, ([.str "r", .str "s"] : List V)[u.toNat]? = some (.str xx) ∧ (xx = "r" ∨ xx = "s") := by
        have : u.toNat = 0 ∨ u.toNat = 1 := by omega
        rcases this with e | e <;> rw [e]
        · exact ⟨_, rfl, .inl rfl⟩
        · exact ⟨_, rfl, .inr rfl⟩
      refine ⟨Y, _, _, _, rfl, rfl, SqL.of (S4 _ _ nY upd_same), at_of (j := u.toNat) (by omega) exx, ?_⟩
      refine ⟨_, rfl, t, c, rfl, T4, fun v d H5 dv dm T5 S5 => ⟨two, fun p hp => ?_⟩⟩
      have zp := Same.upd (o := .tup [.str xx, v]) hp
      have ep : upd H5 p (.tup [.str xx, v]) p = some (.tup [.str xx, v]) := upd_same
      generalize upd H5 p (.tup [.str xx, v]) = H6 at zp ep ⊢
      have T6 := T5.same zp
      have S36 : SameB t H3 H6 := (((Same.b t zY).trans S4).trans S5).trans (Same.b t zp)
      have S26 := S3.trans S36
      have ea6 := S26 _ _ at' ea
      have cv6 := cv_t (SameT.b T2.tape S26) cv okE
      have lk : kvs.length < sizeLine := by
        rw [cv_len cv]
        have := (ce.es (by rw [List.length_take]; omega)).ln
        exact Nat.lt_of_le_of_lt this (by decide)
      refine ⟨_, rfl, _, rfl, a, _, rfl, .inl ⟨kvs, Sum.inr z, ea6, rfl, lk, rfl⟩, ⟨⟨_, rfl⟩, ⟨es ++ [(z, .tuple [.str xx, d])], ?_, ?_⟩, ?_, ?_⟩⟩
      · rw [cv_new cv6 zn]
        have st : SameT H6 (upd H6 a (.dK (kvs ++ [(Sum.inr z, .ref p)]))) := fun b' xs e' => by rw [upd_ne (ne_of e' ea6 nofun)]; exact e'
        refine ⟨_, upd_same, cv_t st (cv_snoc cv6 (.tup ep (.cons (.str _) (.cons (dv.same zp) .nil)))) fun e he => ?_⟩
        rcases List.mem_append.mp he with he | he
        · exact okE e he
        · rw [List.mem_singleton.mp he]
          exact (cell_of (cell_mk hxx dm)).2.1
      · refine ⟨by rw [List.map_append]; exact List.nodup_append.mpr ⟨ce.nd, by simp, fun x hx y hy => by rw [List.mem_singleton.mp hy]; exact fun q => zn (by rw [show x = z from q] at hx; exact hx)⟩, fun e he => ?_⟩
        rcases List.mem_append.mp he with he | he
        · exact keepC.ok e he
        · rw [List.mem_singleton.mp he, et]
          exact ⟨List.mem_append_right _ (List.mem_singleton.mpr rfl), cell_mk hxx dm⟩
      · obtain ⟨xs, ec⟩ := T6.list
        exact T6.upd at' (fun q => by rw [q, ec] at ea6; cases ea6)
      · exact fun b' o' n' e' => by rw [upd_ne (ne_of_none e' ha)]; exact (S2.trans S26) b' o' n' e'
    · rintro σ H2 ⟨⟨x3, rfl⟩, ⟨es, de, ce⟩, T2, S2⟩
      rw [List.length_map, List.take_length] at ce
      exact ⟨_, rfl, k a es H2 ha de ce T2 S2⟩
end
end
end K71
set_option Elab.async false
set_option linter.all false
set_option maxRecDepth 100000
set_option maxHeartbeats 4000000
namespace K71
open PySem PySem.Spec PyProof.Rows L2 Lc
/-! ## cells changed -/
theorem cv_any {H : Hp} {kvs : List (Key × V)} {es : Es} (h : Cv H kvs es) (z : Str) : (kvs.any fun kv => decide (kv.1 = (Sum.inr z : Key))) = decide (z ∈ es.map (·.1)) := by
  unfold Cv at h
  induction h with
  | nil => rfl
  | @cons p e kvs es h r ih =>
    rw [List.any_cons, ih, h.1, List.map_cons]
    rw [Bool.eq_iff_iff]
    simp only [Bool.or_eq_true, decide_eq_true_eq, List.mem_cons]
    exact ⟨fun q => q.elim (fun q => .inl (by injection q with q; exact q.symm)) .inr, fun q => q.elim (fun q => .inl (by rw [q])) .inr⟩
theorem cv_put {H : Hp} {kvs : List (Key × V)} {es : Es} {ns : List Str} (h : Cv H kvs es) (ce : Cells es ns) {z : Str} (hz : z ∈ ns) {v : V} {d : PyData} (g : Dh H v d) (hd : d ∈ cellL) : ∃ es', Cv H (putK kvs (Sum.inr z : Key) v) es' ∧ Cells es' ns := by
  unfold putK
  rw [cv_any h z]
  by_cases m : z ∈ es.map (·.1)
  · rw [if_pos (decide_eq_true m)]
    refine ⟨es.map fun e => if e.1 = z then (e.1, d) else e, ?_, ?_, ?_⟩
    · clear ce m
      unfold Cv at h ⊢
      induction h with
      | nil => exact .nil
      | @cons p e kvs es h r ih =>
        rw [List.map_cons, List.map_cons]
        refine .cons ?_ ih
        by_cases q : e.1 = z
        · rw [if_pos q, if_pos (by rw [h.1, q])]
          exact ⟨h.1, g⟩
        · rw [if_neg q, if_neg (fun w => q (by rw [h.1] at w; injection w))]
          exact h
    · have e1 : (es.map fun e => if e.1 = z then (e.1, d) else e).map (·.1) = es.map (·.1) := by
        rw [List.map_map]
        refine List.map_congr_left fun e _ => ?_
        show (if e.1 = z then (e.1, d) else e).1 = e.1
        split <;> rfl
      rw [e1]
      exact ce.nd
    · intro e he
      obtain ⟨e0, h0, rfl⟩ := List.mem_map.mp he
      have := ce.ok e0 h0
      split
      · exact ⟨this.1, hd⟩
      · exact this
  · rw [if_neg (fun w => m (of_decide_eq_true w))]
    refine ⟨es ++ [(z, d)], cv_snoc h g, ?_, fun e he => ?_⟩
    · rw [List.map_append]
      exact List.nodup_append.mpr ⟨ce.nd, by simp, fun x hx y hy => by rw [List.mem_singleton.mp hy]; exact fun q => m (by rw [show x = z from q] at hx; exact hx)⟩
    · rcases List.mem_append.mp he with he | he
      · exact ce.ok e he
      · rw [List.mem_singleton.mp he]
        exact ⟨hz, hd⟩
theorem cv_drop {H : Hp} {kvs : List (Key × V)} {es : Es} {ns : List Str} (h : Cv H kvs es) (ce : Cells es ns) (z : Str) : ∃ es', Cv H (dropK kvs (Sum.inr z : Key)) es' ∧ Cells es' ns := by
  refine ⟨es.filter fun e => decide (e.1 ≠ z), ?_, ?_, fun e he => ce.ok e (List.mem_filter.mp he).1⟩
  · clear ce
    unfold Cv at h ⊢
    unfold dropK
    induction h with
    | nil => exact .nil
    | @cons p e kvs es h r ih =>
      rw [List.filter_cons, List.filter_cons]
      by_cases q : e.1 = z
      · rw [if_neg (by rw [h.1, q]; simp), if_neg (by rw [q]; simp)]
        exact ih
      · rw [if_pos (by rw [h.1]; exact decide_eq_true fun w => q (by injection w)), if_pos (decide_eq_true q)]
        exact .cons h ih
  · exact (List.Sublist.map _ List.filter_sublist).nodup ce.nd
def spCh : Sp := fun vs H Q _ => ∃ (t c N a0 : Addr) (ns : List Str) (es : Es), vs = [.ref t, .ref a0, .ref N] ∧ TapeL c H t ∧ H N = some (.lst (ns.map V.str)) ∧ N ≠ t ∧ ns.Nodup ∧ 0 < ns.length ∧ ns.length ≤ 8 ∧ Dct H a0 es ∧ Cells es ns ∧ ∀ (a : Addr) (es : Es) (H' : Hp), H a = none → Dct H' a es → Cells es ns → TapeL c H' t → SameB t H H' → Q (.ref a) H'
section
variable {P : Program} {w : World} {K : PySem.W.Frag} {mg : Str → Option Value} {base : Heap} {f : Addr} {fd : FuncData}
abbrev sCh : Stmt := top 15
abbrev nCh : List Str := ["_law_tape_here", "_law_cells", "_law_names", "_law_found", "_law_k", "_law_name_here"]
abbrev pCh : List Str := ["_law_tape_here", "_law_cells", "_law_names"]
theorem scCh : FnScope nCh pCh (defScope sCh) := ⟨rfl, rfl, rfl, by decide +kernel, rfl, by decide +kernel, by decide +kernel⟩
section
variable {fA_ fB_ : Addr} {fdA_ fdB_ : FuncData}
theorem ok_Ch (F : Fun K "_law_changed" "_law_changed" sCh f fd) (T : Bt mg)
    (GA_ : FnOk P w K mg base CX0 1 fA_ fdA_ ["_law_tape_here", "_law_many"] (spDrawL)) (mA_ : mg "_law_draw" = some (.ref fA_)) (kA_ : PySem.W.keepIn K (.ref fA_) = true) (bA_ : Binds K fdA_ ["_law_tape_here", "_law_many"] [])
    (GB_ : FnOk P w K mg base CX0 2 fB_ fdB_ ["_law_tape_here"] (spSt)) (mB_ : mg "_law_steps_of" = some (.ref fB_)) (kB_ : PySem.W.keepIn K (.ref fB_) = true) (bB_ : Binds K fdB_ ["_law_tape_here"] []) : FnOk P w K mg base CX0 3 f fd pCh (spCh) := by
  refine F.ok scCh (fun vs H Q E h => ?_) (fun cdv A outer s H vs Q E hr h => ?_)
  · obtain ⟨t, c, N, a0, ns, es0, rfl, _⟩ := h
    rfl
  · obtain ⟨t, c, N, a0, ns, es0, rfl, hT, hN, nt, nd, l0, l8, h0, ce0, k⟩ := h
    have hrA_ : Room (1) _ := hr.mono (by first | decide | omega)
    have hrB_ : Room (2) _ := hr.mono (by first | decide | omega)
    refine ⟨_, (pss_cons (ps_set (i := 3) scCh.nd rfl (Or.inl rfl) (pe_callTy call_dictD (by rfl) T.dict boot_dict (pa_cons (pv 1) pa_nil)))
      (pss_cons (ps_for PassesOwn.never rfl (pi_range1 (by rfl) T.range (pa_cons (pe_call GA_ hrA_ (by rfl) mA_ kA_ bA_ .nil pass0 (pa_cons (pv 0) (pa_cons pe_int pa_nil))) pa_nil)) (pg_name (i := 4) scCh.nd rfl (.inl rfl)) (pss_cons (ps_set (i := 5) scCh.nd rfl (Or.inl rfl) (pe_ix ix_list (pv 2) (pe_call GA_ hrA_ (by rfl) mA_ kA_ bA_ .nil pass0 (pa_cons (pv 0) (pa_cons (pe_callB call_len_seq (by rfl) T.len PySem.boot_len (pa_cons (pv 2) pa_nil)) pa_nil))) (fun _ _ => rfl)))
      (pss_one (ps_if (PW.pt (pw_and (pt_cmpR (op_inDk (hu_of hr)) (pv 5) (pv 3) (by rfl)) (pw_and1 (pt_cmpR op_eq (pe_call GA_ hrA_ (by rfl) mA_ kA_ bA_ .nil pass0 (pa_cons (pv 0) (pa_cons pe_int pa_nil))) pe_int (nomark _))))) (pss_one (ps_expr (pe_dpop1 (pv 3) (pv 5) ⟨rfl, rfl, rfl, rfl⟩))) (pss_one (ps_dput (hu_of hr) (pv 3) (pv 5) (pe_tup (pa_cons pe_str (pa_cons (pe_call GB_ hrB_ (by rfl) mB_ kB_ bB_ .nil pass0 (pa_cons (pv 0) pa_nil)) pa_nil))) (by rfl)))))))
      (pss_one (ps_ret (pv 3))))), ?_⟩
    obtain ⟨kv0, e0, cv0⟩ := h0
    refine ⟨_, rfl, a0, kv0, rfl, .inl e0, fun a ha => ?_⟩
    have z1 := Same.upd (o := .dK kv0) ha
    have a1 : upd H a (.dK kv0) a = some (.dK kv0) := upd_same
    have at' := hT.tape.ne ha
    generalize upd H a (.dK kv0) = H1 at z1 a1 ⊢
    have T1 := hT.same z1
    have okE : ∀ {es : Es}, Cells es ns → ∀ e ∈ es, noL e.2 = true := fun ce e he => (cell_of (ce.ok e he).2).2.1
    have two : 2 ≤ sizeLine := by decide
    refine ⟨_, rfl, t, c, _, rfl, T1, by decide, big1000 (by decide) (by decide), fun m H2 m0 m6 T2 S2 => ⟨m, rfl, by omega, by omega, for_range (n := m.toNat) (fun i σ H' => (∃ x4 x5 : Option V, σ = [some (.ref t), some (.ref a0), some (.ref N), some (.ref a), x4, x5]) ∧ (∃ es, Dct H' a es ∧ Cells es ns) ∧ TapeL c H' t ∧ SameB t H H') ⟨⟨none, none, rfl⟩, ⟨es0, ⟨kv0, S2 _ _ at' a1, cv_t ((SameT.of z1).trans (SameT.b T1.tape S2)) cv0 (okE ce0)⟩, ce0⟩, T2, (Same.b t z1).trans S2⟩ ?_ (fun σ H' pr => by obtain ⟨⟨x4, x5, rfl⟩, ⟨es, de, ce⟩, T', S'⟩ := pr; exact ⟨_, rfl, k a es H' ha de ce T' S'⟩)⟩⟩
    clear cv0 ce0 e0 z1 a1
    rintro i σ H3 hi ⟨⟨x4, x5, rfl⟩, ⟨es, ⟨kvs, ea, cv⟩, ce⟩, T3, S3⟩
    have hN3 := S3 _ _ nt hN
    refine ⟨_, rfl, _, rfl, _, rfl, N, _, rfl, .inl (SqL.of hN3), t, c, _, rfl, T3, by rw [List.length_map]; omega, big1000 (by omega) (by rw [List.length_map]; omega), fun j H4 j0 j1 T4 S4 => ?_⟩
    rw [List.length_map] at j1
    have hj : j.toNat < ns.length := by omega
    have hm : (ns.map V.str)[j.toNat]? = some (.str ns[j.toNat]) := by rw [List.getElem?_map, List.getElem?_eq_getElem hj]; rfl
    refine ⟨N, _, _, _, rfl, rfl, SqL.of (S4 _ _ nt hN3), at_of (j := j.toNat) (by omega) hm, ?_⟩
    generalize hz : ns[j.toNat] = z
    have zm : z ∈ ns := hz ▸ List.getElem_mem hj
    have ea4 := S4 _ _ at' ea
    have cv4 := cv_t (SameT.b T3.tape S4) cv (okE ce)
    have S04 := S3.trans S4
    have g4 : DGet H4 a (.str z) (valV kvs (Sum.inr z : Key)) := DGet.k (k := Sum.inr z) ea4
    have lk : kvs.length < sizeLine := by
      rw [cv_len cv]
      exact Nat.lt_of_le_of_lt (ce.es (by omega)).ln (by decide)
    -- what is left behind a change of the dict
    have left : ∀ {H5 : Hp} {kvs' : List (Key × V)} {es' : Es}, TapeL c H5 t → SameB t H4 H5 → Cv H5 kvs' es' → Cells es' ns → (∃ es, Dct (upd H5 a (.dK kvs')) a es ∧ Cells es ns) ∧ TapeL c (upd H5 a (.dK kvs')) t ∧ SameB t H (upd H5 a (.dK kvs')) := fun {H5 kvs' es'} T5 S5 cv' ce' => by
      have ea5 := S5 _ _ at' ea4
      have st : SameT H5 (upd H5 a (.dK kvs')) := fun b' xs e' => by rw [upd_ne (ne_of e' ea5 nofun)]; exact e'
      obtain ⟨xs, ec⟩ := T5.list
      exact ⟨⟨es', ⟨_, upd_same, cv_t st cv' (okE ce')⟩, ce'⟩, T5.upd at' (fun q => by rw [q, ec] at ea5; cases ea5), fun b' o' n' e' => by rw [upd_ne (ne_of_none e' ha)]; exact (S04.trans S5) b' o' n' e'⟩
    have put : ∀ {D : Ends} {σ : L2.St} {H5 : Hp}, σ[0]? = some (some (.ref t)) → σ[3]? = some (some (.ref a)) → σ[5]? = some (some (.str z)) → TapeL c H5 t → SameB t H4 H5 → (∀ H', (∃ es, Dct H' a es ∧ Cells es ns) ∧ TapeL c H' t ∧ SameB t H H' → D.nx σ H') →
        sDPut (tVar 3) (tVar 5) (tTup (tCons (tC (.str "r")) (tCons (tCall spSt [] E0 (tCons (tVar 0) tNil)) tNil))) D σ H5 := fun {D σ H5} h0 h3 h5 T5 S5 kk => by
      refine ⟨_, h0, t, c, rfl, T5, fun v d H6 dv dm T6 S6 => ⟨two, fun p hp => ?_⟩⟩
      have zp := Same.upd (o := .tup [.str "r", v]) hp
      have ep : upd H6 p (.tup [.str "r", v]) p = some (.tup [.str "r", v]) := upd_same
      generalize upd H6 p (.tup [.str "r", v]) = H7 at zp ep ⊢
      have S47 := (S5.trans S6).trans (Same.b t zp)
      obtain ⟨es', cv', ce'⟩ := cv_put (cv_t (SameT.b T4.tape S47) cv4 (okE ce)) ce zm (v := .ref p) (d := .tuple [.str "r", d]) (.tup ep (.cons (.str _) (.cons (dv.same zp) .nil))) (cell_mk (.inl rfl) dm)
      exact ⟨_, h3, _, h5, a, _, rfl, .inl ⟨kvs, Sum.inr z, S47 _ _ at' ea4, rfl, lk, rfl⟩, kk _ (left (T6.same zp) S47 cv' ce')⟩
    rcases cv_val cv4 z with ⟨i1, i2⟩ | ⟨d, v, i1, i2, i3, i4⟩
    · rw [i2] at g4
      exact ⟨_, rfl, _, rfl, a, _, rfl, g4, _, rfl, iteF (iteF (put rfl rfl rfl T4 (SameB.refl t H4) fun H' pr => ⟨⟨_, _, rfl⟩, pr⟩))⟩
    · rw [i2] at g4
      refine ⟨_, rfl, _, rfl, a, _, rfl, g4, _, rfl, iteT ⟨_, rfl, t, c, _, rfl, T4, by decide, big1000 (by decide) (by decide), fun u H5 u0 u3 T5 S5 => ⟨rfl, _, rfl, ite2 (fun _ => ?_) (fun _ => ?_)⟩⟩⟩
      · have ea5 := S5 _ _ at' ea4
        obtain ⟨es', cv', ce'⟩ := cv_drop (cv_t (SameT.b T4.tape S5) cv4 (okE ce)) ce z
        exact ⟨_, rfl, a, rfl, .inl ⟨_, .inl ea5⟩, _, rfl, kvs, Sum.inr z, v, ea5, rfl, i2, ⟨⟨_, _, rfl⟩, left T5 S5 cv' ce'⟩⟩
      · exact put rfl rfl rfl T5 S5 fun H' pr => ⟨⟨_, _, rfl⟩, pr⟩
end
end
end K71
set_option Elab.async false
set_option linter.all false
set_option maxRecDepth 100000
set_option maxHeartbeats 4000000
namespace K71
open PySem PySem.Spec PyProof.Rows L2 Lc
/-! ## one order -/
theorem lt_or {a b : Str} : ltCps a.cps.toList b.cps.toList = decide (a.cps.toList < b.cps.toList) := ltCps_eq _ _
def leS (a b : Str) : Prop := ¬ (b.cps.toList < a.cps.toList)
theorem leS_trans {a b c : Str} (h : leS a b) (g : leS b c) : leS a c := by
  unfold leS at *
  rw [List.not_lt] at *
  exact List.le_trans h g
theorem leS_anti {a b : Str} (h : leS a b) (g : leS b a) : a = b := by
  unfold leS at *
  rw [List.not_lt] at *
  have : a.cps.toList = b.cps.toList := List.le_antisymm h g
  exact str_ext this
theorem rising_pw : ∀ {l : List Str} {p : Str}, risingS p l = true → (p :: l).Pairwise leS
  | [], p, _ => by simp
  | x :: r, p, h => by
    rw [risingS] at h
    simp only [Bool.and_eq_true, Bool.not_eq_true'] at h
    obtain ⟨h1, h2⟩ := h
    have i := rising_pw h2
    rw [lt_or] at h1
    have px : leS p x := of_decide_eq_false h1
    refine List.pairwise_cons.mpr ⟨fun y hy => ?_, i⟩
    rcases List.mem_cons.mp hy with rfl | hy
    · exact px
    · exact leS_trans px ((List.pairwise_cons.mp i).1 y hy)
theorem sorted_pw {l : List Str} (h : sortedS l = true) : l.Pairwise leS := by
  cases l with
  | nil => exact List.Pairwise.nil
  | cons x r => exact rising_pw h
theorem srt_one {ys zs : List Str} {bs os ts : Es} (h : Srt ys bs os ts) (g : Srt zs bs os ts) : ys = zs := by
  have key : ∀ (ys zs : List Str), ys.Pairwise leS → zs.Pairwise leS → ys.Nodup → zs.Nodup → (∀ z, z ∈ ys ↔ z ∈ zs) → ys = zs := by
    intro ys
    induction ys with
    | nil =>
      intro zs _ _ _ _ m
      cases zs with
      | nil => rfl
      | cons z zs => exact absurd ((m z).mpr List.mem_cons_self) List.not_mem_nil
    | cons y ys ih =>
      intro zs p1 p2 n1 n2 m
      cases zs with
      | nil => exact absurd ((m y).mp List.mem_cons_self) List.not_mem_nil
      | cons z zs =>
        obtain ⟨a1, a2⟩ := List.pairwise_cons.mp p1
        obtain ⟨b1, b2⟩ := List.pairwise_cons.mp p2
        obtain ⟨c1, c2⟩ := List.nodup_cons.mp n1
        obtain ⟨d1, d2⟩ := List.nodup_cons.mp n2
        have e : y = z := by
          rcases List.mem_cons.mp ((m y).mp List.mem_cons_self) with e | e
          · exact e
          · rcases List.mem_cons.mp ((m z).mpr List.mem_cons_self) with e2 | e2
            · exact e2.symm
            · exact leS_anti (a1 z e2) (b1 y e)
        subst e
        congr 1
        refine ih zs a2 b2 c2 d2 fun w => ⟨fun hw => ?_, fun hw => ?_⟩
        · rcases List.mem_cons.mp ((m w).mp (List.mem_cons_of_mem _ hw)) with e | e
          · exact absurd (e ▸ hw) c1
          · exact e
        · rcases List.mem_cons.mp ((m w).mpr (List.mem_cons_of_mem _ hw)) with e | e
          · exact absurd (e ▸ hw) d1
          · exact e
  exact key ys zs (sorted_pw h.1) (sorted_pw g.1) h.2.1 g.2.1 fun z => (h.2.2 z).trans (g.2.2 z).symm
/-! ## what the law finds -/
def gs (es : Es) (z : Str) : PyData := (es.lookup z).getD .none
theorem agree_shown {es fs : Es} {ns : List Str} (ce : Cells es ns) (cf : Cells fs ns) (z : Str) : agreeD es fs z = decide ((gs es z).shown = (gs fs z).shown) := by
  have nn : ∀ d ∈ cellL, d.shown ≠ PyData.none.shown := fun d hd => of_decide_eq_true (List.all_eq_true.mp cell_none d hd)
  unfold agreeD gs
  cases i : es.lookup z with
  | none =>
    cases j : fs.lookup z with
    | none => exact (decide_eq_true rfl).symm
    | some e => exact (decide_eq_false fun q => nn e (cf.ok _ (look_mem j)).2 q.symm).symm
  | some d =>
    cases j : fs.lookup z with
    | none => exact (decide_eq_false fun q => nn d (ce.ok _ (look_mem i)).2 q).symm
    | some e =>
      have h1 := List.all_eq_true.mp cell_same d (ce.ok _ (look_mem i)).2
      have h2 := List.all_eq_true.mp h1 e (cf.ok _ (look_mem j)).2
      exact eq_of_beq h2
end K71
set_option Elab.async false
set_option linter.all false
set_option maxRecDepth 100000
set_option maxHeartbeats 4000000
namespace K71
open PySem PySem.Spec PyProof.Rows L2 Lc
/-! ## due -/
theorem put_keys {acc : List (Key × V)} {ks : List Str} (h : acc.map (·.1) = ks.map Sum.inr) (nd : ks.Nodup) (z : Str) (v : V) : ∃ ks' : List Str, (putK acc (Sum.inr z : Key) v).map (·.1) = ks'.map Sum.inr ∧ ks'.Nodup ∧ (∀ y, y ∈ ks' ↔ y ∈ ks ∨ y = z) ∧ ks'.length ≤ ks.length + 1 := by
  unfold putK
  split
  · rename_i a
    refine ⟨ks, ?_, nd, fun y => ⟨.inl, fun w => w.elim id fun e => ?_⟩, by omega⟩
    · rw [List.map_map, ← h]
      refine List.map_congr_left fun e _ => ?_
      show (if e.1 = (Sum.inr z : Key) then (e.1, v) else e).1 = e.1
      split <;> rfl
    · obtain ⟨p, hp, q⟩ := List.any_eq_true.mp a
      have : (Sum.inr z : Key) ∈ ks.map Sum.inr := by rw [← h]; exact List.mem_map.mpr ⟨p, hp, of_decide_eq_true q⟩
      obtain ⟨w, hw, e2⟩ := List.mem_map.mp this
      injection e2 with e2
      rw [e, ← e2]
      exact hw
  · rename_i a
    refine ⟨ks ++ [z], by rw [List.map_append, h, List.map_append]; rfl, List.nodup_append.mpr ⟨nd, by simp, fun x hx y hy => ?_⟩, fun y => by simp, by simp⟩
    rw [List.mem_singleton.mp hy]
    intro q
    subst q
    refine a (List.any_eq_true.mpr ?_)
    have : (Sum.inr x : Key) ∈ acc.map (·.1) := by rw [h]; exact List.mem_map.mpr ⟨x, hx, rfl⟩
    obtain ⟨p, hp, e⟩ := List.mem_map.mp this
    exact ⟨p, hp, decide_eq_true e⟩
theorem merge_keys : ∀ (more : List (Key × V)) (names : List Str), more.map (·.1) = names.map Sum.inr → ∀ (acc : List (Key × V)) (ks : List Str), acc.map (·.1) = ks.map Sum.inr → ks.Nodup →
    ∃ ks' : List Str, (mergeK acc more).map (·.1) = ks'.map Sum.inr ∧ ks'.Nodup ∧ (∀ z, z ∈ ks' ↔ z ∈ ks ∨ z ∈ names) ∧ ks'.length ≤ ks.length + names.length
  | [], [], _, acc, ks, h, nd => ⟨ks, h, nd, fun z => by simp, by simp⟩
  | (k, v) :: more, n :: names, e, acc, ks, h, nd => by
    rw [List.map_cons, List.map_cons] at e
    have e1 : k = Sum.inr n := (List.cons.inj e).1
    have e2 := (List.cons.inj e).2
    subst e1
    obtain ⟨k1, a1, a2, a3, a4⟩ := put_keys h nd n v
    obtain ⟨k2, b1, b2, b3, b4⟩ := merge_keys more names e2 _ _ a1 a2
    refine ⟨k2, b1, b2, fun z => ?_, by rw [List.length_cons]; omega⟩
    rw [b3, a3, List.mem_cons]
    exact ⟨fun w => w.elim (fun w => w.elim .inl fun e => .inr (.inl e)) fun w => .inr (.inr w), fun w => w.elim (fun w => .inl (.inl w)) fun w => w.elim (fun e => .inl (.inr e)) .inr⟩
  | [], _ :: _, e, _, _, _, _ => by cases e
  | _ :: _, [], e, _, _, _, _ => by cases e
theorem cv_fst {H : Hp} {kvs : List (Key × V)} {es : Es} (h : Cv H kvs es) : kvs.map (·.1) = (es.map (·.1)).map Sum.inr := by
  unfold Cv at h
  induction h with
  | nil => rfl
  | cons h r ih => rw [List.map_cons, ih, h.1]; rfl
theorem paired_app {α β : Type} {F : α → β → Prop} : ∀ {as : List α} {bs : List β} {cs : List α} {ds : List β}, Paired F as bs → Paired F cs ds → Paired F (as ++ cs) (bs ++ ds)
  | _, _, _, _, .nil, h => h
  | _, _, _, _, .cons r t, h => .cons r (paired_app t h)
theorem paired_imp2 {α β : Type} {F G : α → β → Prop} (i : ∀ a b, F a b → G a b) : ∀ {as : List α} {bs : List β}, Paired F as bs → Paired G as bs
  | _, _, .nil => .nil
  | _, _, .cons r t => .cons (i _ _ r) (paired_imp2 i t)
/-- what is held of a name: as takeD says -/
def TakenOk (H : Hp) (v : V) : Option (Option PyData) → Prop
  | some (some d) => Dh H v d
  | _ => v = .non
theorem shE {a b : Str} : decide (V.str a = V.str b) = decide (a = b) := decide_eq_decide.mpr ⟨fun e => by injection e, fun e => by rw [e]⟩
def spDu : Sp := fun vs H Q _ => ∃ (b o t : Addr) (bs os ts : Es) (ns : List Str), vs = [.ref b, .ref o, .ref t] ∧ Dct H b bs ∧ Dct H o os ∧ Dct H t ts ∧ Cells bs ns ∧ Cells os ns ∧ Cells ts ns ∧ ns.length ≤ 8 ∧
  ∀ (ys : List Str) (p c q : Addr) (H' : Hp), Srt ys bs os ts → Same H H' → H p = none → H c = none → H q = none → H' p = some (.tup [.ref c, .ref q]) → Dct H' c (mrgC bs os ts ys) → H' q = some (.lst ((mrgX bs os ts ys).map V.str)) → Q (.ref p) H'
section
variable {P : Program} {w : World} {K : PySem.W.Frag} {mg : Str → Option Value} {base : Heap} {f : Addr} {fd : FuncData}
abbrev sDu : Stmt := top 16
abbrev nDu : List Str := ["_law_old", "_law_mine", "_law_other", "_law_cells", "_law_conflicts", "_law_name_here", "_law_texts", "_law_one", "_law_taken"]
abbrev pDu : List Str := ["_law_old", "_law_mine", "_law_other"]
theorem scDu : FnScope nDu pDu (defScope sDu) := ⟨rfl, rfl, rfl, by decide +kernel, rfl, by decide +kernel, by decide +kernel⟩
section
theorem ok_Du (F : Fun K "_law_due" "_law_due" sDu f fd) (T : Bt mg) (sm : SmK K) (mS : mg "sorted" = none) : FnG P w K mg base 5 f fd pDu (spDu) := by
  refine Lc.Fun.okG F scDu (fun vs H Q E h => ?_) (fun cdv A outer s H vs Q E hg hr h => ?_)
  · obtain ⟨b, o, t, bs, os, ts, ns, rfl, _⟩ := h
    rfl
  · obtain ⟨b, o, t, bs, os, ts, ns, rfl, hb, ho, ht, cb0, co0, ct0, l8, k⟩ := h
    refine ⟨_, (pss_cons (ps_set (i := 3) scDu.nd rfl (Or.inl rfl) pe_dnewK)
      (pss_cons (ps_set (i := 4) scDu.nd rfl (Or.inl rfl) (pe_lst pa_nil))
      (pss_cons (ps_for PassesOwn.never rfl (pi_list (pe_callB (call_sortedD rfl) (by rfl) mS (by decide +kernel) (pa_cons (pe_callTy (call_dictP rfl) (by rfl) T.dict boot_dict (pa_cons (pe_op op_cat (pe_op op_cat (LiI.pe_listItems rfl (pv 0) (by rfl) T.list boot_list) (LiI.pe_listItems rfl (pv 1) (by rfl) T.list boot_list)) (LiI.pe_listItems rfl (pv 2) (by rfl) T.list boot_list)) pa_nil)) pa_nil))) (pg_name (i := 5) scDu.nd rfl (.inr rfl)) (Evl.pss_cut (ps_setLc (i := 6) (own := [("_law_one", 7)]) (g := (gName 7)) (tt := tYes) (te := (tCB rReprF (tCons (tDGet1 (tVar 7) (tVar 5)) tNil))) (by rfl) scDu.nd rfl rfl (sw_true rfl rfl rfl (by decide +kernel)) (pi_list (pe_lst (pa_cons (pv 0) (pa_cons (pv 1) (pa_cons (pv 2) pa_nil))))) (blkOk_by (own := [("_law_one", 7)]) (N := nDu) (sc := defScope sDu) (by decide +kernel)) (fun _ _ _ _ _ => (pg_name (i := 7) scDu.nd rfl (.inl rfl))) (fun _ _ _ _ _ => pts_nil) (fun _ _ _ _ _ => (pe_callB (call_reprF sm hg hr.units) (by rfl) T.repr boot_repr (pa_cons (pe_dget1 (hu_of hr) (pv 7) (pv 5) ⟨rfl, rfl, rfl, rfl⟩) pa_nil))))
      (Evl.pss_cut (ps_if (PW.pt (pw_or (pt_cmpR op_eq (pe_ix ix_list (pv 6) pe_int (fun _ _ => rfl)) (pe_ix ix_list (pv 6) pe_int (fun _ _ => rfl)) (nomark _)) (pw_or1 (pt_cmpR op_eq (pe_ix ix_list (pv 6) pe_int (fun _ _ => rfl)) (pe_ix ix_list (pv 6) pe_int (fun _ _ => rfl)) (nomark _))))) (pss_one (ps_set (i := 8) scDu.nd rfl (Or.inl rfl) (pe_dget1 (hu_of hr) (pv 1) (pv 5) ⟨rfl, rfl, rfl, rfl⟩))) (pss_one (ps_if (pt_cmpR op_eq (pe_ix ix_list (pv 6) pe_int (fun _ _ => rfl)) (pe_ix ix_list (pv 6) pe_int (fun _ _ => rfl)) (nomark _)) (pss_one (ps_set (i := 8) scDu.nd rfl (Or.inl rfl) (pe_dget1 (hu_of hr) (pv 2) (pv 5) ⟨rfl, rfl, rfl, rfl⟩))) (pss_cons (ps_expr (pe_bm PySem.F.plainAttrs_list PySem.F.slot_list_append PySem.F.type_list_append mt_append (pv 4) (pa_cons (pv 5) pa_nil)))
      (pss_one (ps_set (i := 8) scDu.nd rfl (Or.inl rfl) pe_non))))))
      (pss_one (ps_if (pt_cmpR op_notN (pv 8) pe_non (nomark _)) (pss_one (ps_dput (hu_of hr) (pv 3) (pv 5) (pv 8) (by rfl))) pss_nil)))))
      (pss_one (ps_ret (pe_tup (pa_cons (pv 3) (pa_cons (pv 4) pa_nil)))))))), ?_⟩
    have big : (100 : Nat) ≤ sizeLine := by decide
    have okE : ∀ {es : Es}, Cells es ns → ∀ e ∈ es, noL e.2 = true := fun ce e he => (cell_of (ce.ok e he).2).2.1
    have lb := (cb0.es (by omega)).ln
    have lo := (co0.es (by omega)).ln
    have lt := (ct0.es (by omega)).ln
    obtain ⟨kb, eb, cb⟩ := hb
    obtain ⟨ko, eo, co⟩ := ho
    obtain ⟨kt, et, ct⟩ := ht
    have nb := cv_len cb
    have no := cv_len co
    have nt := cv_len ct
    intro c hc
    have z1 := Same.upd (o := .dK []) hc
    have c1 : upd H c (.dK []) c = some (.dK []) := upd_same
    generalize upd H c (.dK []) = H1 at z1 c1 ⊢
    refine ⟨by show 0 ≤ sizeLine; decide, fun q hq => ?_⟩
    have hq0 : H q = none := by cases w : H q with | none => rfl | some o => rw [z1 _ _ w] at hq; cases hq
    have z2 := Same.upd (o := .lst []) hq
    have q2 : upd H1 q (.lst []) q = some (.lst []) := upd_same
    generalize upd H1 q (.lst []) = H2 at z2 q2 ⊢
    have s2 := z1.trans z2
    have c2 := z2 _ _ c1
    refine ⟨_, rfl, b, kb, rfl, s2 _ _ eb, fun H3 l1 t1 z3 h1 _ _ e1 p1 => ?_⟩
    have z3 : Same H2 H3 := z3
    have n1 := Paired.length p1
    refine ⟨_, rfl, o, ko, rfl, (s2.trans z3) _ _ eo, fun H4 l2 t2 z4 h2 _ _ e2 p2 => ?_⟩
    have z4 : Same H3 H4 := z4
    have n2 := Paired.length p2
    refine ⟨l1, l2, _, _, rfl, rfl, z4 _ _ e1, e2, by simp only [List.length_map]; omega, fun l3 h3 => ?_⟩
    rw [← List.map_append]
    have z5 := Same.upd (o := .lst ((t1 ++ t2).map V.ref)) h3
    have e5 : upd H4 l3 (.lst ((t1 ++ t2).map V.ref)) l3 = some (.lst ((t1 ++ t2).map V.ref)) := upd_same
    generalize upd H4 l3 (.lst ((t1 ++ t2).map V.ref)) = H5 at z5 e5 ⊢
    have s5 := ((s2.trans z3).trans z4).trans z5
    refine ⟨_, rfl, t, kt, rfl, s5 _ _ et, fun H6 l4 t3 z6 h4 _ _ e4 p3 => ?_⟩
    have z6 : Same H5 H6 := z6
    have n3 := Paired.length p3
    refine ⟨l3, l4, _, _, rfl, rfl, z6 _ _ e5, e4, by simp only [List.length_map, List.length_append]; omega, fun l5 h5 => ?_⟩
    rw [← List.map_append]
    have z7 := Same.upd (o := .lst ((t1 ++ t2 ++ t3).map V.ref)) h5
    have e7 : upd H6 l5 (.lst ((t1 ++ t2 ++ t3).map V.ref)) l5 = some (.lst ((t1 ++ t2 ++ t3).map V.ref)) := upd_same
    generalize upd H6 l5 (.lst ((t1 ++ t2 ++ t3).map V.ref)) = H7 at z7 e7 ⊢
    have pp : Paired (fun (p : Addr) (kv : Key × V) => SqT K H7 p [kV kv.1, kv.2]) (t1 ++ t2 ++ t3) (kb ++ ko ++ kt) := paired_app (paired_app (paired_imp2 (fun a b h => SqT.of (z7 _ _ (z6 _ _ (z5 _ _ (z4 _ _ h))))) p1) (paired_imp2 (fun a b h => SqT.of (z7 _ _ (z6 _ _ (z5 _ _ h)))) p2)) (paired_imp2 (fun a b h => SqT.of (z7 _ _ h)) p3)
    refine ⟨l5, t1 ++ t2 ++ t3, kb ++ ko ++ kt, rfl, SqL.of e7, pp, fun S hS => ?_⟩
    obtain ⟨ks, k1, k2, k3, k4⟩ := merge_keys (kb ++ ko ++ kt) (bs.map (·.1) ++ os.map (·.1) ++ ts.map (·.1)) (by rw [List.map_append, List.map_append, cv_fst cb, cv_fst co, cv_fst ct, List.map_append, List.map_append]) [] [] rfl List.nodup_nil
    simp only [List.length_append, List.length_map, List.length_nil] at k4
    have z8 := Same.upd (o := .dK (mergeK [] (kb ++ ko ++ kt))) hS
    have e8 : upd H7 S (.dK (mergeK [] (kb ++ ko ++ kt))) S = some (.dK (mergeK [] (kb ++ ko ++ kt))) := upd_same
    generalize upd H7 S (.dK (mergeK [] (kb ++ ko ++ kt))) = H8 at z8 e8 ⊢
    refine ⟨S, _, ks, rfl, .inl e8, k1, by omega, fun ys L pm so hL => ?_⟩
    have srt : Srt ys bs os ts := ⟨so, pm.nodup_iff.mpr k2, fun z => by rw [pm.mem_iff, k3]; simp⟩
    have lys : ys.length ≤ 60 := by rw [pm.length_eq]; omega
    have s28 := (((((z3.trans z4).trans z5).trans z6).trans z7).trans z8)
    have cq : c ≠ q := ne_of_none c1 hq
    have cL : c ≠ L := ne_of_none (s28 _ _ c2) hL
    have qL : q ≠ L := ne_of_none (s28 _ _ q2) hL
    have z9 := Same.upd (o := .lst (ys.map V.str)) hL
    have e9 : upd H8 L (.lst (ys.map V.str)) L = some (.lst (ys.map V.str)) := upd_same
    generalize upd H8 L (.lst (ys.map V.str)) = H9 at z9 e9 ⊢
    have s29 := s28.trans z9
    have s9 := s2.trans s29
    have dc : ∀ {H' : Hp} {a : Addr} {kvs : List (Key × V)} {es : Es}, Same H H' → H a = some (.dK kvs) → Cv H kvs es → Cells es ns → H' a = some (.dK kvs) ∧ Cv H' kvs es := fun {H' a kvs es} s' e c o => ⟨s' _ _ e, cv_t (SameT.of s') c (okE o)⟩
    refine ⟨L, rfl, ⟨_, SqL.of e9⟩, for_list (K := K) (a := L) (xs := ys.map V.str) (fun i σ H' => (∃ x5 x6 x7 x8 : Option V, σ = [some (.ref b), some (.ref o), some (.ref t), some (.ref c), some (.ref q), x5, x6, x7, x8]) ∧ Dct H' c (mrgC bs os ts (ys.take i)) ∧ H' q = some (.lst ((mrgX bs os ts (ys.take i)).map V.str)) ∧ Same H H' ∧ H' L = some (.lst (ys.map V.str))) ⟨⟨_, _, _, _, rfl⟩, ⟨[], s29 _ _ c2, .nil⟩, s29 _ _ q2, s9, e9⟩ (fun i σ H' _ pr => SqL.of pr.2.2.2.2) ?_ ?_⟩
    · rintro i x σ H' hx ⟨⟨x5, x6, x7, x8, rfl⟩, dk, hq', s', hL'⟩
      rw [List.getElem?_map] at hx
      cases ez : ys[i]? with
      | none => rw [ez] at hx; cases hx
      | some z =>
      rw [ez] at hx
      cases hx
      have lti : i < ys.length := (List.getElem?_eq_some_iff.mp ez).1
      have etk : ys.take (i + 1) = ys.take i ++ [z] := by rw [List.take_add_one, ez]; rfl
      rw [etk]
      have three : 3 ≤ sizeLine := by decide
      let tx : List Str := [(gs bs z).shown, (gs os z).shown, (gs ts z).shown]
      refine ⟨fun σ H2' => ∃ (X : Addr) (x7 : Option V), σ = [some (.ref b), some (.ref o), some (.ref t), some (.ref c), some (.ref q), some (.str z), some (.ref X), x7, x8] ∧ H2' X = some (.lst (tx.map V.str)) ∧ Same H' H2', ?_, ?_⟩
      · refine ⟨_, rfl, _, rfl, _, rfl, three, fun M hM => ?_⟩
        have zM := Same.upd (o := .lst [.ref b, .ref o, .ref t]) hM
        have eM : upd H' M (.lst [.ref b, .ref o, .ref t]) M = some (.lst [.ref b, .ref o, .ref t]) := upd_same
        generalize upd H' M (.lst [.ref b, .ref o, .ref t]) = HM at zM eM ⊢
        refine ⟨M, rfl, ⟨_, SqL.of eM⟩, fun D hD => lc_list (K := K) (a := M) (xs := [.ref b, .ref o, .ref t]) (fun j H2' => H2' D = some (.lst ((tx.take j).map V.str)) ∧ Same HM H2') ⟨upd_same, Same.upd hD⟩ (fun j H2' _ pr => SqL.of (pr.2 _ _ eM)) ?_ ?_⟩
        · rintro j x H2' hx ⟨hD2, s2'⟩
          have sA := s'.trans (zM.trans s2')
          obtain ⟨a, kvs, es, rfl, ha, cv, ce, ej⟩ : ∃ a kvs es, x = V.ref a ∧ H a = some (.dK kvs) ∧ Cv H kvs es ∧ Cells es ns ∧ tx[j]? = some (gs es z).shown := by
            match j, hx with
            | 0, hx => cases hx; exact ⟨b, kb, bs, rfl, eb, cb, cb0, rfl⟩
            | 1, hx => cases hx; exact ⟨o, ko, os, rfl, eo, co, co0, rfl⟩
            | 2, hx => cases hx; exact ⟨t, kt, ts, rfl, et, ct, ct0, rfl⟩
            | _ + 3, hx => simp at hx
          obtain ⟨ha2, cv2⟩ := dc sA ha cv ce
          refine ⟨rfl, ?_⟩
          dsimp only [tYes]
          refine iteT ?_
          have fin : ∀ (v : V) (d : PyData), Dh H2' v d → gs es z = d → (d = .none ∨ d ∈ cellL) → rReprF [v] H2' fun w H3' => ∃ acc, H3' D = some (.lst acc) ∧ acc.length < sizeLine ∧ (upd H3' D (.lst (acc ++ [w]))) D = some (.lst ((tx.take (j + 1)).map V.str)) ∧ Same HM (upd H3' D (.lst (acc ++ [w]))) := fun v d dv eg hd => by
            have fa : d.showable = true ∧ d.depth ≤ 60 ∧ d.shown.length ≤ sizeLine := by
              rcases hd with rfl | hd
              · exact ⟨rfl, by decide, by decide +kernel⟩
              · obtain ⟨_, _, a1, a2, a3⟩ := cell_of hd
                exact ⟨a1, Nat.le_trans a2 (by decide), Nat.le_trans a3 (by decide)⟩
            refine ⟨v, d, rfl, dv, fa.1, fa.2.1, fa.2.2, _, hD2, ?_, ?_, fun b' o' e' => by rw [upd_ne (ne_of_none e' hD)]; exact s2' b' o' e'⟩
            · rw [List.length_map, List.length_take]
              exact Nat.lt_of_le_of_lt (Nat.min_le_right _ _) (by show 3 < sizeLine; decide)
            · rw [upd_same, List.take_add_one, ej, eg, List.map_append]
              rfl
          have g := DGet.k (k := Sum.inr z) ha2
          rcases cv_val cv2 z with ⟨i1, i2⟩ | ⟨d, v, i1, i2, i3, i4⟩
          · rw [i2] at g
            exact ⟨_, rfl, a, rfl, .inl ⟨_, .inl ha2⟩, _, rfl, _, g, fin .non .none .non (by unfold gs; rw [i1]; rfl) (.inl rfl)⟩
          · rw [i2] at g
            exact ⟨_, rfl, a, rfl, .inl ⟨_, .inl ha2⟩, _, rfl, _, g, fin v d i3 (by unfold gs; rw [i1]; rfl) (.inr (ce.ok _ i4).2)⟩
        · rintro H2' ⟨hD2, s2'⟩
          exact ⟨D, _, rfl, hD2, zM.trans s2'⟩
      rintro σ H2' ⟨X, x7, rfl, hX, s2'⟩
      have sA := s'.trans s2'
      obtain ⟨kc, ec, cc⟩ := dk
      have zi : z ∉ ys.take i := fun hm => by
        obtain ⟨j, hj, ej⟩ := List.getElem_of_mem hm
        rw [List.length_take] at hj
        rw [List.getElem_take] at ej
        have ez' := (List.getElem?_eq_some_iff.mp ez).2
        exact List.pairwise_iff_getElem.mp srt.2.1 j i (by omega) lti (by omega) (ej.trans ez'.symm)
      have zn : z ∉ (mrgC bs os ts (ys.take i)).map (·.1) := fun hm => zi (mrgC_keys hm)
      have mok : ∀ {l : List Str}, ∀ e ∈ mrgC bs os ts l, okS 8 e.2 = true ∧ noL e.2 = true := mrgC_ok (co0.es (by omega)) (ct0.es (by omega))
      have cc2 := cv_t (SameT.of s2') cc fun e he => (mok e he).2
      have c2' := s2' _ _ ec
      have q2' := s2' _ _ hq'
      have L2' := s2' _ _ hL'
      have a1 := agree_shown co0 ct0 z
      have a2 := agree_shown cb0 ct0 z
      have a3 := agree_shown cb0 co0 z
      refine ⟨fun σ H3' => ∃ (v : V), σ = [some (.ref b), some (.ref o), some (.ref t), some (.ref c), some (.ref q), some (.str z), some (.ref X), x7, some v] ∧ TakenOk H3' v (takeD bs os ts z) ∧ Dct H3' c (mrgC bs os ts (ys.take i)) ∧ H3' q = some (.lst ((mrgX bs os ts (ys.take i ++ [z])).map V.str)) ∧ Same H H3' ∧ H3' L = some (.lst (ys.map V.str)), ?_, ?_⟩
      · have get : ∀ (a : Addr) (kvs : List (Key × V)) (es : Es) (sd : Bool) (n : Nat), H a = some (.dK kvs) → Cv H kvs es → Cells es ns → takeD bs os ts z = some (es.lookup z) → ∀ {σ : L2.St} {Qn : V → Hp → Prop}, σ[n]? = some (some (.ref a)) → σ[5]? = some (some (.str z)) → (∀ v, TakenOk H2' v (takeD bs os ts z) → mrgX bs os ts (ys.take i ++ [z]) = mrgX bs os ts (ys.take i) → Qn v H2') → tDGet1 (tVar n) (tVar 5) σ H2' Qn := fun a kvs es sd n ha cv ce et {σ Qn} hn h5 kk => by
          obtain ⟨ha2, cv2⟩ := dc sA ha cv ce
          have g := DGet.k (k := Sum.inr z) ha2
          have em : mrgX bs os ts (ys.take i ++ [z]) = mrgX bs os ts (ys.take i) := by rw [mrgX_snoc, et]; exact List.append_nil _
          rcases cv_val cv2 z with ⟨i1, i2⟩ | ⟨d, v, i1, i2, i3, i4⟩
          · rw [i2] at g
            exact ⟨_, hn, a, rfl, .inl ⟨_, .inl ha2⟩, _, h5, _, g, kk _ (by rw [et, i1]; exact rfl) em⟩
          · rw [i2] at g
            exact ⟨_, hn, a, rfl, .inl ⟨_, .inl ha2⟩, _, h5, _, g, kk _ (by rw [et, i1]; exact i3) em⟩
        have mine : sideD bs os ts z = some true → takeD bs os ts z = some (os.lookup z) := fun e => by unfold takeD; rw [e]; rfl
        have others : sideD bs os ts z = some false → takeD bs os ts z = some (ts.lookup z) := fun e => by unfold takeD; rw [e]; rfl
        refine ⟨_, rfl, X, _, _, .str (gs os z).shown, rfl, rfl, SqL.of hX, at_of (j := 1) rfl rfl, _, rfl, X, _, _, .str (gs ts z).shown, rfl, rfl, SqL.of hX, at_of (j := 2) rfl rfl, rfl, _, rfl, ?_⟩
        rw [shE]
        by_cases A : (gs os z).shown = (gs ts z).shown
        · rw [decide_eq_true A]
          refine iteT (iteT ?_)
          have sd : sideD bs os ts z = some true := by unfold sideD; rw [if_pos (.inl (a1.trans (decide_eq_true A)))]
          exact get o ko os true 1 eo co co0 (mine sd) rfl rfl fun v tk em => ⟨v, rfl, tk, ⟨kc, c2', cc2⟩, by rw [em]; exact q2', sA, L2'⟩
        rw [decide_eq_false A]
        refine iteF ⟨_, rfl, X, _, _, .str (gs ts z).shown, rfl, rfl, SqL.of hX, at_of (j := 2) rfl rfl, _, rfl, X, _, _, .str (gs bs z).shown, rfl, rfl, SqL.of hX, at_of (j := 0) rfl rfl, rfl, _, rfl, ?_⟩
        rw [shE]
        by_cases B : (gs ts z).shown = (gs bs z).shown
        · rw [decide_eq_true B]
          refine iteT ?_
          have sd : sideD bs os ts z = some true := by unfold sideD; rw [if_pos (.inr (a2.trans (decide_eq_true B.symm)))]
          exact get o ko os true 1 eo co co0 (mine sd) rfl rfl fun v tk em => ⟨v, rfl, tk, ⟨kc, c2', cc2⟩, by rw [em]; exact q2', sA, L2'⟩
        rw [decide_eq_false B]
        refine iteF ⟨_, rfl, X, _, _, .str (gs os z).shown, rfl, rfl, SqL.of hX, at_of (j := 1) rfl rfl, _, rfl, X, _, _, .str (gs bs z).shown, rfl, rfl, SqL.of hX, at_of (j := 0) rfl rfl, rfl, _, rfl, ?_⟩
        rw [shE]
        have nA : ¬ (agreeD os ts z = true ∨ agreeD bs ts z = true) := fun w => w.elim (fun w => A (of_decide_eq_true (a1 ▸ w))) (fun w => B (of_decide_eq_true (a2 ▸ w)).symm)
        by_cases C : (gs os z).shown = (gs bs z).shown
        · rw [decide_eq_true C]
          refine iteT ?_
          have sd : sideD bs os ts z = some false := by unfold sideD; rw [if_neg nA, if_pos (a3.trans (decide_eq_true C.symm))]
          exact get t kt ts false 2 et ct ct0 (others sd) rfl rfl fun v tk em => ⟨v, rfl, tk, ⟨kc, c2', cc2⟩, by rw [em]; exact q2', sA, L2'⟩
        rw [decide_eq_false C]
        refine iteF ?_
        have sd : sideD bs os ts z = none := by unfold sideD; rw [if_neg nA, if_neg (fun w => C (of_decide_eq_true (a3 ▸ w)).symm)]
        have et : takeD bs os ts z = none := by unfold takeD; rw [sd]; rfl
        refine ⟨_, rfl, .inl ⟨rfl, _, SqL.of q2'⟩, _, rfl, q, _, _, rfl, rfl, q2', by rw [List.length_map]; exact Nat.lt_of_le_of_lt (List.length_filter_le _ _) (by rw [List.length_take]; omega), ⟨.non, rfl, by rw [et]; exact rfl, ⟨kc, by rw [upd_ne cq]; exact c2', cv_t (SameT.lst q2') cc2 fun e he => (mok e he).2⟩, ?_, ?_, ?_⟩⟩
        · rw [upd_same, mrgX_snoc, et, List.map_append]
          rfl
        · exact fun b' o' e' => by rw [upd_ne (ne_of_none e' hq0)]; exact sA b' o' e'
        · rw [upd_ne (Ne.symm qL)]
          exact L2'
      rintro σ H3' ⟨v, rfl, tk, ⟨kc3, ec3, cc3⟩, q3, s3, L3⟩
      rw [mrgC_snoc]
      have dm : ∀ d, takeD bs os ts z = some (some d) → d ∈ cellL := fun d e => by
        unfold takeD at e
        cases hs : sideD bs os ts z with
        | none => rw [hs] at e; cases e
        | some sd =>
          rw [hs] at e
          cases sd with
          | true =>
            have e : some (os.lookup z) = some (some d) := e
            exact (co0.ok _ (look_mem (Option.some.inj e))).2
          | false =>
            have e : some (ts.lookup z) = some (some d) := e
            exact (ct0.ok _ (look_mem (Option.some.inj e))).2
      have nothing : v = .non → addD z (takeD bs os ts z) = [] → _ := fun ev ea => (⟨⟨_, _, _, _, rfl⟩, by rw [ea, List.append_nil]; exact ⟨kc3, ec3, cc3⟩, q3, s3, L3⟩ : (∃ y5 y6 y7 y8 : Option V, [some (.ref b), some (.ref o), some (.ref t), some (.ref c), some (.ref q), some (.str z), some (.ref X), x7, some v] = [some (.ref b), some (.ref o), some (.ref t), some (.ref c), some (.ref q), y5, y6, y7, y8]) ∧ Dct H3' c (mrgC bs os ts (ys.take i) ++ addD z (takeD bs os ts z)) ∧ H3' q = some (.lst ((mrgX bs os ts (ys.take i ++ [z])).map V.str)) ∧ Same H H3' ∧ H3' L = some (.lst (ys.map V.str)))
      refine ⟨_, rfl, rfl, _, rfl, ?_⟩
      cases ht : takeD bs os ts z with
      | none =>
        rw [ht] at tk nothing
        have ev : v = .non := tk
        rw [decide_eq_true ev]
        exact iteF (nothing ev rfl)
      | some r =>
        cases r with
        | none =>
          rw [ht] at tk nothing
          have ev : v = .non := tk
          rw [decide_eq_true ev]
          exact iteF (nothing ev rfl)
        | some d =>
          rw [ht] at tk
          have tk : Dh H3' v d := tk
          have dc1 := dm d ht
          have nv : v ≠ .non := fun e => by
            subst e
            cases tk
            exact of_decide_eq_true (List.all_eq_true.mp cell_none _ dc1) rfl
          rw [decide_eq_false nv]
          have lc : kc3.length < sizeLine := by
            rw [cv_len cc3]
            exact Nat.lt_of_le_of_lt (List.length_filterMap_le _ _) (by rw [List.length_take]; omega)
          have st : SameT H3' (upd H3' c (.dK (kc3 ++ [(Sum.inr z, v)]))) := fun b' xs e' => by rw [upd_ne (ne_of e' ec3 nofun)]; exact e'
          refine iteT ⟨_, rfl, _, rfl, _, rfl, c, _, rfl, .inl ⟨kc3, Sum.inr z, ec3, rfl, lc, rfl⟩, ⟨⟨_, _, _, _, rfl⟩, ?_, ?_, ?_, ?_⟩⟩
          · rw [cv_new cc3 zn]
            refine ⟨_, upd_same, cv_t st (cv_snoc cc3 tk) fun e he => ?_⟩
            rcases List.mem_append.mp he with he | he
            · exact (mok e he).2
            · rw [List.mem_singleton.mp he]
              exact (cell_of dc1).2.1
          · rw [upd_ne (Ne.symm cq)]
            exact q3
          · exact fun b' o' e' => by rw [upd_ne (ne_of_none e' hc)]; exact s3 b' o' e'
          · rw [upd_ne (Ne.symm cL)]
            exact L3
    · rintro σ H' ⟨⟨x5, x6, x7, x8, rfl⟩, dk, hq', s', hL'⟩
      rw [List.length_map, List.take_length] at dk hq'
      refine ⟨_, rfl, _, rfl, by show 2 ≤ sizeLine; decide, fun p hp => ?_⟩
      have zp := Same.upd (o := .tup [.ref c, .ref q]) hp
      have hp0 : H p = none := by cases w : H p with | none => rfl | some o => rw [s' _ _ w] at hp; cases hp
      obtain ⟨kc, ec, cc⟩ := dk
      exact k ys p c q _ srt (s'.trans zp) hp0 hc hq0 upd_same ⟨kc, zp _ _ ec, cv_t (SameT.of zp) cc fun e he => (mrgC_ok (co0.es (by omega)) (ct0.es (by omega)) e he).2⟩ (zp _ _ hq')
end
end
end K71
set_option Elab.async false
set_option linter.all false
set_option maxRecDepth 100000
set_option maxHeartbeats 4000000
namespace K71
open PySem PySem.Spec PyProof.Rows L2 Lc
/-! ## how dicts of cells are shown -/
def kvD (es : Es) : List (PyData × PyData) := es.map fun e => (.str e.1, e.2)
def dictD (es : Es) : PyData := .dict (kvD es)
theorem cv_dd {H : Hp} {kvs : List (Key × V)} {es : Es} (h : Cv H kvs es) : DdKv H kvs (kvD es) := by
  unfold Cv at h
  induction h with
  | nil => exact .nil
  | @cons p e kvs es h r ih =>
    obtain ⟨k, v⟩ := p
    obtain ⟨y, d⟩ := e
    obtain ⟨h1, h2⟩ := h
    dsimp only at h1 h2
    subst h1
    exact .cons (.base h2) ih
theorem dct_dd {H : Hp} {a : Addr} {es : Es} (h : Dct H a es) : Dd H (.ref a) (dictD es) := by
  obtain ⟨kvs, e, c⟩ := h
  exact .dct e (cv_dd c)
/-- names that are short, cells that are cells -/
def Small (es : Es) : Prop := es.length ≤ 8 ∧ ∀ e ∈ es, Sh 12 e.1 ∧ e.2 ∈ cellL
theorem key_sz {z : Str} (h : Sh 12 z) : Tm 0 20000 (.str z) := tm_fl (v := .str z) (fl_str h (by decide))
theorem kv_sz : ∀ {es : Es}, (∀ e ∈ es, Sh 12 e.1 ∧ e.2 ∈ cellL) → PyData.showableKv (kvD es) = true ∧ PyData.depthKv (kvD es) ≤ 20 ∧ ((PyData.shownKv (kvD es)).map (·.length)).sum ≤ 20502 * es.length ∧ (PyData.shownKv (kvD es)).length = es.length
  | [], _ => ⟨rfl, Nat.zero_le _, Nat.le_refl _, rfl⟩
  | (z, d) :: es, h => by
    obtain ⟨h1, h2, h3, h4⟩ := kv_sz (es := es) fun e he => h e (List.mem_cons_of_mem _ he)
    obtain ⟨hz, hd⟩ := h (z, d) List.mem_cons_self
    have tz : Tm 0 20000 (.str z) := key_sz hz
    have sd : Sz 20 500 d := (cell_of hd).2.2
    refine ⟨?_, ?_, ?_, ?_⟩
    · show ((PyData.str z).showable && d.showable && PyData.showableKv (kvD es)) = true
      rw [tz.sh, sd.sh, h1]
      rfl
    · show max (max (PyData.str z).depth d.depth) (PyData.depthKv (kvD es)) ≤ 20
      have a := tz.dz
      have b := sd.dz
      omega
    · show ((PyData.str z).shown ++ ": " ++ d.shown).length + ((PyData.shownKv (kvD es)).map (·.length)).sum ≤ 20502 * (es.length + 1)
      rw [strLen_append, strLen_append]
      have a := tz.ln
      have b := sd.ln
      have c : (": " : Str).length = 2 := rfl
      omega
    · show (PyData.shownKv (kvD es)).length + 1 = es.length + 1
      rw [h4]
theorem dict_sz {es : Es} (h : Small es) : Sz 21 164100 (dictD es) := by
  obtain ⟨h1, h2, h3, h4⟩ := kv_sz h.2
  refine ⟨h1, Nat.succ_le_succ h2, ?_⟩
  have := dictText_len_le (PyData.shownKv (kvD es))
  have l := h.1
  show (dictText (PyData.shownKv (kvD es))).length ≤ _
  omega
theorem three_sz {es fs gs : Es} (h1 : Small es) (h2 : Small fs) (h3 : Small gs) : (PyData.list [dictD es, dictD fs, dictD gs]).showable = true ∧ (PyData.list [dictD es, dictD fs, dictD gs]).depth ≤ 60 ∧ (PyData.list [dictD es, dictD fs, dictD gs]).shown.length ≤ sizeLine := by
  obtain ⟨a1, a2, a3, a4⟩ := (SzA.cons (dict_sz h1) (.cons (dict_sz h2) (.cons (dict_sz h3) .nil))).all
  refine ⟨a1, ?_, ?_⟩
  · show PyData.depthAll _ + 1 ≤ 60
    omega
  · have := listText_len_le (PyData.shownAll [dictD es, dictD fs, dictD gs])
    show (listText (PyData.shownAll [dictD es, dictD fs, dictD gs])).length ≤ 2 ^ 24
    rw [a4] at this
    have e : [dictD es, dictD fs, dictD gs].length = 3 := rfl
    omega
def mrgD (bs os ts : Es) (ys : List Str) : PyData := .tuple [dictD (mrgC bs os ts ys), .list ((mrgX bs os ts ys).map PyData.str)]
theorem str_all {H : Hp} : ∀ {zs : List Str}, DhAll H (zs.map V.str) (zs.map PyData.str)
  | [] => .nil
  | _ :: _ => .cons (.str _) str_all
theorem mrg_dd {H : Hp} {p c q : Addr} {bs os ts : Es} {ys : List Str} (hp : H p = some (.tup [.ref c, .ref q])) (hc : Dct H c (mrgC bs os ts ys)) (hq : H q = some (.lst ((mrgX bs os ts ys).map V.str))) : Dd H (.ref p) (mrgD bs os ts ys) :=
  .tup hp (.cons (dct_dd hc) (.cons (.base (.lst hq str_all)) .nil))
theorem srt_in {ys : List Str} {bs os ts : Es} {ns : List Str} (h : Srt ys bs os ts) (cb : Cells bs ns) (co : Cells os ns) (ct : Cells ts ns) : ∀ z ∈ ys, z ∈ ns := by
  intro z hz
  have := (h.2.2 z).mp hz
  have key : ∀ {es : Es}, Cells es ns → z ∈ es.map (·.1) → z ∈ ns := fun {es} ce hm => by
    obtain ⟨e, he, rfl⟩ := List.mem_map.mp hm
    exact (ce.ok e he).1
  rcases List.mem_append.mp this with q | q
  · rcases List.mem_append.mp q with q | q
    · exact key cb q
    · exact key co q
  · exact key ct q
theorem mrg_cell {bs os ts : Es} {ys ns : List Str} (co : Cells os ns) (ct : Cells ts ns) : ∀ e ∈ mrgC bs os ts ys, e.1 ∈ ys ∧ e.2 ∈ cellL := by
  intro e he
  refine ⟨mrgC_keys (List.mem_map.mpr ⟨e, he, rfl⟩), ?_⟩
  obtain ⟨y, hy, q⟩ := List.mem_filterMap.mp he
  unfold takeD at q
  cases r : sideD bs os ts y with
  | none => rw [r] at q; cases q
  | some b =>
    rw [r] at q
    cases b with
    | true =>
      cases l : os.lookup y with
      | none => simp [l] at q
      | some d => simp [l] at q; rw [← q]; exact (co.ok _ (look_mem l)).2
    | false =>
      cases l : ts.lookup y with
      | none => simp [l] at q
      | some d => simp [l] at q; rw [← q]; exact (ct.ok _ (look_mem l)).2
theorem cells_small {es : Es} {ns : List Str} (ce : Cells es ns) (l8 : ns.length ≤ 8) (sh : ∀ z ∈ ns, Sh 12 z) : Small es := by
  refine ⟨?_, fun e he => ⟨sh _ (ce.ok e he).1, (ce.ok e he).2⟩⟩
  have := List.Nodup.length_le_of_subset ce.nd (l₂ := ns) fun z hz => by
    obtain ⟨e, he, rfl⟩ := List.mem_map.mp hz
    exact (ce.ok e he).1
  rw [List.length_map] at this
  omega
theorem mrg_sz {bs os ts : Es} {ys ns : List Str} (h : Srt ys bs os ts) (cb : Cells bs ns) (co : Cells os ns) (ct : Cells ts ns) (l8 : ns.length ≤ 8) (sh : ∀ z ∈ ns, Sh 12 z) : (mrgD bs os ts ys).showable = true ∧ (mrgD bs os ts ys).depth ≤ 60 ∧ (mrgD bs os ts ys).shown.length ≤ sizeLine := by
  have yi := srt_in h cb co ct
  have ly : ys.length ≤ 8 := Nat.le_trans (List.Nodup.length_le_of_subset h.2.1 yi) l8
  have s1 : Small (mrgC bs os ts ys) := ⟨Nat.le_trans (List.length_filterMap_le _ _) ly, fun e he => ⟨sh _ (yi _ (mrg_cell co ct e he).1), (mrg_cell co ct e he).2⟩⟩
  have lx : (mrgX bs os ts ys).length ≤ 8 := Nat.le_trans (List.length_filter_le _ _) ly
  have s2 : Sz 1 170000 (.list ((mrgX bs os ts ys).map PyData.str)) := by
    have t := tm_lst (k := 0) (n := 20000) (ds := (mrgX bs os ts ys).map PyData.str) fun d hd => by
      obtain ⟨z, hz, rfl⟩ := List.mem_map.mp hd
      exact key_sz (sh _ (yi _ (List.mem_filter.mp hz).1))
    rw [List.length_map] at t
    exact (tm_sz t).mono (Nat.le_refl _) (by omega)
  obtain ⟨a1, a2, a3, a4⟩ := (SzA.cons (dict_sz s1) (.cons (s2.mono (k' := 21) (by decide) (Nat.le_refl _)) .nil)).all
  refine ⟨a1, ?_, ?_⟩
  · show PyData.depthAll _ + 1 ≤ 60
    omega
  · have := tupleText_len_le (PyData.shownAll [dictD (mrgC bs os ts ys), .list ((mrgX bs os ts ys).map PyData.str)])
    show (tupleText (PyData.shownAll _)).length ≤ 2 ^ 24
    rw [a4] at this
    have e : [dictD (mrgC bs os ts ys), PyData.list ((mrgX bs os ts ys).map PyData.str)].length = 2 := rfl
    omega
/-- a dict of cells stays where only the tape changes -/
theorem dct_b {t : Addr} {H H' : Hp} {a : Addr} {es : Es} {ns : List Str} (T : Tape H t) (s : SameB t H H') (ce : Cells es ns) (h : Dct H a es) : Dct H' a es := by
  obtain ⟨kvs, e, c⟩ := h
  have na : a ≠ t := by
    obtain ⟨_, _, _, _, _, q, _⟩ := T
    exact ne_of e q nofun
  exact ⟨kvs, s _ _ na e, cv_t (SameT.b T s) c fun e he => (cell_of (ce.ok e he).2).2.1⟩
theorem dct_s {H H' : Hp} {a : Addr} {es : Es} {ns : List Str} (s : Same H H') (ce : Cells es ns) (h : Dct H a es) : Dct H' a es := by
  obtain ⟨kvs, e, c⟩ := h
  exact ⟨kvs, s _ _ e, cv_t (SameT.of s) c fun e he => (cell_of (ce.ok e he).2).2.1⟩
/-- .. and where another address changes that is no tuple -/
theorem dct_u {H : Hp} {a b : Addr} {o p : HO} {es : Es} {ns : List Str} (ce : Cells es ns) (h : Dct H a es) (n : a ≠ b) (hb : H b = some p) (np : ∀ xs, p ≠ .tup xs) : Dct (upd H b o) a es := by
  obtain ⟨kvs, e, c⟩ := h
  refine ⟨kvs, by rw [upd_ne n]; exact e, cv_t (fun x xs ex => ?_) c fun e he => (cell_of (ce.ok e he).2).2.1⟩
  rw [upd_ne (ne_of ex hb fun z => np _ z.symm)]
  exact ex
end K71
set_option Elab.async false
set_option linter.all false
set_option maxRecDepth 100000
set_option maxHeartbeats 4000000
namespace K71
open PySem PySem.Spec PyProof.Rows L2 Lc
/-! ## the law -/
def spLaw (K : PySem.W.Frag) : Sp := fun vs H Q _ => ∃ (a : Addr) (ns : List Int), vs = [.ref a] ∧ SqL K H a (ns.map V.int) ∧ ∀ H', Q (.bl true) H'
/-- theirs, base, ours in the order of the parameters -/
def perm3 {α : Type} (us ws : List α) : List α := match us, ws with
  | [], [t, b, o] => [b, o, t]
  | _, _ => []
theorem perm3_3 {α : Type} {us ws : List α} (h : (perm3 us ws).length = 3) : ∃ t b o, us = [] ∧ ws = [t, b, o] := by
  match us, ws, h with
  | [], [t, b, o], _ => exact ⟨t, b, o, rfl, rfl⟩
theorem perm3_rel {vs : List V} {us : List Value} {zs : List V} {ws : List Value} (h : Vals vs us) (g : Vals zs ws) : Vals (perm3 vs zs) (perm3 us ws) := by
  cases h with
  | cons _ _ => exact .nil
  | nil =>
    cases g with
    | nil => exact .nil
    | cons a r =>
      cases r with
      | nil => exact .nil
      | cons b r =>
        cases r with
        | nil => exact .nil
        | cons c r =>
          cases r with
          | nil => exact .cons b (.cons c (.cons a .nil))
          | cons _ _ => exact .nil
theorem mg_kb {K : PySem.W.Frag} {f : Addr} {fd : FuncData} (F : FunD K "merged" "merged" (defArgs sMg) (defBody sMg) (defScope sMg) [] [] f fd) : KBinds K fd ["base", "ours", "theirs"] ["theirs", "base", "ours"] perm3 perm3 := by
  obtain ⟨oc, od, dV, kV, doc, pm, an, cdv, ct, osl, rfl, lk, hcd, hD, hK⟩ := F.ex
  rcases hD with ⟨_, rfl⟩ | ⟨e, _⟩
  · refine ⟨fun s us ws X l => ?_, perm3_rel⟩
    obtain ⟨t, b, o, rfl, rfl⟩ := perm3_3 l
    exact .of_eq rfl
  · exact absurd rfl e
section
variable {P : Program} {w : World} {K : PySem.W.Frag} {mg : Str → Option Value} {base : Heap} {f : Addr} {fd : FuncData}
abbrev sLaw : Stmt := top 17
abbrev nLaw : List Str := ["_law_script", "_law_tape_here", "_law_k", "_law_names", "_law_j", "_law_first", "_law_left", "_law_right", "_law_name_here", "_law_before", "_law_due_here", "_law_found"]
abbrev pLaw : List Str := ["_law_script"]
theorem scLaw : FnScope nLaw pLaw (defScope sLaw) := ⟨rfl, rfl, rfl, by decide +kernel, rfl, by decide +kernel, by decide +kernel⟩
section
variable {fA_ fB_ fC_ fD_ fE_ fF_ fG_ : Addr} {fdA_ fdB_ fdC_ fdD_ fdE_ fdF_ fdG_ : FuncData}
theorem ok_Law (F : Fun K "law" "law" sLaw f fd) (T : Bt mg) (sm : SmK K)
    (GA_ : FnOk P w K mg base CX0 1 fA_ fdA_ ["_law_script"] (spTape K)) (mA_ : mg "_law_tape" = some (.ref fA_)) (kA_ : PySem.W.keepIn K (.ref fA_) = true) (bA_ : Binds K fdA_ ["_law_script"] [])
    (GB_ : FnOk P w K mg base CX0 1 fB_ fdB_ ["_law_tape_here", "_law_many"] (spDrawL)) (mB_ : mg "_law_draw" = some (.ref fB_)) (kB_ : PySem.W.keepIn K (.ref fB_) = true) (bB_ : Binds K fdB_ ["_law_tape_here", "_law_many"] [])
    (GC_ : FnOk P w K mg base CX0 3 fC_ fdC_ ["_law_tape_here", "_law_taken"] (spFr)) (mC_ : mg "_law_fresh" = some (.ref fC_)) (kC_ : PySem.W.keepIn K (.ref fC_) = true) (bC_ : Binds K fdC_ ["_law_tape_here", "_law_taken"] [])
    (GD_ : FnOk P w K mg base CX0 3 fD_ fdD_ ["_law_tape_here", "_law_names"] (spCo)) (mD_ : mg "_law_cells_of" = some (.ref fD_)) (kD_ : PySem.W.keepIn K (.ref fD_) = true) (bD_ : Binds K fdD_ ["_law_tape_here", "_law_names"] [])
    (GE_ : FnOk P w K mg base CX0 3 fE_ fdE_ ["_law_tape_here", "_law_cells", "_law_names"] (spCh)) (mE_ : mg "_law_changed" = some (.ref fE_)) (kE_ : PySem.W.keepIn K (.ref fE_) = true) (bE_ : Binds K fdE_ ["_law_tape_here", "_law_cells", "_law_names"] [])
    (GF_ : FnG P w K mg base 5 fF_ fdF_ ["_law_old", "_law_mine", "_law_other"] (spDu)) (mF_ : mg "_law_due" = some (.ref fF_)) (kF_ : PySem.W.keepIn K (.ref fF_) = true) (bF_ : Binds K fdF_ ["_law_old", "_law_mine", "_law_other"] [])
    (GG_ : FnOk P w K mg base CX0 12 fG_ fdG_ ["base", "ours", "theirs"] (spMg)) (mG_ : mg "merged" = some (.ref fG_)) (kG_ : PySem.W.keepIn K (.ref fG_) = true) (bG_ : Binds K fdG_ ["base", "ours", "theirs"] [])  (kb : KBinds K fdG_ ["base", "ours", "theirs"] ["theirs", "base", "ours"] perm3 perm3) : FnG P w K mg base 13 f fd pLaw (spLaw K) := by
  refine Lc.Fun.okG F scLaw (fun vs H Q E h => ?_) (fun cdv A outer s H vs Q E hg hr h => ?_)
  · obtain ⟨a0, ns, rfl, _⟩ := h
    rfl
  · obtain ⟨a0, ns, rfl, hS, k⟩ := h
    have hrA_ : Room (1) _ := hr.mono (by first | decide | omega)
    have hrB_ : Room (1) _ := hr.mono (by first | decide | omega)
    have hrC_ : Room (3) _ := hr.mono (by first | decide | omega)
    have hrD_ : Room (3) _ := hr.mono (by first | decide | omega)
    have hrE_ : Room (3) _ := hr.mono (by first | decide | omega)
    have hrF_ : Room (5) _ := hr.mono (by first | decide | omega)
    have hrG_ : Room (12) _ := hr.mono (by first | decide | omega)
    refine ⟨_, (pss_cons (ps_set (i := 1) scLaw.nd rfl (Or.inl rfl) (pe_call GA_ hrA_ (by rfl) mA_ kA_ bA_ .nil pass0 (pa_cons (pv 0) pa_nil)))
      (pss_cons (ps_for PassesOwn.never rfl (pi_range1 (by rfl) T.range (pa_cons (pe_op op_add pe_int (pe_callB (call_min2 rfl) (by rfl) T.min boot_min (pa_cons (pe_callB call_len_seq (by rfl) T.len PySem.boot_len (pa_cons (pv 0) pa_nil)) (pa_cons pe_int pa_nil)))) pa_nil)) (pg_name (i := 2) scLaw.nd rfl (.inl rfl)) (pss_cons (ps_set (i := 3) scLaw.nd rfl (Or.inl rfl) (pe_lst pa_nil))
      (Evl.pss_cut (ps_for PassesOwn.never rfl (pi_range1 (by rfl) T.range (pa_cons (pe_op op_add pe_int (pe_call GB_ hrB_ (by rfl) mB_ kB_ bB_ .nil pass0 (pa_cons (pv 1) (pa_cons pe_int pa_nil)))) pa_nil)) (pg_name (i := 4) scLaw.nd rfl (.inl rfl)) (pss_one (ps_expr (pe_bm PySem.F.plainAttrs_list PySem.F.slot_list_append PySem.F.type_list_append mt_append (pv 3) (pa_cons (pe_call GC_ hrC_ (by rfl) mC_ kC_ bC_ .nil pass0 (pa_cons (pv 1) (pa_cons (pv 3) pa_nil))) pa_nil)))))
      (pss_cons (ps_set (i := 5) scLaw.nd rfl (Or.inl rfl) (pe_call GD_ hrD_ (by rfl) mD_ kD_ bD_ .nil pass0 (pa_cons (pv 1) (pa_cons (pv 3) pa_nil))))
      (pss_cons (ps_set (i := 6) scLaw.nd rfl (Or.inl rfl) (pe_call GE_ hrE_ (by rfl) mE_ kE_ bE_ .nil pass0 (pa_cons (pv 1) (pa_cons (pv 5) (pa_cons (pv 3) pa_nil)))))
      (pss_cons (ps_set (i := 7) scLaw.nd rfl (Or.inl rfl) (pe_call GE_ hrE_ (by rfl) mE_ kE_ bE_ .nil pass0 (pa_cons (pv 1) (pa_cons (pv 5) (pa_cons (pv 3) pa_nil)))))
      (Evl.pss_cut (ps_if (pt_cmpR op_eq (pe_call GB_ hrB_ (by rfl) mB_ kB_ bB_ .nil pass0 (pa_cons (pv 1) (pa_cons pe_int pa_nil))) pe_int (nomark _)) (pss_one (ps_for PassesOwn.never rfl (pi_list (pe_stepL (pv 3))) (pg_name (i := 8) scLaw.nd rfl (.inl rfl)) (Evl.pss_cut (ps_expr (pe_dpop2 (pv 7) (pv 8) pe_non ⟨rfl, rfl, rfl, rfl⟩))
      (pss_one (ps_if (pt_cmpR (op_inDk (hu_of hr)) (pv 8) (pv 6) (by rfl)) (pss_one (ps_dput (hu_of hr) (pv 7) (pv 8) (pe_dget (hu_of hr) (pv 6) (pv 8) (fun _ _ => rfl)) (by rfl))) pss_nil))))) pss_nil)
      (pss_cons (ps_set (i := 9) scLaw.nd rfl (Or.inl rfl) (pe_callB (call_reprD2 sm hg hr.units) (by rfl) T.repr boot_repr (pa_cons (pe_lst (pa_cons (pv 5) (pa_cons (pv 6) (pa_cons (pv 7) pa_nil)))) pa_nil)))
      (pss_cons (ps_set (i := 10) scLaw.nd rfl (Or.inl rfl) (pe_callB (call_reprD2 sm hg hr.units) (by rfl) T.repr boot_repr (pa_cons (pe_callG GF_ hg hrF_ (by rfl) mF_ kF_ bF_ (pa_cons (pv 5) (pa_cons (pv 6) (pa_cons (pv 7) pa_nil)))) pa_nil)))
      (Evl.pss_cut (ps_set (i := 11) scLaw.nd rfl (Or.inl rfl) (pe_call GG_ hrG_ (by rfl) mG_ kG_ bG_ .nil pass0 (pa_cons (pv 5) (pa_cons (pv 6) (pa_cons (pv 7) pa_nil)))))
      (pss_cons (ps_if (pt_cmpR op_ne (pe_callB (call_reprD2 sm hg hr.units) (by rfl) T.repr boot_repr (pa_cons (pv 11) pa_nil)) (pv 10) (nomark _)) (pss_one (ps_ret pe_bl)) pss_nil)
      (pss_cons (ps_dput (hu_of hr) (pe_ix ix_tup (pv 11) pe_int (fun _ _ => rfl)) pe_str pe_non (by rfl))
      (pss_cons (ps_expr (pe_bm PySem.F.plainAttrs_list PySem.F.slot_list_append PySem.F.type_list_append mt_append (pe_ix ix_tup (pv 11) pe_int (fun _ _ => rfl)) (pa_cons pe_non pa_nil)))
      (pss_one (ps_if (PW.pt (pw_or (pt_cmpR op_ne (pe_callB (call_reprD2 sm hg hr.units) (by rfl) T.repr boot_repr (pa_cons (pe_callKO GG_ hrG_ (by rfl) mG_ kG_ kb pass0 (pk_cons (pv 7) (pk_cons (pv 5) (pk_cons (pv 6) pk_nil)))) pa_nil)) (pv 10) (nomark _)) (pw_or1 (pt_cmpR op_ne (pe_callB (call_reprD2 sm hg hr.units) (by rfl) T.repr boot_repr (pa_cons (pe_lst (pa_cons (pv 5) (pa_cons (pv 6) (pa_cons (pv 7) pa_nil)))) pa_nil)) (pv 9) (nomark _))))) (pss_one (ps_ret pe_bl)) pss_nil)))))))))))))))
      (pss_one (ps_ret pe_bl)))), ?_⟩
    have three : 3 ≤ sizeLine := by decide
    refine ⟨_, rfl, a0, ns, rfl, hS, fun t H0 s0 ht hT0 => ?_⟩
    obtain ⟨c, hT0⟩ := hT0
    have hT0 : TapeL c H0 t := hT0
    refine ⟨_, rfl, a0, _, rfl, .inl (s0.seq hS), _, _, rfl, _, _, rfl, rfl, _, rfl, ?_, ?_, for_range (fun i σ H' => (∃ v2 v3 v4 v5 v6 v7 v8 v9 v10 v11 : Option V, σ = [some (.ref a0), some (.ref t), v2, v3, v4, v5, v6, v7, v8, v9, v10, v11]) ∧ TapeL c H' t) ⟨⟨_, _, _, _, _, _, _, _, _, _, rfl⟩, hT0⟩ ?_ (fun σ H' _ => k H')⟩
    · split <;> omega
    · split <;> omega
    rintro i σ H1 hi ⟨⟨v2, v3, v4, v5, v6, v7, v8, v9, v10, v11, rfl⟩, T1⟩
    -- names
    refine ⟨by show 0 ≤ sizeLine; decide, fun N hN => ?_⟩
    have zN := Same.upd (o := .lst []) hN
    have eN : upd H1 N (.lst []) N = some (.lst []) := upd_same
    have nt : N ≠ t := T1.tape.ne hN
    have nc : N ≠ c := by
      obtain ⟨xs, e⟩ := T1.list
      exact (ne_of_none e hN).symm
    have T2 := T1.same zN
    generalize upd H1 N (.lst []) = H2 at zN eN T2 ⊢
    clear zN
    refine ⟨fun σ H' => (∃ x2 x4 : Option V, σ = [some (.ref a0), some (.ref t), x2, some (.ref N), x4, v5, v6, v7, v8, v9, v10, v11]) ∧ (∃ ms : List Str, H' N = some (.lst (ms.map V.str)) ∧ ms.Nodup ∧ 0 < ms.length ∧ ms.length ≤ 8 ∧ ∀ z ∈ ms, Sh 12 z) ∧ TapeL c H' t, ?_, ?_⟩
    · refine ⟨_, rfl, t, c, _, rfl, T2, by decide, big1000 (by decide) (by decide), fun m H3 m0 m8 T3 S3 => ⟨_, _, rfl, rfl, _, rfl, by omega, by omega, for_range (n := (1 + m).toNat) (fun j σ H' => (∃ x2 x4 : Option V, σ = [some (.ref a0), some (.ref t), x2, some (.ref N), x4, v5, v6, v7, v8, v9, v10, v11]) ∧ (∃ ms : List Str, H' N = some (.lst (ms.map V.str)) ∧ ms.Nodup ∧ ms.length = j ∧ ∀ z ∈ ms, Sh 12 z) ∧ TapeL c H' t) ⟨⟨_, _, rfl⟩, ⟨[], S3 _ _ nt eN, .nil, rfl, nofun⟩, T3⟩ ?_ (fun σ H' pr => ?_)⟩⟩
      · rintro j σ H4 hj ⟨⟨x2, x4, rfl⟩, ⟨ms, hN4, nd, lm, sh⟩, T4⟩
        refine ⟨_, rfl, .inl ⟨rfl, _, SqL.of hN4⟩, _, rfl, _, rfl, t, c, N, ms, rfl, T4, hN4, by omega, fun x H5 shx _ nx T5 S5 => ?_⟩
        have hN5 := S5 _ _ nt hN4
        refine ⟨N, _, _, rfl, rfl, hN5, by rw [List.length_map]; exact Nat.lt_of_lt_of_le (show ms.length < 36 by omega) (by decide), ⟨⟨_, _, rfl⟩, ⟨ms ++ [x], by rw [upd_same, List.map_append]; rfl, ?_, by rw [List.length_append]; show ms.length + 1 = j + 1; omega, fun z hz => ?_⟩, T5.upd nt nc⟩⟩
        · exact List.nodup_append.mpr ⟨nd, by simp, fun u hu v hv => by rw [List.mem_singleton.mp hv]; exact fun q => nx (by rw [show u = x from q] at hu; exact hu)⟩
        · rcases List.mem_append.mp hz with hz | hz
          · exact sh z hz
          · rw [List.mem_singleton.mp hz]
            exact shx
      · obtain ⟨p1, ⟨ms, hN4, nd, lm, sh⟩, T4⟩ := pr
        exact ⟨p1, ⟨ms, hN4, nd, by omega, by omega, sh⟩, T4⟩
    rintro σ H3 ⟨⟨x2, x4, rfl⟩, ⟨ms, hN3, nd, l0, l8, sh⟩, T3⟩
    clear eN T2 T1 hN
    -- the three dicts
    refine ⟨_, rfl, _, rfl, t, c, N, ms, rfl, T3, hN3, nt, nd, l8, fun a es H4 ha da ce T4 S4 => ?_⟩
    have hN4 := S4 _ _ nt hN3
    refine ⟨_, rfl, _, rfl, _, rfl, t, c, N, a, ms, es, rfl, T4, hN4, nt, nd, l0, l8, da, ce, fun b fs H5 hb db cf T5 S5 => ?_⟩
    have ab : a ≠ b := by
      obtain ⟨_, e, _⟩ := da
      exact ne_of_none e hb
    have da5 := dct_b T4.tape S5 ce da
    have hN5 := S5 _ _ nt hN4
    refine ⟨_, rfl, _, rfl, _, rfl, t, c, N, a, ms, es, rfl, T5, hN5, nt, nd, l0, l8, da5, ce, fun d gs H6 hd dd cg T6 S6 => ?_⟩
    have ad : a ≠ d := by
      obtain ⟨_, e, _⟩ := da5
      exact ne_of_none e hd
    have bd : b ≠ d := by
      obtain ⟨_, e, _⟩ := db
      exact ne_of_none e hd
    have da6 := dct_b T5.tape S6 ce da5
    have db6 := dct_b T5.tape S6 cf db
    have hN6 := S6 _ _ nt hN5
    clear da da5 db hN3 hN4 hN5 S4 S5 S6 ha hb hd T3 T4 T5
    -- the same in both at times
    refine ⟨fun σ H' => (∃ x8 : Option V, σ = [some (.ref a0), some (.ref t), x2, some (.ref N), x4, some (.ref a), some (.ref b), some (.ref d), x8, v9, v10, v11]) ∧ Dct H' a es ∧ Dct H' b fs ∧ (∃ gs, Dct H' d gs ∧ Cells gs ms) ∧ TapeL c H' t, ?_, ?_⟩
    · refine ⟨_, rfl, t, c, _, rfl, T6, by decide, big1000 (by decide) (by decide), fun m H7 m0 m3 T7 S7 => ⟨rfl, _, rfl, ite2 (fun _ => ?_) (fun _ => ⟨⟨_, rfl⟩, dct_b T6.tape S7 ce da6, dct_b T6.tape S7 cf db6, ⟨gs, dct_b T6.tape S7 cg dd, cg⟩, T7⟩)⟩⟩
      have hN7 := S7 _ _ nt hN6
      have da7 := dct_b T6.tape S7 ce da6
      have db7 := dct_b T6.tape S7 cf db6
      have dd7 := dct_b T6.tape S7 cg dd
      refine ⟨_, rfl, N, _, rfl, SqL.of hN7, fun p ys hys hp => ⟨p, rfl, ⟨_, SqL.of upd_same⟩, ?_⟩⟩
      have zp := Same.upd (o := .lst ys) hp
      have ep : upd H7 p (.lst ys) p = some (.lst ys) := upd_same
      have T8 := T7.same zp
      generalize upd H7 p (.lst ys) = H8 at zp ep T8 ⊢
      refine for_list (K := K) (a := p) (xs := ys) (fun j σ H' => (∃ x8 : Option V, σ = [some (.ref a0), some (.ref t), x2, some (.ref N), x4, some (.ref a), some (.ref b), some (.ref d), x8, v9, v10, v11]) ∧ Dct H' a es ∧ Dct H' b fs ∧ (∃ gs, Dct H' d gs ∧ Cells gs ms) ∧ TapeL c H' t ∧ H' p = some (.lst ys)) ⟨⟨_, rfl⟩, dct_s zp ce da7, dct_s zp cf db7, ⟨gs, dct_s zp cg dd7, cg⟩, T8, ep⟩ (fun j σ H' _ pr => SqL.of pr.2.2.2.2.2) ?_ (fun σ H' pr => ⟨pr.1, pr.2.1, pr.2.2.1, pr.2.2.2.1, pr.2.2.2.2.1⟩)
      clear zp ep T8 dd7 db7 da7 hN7 hp
      rintro j y σ H9 hj ⟨⟨x8, rfl⟩, da9, db9, ⟨gs, dd9, cg⟩, T9, ep9⟩
      obtain ⟨z, hz, rfl⟩ := List.mem_map.mp (hys y (List.mem_of_getElem? hj))
      have okE : ∀ {es : Es}, Cells es ms → ∀ e ∈ es, noL e.2 = true := fun ce e he => (cell_of (ce.ok e he).2).2.1
      -- a change of the dict leaves the others
      have left : ∀ {H5 : Hp} {kd0 kvs' : List (Key × V)} {es' : Es}, H5 d = some (.dK kd0) → Dct H5 a es → Dct H5 b fs → TapeL c H5 t → H5 p = some (.lst ys) → Cv H5 kvs' es' → Cells es' ms → Dct (upd H5 d (.dK kvs')) a es ∧ Dct (upd H5 d (.dK kvs')) b fs ∧ (∃ gs, Dct (upd H5 d (.dK kvs')) d gs ∧ Cells gs ms) ∧ TapeL c (upd H5 d (.dK kvs')) t ∧ upd H5 d (.dK kvs') p = some (.lst ys) := fun {H5 kd0 kvs' es'} ed da db T5 ep cv' ce' => by
        have st : SameT H5 (upd H5 d (.dK kvs')) := fun b' xs e' => by rw [upd_ne (ne_of e' ed nofun)]; exact e'
        obtain ⟨xs, ec⟩ := T5.list
        have dt : d ≠ t := by
          obtain ⟨_, _, _, _, q, _⟩ := T5
          exact ne_of ed q nofun
        exact ⟨dct_u ce da ad ed nofun, dct_u cf db bd ed nofun, ⟨es', ⟨_, upd_same, cv_t st cv' (okE ce')⟩, ce'⟩, T5.upd dt (ne_of ed ec nofun), by rw [upd_ne (ne_of ep ed nofun)]; exact ep⟩
      obtain ⟨kd, ed, cd⟩ := dd9
      refine ⟨fun σ H' => σ = [some (.ref a0), some (.ref t), x2, some (.ref N), x4, some (.ref a), some (.ref b), some (.ref d), some (.str z), v9, v10, v11] ∧ Dct H' a es ∧ Dct H' b fs ∧ (∃ gs, Dct H' d gs ∧ Cells gs ms) ∧ TapeL c H' t ∧ H' p = some (.lst ys), ?_, ?_⟩
      · obtain ⟨es', cv', ce'⟩ := cv_drop cd cg z
        exact ⟨_, rfl, d, rfl, .inl ⟨_, .inl ed⟩, _, rfl, kd, Sum.inr z, ed, rfl, fun v hv => ⟨rfl, left ed da9 db9 T9 ep9 cv' ce'⟩, fun hv => ⟨rfl, da9, db9, ⟨gs, ⟨kd, ed, cd⟩, cg⟩, T9, ep9⟩⟩
      clear cd ed cg T9 da9 db9 ep9
      rintro σ H10 ⟨rfl, da10, db10, ⟨gs, ⟨kd, ed, cd⟩, cg⟩, T10, ep10⟩
      have db0 := db10
      obtain ⟨kb, eb, cb⟩ := db10
      have g : DGet H10 b (.str z) (valV kb (Sum.inr z : Key)) := DGet.k (k := Sum.inr z) eb
      rcases cv_val cb z with ⟨i1, i2⟩ | ⟨e, v, i1, i2, i3, i4⟩
      · rw [i2] at g
        exact ⟨_, rfl, _, rfl, b, _, rfl, g, _, rfl, iteF ⟨⟨_, rfl⟩, da10, db0, ⟨gs, ⟨kd, ed, cd⟩, cg⟩, T10, ep10⟩⟩
      · rw [i2] at g
        have lk : kd.length < sizeLine := by
          rw [cv_len cd]
          exact Nat.lt_of_le_of_lt (cg.es (by omega)).ln (by decide)
        obtain ⟨es', cv', ce'⟩ := cv_put cd cg hz i3 (cf.ok _ i4).2
        exact ⟨_, rfl, _, rfl, b, _, rfl, g, _, rfl, iteT ⟨_, rfl, _, rfl, b, v, rfl, g, _, rfl, _, rfl, d, _, rfl, .inl ⟨kd, Sum.inr z, ed, rfl, lk, rfl⟩, ⟨⟨_, rfl⟩, left ed da10 db0 T10 ep10 cv' ce'⟩⟩⟩
    clear da6 db6 dd T6 hN6 cg gs
    rintro σ H7 ⟨⟨x8, rfl⟩, da7, db7, ⟨gs, dd7, cg⟩, T7⟩
    have sa := cells_small ce l8 sh
    have sb := cells_small cf l8 sh
    have sd := cells_small cg l8 sh
    obtain ⟨w1, w2, w3⟩ := three_sz sa sb sd
    -- before
    refine ⟨_, rfl, _, rfl, _, rfl, three, fun M hM => ?_⟩
    have zM := Same.upd (o := .lst [.ref a, .ref b, .ref d]) hM
    have eM : upd H7 M (.lst [.ref a, .ref b, .ref d]) M = some (.lst [.ref a, .ref b, .ref d]) := upd_same
    generalize upd H7 M (.lst [.ref a, .ref b, .ref d]) = H8 at zM eM ⊢
    have da8 := dct_s zM ce da7
    have db8 := dct_s zM cf db7
    have dd8 := dct_s zM cg dd7
    have T8 := T7.same zM
    refine ⟨M, .list [dictD es, dictD fs, dictD gs], rfl, .lst eM (.cons (dct_dd da8) (.cons (dct_dd db8) (.cons (dct_dd dd8) .nil))), w1, w2, w3, ?_⟩
    -- due
    refine ⟨_, rfl, _, rfl, _, rfl, a, b, d, es, fs, gs, ms, rfl, da8, db8, dd8, ce, cf, cg, l8, fun ys p c1 q H9 srt s9 _ _ _ ep dc9 eq => ?_⟩
    obtain ⟨u1, u2, u3⟩ := mrg_sz srt ce cf cg l8 sh
    refine ⟨p, _, rfl, mrg_dd ep dc9 eq, u1, u2, u3, ?_⟩
    have da9 := dct_s s9 ce da8
    have db9 := dct_s s9 cf db8
    have dd9 := dct_s s9 cg dd8
    have T9 := T8.same s9
    clear zM eM da8 db8 dd8 T8 da7 db7 dd7 T7 ep dc9 eq s9 hM
    have oe := ce.es (by omega)
    have of := cf.es (by omega)
    have og := cg.es (by omega)
    -- found
    refine ⟨fun σ H' => ∃ p2 c2 q2 : Addr, σ = [some (.ref a0), some (.ref t), x2, some (.ref N), x4, some (.ref a), some (.ref b), some (.ref d), x8, some (.str (PyData.list [dictD es, dictD fs, dictD gs]).shown), some (.str (mrgD es fs gs ys).shown), some (.ref p2)] ∧ H' p2 = some (.tup [.ref c2, .ref q2]) ∧ Dct H' c2 (mrgC es fs gs ys) ∧ H' q2 = some (.lst ((mrgX es fs gs ys).map V.str)) ∧ H9 c2 = none ∧ H9 q2 = none ∧ Same H9 H', ?_, ?_⟩
    · refine ⟨_, rfl, _, rfl, _, rfl, a, b, d, es, fs, gs, rfl, da9, db9, dd9, oe, of, og, fun ys2 p2 c2 q2 H10 srt2 s10 _ hc2 hq2 ep2 dc2 eq2 => ?_⟩
      obtain rfl := srt_one srt2 srt
      exact ⟨p2, c2, q2, rfl, ep2, dc2, eq2, hc2, hq2, s10⟩
    rintro σ H10 ⟨p2, c2, q2, rfl, ep2, dc2, eq2, hc2, hq2, s10⟩
    have da10 := dct_s s10 ce da9
    have db10 := dct_s s10 cf db9
    have dd10 := dct_s s10 cg dd9
    have T10 := T9.same s10
    refine ⟨_, rfl, p2, _, rfl, mrg_dd ep2 dc2 eq2, u1, u2, u3, _, rfl, rfl, _, rfl, ?_⟩
    rw [decide_eq_true rfl]
    refine iteF ?_
    obtain ⟨kc, ec, cc⟩ := dc2
    have lc : kc.length < sizeLine := by
      rw [cv_len cc]
      have yi := srt_in srt ce cf cg
      exact Nat.lt_of_le_of_lt (Nat.le_trans (List.length_filterMap_le _ _) (Nat.le_trans (List.Nodup.length_le_of_subset srt.2.1 yi) l8)) (by decide)
    have lx : ((mrgX es fs gs ys).map V.str).length < sizeLine := by
      rw [List.length_map]
      have yi := srt_in srt ce cf cg
      exact Nat.lt_of_le_of_lt (Nat.le_trans (List.length_filter_le _ _) (Nat.le_trans (List.Nodup.length_le_of_subset srt.2.1 yi) l8)) (by decide)
    have far : ∀ {x : Addr} {es : Es}, Dct H9 x es → x ≠ c2 ∧ x ≠ q2 := fun {x es} ⟨_, e, _⟩ => ⟨ne_of_none e hc2, ne_of_none e hq2⟩
    have ct : c2 ≠ t := T9.tape.ne hc2
    have qt : q2 ≠ t := T9.tape.ne hq2
    obtain ⟨xs, e9⟩ := T9.list
    have cn : c2 ≠ c := (ne_of_none e9 hc2).symm
    have qn : q2 ≠ c := (ne_of_none e9 hq2).symm
    have cq : q2 ≠ c2 := ne_of eq2 ec nofun
    have pc : p2 ≠ c2 := ne_of ep2 ec nofun
    refine ⟨_, rfl, p2, _, _, .ref c2, rfl, rfl, SqT.of ep2, rfl, c2, _, rfl, .inl ⟨kc, Sum.inr "zz", ec, rfl, lc, rfl⟩, ?_⟩
    have ep11 : upd H10 c2 (.dK (putK kc (Sum.inr "zz" : Key) .non)) p2 = some (.tup [.ref c2, .ref q2]) := by rw [upd_ne pc]; exact ep2
    have eq11 : upd H10 c2 (.dK (putK kc (Sum.inr "zz" : Key) .non)) q2 = some (.lst ((mrgX es fs gs ys).map V.str)) := by rw [upd_ne cq]; exact eq2
    refine ⟨_, rfl, p2, _, _, .ref q2, rfl, rfl, SqT.of ep11, rfl, .inl ⟨rfl, _, SqL.of eq11⟩, q2, _, _, rfl, rfl, eq11, lx, ?_⟩
    have da12 := dct_u ce (dct_u ce da10 (far da9).1 ec nofun) (far da9).2 eq11 nofun (o := .lst ((mrgX es fs gs ys).map V.str ++ [.non]))
    have db12 := dct_u cf (dct_u cf db10 (far db9).1 ec nofun) (far db9).2 eq11 nofun (o := .lst ((mrgX es fs gs ys).map V.str ++ [.non]))
    have dd12 := dct_u cg (dct_u cg dd10 (far dd9).1 ec nofun) (far dd9).2 eq11 nofun (o := .lst ((mrgX es fs gs ys).map V.str ++ [.non]))
    have T12 := (T10.upd (o := .dK (putK kc (Sum.inr "zz" : Key) .non)) ct cn).upd (o := .lst ((mrgX es fs gs ys).map V.str ++ [.non])) qt qn
    generalize upd (upd H10 c2 (.dK (putK kc (Sum.inr "zz" : Key) .non))) q2 (.lst ((mrgX es fs gs ys).map V.str ++ [.non])) = H12 at da12 db12 dd12 T12 ⊢
    -- by keywords
    refine ⟨_, rfl, _, rfl, _, rfl, a, b, d, es, fs, gs, rfl, da12, db12, dd12, oe, of, og, fun ys3 p3 c3 q3 H13 srt3 s13 _ _ _ ep3 dc3 eq3 => ?_⟩
    obtain rfl := srt_one srt3 srt
    refine ⟨p3, _, rfl, mrg_dd ep3 dc3 eq3, u1, u2, u3, _, rfl, rfl, _, rfl, ?_⟩
    rw [decide_eq_true rfl]
    refine iteF ⟨_, rfl, _, rfl, _, rfl, three, fun M2 hM2 => ?_⟩
    have s14 := s13.trans (Same.upd (o := .lst [.ref a, .ref b, .ref d]) hM2)
    refine ⟨M2, .list [dictD es, dictD fs, dictD gs], rfl, .lst upd_same (.cons (dct_dd (dct_s s14 ce da12)) (.cons (dct_dd (dct_s s14 cf db12)) (.cons (dct_dd (dct_s s14 cg dd12)) .nil))), w1, w2, w3, _, rfl, rfl, _, rfl, ?_⟩
    rw [decide_eq_true rfl]
    exact iteF ⟨⟨_, _, _, _, _, _, _, _, _, _, rfl⟩, T12.same s14⟩
end
end
end K71
set_option Elab.async false
set_option linter.all false
set_option maxRecDepth 100000
set_option maxHeartbeats 4000000
namespace Lc
open PySem PySem.Spec PyProof.Rows L2 He
/-! ## The head's facts, with one more Bool -/
abbrev AlE : Type := AlD × Bool
def obsE (n : Nat) (fa : List Fa) (fn : List DefD) (ex : PySem.W.Frag → Bool) (g : Addr → Option Obj) : AlE := (obsD fa fn (frG g (asD g n)), ex (frG g (asD g n)))
def hookE (n : Nat) (fa : List Fa) (fn : List DefD) (ex : PySem.W.Frag → Bool) : PySem.W.Hook where
  α := AlE
  obs := fun s => obsE n fa fn ex s.heap.get?
  val := fun _ => (valD fn, true)
  says := fun _ h => ∃ K : PySem.W.Frag, K.In h ∧ SaysD fa fn K ∧ ex K = true
  of := fun _ _ e => ⟨_, frG_in, congrArg (fun z : AlE => z.1) e, congrArg (fun z : AlE => z.2) e⟩
  keeps := fun _ _ _ ⟨K, hK, c⟩ k => ⟨K, PySem.W.Frag.In.keeps hK k, c⟩
theorem obsE_eq {n : Nat} {fa : List Fa} {fn : List DefD} {ex : PySem.W.Frag → Bool} {g : Addr → Option Obj} {s : Shared} (h : ∀ a, g a = s.heap.get? a) : obsE n fa fn ex g = (hookE n fa fn ex).obs s := by
  have e : g = s.heap.get? := funext h
  rw [e] <;> rfl
/-! ## What is asked of the error classes -/
def optB (a b : Option Bool) : Bool := decide (a = b)
def optV (a b : Option Value) : Bool := decide (a = b)
def oexB (K : PySem.W.Frag) (C : Addr) : Bool := (match K.lookup C with
  | some ⟨.type "type", _, .cls cd, sl⟩ => (match cd.mro, sl.toList with
    | .ref C' :: bm, [_, _, _, _, some (.builtin n), _] => C' == C && n == "ValueError.__new__" && !cd.hasDel && cd.hasDict && PySem.HandSPX.refsVE bm
    | _, _ => false)
  | _ => false) && (eqO (PySem.W.findIn K (.ref C) "__setattr__") (some (some (.builtin "object.__setattr__"))) && (optB (PySem.W.subIn K (.ref C) (.type "BaseException")) (some true) && (optV (PySem.W.typeIn K (.ref C)) (some (.type "type")) && PySem.W.keepIn K (.ref C))))
theorem oexB_ok {K : PySem.W.Frag} {C : Addr} (h : oexB K C = true) : OexC K C := by
  obtain ⟨q, h⟩ := ba h
  obtain ⟨h1, h⟩ := ba h
  obtain ⟨h2, h⟩ := ba h
  obtain ⟨h3, h4⟩ := ba h
  refine ⟨?_, eqO_ok h1, of_decide_eq_true h2, of_decide_eq_true h3, h4⟩
  split at q
  · rename_i dd cd sl ho
    split at q
    · rename_i C' bm k0 k1 k2 k3 n k5 hm hs
      simp only [Bool.and_eq_true, beq_iff_eq, Bool.not_eq_true'] at q
      obtain ⟨⟨⟨⟨rfl, rfl⟩, hdel⟩, hdi⟩, ht⟩ := q
      obtain ⟨nm, bs, mro, ns, qn, hd, sn, sub, ab, col, del⟩ := cd
      dsimp only at hm hdel hdi
      subst hm hdel hdi
      have hsl : sl = #[k0, k1, k2, k3, some (.builtin "ValueError.__new__"), k5] := by
        obtain ⟨l⟩ := sl
        simp only at hs
        rw [hs]
      subst hsl
      exact ⟨nm, qn, ns, bs, bm, sn, sub, ab, col, dd, k0, k1, k2, k3, k5, ho, ht⟩
    · cases q
  · cases q
def xisB (K : PySem.W.Frag) (C : Addr) : Bool := (PySem.W.clsIn K C).isSome && (eqO (PySem.W.findIn K (.ref C) "__getattribute__") (some (some (.builtin "BaseException.__getattribute__"))) && (eqO (PySem.W.findIn K (.ref C) "__getattr__") (some none) &&
  (optB (PySem.W.subIn K (.ref C) (.type "BaseException")) (some true) && (eqO (PySem.W.findIn K (.ref C) "__class__") (some (some (.builtin "object.__class__"))) && (eqO (PySem.W.specialIn K (.builtin "object.__class__") "__get__") (some (some (.builtin "getset_descriptor.__get__"))) &&
  (optB (PySem.W.takesIn K (.builtin "object.__class__")) (some true) && optB (PySem.W.mroIn K C (.type "object")) (some true)))))))
theorem xisB_ok {K : PySem.W.Frag} {C : Addr} (h : xisB K C = true) : XisC K C := by
  obtain ⟨h1, h⟩ := ba h
  obtain ⟨h2, h⟩ := ba h
  obtain ⟨h3, h⟩ := ba h
  obtain ⟨h4, h⟩ := ba h
  obtain ⟨h5, h⟩ := ba h
  obtain ⟨h6, h⟩ := ba h
  obtain ⟨h7, h8⟩ := ba h
  exact ⟨h1, eqO_ok h2, eqO_ok h3, of_decide_eq_true h4, eqO_ok h5, eqO_ok h6, of_decide_eq_true h7, of_decide_eq_true h8⟩
/-- a def without defaults -/
theorem fun_of {K : PySem.W.Frag} {x qual : Str} {st : Stmt} {f : Addr} {fd : FuncData} (F : FunD K x qual (defArgs st) (defBody st) (defScope st) [] [] f fd) : Fun K x qual st f fd := by
  obtain ⟨oc, od, dV, kV, doc, pm, an, cdv, ct, osl, rfl, lk, hcd, hD, hK⟩ := F.ex
  rcases hD with ⟨_, rfl⟩ | ⟨e, _⟩
  · exact ⟨⟨oc, od, kV, doc, pm, an, cdv, ct, osl, rfl, lk, hcd⟩, F.kp⟩
  · exact absurd rfl e
/-! ## The end of a law whose defs are promised where no repr is under way -/
theorem walk_GE {l : PySem.W.OpenLaw} {n k : Nat} {q : Program} {loose : List Str} {XP : (Str → Option Value) → Heap → Prop} {YP : World → Heap → Prop} {d : DefRec} {x : Str}
    (hn : l.most = some n) (hn2 : n ≤ sizeLine) (hdf : d.params.defaults = []) (hr : Room k callerA)
    (F : ∀ (w : World) (mg : Str → Option Value) (fa : Addr) (h : Heap), YP w h → h.Ns mainGlobals mg → mg d.name = some (.ref fa) →
      ∃ (K : PySem.W.Frag) (fd : FuncData) (sp : Sp), K.In h ∧ (∀ (s : Shared) (u : Value), BindsTo s fd ⟨[u], []⟩ [(x, u)]) ∧
        (∀ (H : Hp) (a : Addr) (ns : List Int), ns.length ≤ n → SqL K H a (ns.map V.int) → sp [.ref a] H (fun v _ => v = .bl true) fun _ _ _ => False) ∧
        ∀ base : Heap, K.In base → base.Ns mainGlobals mg → FnG l.prog w K mg base k fa fd [x] sp) :
    PySem.W.WalkO q loose XP YP l.row.toRowW d [] (fun f vs => PySem.call f vs) := by
  refine Att.attach_call hn hdf fun w _ s mg mb fa _ _ _ _ a vs ns G Y _ _ _ hmg hobj hints hlen hg => ?_
  obtain ⟨K, fd, sp, KX, hb, hsp, hF⟩ := F w mg fa _ Y G.T.g hmg
  exact law_callG KX G.T.g G.T.b G.T.builtins G.T.nolimit hg hobj hints (Nat.le_trans hlen hn2) hr hF hb fun H hS => hsp H a ns hlen hS
end Lc
namespace Lc
theorem all_at {l : List Bool} (h : l.all id = true) (i : Nat) {b : Bool} (e : l[i]? = some b := by rfl) : b = true := List.all_eq_true.mp h b (List.mem_of_getElem? e)
end Lc
set_option Elab.async false
set_option linter.all false
set_option maxRecDepth 100000
set_option maxHeartbeats 4000000
namespace Lc
open PySem PySem.Spec PyProof.Rows L2 He
/-! ## The head's facts, with dicts of the module that have text keys -/
abbrev AlF : Type := AlE × List (Option (List (Option (Str × Int))))
def obsF (n : Nat) (fa : List Fa) (fn : List DefD) (ex : PySem.W.Frag → Bool) (ts : List Tab) (g : Addr → Option Obj) : AlF := (obsE n fa fn ex g, ts.map fun t => dicW (frG g (asD g n)) (t.1 (frG g (asD g n))))
def TabsOk (ts : List Tab) (w : World) (K : PySem.W.Frag) : Prop := ∀ (i : Nat) (t : Tab), ts[i]? = some t → ∃ es n, KDict K w (t.1 K) es n
theorem tabs_of {ts : List Tab} {w : World} {K : PySem.W.Frag} (e : ts.map (fun t => dicW K (t.1 K)) = ts.map fun t => some (keysIn w.params t.2)) : TabsOk ts w K := by
  intro i t h
  have e2 : (ts.map fun t => dicW K (t.1 K))[i]? = (ts.map fun t => some (keysIn w.params t.2))[i]? := congrArg (fun l => l[i]?) e
  rw [List.getElem?_map, h, List.getElem?_map, h] at e2
  exact dicW_ok (Option.some.inj e2)
def hookF (n : Nat) (fa : List Fa) (fn : List DefD) (ex : PySem.W.Frag → Bool) (ts : List Tab) : PySem.W.Hook where
  α := AlF
  obs := fun s => obsF n fa fn ex ts s.heap.get?
  val := fun w => ((valD fn, true), ts.map fun t : Tab => some (keysIn w.params t.2))
  says := fun w h => ∃ K : PySem.W.Frag, K.In h ∧ SaysD fa fn K ∧ ex K = true ∧ TabsOk ts w K
  of := fun _ _ e => ⟨_, frG_in, congrArg (fun z : AlF => z.1.1) e, congrArg (fun z : AlF => z.1.2) e, tabs_of (show _ = _ from congrArg (fun z : AlF => z.2) e)⟩
  keeps := fun _ _ _ ⟨K, hK, c⟩ k => ⟨K, PySem.W.Frag.In.keeps hK k, c⟩
theorem obsF_eq {n : Nat} {fa : List Fa} {fn : List DefD} {ex : PySem.W.Frag → Bool} {ts : List Tab} {g : Addr → Option Obj} {s : Shared} (h : ∀ a, g a = s.heap.get? a) : obsF n fa fn ex ts g = (hookF n fa fn ex ts).obs s := by
  have e : g = s.heap.get? := funext h
  rw [e] <;> rfl
/-! ## what stands in such a dict -/
def atD (K : PySem.W.Frag) (d : Addr) (x : Str) : Addr := match PySem.W.nsIn K d x with
  | some (some (.ref a)) => a
  | _ => 0
def tupA (K : PySem.W.Frag) (a : Addr) (vs : List Dv) : Bool := match K.lookup a with
  | some ⟨.type c, _, .seq its _, _⟩ => decide (c = "tuple") && (decide (its.size ≤ sizeLine) && relAll (vs.map (Dv.v K)) its.toList)
  | _ => false
theorem tupA_ok {K : PySem.W.Frag} {a : Addr} {vs : List Dv} (h : tupA K a vs = true) (H : Hp) : SqT K H a (vs.map (Dv.v K)) := by
  unfold tupA at h
  split at h
  · rename_i c od its n osl q
    obtain ⟨h1, h2⟩ := ba h
    obtain ⟨h3, h4⟩ := ba h2
    exact .inr ⟨_, its, n, q, congrArg Value.type (of_decide_eq_true h1), rfl, of_decide_eq_true h3, relAll_ok h4⟩
  · cases h
/-- at the key x a tuple of these -/
def dtB (K : PySem.W.Frag) (d : Addr) (x : Str) (vs : List Dv) : Bool := eqO (PySem.W.nsIn K d x) (some (some (.ref (atD K d x)))) && tupA K (atD K d x) vs
theorem kdct_of {K : PySem.W.Frag} {w : World} {d a : Addr} {x : Str} (D : ∃ es n, KDict K w d es n) (h : PySem.W.nsIn K d x = some (some (.ref a))) : KDct K w d x (.ref a) := by
  obtain ⟨es, n, D⟩ := D
  exact ⟨es, n, _, D.at_, D.lit, h, rfl⟩
theorem dt_ok {K : PySem.W.Frag} {w : World} {d : Addr} {x : Str} {vs : List Dv} (D : ∃ es n, KDict K w d es n) (h : dtB K d x vs = true) : ∃ a, KDct K w d x (.ref a) ∧ PySem.W.nsIn K d x = some (some (.ref a)) ∧ ∀ H, SqT K H a (vs.map (Dv.v K)) := by
  obtain ⟨h1, h2⟩ := ba h
  exact ⟨_, kdct_of D (eqO_ok h1), eqO_ok h1, fun H => tupA_ok h2 H⟩
/-- at the key x the def y -/
def dfB (K : PySem.W.Frag) (d : Addr) (x y : Str) : Bool := eqO (PySem.W.nsIn K d x) (some (some (.ref (ga K y))))
def dnB (K : PySem.W.Frag) (d : Addr) (x : Str) : Bool := eqO (PySem.W.nsIn K d x) (some none)
end Lc
set_option Elab.async false
set_option linter.all false
set_option maxRecDepth 100000
set_option maxHeartbeats 4000000
namespace Lc
open PySem PySem.Spec PyProof.Rows L2 He
/-! ## what does not stand in a dict of the module with text keys -/
def keysB (K : PySem.W.Frag) (d : Addr) (ks : List Str) : Bool := match K.lookup d with
  | some ⟨_, _, .dict es _, _⟩ => es.toList.all fun e => match e.key with
    | .str x _ => ks.contains x
    | _ => false
  | _ => false
theorem keys_no {K : PySem.W.Frag} {d : Addr} {ks : List Str} (h : keysB K d ks = true) {x : Str} (hx : x ∉ ks) : PySem.W.nsIn K d x = some none := by
  unfold keysB at h
  unfold PySem.W.nsIn
  split at h
  · rename_i ty o es n sl q
    rw [q]
    have key := List.all_eq_true.mp h
    have f : es.toList.find? (·.key.isStr x) = none := List.find?_eq_none.mpr fun e he hs => by
      have k := key e he
      split at k
      · rename_i y t qk
        rw [qk] at hs
        have e1 : y = x := by simpa [Value.isStr] using hs
        rw [e1] at k
        exact hx (by simpa using k)
      · cases k
    have g : es.toList.any (·.refKey) = false := by
      rw [List.any_eq_false]
      intro e he hs
      have k := key e he
      unfold DictEntry.refKey at hs
      split at k
      · rename_i y t qk
        rw [qk] at hs
        cases hs
      · cases k
    dsimp only
    rw [f, g]
    rfl
  · cases h
end Lc
set_option Elab.async false
set_option linter.all false
set_option maxRecDepth 100000
set_option maxHeartbeats 4000000
namespace Lc
open PySem PySem.Spec PyProof.Rows L2 He
/-! ## The head's facts, with dicts of the module, and what stands at the table of modules -/
abbrev asS (g : Addr → Option Obj) (n : Nat) : List Addr := sysModules :: asD g n
def obsS (n : Nat) (fa : List Fa) (fn : List DefD) (ex : PySem.W.Frag → Bool) (ts : List Tab) (g : Addr → Option Obj) : AlF := ((obsD fa fn (frG g (asS g n)), ex (frG g (asS g n))), ts.map fun t => dicW (frG g (asS g n)) (t.1 (frG g (asS g n))))
def hookS (n : Nat) (fa : List Fa) (fn : List DefD) (ex : PySem.W.Frag → Bool) (ts : List Tab) : PySem.W.Hook where
  α := AlF
  obs := fun s => obsS n fa fn ex ts s.heap.get?
  val := fun w => ((valD fn, true), ts.map fun t : Tab => some (keysIn w.params t.2))
  says := fun w h => ∃ K : PySem.W.Frag, K.In h ∧ SaysD fa fn K ∧ ex K = true ∧ TabsOk ts w K
  of := fun _ _ e => ⟨_, frG_in, congrArg (fun z : AlF => z.1.1) e, congrArg (fun z : AlF => z.1.2) e, tabs_of (show _ = _ from congrArg (fun z : AlF => z.2) e)⟩
  keeps := fun _ _ _ ⟨K, hK, c⟩ k => ⟨K, PySem.W.Frag.In.keeps hK k, c⟩
theorem obsS_eq {n : Nat} {fa : List Fa} {fn : List DefD} {ex : PySem.W.Frag → Bool} {ts : List Tab} {g : Addr → Option Obj} {s : Shared} (h : ∀ a, g a = s.heap.get? a) : obsS n fa fn ex ts g = (hookS n fa fn ex ts).obs s := by
  have e : g = s.heap.get? := funext h
  rw [e] <;> rfl
theorem sm_of {K : PySem.W.Frag} (h : (K.lookup sysModules).isSome = true) : ∃ o, K.lookup sysModules = some o := Option.isSome_iff_exists.mp h
end Lc
set_option Elab.async false
set_option linter.all false
set_option maxRecDepth 100000
set_option maxHeartbeats 8000000
namespace K71
open PySem PySem.Spec PyProof.Rows L2 Lc He
/-! ## the head -/
def dOf (x : Str) (st : Stmt) : DefD := ⟨(x, none), x, x, defArgs st, defBody st, defScope st, [], []⟩
def dMt (c m q : Str) (st : Stmt) : DefD := ⟨(c, some m), m, q, defArgs st, defBody st, defScope st, [], []⟩
def dKw (x : Str) (st : Stmt) (kw : List (Str × Dv)) : DefD := ⟨(x, none), x, x, defArgs st, defBody st, defScope st, [], kw⟩
def dDf (x : Str) (st : Stmt) (df : List Dv) : DefD := ⟨(x, none), x, x, defArgs st, defBody st, defScope st, df, []⟩
def dMd (c m q : Str) (st : Stmt) (df : List Dv) : DefD := ⟨(c, some m), m, q, defArgs st, defBody st, defScope st, df, []⟩
def fn : List DefD := [dOf "is_whole" sWhole, dOf "is_same" sSm, dOf "agree" sAg, dOf "side_taken" sSd, dOf "merged" sMg, dOf "_law_tape" sTape, dOf "_law_draw" sDraw, dOf "_law_name" sLnm, dOf "_law_fresh" sFr, dOf "_law_steps_of" sSt, dOf "_law_cells_of" sCo, dOf "_law_changed" sCh, dOf "_law_due" sDu, dOf "law" sLaw]
def gl : List Str := (["is_whole", "is_same", "agree", "side_taken", "merged", "_law_tape", "_law_draw", "_law_name", "_law_fresh", "_law_steps_of", "_law_cells_of", "_law_changed", "_law_due"] : List Str)
def loose : List Str := gl ++ ([] : List Str)
def fa : List Fa := (.glo "law") :: gl.map Fa.glo ++ (btNames ++ (["zip", "sorted", "set"] : List Str)).map Fa.free ++ []
def exL (K : PySem.W.Frag) : List Bool := [(K.lookup PySem.sysModules).isSome]
def ex (K : PySem.W.Frag) : Bool := (exL K).all id
def ts : List Tab := []
abbrev R : PySem.W.OpenRow := PySem.W.OpenLaw.row PySem.Challenge.rw_liveclaims_k71_merged_cells
abbrev hk : PySem.W.Hook := hookS 5 fa fn ex ts
def ob (s : PySem.W.SharedT) : AlF := obsS 5 fa fn ex ts (HandSHeadRun.getT s)
theorem ob_eq (s : PySem.W.SharedT) : ob s = hk.obs s.abs := obsS_eq (HandSHeadRun.getT_eq s)
theorem run (w : World) : HandSHeadRun.RunEq R (PySem.W.view R.prog [17]) hk ob 4000 loose w := by
  intro os
  kernel_rfl
theorem facts {P : Program} {w : World} {K : PySem.W.Frag} {h : Heap} {mg : Str → Option Value} {f : Addr} (X : K.In h) (G : h.Ns mainGlobals mg) (hfa : mg ("law" : Str) = some (.ref f)) (c : SaysD fa fn K) (e : ex K = true) (tb : TabsOk ts w K) :
    ∃ fd : FuncData, (∀ (s : Shared) (v : Value), BindsTo s fd ⟨[v], []⟩ [("_law_script", v)]) ∧ ∀ base : Heap, K.In base → base.Ns mainGlobals mg → FnG P w K mg base 13 f fd ["_law_script"] (spLaw K) := by
  obtain ⟨fd0, D0⟩ := c.def_ 0 (d := dOf "is_whole" sWhole) rfl
  obtain ⟨fd1, D1⟩ := c.def_ 1 (d := dOf "is_same" sSm) rfl
  obtain ⟨fd2, D2⟩ := c.def_ 2 (d := dOf "agree" sAg) rfl
  obtain ⟨fd3, D3⟩ := c.def_ 3 (d := dOf "side_taken" sSd) rfl
  obtain ⟨fd4, D4⟩ := c.def_ 4 (d := dOf "merged" sMg) rfl
  obtain ⟨fd5, D5⟩ := c.def_ 5 (d := dOf "_law_tape" sTape) rfl
  obtain ⟨fd6, D6⟩ := c.def_ 6 (d := dOf "_law_draw" sDraw) rfl
  obtain ⟨fd7, D7⟩ := c.def_ 7 (d := dOf "_law_name" sLnm) rfl
  obtain ⟨fd8, D8⟩ := c.def_ 8 (d := dOf "_law_fresh" sFr) rfl
  obtain ⟨fd9, D9⟩ := c.def_ 9 (d := dOf "_law_steps_of" sSt) rfl
  obtain ⟨fd10, D10⟩ := c.def_ 10 (d := dOf "_law_cells_of" sCo) rfl
  obtain ⟨fd11, D11⟩ := c.def_ 11 (d := dOf "_law_changed" sCh) rfl
  obtain ⟨fd12, D12⟩ := c.def_ 12 (d := dOf "_law_due" sDu) rfl
  obtain ⟨fd13, D13⟩ := c.def_ 13 (d := dOf "law" sLaw) rfl
  have ef := hfa.symm.trans (glo_ok X G (c.fact 0 (f := .glo "law") rfl))
  cases ef
  have g : ∀ (i : Nat) (x : Str), fa[i]? = some (.glo x) → mg x = some (.ref (ga K x)) := fun i x z => glo_ok X G (c.fact i (f := .glo x) z)
  have z : ∀ (i : Nat) (x : Str), fa[i]? = some (.free x) → mg x = none := fun i x z => free_ok X G (c.fact i (f := .free x) z)
  have T : Bt mg := ⟨z 14 _ rfl, z 15 _ rfl, z 16 _ rfl, z 17 _ rfl, z 18 _ rfl, z 19 _ rfl, z 20 _ rfl, z 21 _ rfl, z 22 _ rfl, z 23 _ rfl, z 24 _ rfl, z 25 _ rfl, z 26 _ rfl, z 27 _ rfl, z 28 _ rfl, z 29 _ rfl, z 30 _ rfl, z 31 _ rfl⟩
  have a : ∀ (i : Nat) {b : Bool}, (exL K)[i]? = some b → b = true := fun i _ z => all_at e i z
  have b0 : Binds K fd0 ["value"] [] := D0.bindsN fun _ _ _ _ _ _ us hl => match us, hl with | [_], _ => rfl
  have b1 : Binds K fd1 ["one", "other"] [] := D1.bindsN fun _ _ _ _ _ _ us hl => match us, hl with | [_, _], _ => rfl
  have b2 : Binds K fd2 ["one", "other", "name"] [] := D2.bindsN fun _ _ _ _ _ _ us hl => match us, hl with | [_, _, _], _ => rfl
  have b3 : Binds K fd3 ["base", "ours", "theirs", "name"] [] := D3.bindsN fun _ _ _ _ _ _ us hl => match us, hl with | [_, _, _, _], _ => rfl
  have b4 : Binds K fd4 ["base", "ours", "theirs"] [] := D4.bindsN fun _ _ _ _ _ _ us hl => match us, hl with | [_, _, _], _ => rfl
  have b5 : Binds K fd5 ["_law_script"] [] := D5.bindsN fun _ _ _ _ _ _ us hl => match us, hl with | [_], _ => rfl
  have b6 : Binds K fd6 ["_law_tape_here", "_law_many"] [] := D6.bindsN fun _ _ _ _ _ _ us hl => match us, hl with | [_, _], _ => rfl
  have b7 : Binds K fd7 ["_law_tape_here"] [] := D7.bindsN fun _ _ _ _ _ _ us hl => match us, hl with | [_], _ => rfl
  have b8 : Binds K fd8 ["_law_tape_here", "_law_taken"] [] := D8.bindsN fun _ _ _ _ _ _ us hl => match us, hl with | [_, _], _ => rfl
  have b9 : Binds K fd9 ["_law_tape_here"] [] := D9.bindsN fun _ _ _ _ _ _ us hl => match us, hl with | [_], _ => rfl
  have b10 : Binds K fd10 ["_law_tape_here", "_law_names"] [] := D10.bindsN fun _ _ _ _ _ _ us hl => match us, hl with | [_, _], _ => rfl
  have b11 : Binds K fd11 ["_law_tape_here", "_law_cells", "_law_names"] [] := D11.bindsN fun _ _ _ _ _ _ us hl => match us, hl with | [_, _, _], _ => rfl
  have b12 : Binds K fd12 ["_law_old", "_law_mine", "_law_other"] [] := D12.bindsN fun _ _ _ _ _ _ us hl => match us, hl with | [_, _, _], _ => rfl
  have bl := FunD.bindsA (ps := ["_law_script"]) D13 fun _ _ _ _ _ _ us hl => match us, hl with | [_], _ => rfl
  refine ⟨fd13, fun s v => bl s [v] rfl, fun base _ _ => ?_⟩
  have m_is_whole : mg "is_whole" = some (.ref (ga K "is_whole")) := g 1 _ rfl
  have m_is_same : mg "is_same" = some (.ref (ga K "is_same")) := g 2 _ rfl
  have m_agree : mg "agree" = some (.ref (ga K "agree")) := g 3 _ rfl
  have m_side_taken : mg "side_taken" = some (.ref (ga K "side_taken")) := g 4 _ rfl
  have m_merged : mg "merged" = some (.ref (ga K "merged")) := g 5 _ rfl
  have m__law_tape : mg "_law_tape" = some (.ref (ga K "_law_tape")) := g 6 _ rfl
  have m__law_draw : mg "_law_draw" = some (.ref (ga K "_law_draw")) := g 7 _ rfl
  have m__law_name : mg "_law_name" = some (.ref (ga K "_law_name")) := g 8 _ rfl
  have m__law_fresh : mg "_law_fresh" = some (.ref (ga K "_law_fresh")) := g 9 _ rfl
  have m__law_steps_of : mg "_law_steps_of" = some (.ref (ga K "_law_steps_of")) := g 10 _ rfl
  have m__law_cells_of : mg "_law_cells_of" = some (.ref (ga K "_law_cells_of")) := g 11 _ rfl
  have m__law_changed : mg "_law_changed" = some (.ref (ga K "_law_changed")) := g 12 _ rfl
  have m__law_due : mg "_law_due" = some (.ref (ga K "_law_due")) := g 13 _ rfl
  have mf_zip : mg "zip" = none := z 32 _ rfl
  have mf_sorted : mg "sorted" = none := z 33 _ rfl
  have mf_set : mg "set" = none := z 34 _ rfl
  have x1 : SmK K := sm_of (a 0 rfl)
  have G0 : FnOk P w K mg base CX0 (1) _ fd0 ["value"] (spWhole) := ok_whole (fun_of D0) T
  have G1 : FnOk P w K mg base CX0 (9) _ fd1 ["one", "other"] (spSm 8) := ok_SmN (fun_of D1) T mf_zip G0 m_is_whole D0.kp b0 m_is_same D1.kp b1 8
  have G2 : FnOk P w K mg base CX0 (10) _ fd2 ["one", "other", "name"] (spAg) := ok_Ag (fun_of D2) T G1 m_is_same D1.kp b1
  have G3 : FnOk P w K mg base CX0 (11) _ fd3 ["base", "ours", "theirs", "name"] (spSd) := ok_Sd (fun_of D3) T G2 m_agree D2.kp b2
  have G4 : FnOk P w K mg base CX0 (12) _ fd4 ["base", "ours", "theirs"] (spMg) := ok_Mg (fun_of D4) T mf_sorted mf_set G3 m_side_taken D3.kp b3
  have G5 : FnOk P w K mg base CX0 (1) _ fd5 ["_law_script"] (spTape K) := ok_tape (fun_of D5) T
  have G6 : FnOk P w K mg base CX0 (1) _ fd6 ["_law_tape_here", "_law_many"] (spDrawL) := ok_draw (fun_of D6) T
  have G7 : FnOk P w K mg base CX0 (2) _ fd7 ["_law_tape_here"] (spLNm) := ok_lnm (fun_of D7) T G6 m__law_draw D6.kp b6
  have G8 : FnOk P w K mg base CX0 (3) _ fd8 ["_law_tape_here", "_law_taken"] (spFr) := ok_fr (fun_of D8) G7 m__law_name D7.kp b7
  have G9 : FnOk P w K mg base CX0 (2) _ fd9 ["_law_tape_here"] (spSt) := ok_St (fun_of D9) T G6 m__law_draw D6.kp b6
  have G10 : FnOk P w K mg base CX0 (3) _ fd10 ["_law_tape_here", "_law_names"] (spCo) := ok_Co (fun_of D10) T G6 m__law_draw D6.kp b6 G9 m__law_steps_of D9.kp b9
  have G11 : FnOk P w K mg base CX0 (3) _ fd11 ["_law_tape_here", "_law_cells", "_law_names"] (spCh) := ok_Ch (fun_of D11) T G6 m__law_draw D6.kp b6 G9 m__law_steps_of D9.kp b9
  have G12 : FnG P w K mg base (5) _ fd12 ["_law_old", "_law_mine", "_law_other"] (spDu) := ok_Du (fun_of D12) T x1 mf_sorted
  have kb : KBinds K fd4 ["base", "ours", "theirs"] ["theirs", "base", "ours"] perm3 perm3 := mg_kb D4
  exact ok_Law (fun_of D13) T x1 G5 m__law_tape D5.kp b5 G6 m__law_draw D6.kp b6 G8 m__law_fresh D8.kp b8 G10 m__law_cells_of D10.kp b10 G11 m__law_changed D11.kp b11 G12 m__law_due D12.kp b12 G4 m_merged D4.kp b4 kb
end K71
open PySem PySem.W PySem.Calls PyProof.Rows
theorem PySem.Challenge.cw_liveclaims_k71_merged_cells_holds : PySem.Challenge.rw_liveclaims_k71_merged_cells.Holds := by
  w_on; o_law
  refine HandSHeadRun.head_any (r := OpenLaw.row PySem.Challenge.rw_liveclaims_k71_merged_cells) (q := view (OpenLaw.row PySem.Challenge.rw_liveclaims_k71_merged_cells).prog [17]) (H := K71.hk) (ob := K71.ob) (M := 4000) (loose := K71.loose) (d := HandSHeadRun.topDef (OpenLaw.row PySem.Challenge.rw_liveclaims_k71_merged_cells).prog 17) (kwd := []) K71.ob_eq
    (by kernel_rfl) (fun s => by kernel_rfl) K71.run (by kernel_rfl) (by kernel_rfl) (by kernel_rfl) (by rfl) (by first | assumption | decide +kernel) (by decide +kernel) ⟨rfl, rfl, rfl, rfl, rfl, by decide +kernel⟩ ?hw ?hc
  case hw => w_witness2
  case hc =>
    refine Lc.walk_GE (l := PySem.Challenge.rw_liveclaims_k71_merged_cells) (n := 63) (k := 13) (x := "_law_script") rfl (by decide) (by kernel_rfl) ⟨rfl, by decide, by decide⟩ ?F
    intro w mg fa h Y G hmg0
    obtain ⟨K, KX, c, e, tb⟩ := Y
    have hmg : mg ("law" : PySem.Str) = some (.ref fa) := by
      have e : (HandSHeadRun.topDef (OpenLaw.row PySem.Challenge.rw_liveclaims_k71_merged_cells).prog 17).name = ("law" : PySem.Str) := by kernel_rfl
      rw [← e]
      exact hmg0
    obtain ⟨fd, hb, hF⟩ := K71.facts (P := (PySem.Challenge.rw_liveclaims_k71_merged_cells).prog) (w := w) KX G hmg c e tb
    exact ⟨K, fd, K71.spLaw K, KX, hb, fun H a ns hl hS => ⟨a, ns, rfl, hS, fun _ => rfl⟩, hF⟩
