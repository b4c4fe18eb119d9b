import PyProof.Rows.All
import Wide.All
import OpenK.AllK
import Wide.FinOn
import HandS.ForMost
import HandS.ForExc
import HandS.Wide
import HandS.Flow
import HandS.IsInst
import HandS.ExcInit
import HandS.ExcField
import HandS.ExcIs
import HandS.TryMany
import HandS.CallLocal
import HandS.RaiseMore
import HandS.CallSlots
import KE.KExcIs
import PyProof.ReprRoads
import PyProof.ReprText
import HandS.Evl
import HandS.Walk
import HandS.Style
import PyProof.StrBlock2
import PyProof.StrLawsRepr
import PyProof.ReprLen
import KE.GoesEnum
import HandS.Iter
import HandS.TupMul
import HandS.ListItems
import HandS.OwnIter
import HandS.More
import PyProof.InstSpecial
import HandS.Defaults
import HandS.DictComp
import HandS.Zip
import KE.KIntText
import PyProof.StrLawsTight
import PyProof.StrLawsChain
import HandS.StrMore
import HandS.Replace
import HandS.Dict
import KE.KDictPairs
import HandS.Sort
import KE.SortCalls
import KE.SortKeyed
import PyProof.Rows.RowHeap
import HandS.Head0
import HandS.Head1
import HandS.Head2
import HandS.HeadHook1
import HandS.HeadHook2
import KE.KStateDown
import HandS.HeadHook3
import HandS.HeadNt
import HandS.MakeKwOnly
import HandS.WrittenGet
import HandS.TupAny
import HandS.Deep
import HandS.TryOnly
import PySem.Challenge.RW_liveclaims_k16_kept_and_set_rows
set_option maxRecDepth 100000
set_option maxHeartbeats 4000000
set_option linter.all false
namespace Lc
/-! ## Greatest common divisors and lowest terms -/
def gd (a b : Int) : Int := (Int.gcd a b : Int)
theorem gd_nonneg (a b : Int) : 0 ≤ gd a b := Int.natCast_nonneg _
theorem gd_pos {a b : Int} (h : b ≠ 0) : 0 < gd a b := by
  have : 0 < Int.gcd a b := Int.gcd_pos_of_ne_zero_right a h
  unfold gd
  omega
theorem gd_zero {a : Int} (h : 0 ≤ a) : gd a 0 = a := by
  unfold gd
  rw [Int.gcd_zero_right]
  omega
theorem gd_step {a b : Int} (ha : 0 ≤ a) (hb : 0 < b) : gd b (a % b) = gd a b := by
  unfold gd Int.gcd
  have e1 : (a % b).natAbs = a.natAbs % b.natAbs := by
    have h0 : 0 ≤ a % b := Int.emod_nonneg a (by omega)
    have : ((a % b).natAbs : Int) = ((a.natAbs % b.natAbs : Nat) : Int) := by
      rw [Int.natCast_emod, Int.natAbs_of_nonneg h0, Int.natAbs_of_nonneg ha, Int.natAbs_of_nonneg (by omega : 0 ≤ b)]
    exact Int.ofNat.inj this
  rw [e1, Nat.gcd_comm b.natAbs, ← Nat.gcd_rec, Nat.gcd_comm]
theorem gd_abs (a b : Int) : gd (if a < 0 then -a else a) b = gd a b := by
  unfold gd
  split
  · rw [Int.neg_gcd]
  · rfl
theorem gd_abs2 (a b : Int) : gd a (if b < 0 then -b else b) = gd a b := by
  unfold gd
  split
  · rw [Int.gcd_neg]
  · rfl
theorem gd_dvd1 (a b : Int) : gd a b ∣ a := Int.gcd_dvd_left a b
theorem gd_dvd2 (a b : Int) : gd a b ∣ b := Int.gcd_dvd_right a b
theorem gd_natAbs_le {a b : Int} (h : b ≠ 0) : (gd a b).natAbs ≤ b.natAbs := by
  have h1 : Int.gcd a b ≤ b.natAbs := Nat.le_of_dvd (by omega) (Int.gcd_dvd_natAbs_right a b)
  unfold gd
  rw [Int.natAbs_natCast]
  exact h1
def lowN (n d : Int) : Int := n / gd n d
def lowD (n d : Int) : Int := d / gd n d
structure Rt (n d : Int) : Prop where
  pos : 0 < d
  cop : gd n d = 1
theorem low_mul {n d : Int} (h : d ≠ 0) : lowN n d * gd n d = n ∧ lowD n d * gd n d = d := ⟨Int.ediv_mul_cancel (gd_dvd1 n d), Int.ediv_mul_cancel (gd_dvd2 n d)⟩
theorem lowD_pos {n d : Int} (h : 0 < d) : 0 < lowD n d := Int.ediv_pos_of_pos_of_dvd h (gd_nonneg n d) (gd_dvd2 n d)
theorem low_rt {n d : Int} (h : 0 < d) : Rt (lowN n d) (lowD n d) := by
  refine ⟨lowD_pos h, ?_⟩
  have hg : 0 < Int.gcd n d := Int.gcd_pos_of_ne_zero_right n (by omega)
  unfold lowN lowD gd
  rw [Int.gcd_ediv_gcd_ediv_gcd hg]
  rfl
theorem dvd_cop {k m n : Int} (h : k ∣ n * m) (g : Int.gcd m k = 1) : k ∣ n := by
  have h1 : k.natAbs ∣ m.natAbs * n.natAbs := by
    rw [← Int.natAbs_mul, Int.mul_comm]
    exact Int.natAbs_dvd_natAbs.mpr h
  have c : Nat.Coprime k.natAbs m.natAbs := by
    show Nat.gcd k.natAbs m.natAbs = 1
    rw [Nat.gcd_comm]
    exact g
  exact Int.natAbs_dvd_natAbs.mp (c.dvd_of_dvd_mul_left h1)
/-- lowest terms are one pair alone -/
theorem rt_unique {a b c d : Int} (h1 : Rt a b) (h2 : Rt c d) (e : a * d = c * b) : a = c ∧ b = d := by
  have g1 : Int.gcd a b = 1 := by have := h1.cop; unfold gd at this; omega
  have g2 : Int.gcd c d = 1 := by have := h2.cop; unfold gd at this; omega
  have db : b ∣ d := by
    have : b ∣ d * a := ⟨c, by rw [Int.mul_comm d a, e, Int.mul_comm]⟩
    exact dvd_cop this g1
  have dd : d ∣ b := by
    have : d ∣ b * c := ⟨a, by rw [Int.mul_comm b c, ← e, Int.mul_comm]⟩
    exact dvd_cop this g2
  have hb := h1.pos
  have hd := h2.pos
  have ebd : b = d := Int.le_antisymm (Int.le_of_dvd hd db) (Int.le_of_dvd hb dd)
  subst ebd
  exact ⟨Int.eq_of_mul_eq_mul_right (by omega) e, rfl⟩
theorem low_is {n d a b : Int} (hd : 0 < d) (h : Rt a b) (e : n * b = a * d) : lowN n d = a ∧ lowD n d = b := by
  have m := low_mul (n := n) (d := d) (by omega)
  have g := gd_pos (a := n) (b := d) (by omega)
  refine rt_unique (low_rt hd) h ?_
  have e2 : (lowN n d * b) * gd n d = (a * lowD n d) * gd n d := by
    rw [Int.mul_right_comm, m.1, Int.mul_assoc, m.2, e]
  exact Int.eq_of_mul_eq_mul_right (by omega) e2
theorem fdiv_neg_dvd {a g : Int} (hg : 0 < g) (h : g ∣ a) : a.fdiv (-g) = (-a) / g := by
  obtain ⟨m, rfl⟩ := h
  have e1 : g * m = (-g) * (-m) := by rw [Int.neg_mul_neg]
  have e2 : -(g * m) = g * (-m) := by rw [Int.mul_neg]
  rw [e2, Int.mul_ediv_cancel_left _ (by omega), e1, Int.mul_fdiv_cancel_left _ (by omega)]
/-- the sums and products of the law -/
theorem sub_add {an ad bn bd p q : Int} (had : 0 < ad) (hbd : 0 < bd) (hq : 0 < q) (h : p * (ad * bd) = (an * bd + bn * ad) * q) : (p * bd - bn * q) * ad = an * (q * bd) := by
  have e1 : (p * bd - bn * q) * ad = p * (ad * bd) - bn * q * ad := by
    rw [Int.sub_mul, Int.mul_assoc p bd ad, Int.mul_comm bd ad]
  have e2 : (an * bd + bn * ad) * q = an * (q * bd) + bn * q * ad := by
    rw [Int.add_mul, Int.mul_assoc an bd q, Int.mul_comm bd q, Int.mul_assoc bn ad q, Int.mul_comm ad q, Int.mul_assoc bn q ad]
  rw [e1, h, e2]
  omega
theorem mul_div {an ad bn bd p q : Int} (h : p * (ad * bn) = (an * bd) * q) (hbn : bn ≠ 0) : (p * bn) * ad = an * (q * bd) := by
  rw [Int.mul_assoc p bn ad, Int.mul_comm bn ad, h, Int.mul_assoc an bd q, Int.mul_comm bd q]
end Lc
namespace Lc
theorem low_le {n d : Int} (h : d ≠ 0) : (lowN n d).natAbs ≤ n.natAbs ∧ (lowD n d).natAbs ≤ d.natAbs := by
  have m := low_mul (n := n) (d := d) h
  have g := gd_pos (a := n) (b := d) h
  have e1 : n.natAbs = (lowN n d).natAbs * (gd n d).natAbs := by rw [← Int.natAbs_mul, m.1]
  have e2 : d.natAbs = (lowD n d).natAbs * (gd n d).natAbs := by rw [← Int.natAbs_mul, m.2]
  have gp : 0 < (gd n d).natAbs := by omega
  exact ⟨by rw [e1]; exact Nat.le_mul_of_pos_right _ gp, by rw [e2]; exact Nat.le_mul_of_pos_right _ gp⟩
theorem rt_one (n : Int) : Rt n 1 := ⟨by decide, by unfold gd; rw [Int.gcd_one]; rfl⟩
theorem rt_inv {d : Int} (h : 0 < d) : Rt 1 d := ⟨h, by unfold gd; rw [Int.one_gcd]; rfl⟩
theorem rt_ninv {d : Int} (h : 0 < d) : Rt (-1) d := ⟨h, by unfold gd; rw [Int.neg_gcd, Int.one_gcd]; rfl⟩
end Lc
set_option Elab.async false
set_option linter.all false
set_option maxRecDepth 100000
set_option maxHeartbeats 4000000
namespace Lc
open PySem PySem.Spec PyProof.Rows L2
/-! ## A try with clauses of both forms, «except X:» and «except X as n:» -/
structure Cl where
  c : Value
  slot : Option Nat
  ts : Addr → Value → Option Addr → TS
def putS : Option Nat → Option V → L2.St → L2.St
  | none, _, σ => σ
  | some i, v, σ => σ.set i v
def endS (q : Option Nat) (D : Ends) : Ends := ⟨fun σ H => D.nx (putS q none σ) H, D.rt, fun σ H => D.bk (putS q none σ) H, fun σ H => D.ct (putS q none σ) H⟩
def wCl (K : PySem.W.Frag) (Wout : WX) (D : Ends) : List Cl → WX
  | [] => Wout
  | q :: r => fun cls d σ H => ∃ b, PySem.W.exmOne K cls q.c = some b ∧ (b = true → ∀ a, H a = none → q.ts a cls d (endS q.slot D) (putS q.slot (some (.ref a)) σ) H) ∧
      (b = false → wCl K Wout D r cls d σ H)
abbrev SuiteOk (X : Cx) (st : List Stmt) (ts : Addr → Value → Option Addr → TS) : Prop :=
  ∀ (a : Addr) (ob : Obj) (cls : Value) (d : Option Addr) (pn : List (Addr × Obj)), Zc cls d ob → (∃ vs, ob.data = .fields vs) → PSs (X.suite a ((a, ob) :: pn)) st (ts a cls d)
inductive ClsOk (X : Cx) : List ExceptHandler → List Cl → Prop
  | nil : ClsOk X [] []
  | bare {x : Str} {q : Cl} {st : Stmt} {sts : List Stmt} {p1 p2 : Pos} {hds : List ExceptHandler} {l : List Cl} (hc : Names X x q.c) (hq : q.slot = none) (su : SuiteOk X (st :: sts) q.ts) (r : ClsOk X hds l) :
      ClsOk X (.ExceptHandler (some (.Name x p1)) none (st :: sts) p2 :: hds) (q :: l)
  | named {x n : Str} {q : Cl} {i : Nat} {st : Stmt} {sts : List Stmt} {p1 p2 : Pos} {hds : List ExceptHandler} {l : List Cl} (hc : Names X x q.c) (hq : q.slot = some i) (hN : X.N.Nodup) (hi : X.N[i]? = some n) (hn : X.env.kindOf n = some .local)
      (su : SuiteOk X (st :: sts) q.ts) (r : ClsOk X hds l) : ClsOk X (.ExceptHandler (some (.Name x p1)) (some n) (st :: sts) p2 :: hds) (q :: l)
section
variable {X : Cx}
theorem clauses_go {Wout : WX} {D : Ends} {pins : List (Addr × Obj)} {σ : L2.St} {H : Hp} {cls : Value} {d : Option Addr} {a : Addr} {B : Heap} {sI s' : Shared} {h3 : Heap}
    (hs : X.stack = X.env :: X.outer) (hf : X.env.frame = some X.env.locals) (tk : Takes X Wout) (J : Inv X pins σ H sI)
    (nb : ∀ b o, sI.heap.get? b = some o → b ∉ frs X.stack → B.get? b = some o) (na : H a = none) (os : s'.os = sI.os) (ag : AllBare s'.gens)
    (up : sI.heap.UpToSlots h3) (fl : HandSPX.FlyingZ B (X.env :: X.outer) a (Zc cls d) h3) :
    ∀ {hds : List ExceptHandler} {l : List Cl}, ClsOk X hds l → wCl X.K Wout D l cls d σ H → wpAny (model X.prog X.w) X.A (handleBy (.ref a) X.env hds) (SP X pins D) X.xe { s' with heap := h3 } := by
  have ok := J.ok
  have land : ∀ {h4 : Heap}, HandSPX.FlyingZ B (X.env :: X.outer) a (Zc cls d) h4 → sI.heap.UpToSlots h4 → Inv X pins σ H { s' with heap := h4 } ∧ ∃ ob vs, Zc cls d ob ∧ ob.data = .fields vs ∧ h4.get? a = some ob ∧
      Inv (X.suite a ((a, ob) :: (X.pn ++ pins))) [] σ H { s' with heap := h4 } := by
    intro h4 f4 u4
    have J4 : Inv X pins σ H { s' with heap := h4 } := J.landed nb f4.1 u4 os ag
    obtain ⟨ob, vs, hob, hz, hd⟩ := f4.there
    have nfr : a ∉ frs (X.env :: X.outer) := fun hm => by
      obtain ⟨_, ox, ex, nf⟩ := f4.2.2.1.mem hm
      rw [hob] at ex
      cases ex
      exact nf _ hd
    have nL : a ≠ X.env.locals := fun z => nfr (List.mem_filterMap.mpr ⟨X.env, List.mem_cons_self, by rw [hf, z]⟩)
    have nF : a ∉ X.fs := fun hm => by
      obtain ⟨en, hen, qq⟩ := List.mem_filterMap.mp hm
      exact nfr (List.mem_filterMap.mpr ⟨en, List.mem_cons_of_mem _ hen, qq⟩)
    exact ⟨J4, ob, vs, hz, hd, hob, J4.suite hob hd na nL nF⟩
  obtain ⟨J3, o3, vs3, hz3, hd3, ho3, S3⟩ := land fl up
  have ty : PySem.W.Looks (model X.prog X.w) h3 (typeOf (.ref a)) cls := fun _ _ _ _ kk qq => wpAny_typeOf_ref (kk _ _ ho3) (by rw [hz3.1]; exact qq)
  have tst : ∀ {x : Str} {c : Value} {p1 : Pos} {Q : Value → Shared → Prop} {E : Value → Shared → Prop}, Names X x c → Q c { s' with heap := h3 } →
      wpAny (model X.prog X.w) (X.A.mark (some (.ref a))) (eval (.Name x p1) X.env) Q E { s' with heap := h3 } := by
    intro x c p1 Q E hc hq
    rcases hc with ⟨hg, hdb, hm | ⟨hm, hv, hne⟩⟩
    · exact ld_glob (X := X.suite a ((a, o3) :: (X.pn ++ pins))) S3 hg hm hq hdb
    · exact ld_blt (X := X.suite a ((a, o3) :: (X.pn ++ pins))) S3 hg hm hv hq hne hdb
  intro hds l hk
  induction hk with
  | nil =>
    intro wi
    refine wpAny_handleBy_nil ?_
    obtain ⟨_, _, _, ox, vx, T, _, _, hox, _, hdx, h1, _⟩ := id fl
    have out : wpAny (model X.prog X.w) X.A (setFlight (.ref a) X.env.frame) (fun _ s4 => wpAny (model X.prog X.w) X.A (throw (.ref a) : Sem Flow) (SP X pins D) X.xe s4) X.xe { s' with heap := h3 } := by
      rw [hf]
      exact HandSPX.setFlight_upZ fl fun h4 f4 u4 => wpAny_throw (tk _ _ ⟨a, B, sI, pins, σ, H, cls, d, rfl, J, nb, up.trans u4, .inr (.inr (by rw [hs]; exact f4)), na, os, ag, wi⟩)
    unfold PySem.passOn
    refine wpAny_bind (wpAny_field hox hdx h1 ?_)
    rw [if_neg (by simp : ¬ ((Value.ref T == Value.none) = true))]
    first
      | exact wpAny_bind out
      | exact wpAny_bind (wpAny_pure (wpAny_bind out))
  | @bare x q st sts p1 p2 hds2 l2 hc hq su r ih =>
    intro wi
    obtain ⟨b, hb, yes, no⟩ := wi
    refine wpAny_handleBy_cons (codeAny_handlers_test (tst hc ((PySem.W.exm_one (M := model X.prog X.w) J3.kIn ty hb).here ?_))) (by intro z; cases z)
    cases b with
    | false => exact ih (no rfl)
    | true =>
      refine codeAny_handlers_suite (HandSPX.lands_againZ fl fun h4 f4 u4 => ?_)
      obtain ⟨J4, o4, vs4, hz4, hd4, ho4, S4⟩ := land f4 (up.trans u4)
      have yy := yes rfl a na
      rw [hq] at yy
      refine wpAny_mono ((su a o4 cls d (X.pn ++ pins) hz4 ⟨_, hd4⟩).run [] _ _ H _ S4 yy) (fun f s6 hsp => ?_) (fun _ _ z => z.elim)
      cases f with
      | ret u =>
        obtain ⟨v6, σ6, H6, S6, r6, q6⟩ := hsp
        exact ⟨v6, σ6, H6, S6.unsuite ok, r6, q6⟩
      | next => obtain ⟨σ6, H6, S6, q6⟩ := hsp; exact ⟨σ6, H6, S6.unsuite ok, q6⟩
      | brk => obtain ⟨σ6, H6, S6, q6⟩ := hsp; exact ⟨σ6, H6, S6.unsuite ok, q6⟩
      | cont => obtain ⟨σ6, H6, S6, q6⟩ := hsp; exact ⟨σ6, H6, S6.unsuite ok, q6⟩
  | @named x n q i st sts p1 p2 hds2 l2 hc hq hN hi hn su r ih =>
    intro wi
    obtain ⟨b, hb, yes, no⟩ := wi
    refine wpAny_handleBy_cons (codeAny_handlers_test (tst hc ((PySem.W.exm_one (M := model X.prog X.w) J3.kIn ty hb).here ?_))) (by intro z; cases z)
    cases b with
    | false => exact ih (no rfl)
    | true =>
      refine codeAny_handlers_suite_as (HandSPX.lands_againZ fl fun h4 f4 u4 => ?_)
      obtain ⟨J4, o4, vs4, hz4, hd4, ho4, S4⟩ := land f4 (up.trans u4)
      have yy := yes rfl a na
      rw [hq] at yy
      refine store_ok (X := X.suite a ((a, o4) :: (X.pn ++ pins))) (v := .ref a) S4 hN hi (.inl hn) rfl (fun s5 S5 => ?_) (.inr hn)
      refine wpAny_mono ((su a o4 cls d (X.pn ++ pins) hz4 ⟨_, hd4⟩).run [] s5 _ H _ S5 yy) (fun f s6 hsp => ?_) (fun _ _ z => z.elim)
      have fin : ∀ {σ6 : L2.St} {H6 : Hp} {Q : Shared → Prop}, Inv (X.suite a ((a, o4) :: (X.pn ++ pins))) [] σ6 H6 s6 → (∀ s7, Inv X pins (σ6.set i none) H6 s7 → Q s7) →
          wpAny (model X.prog X.w) X.A (do bindName X.env n .none; unbindBehindTheSuite X.env n p2) (fun _ s7 => Q s7) X.xe s6 := fun S6 k => gone_ok (S6.unsuite ok) hN hi hn k
      cases f with
      | ret u =>
        obtain ⟨v6, σ6, H6, S6, r6, q6⟩ := hsp
        exact fin S6 fun s7 J7 => ⟨_, _, _, J7, r6, q6⟩
      | next => obtain ⟨σ6, H6, S6, q6⟩ := hsp; exact fin S6 fun s7 J7 => ⟨_, _, J7, q6⟩
      | brk => obtain ⟨σ6, H6, S6, q6⟩ := hsp; exact fin S6 fun s7 J7 => ⟨_, _, J7, q6⟩
      | cont => obtain ⟨σ6, H6, S6, q6⟩ := hsp; exact fin S6 fun s7 J7 => ⟨_, _, J7, q6⟩
theorem ps_tryL {body : List Stmt} {h₀ : ExceptHandler} {hds : List ExceptHandler} {l : List Cl} {pos : Pos} {tb : WX → TS} {Wout : WX} (hs : X.stack = X.env :: X.outer) (hf : X.env.frame = some X.env.locals) (tk : Takes X Wout)
    (hb : ∀ (W : WX) (pn : List (Addr × Obj)) (xe : Value → Shared → Prop), Takes (X.tr pn xe) W → PassesOwn (model X.prog X.w) X.A X.env xe → PSs (X.tr pn xe) body (tb W)) (hh : ClsOk X (h₀ :: hds) l) :
    PS X (.Try body (h₀ :: hds) [] [] pos) (fun D σ H => tb (wCl X.K Wout D l) D σ H) := by
  refine ⟨fun pins s σ H D I h => ?_⟩
  have ok := I.ok
  have fr : X.A.frames = some (X.env :: X.outer) := ok.frames.trans (congrArg some hs)
  refine wpAny_Try_except (wpAny_mono ((hb (wCl X.K Wout D l) (X.pn ++ pins) (fun e s₁ => wpAny (model X.prog X.w) X.A (noteFrame e X.env) (fun _ s₂ => wpAny (model X.prog X.w) X.A (setFlight e none)
    (fun _ s₃ => wpAny (model X.prog X.w) X.A (handleBy e X.env (h₀ :: hds)) (SP X pins D) X.xe s₃) X.xe s₂) X.xe s₁) (fun u s' xx => ?_) PassesOwn.looking).run [] s σ H D (I.toTry _) h) (fun f s1 hsp => ?_) (fun _ _ he => he))
  · obtain ⟨a, B, sI, _, σ1, H1, cls, d, rfl, J', nb, up, sky, na, os, ag, wi⟩ := xx
    rw [hs] at sky
    exact Sky.land Zc.steady fr hf sky fun h3 f3 u3 => clauses_go hs hf tk (J'.ofTry ok) nb na os ag (up.trans u3) f3 hh wi
  · cases f with
    | ret u =>
      obtain ⟨v1, σ1, H1, J1, r1, q1⟩ := hsp
      exact ⟨v1, σ1, H1, J1.ofTry ok, r1, q1⟩
    | next => obtain ⟨σ1, H1, J1, q1⟩ := hsp; exact wpAny_execs_nil ⟨σ1, H1, J1.ofTry ok, q1⟩
    | brk => obtain ⟨σ1, H1, J1, q1⟩ := hsp; exact ⟨σ1, H1, J1.ofTry ok, q1⟩
    | cont => obtain ⟨σ1, H1, J1, q1⟩ := hsp; exact ⟨σ1, H1, J1.ofTry ok, q1⟩
end
/-! ## isinstance of the caught error, whether it has a dict or not -/
structure XisC (K : PySem.W.Frag) (C : Addr) : Prop where
  hc : (PySem.W.clsIn K C).isSome = true
  ga : PySem.W.findIn K (.ref C) "__getattribute__" = some (some (.builtin "BaseException.__getattribute__"))
  gt : PySem.W.findIn K (.ref C) "__getattr__" = some none
  sb : PySem.W.subIn K (.ref C) (.type "BaseException") = some true
  cl : PySem.W.findIn K (.ref C) "__class__" = some (some (.builtin "object.__class__"))
  sp : PySem.W.specialIn K (.builtin "object.__class__") "__get__" = some (some (.builtin "getset_descriptor.__get__"))
  tk : PySem.W.takesIn K (.builtin "object.__class__") = some true
  mo : PySem.W.mroIn K C (.type "object") = some true
def rIsX (K : PySem.W.Frag) (cls : Value) (d : Option Addr) (C a : Addr) : List V → Hp → VK → Prop := fun xs H Q => cls = .ref C ∧ ∃ (c : V) (cv : Value) (b : Bool), xs = [.ref a, c] ∧ ClsV c cv ∧ (∀ dd, d = some dd → ∃ fs, H dd = some (.xd fs)) ∧
  PySem.W.kitOne K (.ref C) cv = some b ∧ Q (.bl b) H
section
variable {X : Cx}
theorem call_isX {a C : Addr} {ob : Obj} {cls : Value} {d : Option Addr} {pn : List (Addr × Obj)} (T : XisC X.K C) (hz : Zc cls d ob) (hf : ∃ vs, ob.data = .fields vs) : CallR (X.suite a ((a, ob) :: pn)) (.builtin "isinstance") (rIsX X.K cls d C a) := by
  intro pins s σ H xs us Q I r h
  obtain ⟨ec, c, cv, b, rfl, hcv, hd, e, q⟩ := h
  obtain ⟨u1, u2, rfl, r1, r2⟩ := vals2 r
  have e2 := hcv.eq r2
  subst e2 ec
  obtain rfl : u1 = Value.ref a := r1
  obtain ⟨vs, hv⟩ := hf
  obtain ⟨hget, _⟩ := I.pin (a, ob) (List.mem_append_left _ List.mem_cons_self)
  have nc : PySem.W.notCls ob = true := by unfold PySem.W.notCls; rw [hv]
  have key : ∃ od, PySem.W.InstAt s.heap a ob C od := by
    cases d with
    | none => exact ⟨none, hget, hz.1, nc, by rw [hz.2]; trivial⟩
    | some dd =>
      obtain ⟨fs, hfs⟩ := hd dd rfl
      obtain ⟨mA, ⟨o, _, _, ho, _⟩, _⟩ := (show ObjOk X.prog X.w H s.heap dd (.xd fs) from I.hok dd _ hfs)
      exact ⟨some o, hget, hz.1, nc, by rw [hz.2]; exact ho⟩
  obtain ⟨od, J⟩ := key
  exact PySem.W.kia_one (PySem.W.kitx_exc T.hc T.ga T.gt T.sb T.cl T.sp T.tk T.mo) I.kIn J e (fun z => nomatch z) fun tk => ⟨.bl b, H, I.kept (t' := tk) fun _ _ z => z, rfl, q⟩
/-! ## f(e, ..), f a local name that holds a def which may raise -/
def tCallLS (i : Nat) (f : Addr) (sp : Sp) (E : L2.St → XK) (t : TA) : TE := fun σ H Q => σ[i]? = some (some (.ref f)) ∧ t σ H fun vs H1 => sp vs H1 Q (E σ)
theorem pe_callLS {CX : CXT} {k i : Nat} {f : Addr} {fd : FuncData} {ps : List Str} {sp : Sp} {E : L2.St → XK} {x : Str} {p pos : Pos} {e : Expr} {es : List Expr} {t : TA}
    (F : FnOk X.prog X.w X.K X.mg X.base CX k f fd ps sp) (hr : Room k X.A) (hN : X.N[i]? = some x) (hv : Vis X.env.scope x) (hk : PySem.W.keepIn X.K (.ref f) = true) (hb : Binds X.K fd ps []) (hx : ∀ σ, PassesAt CX X σ (E σ)) (ha : PA X (e :: es) t)
    (hdb : (x == ("__debug__" : Str)) = false := by decide) (hcd : (x == ("__classdict__" : Str)) = false := by decide)
    (he : starEach (e :: es) X.env = (false, eval e X.env) :: starEach es X.env := by rfl) (hpl : (backTo pos (starEach es X.env)).any (·.1) = false := by rfl) : PE X (.Call (.Name x p) (e :: es) [] pos) (tCallLS i f sp E t) := by
  refine ⟨fun pins s σ H Q I ⟨hs, ht⟩ => wpAny_Call_Name_kw (thn ((pe_var (pos := p) hN hv hdb hcd).run pins s σ H (fun v H1 => v = .ref f ∧ H1 = H) I ⟨.ref f, hs, rfl, rfl⟩) fun u s1 ⟨v, H1, I1, r1, e1, e2⟩ => ?_)⟩
  subst e1 e2
  obtain rfl : u = Value.ref f := r1
  exact PySem.W.callWith_K (h₀ := X.base) I.ok.mod.kin hk (thn (ha.run pos pins s1 σ _ _ I1 ht) fun us s2 ⟨vs, H2, I2, r, q⟩ => ⟨I2.kIn, run_fnS F hr hb (hx σ) I2 r q⟩) he hpl
/-! ## C(), an own error class without an __init__ -/
theorem pmk_own0 {C : Addr} {bmB : List Value} {B newId initId : String} {x : Str} {p pos : Pos} (F : ExcBaseFacts B newId initId bmB) (q : PySem.W.excIn X.K C bmB newId = true) (gC : X.mg x = some (.ref C)) (kC : PySem.W.keepIn X.K (.ref C) = true)
    (r : Raises X (.ref C)) (hg : Gl X x) (hdb : (x == ("__debug__" : Str)) = false := by decide) : PMk X (.Call (.Name x p) [] [] pos) (fun _ H Q => Q (.ref C) none H) := by
  intro pins s σ H Q I h
  refine wpAny_Call_Name_kw (ld_glob I hg gC (PySem.W.callWith_K0 I.kIn kC ?_) hdb)
  obtain ⟨_, _, _, _, _, _, _, _, _, _, _, _, _, _, _, _, _, hC, hN, hni, T⟩ := exc_obj I.kIn q
  exact wpAny_call_exc_subT F T hC hN hni (fun h' e hm => mk_of I hm r h (I.hok.gone hm.new)) (by show 0 ≤ sizeLine; omega)
/-! ## // by any great number but 0 -/
theorem op_fdivZ : OpR X (binaryOp .FloorDiv) (rI (fun _ j => j ≠ 0 ∧ j.natAbs.log2 < 9000) fun i j => .int (i.fdiv j)) := opI fun _ _ _ _ _ _ _ hc q => floordiv_int hc.1 q (.inl (PyProof.noPylong_of_log2 hc.2))
/-! ## repr of data -/
def rReprD (K : PySem.W.Frag) : List V → Hp → VK → Prop := fun xs H Q => ∃ (a : Addr) (d : PyData), xs = [.ref a] ∧ Dp K H (.ref a) d ∧ d.showable = true ∧ d.hasDict = false ∧ d.depth ≤ 60 ∧ d.shown.length ≤ sizeLine ∧ Q (.str d.shown) H
theorem call_reprD (hu : X.A.units + 64 < cLine) (hg : X.A.guards = some []) : CallR X (.builtin "repr") (rReprD X.K) := by
  intro pins s σ H xs us Q I r h
  obtain ⟨a, d, rfl, hd, hs, hn, hde, hl, q⟩ := h
  obtain ⟨u, rfl, ru⟩ := vals1 r
  obtain rfl : u = Value.ref a := ru
  obtain ⟨as, rd⟩ := Dp.reads I d _ _ hd rfl
  exact repr_of_reads' rd hs (fun z => by rw [hn] at z; cases z) hg (by omega) (fun _ _ e => e) (fun h' u tk hk => ⟨.str d.shown, H, I.kept (t' := tk) hk, ⟨u, rfl⟩, q⟩) hl
end
end Lc
set_option Elab.async false
set_option linter.all false
set_option maxRecDepth 100000
set_option maxHeartbeats 4000000
namespace Lc
open PySem PySem.Spec PyProof.Rows L2
/-! ## Promises of defs that are called where no repr is under way -/
structure FnG (P : Program) (w : World) (K : PySem.W.Frag) (mg : Str → Option Value) (base : Heap) (k : Nat) (f : Addr) (fd : FuncData) (ps : List Str) (sp : Sp) : Prop where
  len : ∀ vs H Q E, sp vs H Q E → vs.length = ps.length
  run : ∀ (A : Around) (outer : List Env) (s : Shared) (H : Hp) (args : Args) (us : List Value) (vs : List V) (Q : VK) (E : XK), A.guards = some [] → Room k A → Env0 P w K mg base A outer s H → BindsTo s fd args (ps.zip us) → Vals vs us → sp vs H Q E →
    codeAny (model P w) A (.call (.ref f) args) (CR CX0 outer P w H s Q E) s
section
variable {P : Program} {w : World} {K : PySem.W.Frag} {mg : Str → Option Value} {base : Heap}
theorem Fun.okG {x qual : Str} {st : Stmt} {f : Addr} {fd : FuncData} {N ps : List Str} {k : Nat} {sp : Sp} (F : Fun K x qual st f fd) (S : FnScope N ps (defScope st)) (len : ∀ vs H Q E, sp vs H Q E → vs.length = ps.length)
    (go : ∀ (cdv : Value) (A : Around) (outer : List Env) (s : Shared) (H : Hp) (vs : List V) (Q : VK) (E : XK), A.guards = some [] → Room k (A.deeper (envOfC qual (defScope st) s.heap.objs.size f cdv)) → sp vs H Q E →
      ∃ t, PSs (cxOf CX0 P w K mg base N qual (defScope st) f cdv A outer s H E).nox (defBody st) t ∧ t { nx := fun _ H' => Q .non H', rt := Q } (start N vs) H) : FnG P w K mg base (k + 1) f fd ps sp := by
  obtain ⟨oc, od, kV, doc, pm, an, cdv, ct, osl, rfl, lk, hcd⟩ := F.ex
  refine ⟨len, fun A outer s H args us vs Q E hg hr e0 hb r hsp => ?_⟩
  have up : ∀ b o, base.get? b = some o → s.heap.get? b = some o := fun b o z => (e0.bs b o z).1
  have KX := e0.mod.kin.keeps up
  refine codeAny_call_function hr.depth (KX _ _ lk) rfl S.co S.gen rfl (PySem.W.codeRec_of KX hcd) (hb _ _ _ _ ?_)
  refine wpAny_newFunctionEnv_cells S.kind (fun y hy => ?_) fun env he s1 x => ?_
  · rcases S.par y.1 (List.of_mem_zip (a := y.1) (b := y.2) hy).1 with z | z
    · exact .inl z
    · exact .inr ⟨z, PySem.W.cellsFrom_some _ _ _ (.inl z)⟩
  subst he
  obtain ⟨t, ht, hq⟩ := go cdv A outer s H vs Q E hg (hr.deeper _) hsp
  have I : Inv (cxOf CX0 P w K mg base N qual (defScope st) f cdv A outer s H E) [] (start N vs) H s1 := inv_start S hr.hd e0 (len _ _ _ _ hsp) r x
  refine ⟨(e0.mod.nolimit.keeps up).keeps x.toInCall.keep, codeAny_func (wpAny_mono (ht.nox.run [] s1 (start N vs) H _ I hq) (fun fl s' hs => ?_) fun _ _ z => z)⟩
  cases fl with
  | ret u => obtain ⟨v, _, H', J, rv, q⟩ := hs; exact ⟨v, H', J.os, J.bare, J.base, J.hok, rv, q⟩
  | next => obtain ⟨_, H', J, q⟩ := hs; exact ⟨V.non, H', J.os, J.bare, J.base, J.hok, rfl, q⟩
  | brk => obtain ⟨_, _, _, q⟩ := hs; exact q.elim
  | cont => obtain ⟨_, _, _, q⟩ := hs; exact q.elim
end
section
variable {X : Cx} {k : Nat} {f : Addr} {fd : FuncData} {ps : List Str} {sp : Sp} {x : Str} {p pos : Pos} {e : Expr} {es : List Expr} {t : TA}
/-- f(e, ..), f kept under FnG -/
theorem pe_callG (F : FnG X.prog X.w X.K X.mg X.base k f fd ps sp) (gg : X.A.guards = some []) (hr : Room k X.A) (hg : Gl X x) (hm : X.mg x = some (.ref f)) (hk : PySem.W.keepIn X.K (.ref f) = true) (hb : Binds X.K fd ps [])
    (ha : PA X (e :: es) t) (hdb : (x == ("__debug__" : Str)) = false := by decide) (he : starEach (e :: es) X.env = (false, eval e X.env) :: starEach es X.env := by rfl) (hpl : (backTo pos (starEach es X.env)).any (·.1) = false := by rfl) :
    PE X (.Call (.Name x p) (e :: es) [] pos) (tCall sp [] E0 t) := by
  refine ⟨fun pins s σ H Q I h => wpAny_Call_Name_kw (ld_glob I hg hm ?_ hdb)⟩
  refine PySem.W.callWith_K (h₀ := X.base) I.ok.mod.kin hk (thn (ha.run pos pins s σ H _ I h) fun us s1 ⟨vs, H1, I1, r, q⟩ => ⟨I1.kIn, ?_⟩) he hpl
  replace q : sp vs H1 Q E0 := by
    have z : sp (vs ++ []) H1 Q E0 := q
    rw [List.append_nil] at z
    exact z
  have hl : us.length = ps.length := by rw [← r.length]; exact F.len _ _ _ _ q
  have b := hb s1 us I1.kIn (by rw [List.append_nil]; exact hl)
  rw [List.append_nil] at b
  refine wpAny_call (codeAny_mono (F.run X.A X.stack s1 H1 ⟨us, []⟩ us vs Q E0 gg hr I1.env0 b r q) fun rr s' hq => ?_)
  cases rr with
  | error er => exact False.elim hq
  | ok fl =>
    cases fl with
    | ret u => exact I1.after hq
    | next => exact False.elim hq
    | brk => exact False.elim hq
    | cont => exact False.elim hq
end
/-! ## The law itself -/
section
variable {P : Program} {w : World} {K : PySem.W.Frag} {mg mb : Str → Option Value} {k : Nat} {fa a : Addr} {fd : FuncData} {x : Str} {sp : Sp} {s : Shared} {vs : List Value} {ns : List Int}
theorem env_of {H : Hp} (KX : K.In s.heap) (hns : s.heap.Ns mainGlobals mg) (hb : s.heap.Ns builtinsNs mb) (hbb : ∀ x : Str, x ≠ "__name__" → mb x = bootBuiltins x) (hlim : s.heap.NoLimit) (hg : s.gens = #[])
    (ha : s.heap.get? a = some { cls := .type "list", data := .seq vs.toArray }) (hok : HOk P w H s.heap) (one : ∀ b, b ≠ a → H b = none) (nk : H a = none ∨ K.lookup a = none) :
    K.In (hidT s.heap H) ∧ (hidT s.heap H).Ns mainGlobals mg ∧ Env0 P w K mg (hidT s.heap H) callerA [] s H := by
  have keepN : ∀ {b : Addr} {m : Str → Option Value}, s.heap.Ns b m → (hidT s.heap H).Ns b m := by
    rintro b m ⟨o, es, ep, e, d, r⟩
    have nb : b ≠ a := fun z => by
      rw [z, ha] at e
      cases e
      exact nomatch (show Data.seq vs.toArray _ = Data.dict es ep from d)
    exact ⟨o, es, ep, hidT_get e (one b nb), d, r⟩
  have kin : K.In (hidT s.heap H) := fun b o e => hidT_get (KX b o e) (by
    by_cases z : b = a
    · rcases nk with q | q
      · rw [z]; exact q
      · rw [z, q] at e; cases e
    · exact one b z)
  obtain ⟨mc, l1, l2⟩ := hlim
  exact ⟨kin, keepN hns, rfl, ⟨kin, keepN hns, ⟨mb, keepN hb, hbb⟩, ⟨mc, keepN l1, l2⟩⟩, fun b o e => of_hidT e, Nat.le_of_eq (hidT_size _ _), trivial, fun b z => absurd (show b ∈ ([] : List Addr) from z) (by simp), hok, .of_eq hg⟩
theorem law_callG (KX : K.In s.heap) (hns : s.heap.Ns mainGlobals mg) (hb : s.heap.Ns builtinsNs mb) (hbb : ∀ x : Str, x ≠ "__name__" → mb x = bootBuiltins x) (hlim : s.heap.NoLimit) (hg : s.gens = #[])
    (ha : s.heap.get? a = some { cls := .type "list", data := .seq vs.toArray }) (hi : IntsAre vs ns) (hl : ns.length ≤ sizeLine) (hr : Room k callerA)
    (F : ∀ base : Heap, K.In base → base.Ns mainGlobals mg → FnG P w K mg base k fa fd [x] sp) (hbind : ∀ (s : Shared) (u : Value), BindsTo s fd ⟨[u], []⟩ [(x, u)])
    (hsp : ∀ H : Hp, SqL K H a (ns.map V.int) → sp [.ref a] H (fun v _ => v = .bl true) fun _ _ _ => False) :
    codeAny (model P w) callerA (.call (.ref fa) ⟨[.ref a], []⟩) (fun r s' => r = .ok (.ret (.bool true)) ∧ OldK s.heap s'.heap ∧ s'.os = s.os ∧ AllBare s'.gens) s := by
  have rv := vals_ints hi
  have go : ∀ H : Hp, SqL K H a (ns.map V.int) → HOk P w H s.heap → (∀ b, b ≠ a → H b = none) → (H a = none ∨ K.lookup a = none) → (∀ o, H a = some o → ∃ ob u, o = .frz ob u) →
      codeAny (model P w) callerA (.call (.ref fa) ⟨[.ref a], []⟩) (fun r s' => r = .ok (.ret (.bool true)) ∧ OldK s.heap s'.heap ∧ s'.os = s.os ∧ AllBare s'.gens) s := by
    intro H hS hok one nk fz
    obtain ⟨k1, k2, e0⟩ := env_of KX hns hb hbb hlim hg ha hok one nk
    refine codeAny_mono ((F _ k1 k2).run callerA [] s H ⟨[.ref a], []⟩ [.ref a] [.ref a] _ _ rfl hr e0 (hbind s (.ref a)) (.cons rfl .nil) (hsp H hS)) fun r s' h => ?_
    cases r with
    | error _ => exact False.elim h
    | ok fl =>
      cases fl with
      | next => exact False.elim h
      | brk => exact False.elim h
      | cont => exact False.elim h
      | ret u =>
        obtain ⟨v, H', os, bare, un, hok', ru, ev⟩ := h
        subst ev
        obtain rfl : u = Value.bool true := ru
        refine ⟨rfl, OldK.of_keep fun b o e => ?_, os, bare⟩
        cases q : H b with
        | none => exact un.keep b o e q (fun z => absurd (show b ∈ ([] : List Addr) from z) (by simp)) (by simp)
        | some oo =>
          have zb : b = a := Classical.byContradiction fun z => by rw [one b z] at q; cases q
          subst zb
          obtain ⟨ob, u, rfl⟩ := fz oo q
          obtain ⟨e1, _⟩ := hok b _ q
          obtain ⟨e2, _⟩ := hok' b _ (un.frzs b ob u q)
          rw [e] at e1
          cases e1
          exact e2
  cases hk : K.lookup a with
  | some o =>
    have e := KX a o hk
    rw [ha] at e
    cases e
    exact go (fun _ => none) (.inr ⟨_, vs.toArray, _, hk, rfl, rfl, rfl, by rw [List.size_toArray, hi.length]; exact hl, by simpa using rv⟩) (fun b u z => nomatch z) (fun _ _ => rfl) (.inl rfl) (fun o z => nomatch z)
  | none =>
    let ob : Obj := { cls := .type "list", data := .seq vs.toArray }
    refine go (upd (fun _ => none) a (.frz ob (.lst (ns.map V.int)))) (.inl (.inr ⟨ob, upd_same⟩)) (fun b u z => ?_) (fun b z => upd_ne z) (.inr hk) (fun o z => ?_)
    · by_cases q : b = a
      · subst q
        rw [upd_same] at z
        cases z
        exact ⟨ha, by rw [List.length_map]; exact hl, vs, _, rv, ha⟩
      · rw [upd_ne q] at z
        cases z
    · rw [upd_same] at z
      cases z
      exact ⟨_, _, rfl⟩
end
theorem walk_G {l : PySem.W.OpenLaw} {n k : Nat} {q : Program} {loose : List Str} {XP : (Str → Option Value) → Heap → Prop} {YP : World → Heap → Prop} {d : DefRec} {K : Params → PySem.W.Frag} {sp : PySem.W.Frag → Sp} {x : Str}
    (hn : l.most = some n) (hn2 : n ≤ sizeLine) (hdf : d.params.defaults = []) (hr : Room k callerA) (hY : ∀ (w : World) (h : Heap), YP w h → (K w.params).In h)
    (F : ∀ (w : World) (mg : Str → Option Value) (fa : Addr) (h : Heap), (K w.params).In h → h.Ns mainGlobals mg → mg d.name = some (.ref fa) →
      ∃ fd : FuncData, (∀ (s : Shared) (u : Value), BindsTo s fd ⟨[u], []⟩ [(x, u)]) ∧ ∀ base : Heap, (K w.params).In base → base.Ns mainGlobals mg → FnG l.prog w (K w.params) mg base k fa fd [x] (sp (K w.params)))
    (hsp : ∀ (K : PySem.W.Frag) (H : Hp) (a : Addr) (ns : List Int), ns.length ≤ n → SqL K H a (ns.map V.int) → sp K [.ref a] H (fun v _ => v = .bl true) fun _ _ _ => False) :
    PySem.W.WalkO q loose XP YP l.row.toRowW d [] (fun f vs => PySem.call f vs) := by
  refine Att.attach_call hn hdf fun w _ s mg mb fa _ _ _ _ a vs ns G Y _ _ _ hmg hobj hints hlen hg => ?_
  obtain ⟨fd, hb, hF⟩ := F w mg fa _ (hY w _ Y) G.T.g hmg
  exact law_callG (hY w _ Y) G.T.g G.T.b G.T.builtins G.T.nolimit hg hobj hints (Nat.le_trans hlen hn2) hr hF hb fun H hS => hsp _ H a ns hlen hS
end Lc
set_option Elab.async false
set_option linter.all false
set_option maxRecDepth 100000
set_option maxHeartbeats 4000000
namespace Lc
open PySem PySem.Spec PyProof.Rows L2
/-! ## Kinds of values -/
inductive TyN (H : Hp) : V → String → Prop
  | non : TyN H .non "NoneType"
  | bl (b : Bool) : TyN H (.bl b) "bool"
  | int (i : Int) : TyN H (.int i) "int"
  | str (x : Str) : TyN H (.str x) "str"
  | tup {a : Addr} {xs : List V} (e : H a = some (.tup xs)) : TyN H (.ref a) "tuple"
  | lst {a : Addr} {xs : List V} (e : H a = some (.lst xs)) : TyN H (.ref a) "list"
  | dct {a : Addr} {kvs : List (Key × V)} (e : H a = some (.dK kvs)) : TyN H (.ref a) "dict"
theorem TyN.x {K : PySem.W.Frag} {H : Hp} {v : V} {t : String} (h : TyN H v t) : TyX K H v (.type t) := by
  cases h with
  | non => exact .base .non
  | bl b => exact .base (.bl b)
  | int i => exact .base (.int i)
  | str x => exact .base (.str x)
  | tup e => exact .base (.tup e)
  | lst e => exact .base (.lst e)
  | dct e => exact .base (.dK e)
theorem TyN.same {H H' : Hp} {v : V} {t : String} (h : TyN H v t) (s : Same H H') : TyN H' v t := by
  cases h with
  | non => exact .non
  | bl b => exact .bl b
  | int i => exact .int i
  | str x => exact .str x
  | tup e => exact .tup (s _ _ e)
  | lst e => exact .lst (s _ _ e)
  | dct e => exact .dct (s _ _ e)
theorem TyN.isInt {H : Hp} {v : V} {t : String} (h : TyN H v t) (e : t = "int") : ∃ i, v = .int i := by
  cases h <;> first | exact ⟨_, rfl⟩ | exact absurd e (by decide)
theorem TyN.isStr {H : Hp} {v : V} {t : String} (h : TyN H v t) (e : t = "str") : ∃ x, v = .str x := by
  cases h <;> first | exact ⟨_, rfl⟩ | exact absurd e (by decide)
theorem TyN.isTup {H : Hp} {v : V} {t : String} (h : TyN H v t) (e : t = "tuple") : ∃ a xs, v = .ref a ∧ H a = some (.tup xs) := by
  cases h <;> first | exact ⟨_, _, rfl, by assumption⟩ | exact absurd e (by decide)
def tyNames : List String := ["NoneType", "bool", "int", "str", "tuple", "list", "dict"]
theorem TyN.mem {H : Hp} {v : V} {t : String} (h : TyN H v t) : t ∈ tyNames := by
  cases h <;> simp [tyNames]
theorem kit_int {K : PySem.W.Frag} {t : String} (h : t ∈ tyNames) : PySem.W.kitOne K (.type t) (.type "int") = some (t == "int" || t == "bool") := by
  have : ∀ t ∈ tyNames, kitB t "int" = some (t == "int" || t == "bool") := by decide +kernel
  exact kit_ty (this t h)
theorem kit_bool {K : PySem.W.Frag} {t : String} (h : t ∈ tyNames) : PySem.W.kitOne K (.type t) (.type "bool") = some (t == "bool") := by
  have : ∀ t ∈ tyNames, kitB t "bool" = some (t == "bool") := by decide +kernel
  exact kit_ty (this t h)
theorem kit_tuple {K : PySem.W.Frag} {t : String} (h : t ∈ tyNames) : PySem.W.kitOne K (.type t) (.type "tuple") = some (t == "tuple") := by
  have : ∀ t ∈ tyNames, kitB t "tuple" = some (t == "tuple") := by decide +kernel
  exact kit_ty (this t h)
theorem kit_str {K : PySem.W.Frag} {t : String} (h : t ∈ tyNames) : PySem.W.kitOne K (.type t) (.type "str") = some (t == "str") := by
  have : ∀ t ∈ tyNames, kitB t "str" = some (t == "str") := by decide +kernel
  exact kit_ty (this t h)
/-! ## What is a rational -/
def ratB : V → V → Bool
  | .int n, .int d => decide (0 < d) && decide (gd n d = 1)
  | _, _ => false
inductive Rk (H : Hp) : V → Bool → Prop
  | other {v : V} {t : String} (h : TyN H v t) (n : t ≠ "tuple") : Rk H v false
  | len {a : Addr} {xs : List V} (e : H a = some (.tup xs)) (n : xs.length ≠ 2) : Rk H (.ref a) false
  | pair {a : Addr} {x y : V} {tx ty : String} (e : H a = some (.tup [x, y])) (hx : TyN H x tx) (hy : TyN H y ty) : Rk H (.ref a) (ratB x y)
theorem Rk.same {H H' : Hp} {v : V} {b : Bool} (h : Rk H v b) (s : Same H H') : Rk H' v b := by
  cases h with
  | other h n => exact .other (h.same s) n
  | len e n => exact .len (s _ _ e) n
  | pair e hx hy => exact .pair (s _ _ e) (hx.same s) (hy.same s)
theorem Rk.of {H : Hp} {a : Addr} {n d : Int} (e : H a = some (.tup [.int n, .int d])) (r : Rt n d) : Rk H (.ref a) true := by
  have z : ratB (.int n) (.int d) = true := by
    show (decide (0 < d) && decide (gd n d = 1)) = true
    rw [decide_eq_true r.pos, decide_eq_true r.cop]
    rfl
  rw [← z]
  exact .pair e (.int n) (.int d)
/-! ## repr -/
inductive Shw (K : PySem.W.Frag) (H : Hp) : V → Str → Prop
  | data {v : V} {d : PyData} (h : Dp K H v d) (h1 : d.showable = true) (h2 : d.hasDict = false) (h3 : d.depth ≤ 60) (h4 : d.shown.length ≤ sizeLine) : Shw K H v d.shown
  | empty {a : Addr} (e : H a = some (.dK [])) : Shw K H (.ref a) (PyData.dict []).shown
def rReprV (K : PySem.W.Frag) : List V → Hp → VK → Prop := fun xs H Q => ∃ (v : V) (z : Str), xs = [v] ∧ Shw K H v z ∧ Q (.str z) H
theorem call_reprV {X : Cx} (hg : X.A.guards = some []) (hu : X.A.units + 64 < cLine) : CallR X (.builtin "repr") (rReprV X.K) := by
  intro pins s σ H xs us Q I r h
  obtain ⟨v, z, rfl, hd, q⟩ := h
  obtain ⟨u, rfl, ru⟩ := vals1 r
  cases hd with
  | @data _ d hd h1 h2 h3 h4 =>
    obtain ⟨as, rd⟩ := Dp.reads I d _ _ hd ru
    cases hd with
    | non =>
      obtain rfl : u = Value.none := ru
      exact P.repr_of_none ⟨.str _, H, I.tok _, ⟨_, rfl⟩, q⟩
    | bl b =>
      obtain rfl : u = Value.bool b := ru
      exact P.repr_of_bool ⟨.str _, H, I.tok _, ⟨_, rfl⟩, q⟩
    | int i =>
      obtain ⟨t, rfl⟩ := (show ∃ t, u = Value.int i t from ru)
      exact P.repr_of_int (of_decide_eq_true (by simpa [PyData.showable] using h1)) ⟨.str _, H, I.tok _, ⟨_, rfl⟩, q⟩
    | str x =>
      obtain ⟨t, rfl⟩ := (show ∃ t, u = Value.str x t from ru)
      exact P.repr_of_str ⟨.str _, H, I.tok _, ⟨_, rfl⟩, q⟩ h4
    | @lst a xs ds e1 e2 =>
      obtain rfl : u = Value.ref a := ru
      exact repr_of_reads' rd h1 (PyData.noDict_hsm h2) hg (by omega) (fun _ _ e => e) (fun h' u tk hk => ⟨.str _, H, I.kept (t' := tk) hk, ⟨u, rfl⟩, q⟩) h4
    | @tup a xs ds e1 e2 =>
      obtain rfl : u = Value.ref a := ru
      exact repr_of_reads' rd h1 (PyData.noDict_hsm h2) hg (by omega) (fun _ _ e => e) (fun h' u tk hk => ⟨.str _, H, I.kept (t' := tk) hk, ⟨u, rfl⟩, q⟩) h4
  | @empty a e =>
    obtain rfl : u = Value.ref a := ru
    obtain ⟨_, ns, vs, kv, o, es, ep, h1, h2, h3, h4⟩ := (show ObjOk X.prog X.w H s.heap a (.dK []) from I.hok a _ e)
    cases kv
    have es0 : es.toList = [] := by
      obtain ⟨_, hp, _⟩ := h4
      generalize es.toList = l at hp
      cases hp
      rfl
    have rd : Reads s.heap (.ref a) (.dict []) (a :: [] ++ []) := Reads.dict h1 h2.1 h3 (by rw [es0]; exact .nil) (by rw [es0]; exact .nil)
    exact repr_of_reads' rd (by decide) (fun _ hm => by
      have : sysModules = a := by simpa using hm
      rw [this] at ns
      simp at ns) hg (by show X.A.units + (PyData.depth (.dict []) + 1) < cLine; have : PyData.depth (.dict []) ≤ 60 := by decide +kernel
                         omega) (fun _ _ e => e) (fun h' u tk hk => ⟨.str _, H, I.kept (t' := tk) hk, ⟨u, rfl⟩, q⟩) (by decide +kernel)
theorem dp_same {K : PySem.W.Frag} {H H' : Hp} (s : Same H H') : ∀ {v : V} {d : PyData}, Dp K H v d → Dp K H' v d := by
  have sq : ∀ {a xs}, SqT K H a xs → SqT K H' a xs := by
    intro a xs h
    rcases h with (h | ⟨o, h⟩) | h
    · exact .inl (.inl (s _ _ h))
    · exact .inl (.inr ⟨o, s _ _ h⟩)
    · exact .inr h
  intro v d h
  induction h using Dp.rec (motive_2 := fun vs ds _ => DpAll K H' vs ds) with
  | non => exact .non
  | bl b => exact .bl b
  | int i => exact .int i
  | str x => exact .str x
  | lst h1 _ ih => exact .lst (s.seq h1) ih
  | tup h1 _ ih => exact .tup (sq h1) ih
  | nil => exact .nil
  | cons _ _ i1 i2 => exact .cons i1 i2
theorem Shw.same {K : PySem.W.Frag} {H H' : Hp} (s : Same H H') {v : V} {z : Str} (h : Shw K H v z) : Shw K H' v z := by
  cases h with
  | data h h1 h2 h3 h4 => exact .data (dp_same s h) h1 h2 h3 h4
  | empty e => exact .empty (s _ _ e)
theorem Same.upd {H : Hp} {p : Addr} {o : HO} (h : H p = none) : Same H (upd H p o) := fun b u e => by rw [upd_ne (ne_of_none e h)]; exact e
end Lc
set_option Elab.async false
set_option linter.all false
set_option maxRecDepth 100000
set_option maxHeartbeats 4000000
namespace Lc
open PySem PySem.Spec PyProof.Rows L2
/-! ## The law's tape -/
def Tape (H : Hp) (t : Addr) : Prop := ∃ (l : Addr) (ns : List Int) (pos rest mix : Int), H t = some (.lst [.ref l, .int pos, .int rest, .int mix]) ∧ H l = some (.lst (ns.map V.int)) ∧ 0 ≤ pos ∧ 0 ≤ rest ∧ 0 ≤ mix ∧ mix < 2147483647
/-- all but what stands at t is as it was -/
def SameB (t : Addr) (H H' : Hp) : Prop := ∀ b o, b ≠ t → H b = some o → H' b = some o
theorem SameB.refl (t : Addr) (H : Hp) : SameB t H H := fun _ _ _ e => e
theorem SameB.trans {t : Addr} {H H1 H2 : Hp} (a : SameB t H H1) (b : SameB t H1 H2) : SameB t H H2 := fun c o n e => b c o n (a c o n e)
theorem Same.b {H H' : Hp} (t : Addr) (s : Same H H') : SameB t H H' := fun b o _ e => s b o e
theorem SameB.upd {t : Addr} {H : Hp} {o : HO} : SameB t H (upd H t o) := fun b u n e => by rw [upd_ne n]; exact e
theorem tape_ne {l t : Addr} {H : Hp} {ns : List Int} {vs : List V} (h1 : H t = some (.lst (.ref l :: vs))) (h2 : H l = some (.lst (ns.map V.int))) : l ≠ t := by
  refine ne_of h2 h1 fun z => ?_
  cases ns with
  | nil => injection z with z; cases z
  | cons n ns => injection z with z; injection z with z; cases z
theorem Tape.same {H H' : Hp} {t : Addr} (h : Tape H t) (s : Same H H') : Tape H' t := by
  obtain ⟨l, ns, pos, rest, mix, h1, h2, h3⟩ := h
  exact ⟨l, ns, pos, rest, mix, s _ _ h1, s _ _ h2, h3⟩
theorem cut_ints (ns : List Int) (lo hi : Option Int) : ∃ ms : List Int, cutV (ns.map V.int) lo hi = ms.map V.int := by
  unfold cutV
  rw [← List.map_drop, ← List.map_take]
  exact ⟨_, rfl⟩
def spTape (K : PySem.W.Frag) : Sp := fun vs H Q _ => ∃ (a : Addr) (ns : List Int), vs = [.ref a] ∧ SqL K H a (ns.map V.int) ∧ ∀ (t : Addr) (H' : Hp), Same H H' → H t = none → Tape H' t → Q (.ref t) H'
def spDraw : Sp := fun vs H Q _ => ∃ (t : Addr) (many : Int), vs = [.ref t, .int many] ∧ Tape H t ∧ 0 < many ∧ many.natAbs < 2 ^ 4000 ∧ ∀ (k : Int) (H' : Hp), 0 ≤ k → k < many → Tape H' t → SameB t H H' → Q (.int k) H'
def New2' (H : Hp) (Q : VK) (n d : Int) : Prop := ∀ p, H p = none → Q (.ref p) (upd H p (.tup [.int n, .int d]))
def spLowest : Sp := fun vs H Q _ => ∃ n d : Int, vs = [.int n, .int d] ∧ 0 < d ∧ d.natAbs < 2 ^ 4000 ∧ New2' H Q (lowN n d) (lowD n d)
def spRational : Sp := fun vs H Q _ => ∃ (t : Addr) (b : Bool), vs = [.ref t, .bl b] ∧ Tape H t ∧ ∀ (p : Addr) (n d : Int) (H' : Hp), Rt n d → n.natAbs < 2 ^ 140 → d.natAbs < 2 ^ 140 → H' p = some (.tup [.int n, .int d]) → H p = none → Tape H' t → SameB t H H' → Q (.ref p) H'
theorem log_lt' {n : Int} (h : n.natAbs < 2 ^ 4000) : n.natAbs.log2 < 9000 := by
  by_cases z : n.natAbs = 0
  · rw [z]
    decide
  · exact Nat.lt_of_lt_of_le ((Nat.log2_lt z).mpr h) (by decide)
end Lc
namespace Lc
open PySem PySem.Spec PyProof.Rows L2
theorem SameB.free {t p : Addr} {H H' : Hp} (s : SameB t H H') (h : Tape H' t) (e : H' p = none) : H p = none := by
  cases q : H p with
  | none => rfl
  | some o =>
    by_cases z : p = t
    · subst z
      obtain ⟨_, _, _, _, _, h1, _⟩ := h
      rw [h1] at e
      cases e
    · rw [s p o z q] at e
      cases e
theorem Tape.ne {t p : Addr} {H : Hp} (h : Tape H t) (e : H p = none) : p ≠ t := by
  intro z
  subst z
  obtain ⟨_, _, _, _, _, h1, _⟩ := h
  rw [h1] at e
  cases e
theorem Tape.neT {t p : Addr} {H : Hp} {xs : List V} (h : Tape H t) (e : H p = some (.tup xs)) : p ≠ t := by
  intro z
  subst z
  obtain ⟨_, _, _, _, _, h1, _⟩ := h
  rw [h1] at e
  cases e
theorem p18 : (10 : Int) ^ (18 : Int).toNat = 1000000000000000000 := by decide
theorem p40 : (10 : Int) ^ (40 : Int).toNat = 10000000000000000000000000000000000000000 := by decide
end Lc
namespace Lc
open PySem PySem.Spec PyProof.Rows L2
/-- the tape, its list at l -/
def TapeL (l : Addr) (H : Hp) (t : Addr) : Prop := ∃ (ns : List Int) (pos rest mix : Int), H t = some (.lst [.ref l, .int pos, .int rest, .int mix]) ∧ H l = some (.lst (ns.map V.int)) ∧ 0 ≤ pos ∧ 0 ≤ rest ∧ 0 ≤ mix ∧ mix < 2147483647
theorem TapeL.tape {l : Addr} {H : Hp} {t : Addr} (h : TapeL l H t) : Tape H t := ⟨l, h⟩
theorem TapeL.same {l : Addr} {H H' : Hp} {t : Addr} (h : TapeL l H t) (s : Same H H') : TapeL l H' t := by
  obtain ⟨ns, pos, rest, mix, h1, h2, h3⟩ := h
  exact ⟨ns, pos, rest, mix, s _ _ h1, s _ _ h2, h3⟩
theorem TapeL.list {l : Addr} {H : Hp} {t : Addr} (h : TapeL l H t) : ∃ xs, H l = some (.lst xs) := by
  obtain ⟨ns, pos, rest, mix, h1, h2, h3⟩ := h
  exact ⟨_, h2⟩
/-- another object is written -/
theorem TapeL.upd {l : Addr} {H : Hp} {t a : Addr} {o : HO} (h : TapeL l H t) (n1 : a ≠ t) (n2 : a ≠ l) : TapeL l (upd H a o) t := by
  obtain ⟨ns, pos, rest, mix, h1, h2, h3⟩ := h
  exact ⟨ns, pos, rest, mix, by rw [upd_ne (Ne.symm n1)]; exact h1, by rw [upd_ne (Ne.symm n2)]; exact h2, h3⟩
def spDrawL : Sp := fun vs H Q _ => ∃ (t l : Addr) (many : Int), vs = [.ref t, .int many] ∧ TapeL l H t ∧ 0 < many ∧ many.natAbs < 2 ^ 4000 ∧ ∀ (k : Int) (H' : Hp), 0 ≤ k → k < many → TapeL l H' t → SameB t H H' → Q (.int k) H'
theorem fn_weak {P : Program} {w : World} {K : PySem.W.Frag} {mg : Str → Option Value} {base : Heap} {CX : CXT} {k : Nat} {f : Addr} {fd : FuncData} {ps : List Str} {sp sp' : Sp} (h : ∀ vs H Q E, sp vs H Q E → sp' vs H Q E) (F : FnOk P w K mg base CX k f fd ps sp') : FnOk P w K mg base CX k f fd ps sp :=
  ⟨fun vs H Q E z => F.len vs H Q E (h vs H Q E z), fun A outer s H args us vs Q E a b c d z => F.run A outer s H args us vs Q E a b c d (h vs H Q E z)⟩
theorem draw_weak {vs : List V} {H : Hp} {Q : VK} {E : XK} (h : spDraw vs H Q E) : spDrawL vs H Q E := by
  obtain ⟨t, m, e, ⟨l, hT⟩, h1, h2, k⟩ := h
  exact ⟨t, l, m, e, hT, h1, h2, fun k1 H' a b c d => k k1 H' a b c.tape d⟩
end Lc
set_option Elab.async false
set_option linter.all false
set_option maxRecDepth 100000
set_option maxHeartbeats 4000000
namespace Lc
open PySem PySem.Spec PyProof.Rows L2
/-- names of built-ins that no text binds -/
structure Bt (mg : Str → Option Value) : Prop where
  isi : mg "isinstance" = none
  int : mg "int" = none
  bool : mg "bool" = none
  str : mg "str" = none
  tuple : mg "tuple" = none
  list : mg "list" = none
  dict : mg "dict" = none
  len : mg "len" = none
  abs : mg "abs" = none
  min : mg "min" = none
  all : mg "all" = none
  repr : mg "repr" = none
  range : mg "range" = none
  enum : mg "enumerate" = none
  ve : mg "ValueError" = none
  zd : mg "ZeroDivisionError" = none
  ie : mg "IndexError" = none
  oe : mg "OverflowError" = none
def btNames : List Str := ["isinstance", "int", "bool", "str", "tuple", "list", "dict", "len", "abs", "min", "all", "repr", "range", "enumerate", "ValueError", "ZeroDivisionError", "IndexError", "OverflowError"]
/-! ## x is True, x any value -/
def rIsBA : R2 := fun x y H Q => ∃ b : Bool, y = .bl b ∧ Q (.bl (decide (x = .bl b))) H
theorem op_isBA {X : Cx} : OpR X (compareOp .Is) rIsBA := by
  intro pins s σ H x y v u Q I rx ry h
  obtain ⟨b, rfl, q⟩ := h
  cases (show u = Value.bool b from ry)
  have key : plainIs v (.bool b) = true ∧ (v == Value.bool b) = decide (x = .bl b) := by
    cases x with
    | non => cases (show v = Value.none from rx); exact ⟨rfl, by cases b <;> rfl⟩
    | bl c => cases (show v = Value.bool c from rx); exact ⟨rfl, by cases b <;> cases c <;> rfl⟩
    | int i => obtain ⟨t, rfl⟩ := (show ∃ t, v = Value.int i t from rx); exact ⟨rfl, by cases b <;> rfl⟩
    | str i => obtain ⟨t, rfl⟩ := (show ∃ t, v = Value.str i t from rx); exact ⟨rfl, by cases b <;> rfl⟩
    | byt i => obtain ⟨t, rfl⟩ := (show ∃ t, v = Value.bytes i t from rx); exact ⟨rfl, by cases b <;> rfl⟩
    | flt i => obtain ⟨t, rfl⟩ := (show ∃ t, v = Value.float i t from rx); exact ⟨rfl, by cases b <;> rfl⟩
    | ref a => cases (show v = Value.ref a from rx); exact ⟨rfl, by cases b <;> rfl⟩
    | ty n => cases (show v = Value.type n from rx); exact ⟨rfl, by cases b <;> rfl⟩
  refine wpAny_is_plain key.1 ?_
  rw [key.2]
  exact ⟨.bl _, H, I, rfl, q⟩
/-! ## Texts of few signs -/
structure Sh (n : Nat) (x : Str) : Prop where
  len : x.cps.toList.length ≤ n
  ok : ∀ c ∈ x.cps.toList, c < 1114112
theorem Sh.mono {n m : Nat} {x : Str} (h : Sh n x) (l : n ≤ m) : Sh m x := ⟨Nat.le_trans h.len l, h.ok⟩
theorem Sh.line {n : Nat} {x : Str} (h : Sh n x) (l : n ≤ 1000) : x.length ≤ sizeLine := by
  have : x.length = x.cps.toList.length := by show x.cps.size = _; simp
  rw [this]
  exact Nat.le_trans h.len (Nat.le_trans l (by decide))
theorem sh_app {n m : Nat} {x y : Str} (h : Sh n x) (g : Sh m y) : Sh (n + m) (x ++ y) := by
  have e : (x ++ y).cps.toList = x.cps.toList ++ y.cps.toList := by
    show (x.cps ++ y.cps).toList = _
    simp
  refine ⟨?_, fun c hc => ?_⟩
  · rw [e, List.length_append]
    exact Nat.add_le_add h.len g.len
  · rw [e] at hc
    rcases List.mem_append.mp hc with hc | hc
    · exact h.ok c hc
    · exact g.ok c hc
theorem sh_one {c : Nat} (h : c < 1114112) : Sh 1 ⟨#[c]⟩ := ⟨Nat.le_refl _, fun d hd => by
  have : d = c := by simpa using hd
  rw [this]
  exact h⟩
theorem sh_sub {n : Nat} {x : Str} {l : List Nat} (h : Sh n x) (s : l.Sublist x.cps.toList) : Sh n ⟨l.toArray⟩ := by
  refine ⟨?_, fun c hc => ?_⟩
  · show l.toArray.toList.length ≤ n
    exact Nat.le_trans s.length_le h.len
  · exact h.ok c (s.subset (by simpa using hc))
theorem sh_cut {n : Nat} {x : Str} (lo hi : Option Int) (h : Sh n x) : Sh n (cutS x lo hi) := sh_sub h ((List.take_sublist _ _).trans (List.drop_sublist _ _))
theorem foldl_app : ∀ (l : List (Array Nat)) (a : Array Nat), (l.foldl (· ++ ·) a).toList = a.toList ++ (l.map Array.toList).flatten
  | [], a => by simp
  | b :: l, a => by
    show ((l.foldl (· ++ ·) (a ++ b))).toList = _
    rw [foldl_app l (a ++ b)]
    simp [List.append_assoc]
theorem sh_mul {x : Str} {n k : Nat} {i : Int} (h : Sh n x) (hi : i.toNat ≤ k) (hn : n ≤ 1) : Sh k (Txt.mul x i) := by
  unfold Txt.mul
  by_cases h1 : i < 1
  · rw [if_pos h1]
    exact ⟨Nat.zero_le _, fun c hc => by cases (by simpa [Str.empty] using hc : c ∈ ([] : List Nat))⟩
  · rw [if_neg h1]
    by_cases h2 : (i == 1 || x.length == 0) = true
    · rw [if_pos h2]
      exact h.mono (by omega)
    · rw [if_neg h2]
      have e : ((List.replicate i.toNat x.cps).foldl (· ++ ·) #[]).toList = (List.replicate i.toNat x.cps.toList).flatten := by
        rw [foldl_app]
        simp
      refine ⟨?_, fun c hc => ?_⟩
      · show ((List.replicate i.toNat x.cps).foldl (· ++ ·) #[]).toList.length ≤ k
        rw [e, List.length_flatten]
        have : ((List.replicate i.toNat x.cps.toList).map List.length).sum ≤ i.toNat * 1 := by
          have key : ∀ m : Nat, ((List.replicate m x.cps.toList).map List.length).sum ≤ m * 1 := by
            intro m
            induction m with
            | zero => simp
            | succ m ih =>
              rw [List.replicate_succ, List.map_cons, List.sum_cons]
              have := Nat.le_trans h.len hn
              omega
          exact key _
        omega
      · have hc : c ∈ ((List.replicate i.toNat x.cps).foldl (· ++ ·) #[]).toList := hc
        rw [e] at hc
        obtain ⟨l, hl, hcl⟩ := List.mem_flatten.mp hc
        rw [List.eq_of_mem_replicate hl] at hcl
        exact h.ok c hcl
theorem mul_ok {x : Str} {i : Int} (h : x.cps.size ≤ 1) (h2 : i < 1000) (h3 : -1000 < i) : MulOk x i := by
  have hx : x.length ≤ 1 := h
  refine ⟨by simp; omega, fun h1 _ => ?_, fun h1 _ => ?_⟩
  · have : (2 ^ 63 - 1 : Int) / i ≥ 1 := by
      have : (1 : Int) * i ≤ 2 ^ 63 - 1 := by omega
      exact (Int.le_ediv_iff_mul_le (by omega)).mpr this
    omega
  · unfold Builtin.Str.tooLong
    have : x.length * i.toNat ≤ 1000 := by
      have : x.length * i.toNat ≤ 1 * i.toNat := Nat.mul_le_mul_right _ hx
      omega
    have : ¬ (x.length * i.toNat > sizeLine) := by
      have : (1000 : Nat) ≤ sizeLine := by decide
      omega
    simpa using this
def rMulS : R2 := fun x y H Q => ∃ (z : Str) (i : Int), x = .str z ∧ y = .int i ∧ MulOk z i ∧ Q (.str (Txt.mul z i)) H
theorem op_mulS {X : Cx} : OpR X (binaryOp .Mult) rMulS := by
  intro pins s σ H x y v u Q I rx ry h
  obtain ⟨z, i, rfl, rfl, ok, q⟩ := h
  obtain ⟨t, rfl⟩ := (show ∃ t, v = Value.str z t from rx)
  obtain ⟨t2, rfl⟩ := (show ∃ t, u = Value.int i t from ry)
  exact SB.mul ok fun t' k => ⟨.str _, H, I.tok _, ⟨_, rfl⟩, q⟩
theorem glued_sh : ∀ (ys : List Str), (∀ y ∈ ys, Sh 1 y) → Sh ys.length (Str.join Str.empty ys)
  | [], _ => ⟨Nat.le_refl _, fun c hc => by cases (by simpa [Str.join, Str.empty] using hc : c ∈ ([] : List Nat))⟩
  | [x], h => h x List.mem_cons_self
  | x :: y :: r, h => by
    have ih := glued_sh (y :: r) fun z hz => h z (List.mem_cons_of_mem _ hz)
    have e : Str.join Str.empty (x :: y :: r) = x ++ Str.empty ++ Str.join Str.empty (y :: r) := rfl
    rw [e]
    have s0 : Sh 0 Str.empty := ⟨Nat.le_refl _, fun c hc => by cases (by simpa [Str.empty] using hc : c ∈ ([] : List Nat))⟩
    exact (sh_app (sh_app (h x List.mem_cons_self) s0) ih).mono (by simp; omega)
/-! ## repr of a short text, of a bounded number -/
theorem shw_text {K : PySem.W.Frag} {H : Hp} {n : Nat} {x : Str} (h : Sh n x) (l : n ≤ 1000) : Shw K H (.str x) (PyData.str x).shown := by
  refine .data (.str x) rfl rfl (by simp [PyData.depth]) ?_
  show (reprText x).length ≤ sizeLine
  have := StrLaws.reprText_len x (fun c hc => Nat.lt_trans (h.ok c hc) (by decide))
  have e : x.length = x.cps.toList.length := by show x.cps.size = _; simp
  have := h.len
  have : (10002 : Nat) ≤ sizeLine := by decide
  omega
theorem num_len {i : Int} (h : i.natAbs < 2 ^ 1000) : (PyData.int i).showable = true ∧ (PyData.int i).shown.length ≤ 1921 := by
  have l : i.natAbs.log2 < 1920 := by
    by_cases z : i.natAbs = 0
    · rw [z]
      decide
    · exact Nat.lt_of_lt_of_le ((Nat.log2_lt z).mpr h) (by decide)
  exact ⟨decide_eq_true l, int_text_len_1921 l⟩
end Lc
namespace Lc
open PySem PySem.Spec PyProof.Rows L2
/-! ## Names -/
def letters : Str := "abcdefghijklmnopqrstuvwxyz"
def signs : Str := "abcdefghijklmnopqrstuvwxyz0123456789"
def inS (c : Nat) : Bool := decide (c ∈ signs.cps.toList)
def inL (c : Nat) : Bool := decide (c ∈ letters.cps.toList)
def nameL : List Nat → Bool
  | [] => false
  | c :: r => decide ((c :: r).length ≤ 12) && (inL c && (c :: r).all inS)
def nameB : V → Bool
  | .str x => nameL x.cps.toList
  | _ => false
abbrev rInS : R2 := fun x y H Q => ∃ (c : Nat) (z : Str), x = .str ⟨#[c]⟩ ∧ y = .str z ∧ Q (.bl (decide (c ∈ z.cps.toList))) H
def spName : Sp := fun vs H Q _ => ∃ (v : V) (t : String), vs = [v] ∧ TyN H v t ∧ (∀ x, v = .str x → x.length ≤ sizeLine) ∧ ∀ H', Same H H' → Q (.bl (nameB v)) H'
def spLName : Sp := fun vs H Q _ => ∃ t : Addr, vs = [.ref t] ∧ Tape H t ∧ ∀ (x : Str) (H' : Hp), Sh 12 x → Tape H' t → SameB t H H' → Q (.str x) H'
theorem lenL (x : Str) : x.length = x.cps.toList.length := by show x.cps.size = _; simp
theorem nil_of {x : Str} (h : x.cps.toList = []) : x = ⟨#[]⟩ := by
  obtain ⟨⟨l⟩⟩ := x
  have : l = [] := h
  rw [this]
theorem dec_empty (x : Str) : decide (V.str x = V.str "") = decide (x.cps.toList = []) := by
  rw [Bool.eq_iff_iff, decide_eq_true_iff, decide_eq_true_iff]
  constructor
  · intro h
    injection h with h
    rw [h]
    rfl
  · intro h
    rw [nil_of h]
    rfl
theorem name_nil {x : Str} (h : x.cps.toList = []) : nameB (.str x) = false := by
  show nameL x.cps.toList = false
  rw [h]
  rfl
theorem name_long {x : Str} (h : ¬ x.cps.toList.length ≤ 12) : nameB (.str x) = false := by
  show nameL x.cps.toList = false
  cases e : x.cps.toList with
  | nil => rfl
  | cons c r =>
    rw [e] at h
    show (decide ((c :: r).length ≤ 12) && _) = false
    rw [decide_eq_false h]
    rfl
theorem name_is {x : Str} {c : Nat} {r : List Nat} (e : x.cps.toList = c :: r) (h : x.cps.toList.length ≤ 12) : nameB (.str x) = (inL c && (c :: r).all inS) := by
  show nameL x.cps.toList = _
  rw [e] at h ⊢
  show (decide ((c :: r).length ≤ 12) && _) = _
  rw [decide_eq_true h]
  rfl
/-- the list of a comprehension over a text's signs, as it grows -/
theorem grow {x : Str} {i : Nat} {c : Nat} (h : x.cps[i]? = some c) (p : Nat → Bool) : (x.cps.toList.take i).map (fun c => V.bl (p c)) ++ [V.bl (p c)] = (x.cps.toList.take (i + 1)).map fun c => V.bl (p c) := by
  have h2 : x.cps.toList[i]? = some c := by rw [Array.getElem?_toList]; exact h
  rw [List.take_succ, h2, List.map_append]
  rfl
end Lc
namespace Lc
open PySem PySem.Spec PyProof.Rows L2
theorem cut26 : cutS signs none (some 26) = letters := by decide +kernel
theorem signs_ok : ∀ c ∈ signs.cps.toList, c < 1114112 := by decide +kernel
theorem signs_len : signs.cps.toList.length = 36 := by decide +kernel
theorem at_text {l : List Nat} {i : Int} (h0 : 0 ≤ i) (h1 : i < (l.length : Int)) : ∃ c, atI l i = some c ∧ c ∈ l := by
  obtain ⟨n, rfl⟩ : ∃ n : Nat, i = (n : Int) := ⟨i.toNat, by omega⟩
  have h : n < l.length := by omega
  exact ⟨l[n], atI_nat (List.getElem?_eq_getElem h), List.getElem_mem h⟩
theorem big1000 {z : Int} (h1 : 0 ≤ z) (h2 : z ≤ 1000) : z.natAbs < 2 ^ 4000 := by
  have e : (2 : Nat) ^ 10 = 1024 := by decide
  exact Nat.lt_of_lt_of_le (show z.natAbs < 2 ^ 10 by omega) (Nat.pow_le_pow_right (by decide) (by decide))
theorem sh_a : Sh 1 (PySem.Str.ofString "a") := ⟨by decide +kernel, by decide +kernel⟩
theorem a_size : (PySem.Str.ofString "a").cps.size ≤ 1 := by decide +kernel
theorem sh_len {n : Nat} {x : Str} (h : Sh n x) : x.length ≤ n := by rw [lenL]; exact h.len
end Lc
namespace Lc
open PySem PySem.Spec PyProof.Rows L2
theorem join_sh (ys : List Str) (h : ∀ y ∈ ys, Sh 1 y) : Sh ys.length (Txt.join (PySem.Str.ofString "") ys) := by
  have e : Txt.join (PySem.Str.ofString "") ys = Str.join Str.empty ys := by
    exact (StrLaws.glued_eq_join (PySem.Str.ofString "") ys).trans rfl
  rw [e]
  exact glued_sh ys h
end Lc
set_option Elab.async false
set_option linter.all false
set_option maxRecDepth 100000
set_option maxHeartbeats 4000000
namespace Lc
open PySem PySem.Spec PyProof.Rows L2
/-! ## Flat values and what they are shown as -/
structure Fl (v : V) (d : PyData) (s : String) : Prop where
  dp : ∀ (K : PySem.W.Frag) (H : Hp), Dp K H v d
  ty : ∀ H : Hp, TyN H v s
  sh : d.showable = true
  nd : d.hasDict = false
  dz : d.depth = 0
  ln : d.shown.length ≤ 20000
theorem fl_non : Fl .non .none "NoneType" := ⟨fun _ _ => .non, fun _ => .non, rfl, rfl, rfl, by decide +kernel⟩
theorem fl_bl (b : Bool) : Fl (.bl b) (.bool b) "bool" := ⟨fun _ _ => .bl b, fun _ => .bl b, rfl, rfl, rfl, by cases b <;> decide +kernel⟩
theorem fl_int {i : Int} (h : i.natAbs < 2 ^ 1000) : Fl (.int i) (.int i) "int" := ⟨fun _ _ => .int i, fun _ => .int i, (num_len h).1, rfl, rfl, Nat.le_trans (num_len h).2 (by decide)⟩
theorem fl_str {x : Str} {n : Nat} (h : Sh n x) (l : n ≤ 1930) : Fl (.str x) (.str x) "str" := by
  refine ⟨fun _ _ => .str x, fun _ => .str x, rfl, rfl, rfl, ?_⟩
  show (reprText x).length ≤ 20000
  have := StrLaws.reprText_len x (fun c hc => Nat.lt_trans (h.ok c hc) (by decide))
  have e := lenL x
  have := h.len
  omega
theorem sh_string (s : String) : ∀ c ∈ (PySem.Str.ofString s).cps.toList, c < 1114112 := by
  intro c hc
  rw [Str.ofString_eq_toList] at hc
  have hc : c ∈ s.toList.map Char.toNat := by simpa using hc
  obtain ⟨ch, _, rfl⟩ := List.mem_map.mp hc
  have := ch.valid
  rcases this with h | ⟨_, h⟩
  · exact Nat.lt_trans h (by decide)
  · exact h
theorem sh_num {i : Int} (h : i.natAbs < 2 ^ 1000) : Sh 1921 (PySem.Str.ofString (toString i)) := ⟨by rw [← lenL]; exact (num_len h).2, sh_string _⟩
/-! ## Things: is it a number within the limit, how is it shown -/
def lim : Int := 10000000000000000000000000000000000000000
def limB : V → V → Bool
  | .int n, .int d => decide ((if n < 0 then -n else n) ≤ lim) && decide (d ≤ lim)
  | _, _ => false
def numB (x y : V) : Bool := ratB x y && limB x y
inductive Thing (H : Hp) : V → Bool → Prop
  | other {v : V} {t : String} (h : TyN H v t) (n : t ≠ "tuple") (l : ∀ x, v = .str x → x.length ≤ sizeLine) : Thing H v false
  | len {a : Addr} {xs : List V} (e : H a = some (.tup xs)) (n : xs.length ≠ 2) : Thing H (.ref a) false
  | pair {a : Addr} {x y : V} {tx ty : String} (e : H a = some (.tup [x, y])) (hx : TyN H x tx) (hy : TyN H y ty) : Thing H (.ref a) (numB x y)
theorem Thing.same {H H' : Hp} {v : V} {b : Bool} (h : Thing H v b) (s : Same H H') : Thing H' v b := by
  cases h with
  | other h n l => exact .other (h.same s) n l
  | len e n => exact .len (s _ _ e) n
  | pair e hx hy => exact .pair (s _ _ e) (hx.same s) (hy.same s)
theorem Thing.ty {H : Hp} {v : V} {b : Bool} (h : Thing H v b) : ∃ t, TyN H v t ∧ ∀ x, v = .str x → x.length ≤ sizeLine := by
  cases h with
  | other h n l => exact ⟨_, h, l⟩
  | len e n => exact ⟨_, .tup e, fun x z => nomatch z⟩
  | pair e hx hy => exact ⟨_, .tup e, fun x z => nomatch z⟩
/-- whatever is done to the tape at t -/
def Thg (K : PySem.W.Frag) (t : Addr) (H : Hp) (v : V) : Prop := ∃ (b : Bool) (z : Str), ∀ H', SameB t H H' → Thing H' v b ∧ Shw K H' v z
theorem thg_flat {K : PySem.W.Frag} {t : Addr} {H : Hp} {v : V} {d : PyData} {s : String} (h : Fl v d s) (n : s ≠ "tuple") (l : ∀ x, v = .str x → x.length ≤ sizeLine) : Thg K t H v :=
  ⟨false, d.shown, fun H' _ => ⟨.other (h.ty H') n l, .data (h.dp K H') h.sh h.nd (by rw [h.dz]; decide) (Nat.le_trans h.ln (by decide))⟩⟩
/-- the items of a display -/
inductive Fls : List V → List PyData → Prop
  | nil : Fls [] []
  | cons {v : V} {d : PyData} {s : String} {vs : List V} {ds : List PyData} (h : Fl v d s) (r : Fls vs ds) : Fls (v :: vs) (d :: ds)
theorem Fls.dps {K : PySem.W.Frag} {H : Hp} : ∀ {vs : List V} {ds : List PyData}, Fls vs ds → DpAll K H vs ds
  | _, _, .nil => .nil
  | _, _, .cons h r => .cons (h.dp K H) r.dps
theorem Fls.facts : ∀ {vs : List V} {ds : List PyData}, Fls vs ds → PyData.showableAll ds = true ∧ PyData.hasDictAll ds = false ∧ PyData.depthAll ds = 0 ∧ ((PyData.shownAll ds).map (·.length)).sum ≤ 20000 * ds.length ∧ (PyData.shownAll ds).length = ds.length ∧ ds.length = vs.length
  | _, _, .nil => ⟨rfl, rfl, rfl, by simp [PyData.shownAll], rfl, rfl⟩
  | _, _, .cons (d := d) (ds := ds) h r => by
    obtain ⟨h1, h2, h3, h4, h5, h6⟩ := r.facts
    refine ⟨?_, ?_, ?_, ?_, ?_, ?_⟩
    · simp [PyData.showableAll, h.sh, h1]
    · simp [PyData.hasDictAll, h.nd, h2]
    · simp [PyData.depthAll, h.dz, h3]
    · simp only [PyData.shownAll, List.map_cons, List.sum_cons, List.length_cons]
      have := h.ln
      omega
    · simp [PyData.shownAll, h5]
    · simp [h6]
theorem shw_tup {K : PySem.W.Frag} {H : Hp} {a : Addr} {vs : List V} {ds : List PyData} (e : H a = some (.tup vs)) (h : Fls vs ds) (l : vs.length ≤ 100) : Shw K H (.ref a) (PyData.tuple ds).shown := by
  obtain ⟨h1, h2, h3, h4, h5, h6⟩ := h.facts
  refine .data (.tup (SqT.of e) h.dps) (by simpa [PyData.showable] using h1) (by simpa [PyData.hasDict] using h2) (by simp [PyData.depth, h3]) ?_
  have := tupleText_len_le (PyData.shownAll ds)
  have s : (3000000 : Nat) ≤ sizeLine := by decide
  simp only [PyData.shown]
  omega
theorem shw_lst {K : PySem.W.Frag} {H : Hp} {a : Addr} {vs : List V} {ds : List PyData} (e : H a = some (.lst vs)) (h : Fls vs ds) (l : vs.length ≤ 100) : Shw K H (.ref a) (PyData.list ds).shown := by
  obtain ⟨h1, h2, h3, h4, h5, h6⟩ := h.facts
  refine .data (.lst (SqL.of e) h.dps) (by simpa [PyData.showable] using h1) (by simpa [PyData.hasDict] using h2) (by simp [PyData.depth, h3]) ?_
  have := listText_len_le (PyData.shownAll ds)
  have s : (3000000 : Nat) ≤ sizeLine := by decide
  simp only [PyData.shown]
  omega
theorem thg_tup {K : PySem.W.Frag} {t a : Addr} {H : Hp} {vs : List V} {ds : List PyData} (n : a ≠ t) (e : H a = some (.tup vs)) (h : Fls vs ds) (l : vs.length ≤ 100) : Thg K t H (.ref a) := by
  by_cases z : vs.length = 2
  · match vs, h, z with
    | [x, y], .cons h1 (.cons h2 .nil), _ => exact ⟨numB x y, _, fun H' s => ⟨.pair (s _ _ n e) (h1.ty H') (h2.ty H'), shw_tup (s _ _ n e) (.cons h1 (.cons h2 .nil)) (by show 2 ≤ 100; decide)⟩⟩
  · exact ⟨false, _, fun H' s => ⟨.len (s _ _ n e) z, shw_tup (s _ _ n e) h l⟩⟩
theorem thg_lst {K : PySem.W.Frag} {t a : Addr} {H : Hp} {vs : List V} {ds : List PyData} (n : a ≠ t) (e : H a = some (.lst vs)) (h : Fls vs ds) (l : vs.length ≤ 100) : Thg K t H (.ref a) :=
  ⟨false, _, fun H' s => ⟨.other (.lst (s _ _ n e)) (by decide) (fun x z => nomatch z), shw_lst (s _ _ n e) h l⟩⟩
theorem thg_dct {K : PySem.W.Frag} {t a : Addr} {H : Hp} (n : a ≠ t) (e : H a = some (.dK [])) : Thg K t H (.ref a) :=
  ⟨false, _, fun H' s => ⟨.other (.dct (s _ _ n e)) (by decide) (fun x z => nomatch z), .empty (s _ _ n e)⟩⟩
theorem Thg.sameB {K : PySem.W.Frag} {t : Addr} {H H' : Hp} {v : V} (h : Thg K t H v) (s : SameB t H H') : Thg K t H' v := by
  obtain ⟨b, z, k⟩ := h
  exact ⟨b, z, fun H2 s2 => k H2 (s.trans s2)⟩
theorem thg_str {K : PySem.W.Frag} {t : Addr} {H : Hp} {n : Nat} {x : Str} (h : Sh n x) (l : n ≤ 1930) : Thg K t H (.str x) :=
  thg_flat (fl_str h l) (by decide) fun y e => by
    injection e with e
    subst e
    rw [lenL]
    exact Nat.le_trans h.len (Nat.le_trans l (by decide))
end Lc
namespace Lc
open PySem PySem.Spec PyProof.Rows L2
theorem ratB_ints {x y : V} (h : ratB x y = true) : ∃ n d : Int, x = .int n ∧ y = .int d ∧ 0 < d ∧ gd n d = 1 := by
  cases x with
  | int n =>
    cases y with
    | int d =>
      have h' : (decide (0 < d) && decide (gd n d = 1)) = true := h
      obtain ⟨h1, h2⟩ := Bool.and_eq_true_iff.mp h'
      exact ⟨n, d, rfl, rfl, of_decide_eq_true h1, of_decide_eq_true h2⟩
    | _ => cases h
  | _ => cases y <;> cases h
end Lc
namespace Lc
open PySem PySem.Spec PyProof.Rows L2
/-! ## A word behind an expression: what follows is shown once -/
def tMid (te : TE) : TE := fun σ H Q => ∃ M : V → Hp → Prop, te σ H M ∧ ∀ v H', M v H' → Q v H'
theorem pe_mid {X : Cx} {e : Expr} {te : TE} (h : PE X e te) : PE X e (tMid te) := by
  refine ⟨fun pins s σ H Q I hq => ?_⟩
  obtain ⟨M, h1, h2⟩ := hq
  exact thn (h.run pins s σ H M I h1) fun u s1 ⟨v, H1, I1, r, q⟩ => ⟨v, H1, I1, r, h2 v H1 q⟩
end Lc
set_option Elab.async false
set_option linter.all false
set_option maxRecDepth 100000
set_option maxHeartbeats 4000000
namespace Lc
open PySem PySem.Spec PyProof.Rows L2
/-! ## enumerate(v), v whatever begins; for .., .. in enumerate(tuple) -/
def itB (h : Heap) (o : Obj) : Heap := (h.push o).push { cls := .type "enumerate", data := .fields #[.none, .bool false, .ref h.objs.size, rawInt 0, .none, .none] }
theorem meets_enum1 {v : Value} {o : Obj} {H : Heap → Prop} (B : Begins v o H) :
    Meets (Builtin.«enumerate.__new__» ⟨[.type "enumerate", v], []⟩) (fun _ R s => H s.heap ∧ R (.ok (.ret (.ref (s.heap.push o).objs.size))) { s with heap := itB s.heap o }) :=
  .of_wp fun prog w A R s h => by
    obtain ⟨hp, g, d, tk, os⟩ := s
    obtain ⟨h1, h⟩ := h
    have hsub := sub_enumerate
    have it1 : ∀ {A' : Around} {E : Value → Shared → Prop} {Q : Value → Shared → Prop}, Q (.ref hp.objs.size) ⟨hp.push o, g, d, tk, os⟩ → wpAny (model prog w) A' (pyIter v) Q E ⟨hp, g, d, tk, os⟩ := fun q => B.iter prog w _ _ ⟨hp, g, d, tk, os⟩ _ h1 q
    wp_walk using it1
    refine wpAny_stack_any fun st => wpAny_pure ?_
    split
    · rename_i c _ _ _ _ _
      cases (c == Value.type "enumerate") <;> (wp_walk using it1; exact ⟨_, rfl, h⟩)
    · wp_walk using it1
      exact ⟨_, rfl, h⟩
theorem call_enum1 {prog : Program} {w : World} {A : Around} {E : Value → Shared → Prop} {s : Shared} {v : Value} {o : Obj} {H : Heap → Prop} {Q : Value → Shared → Prop} (B : Begins v o H) (h1 : H s.heap)
    (h : IsEnum (itB s.heap o) (s.heap.objs.size + 1) s.heap.objs.size 0 .none → (itB s.heap o).get? s.heap.objs.size = some o → (∀ b u, s.heap.get? b = some u → (itB s.heap o).get? b = some u) → Q (.ref (s.heap.objs.size + 1)) { s with heap := itB s.heap o }) :
    wpAny (model prog w) A (call (.type "enumerate") [v]) Q E s := by
  have sz : (s.heap.push o).objs.size = s.heap.objs.size + 1 := Heap.size_push ..
  have en : IsEnum (itB s.heap o) (s.heap.objs.size + 1) s.heap.objs.size 0 .none := by
    have z := Heap.get?_push_size (s.heap.push o) (o := { cls := .type "enumerate", data := .fields #[.none, .bool false, .ref s.heap.objs.size, rawInt 0, .none, .none] }) rfl
    rw [sz] at z
    exact z
  refine callType_new F.called_enumerate (by decide) (F.typeCall_enumerate_1 _) (F.newCall_enumerate_1 _) (fun obj => F.args_object_init_2 obj _) F.entry_enumerate_new (meets_enum1 B) ⟨h1, ?_⟩
  show _ ∧ _
  rw [sz]
  exact ⟨⟨_, en, rfl⟩, h en (Heap.get?_push_of_some _ (Heap.get?_push_size _ B.free)) fun b u e => Heap.get?_push_of_some _ (Heap.get?_push_of_some _ e)⟩
/-- the tuple at a, each item in a new pair with its number -/
def IteT (K : PySem.W.Frag) (a : Addr) : It where
  go := fun i H => ∃ (xs : List V) (x : V), SqT K H a xs ∧ xs[i]? = some x
  yld := fun i H v H' => ∃ (q : Addr) (x : V), v = .ref q ∧ H q = none ∧ H' = upd H q (.tup [.int (i : Nat), x]) ∧ ∀ xs, SqT K H a xs → xs[i]? = some x
  stop := fun i H => ∃ xs : List V, SqT K H a xs ∧ xs.length = i
structure EnT (e it a : Addr) (i : Nat) (h : Heap) : Prop where
  en : ∃ old, IsEnum h e it ((i : Nat) : Int) old
  ti : h.IsTupleIter it a i
  n1 : e ≠ it
  n2 : a ≠ it
  n3 : a ≠ e
theorem turn_enT {P : Program} {w : World} {K : PySem.W.Frag} {elts : List Expr} {kk : Nat} {tpos : Pos} (a e it : Addr) : Turn P w K (.Tuple elts kk tpos) (IteT K a) [e, it] e (EnT e it a) where
  mem := List.mem_cons_self
  obj := fun i h st b hb => by
    rcases List.mem_cons.mp hb with rfl | hb
    · obtain ⟨old, he⟩ := st.en
      exact ⟨_, he, fun v q => nomatch q⟩
    · obtain rfl := List.mem_singleton.mp hb
      obtain ⟨o, ho, _, hd⟩ := st.ti
      exact ⟨o, ho, fun v q => by rw [hd] at q; cases q⟩
  keep := fun i h h' st k => by
    obtain ⟨old, he⟩ := st.en
    obtain ⟨o, ho, r⟩ := st.ti
    exact ⟨⟨old, k e List.mem_cons_self _ he⟩, ⟨o, k it (by simp) o ho, r⟩, st.n1, st.n2, st.n3⟩
  item := by
    intro X hP hw hK hc i pins s σ H E I hf st hg
    subst hP hw hK
    obtain ⟨xs, x, hq, hx⟩ := hg
    obtain ⟨its, rv, tp, _⟩ := I.tuple hq
    obtain ⟨u, hu, ru⟩ := rv.get hx
    obtain ⟨old, he⟩ := st.en
    have hu' : its.toArray[i]? = some u := by simpa using hu
    have li : i < its.toArray.size := (Array.getElem?_eq_some_iff.mp hu').1
    refine wpAny_pyNext_enum_itemD (Draws.tuple (A := X.A.in1) (I.ok.hd hc) it a st.n2 its.toArray) he ⟨st.ti, tp⟩ li st.n1 (by simp [st.n1, Ne.symm st.n3]) fun y h' tk hy ho hs hT hz hk => ?_
    obtain rfl : u = y := Option.some.inj (hu'.symm.trans hy)
    have le : e < s.heap.objs.size := Heap.lt_size he
    have lt : it < s.heap.objs.size := by obtain ⟨_, q, _⟩ := st.ti; exact Heap.lt_size q
    refine ⟨_, rfl, wpAny_letOwnedTupleGo_enum (s := { s with heap := h', toks := tk + 1 }) ho fun h2 he2 sb => ?_⟩
    have pair : h2.get? s.heap.objs.size = some { cls := .type "tuple", data := .seq #[.int i tk, u] } := (sb.2 _ (Nat.ne_of_gt le)).trans hT
    have I2 : Inv X pins σ (upd H s.heap.objs.size (.tup [.int (i : Nat), x])) { s with heap := h2, toks := tk + 1 } := by
      refine I.turnedNew (ch := [e, it]) (fun b ob hb q => ?_) hf (Nat.le_refl _) ⟨by show 2 ≤ sizeLine; decide, [.int i tk, u], .cons ⟨_, rfl⟩ (.cons ru .nil), ⟨_, pair, rfl, _, rfl⟩⟩
      have nb : b ≠ e ∧ b ≠ it := by simpa using hb
      exact (sb.2 b nb.1).trans (hk b ob nb.1 nb.2 q)
    refine ⟨.ref s.heap.objs.size, _, I2, rfl, ⟨_, x, rfl, I.hok.fresh (Nat.le_refl _), rfl, fun ys hy => by rw [I.tuple_inj hy hq]; exact hx⟩, ⟨⟨u, ?_⟩, ?_, st.n1, st.n2, st.n3⟩, fun b hb => ?_⟩
    · rw [show ((i + 1 : Nat) : Int) = (i : Int) + 1 by omega]
      exact he2
    · obtain ⟨o, q, r⟩ := hs.1
      exact ⟨o, (sb.2 it (Ne.symm st.n1)).trans q, r⟩
    · have lb : b < s.heap.objs.size := by
        rcases List.mem_cons.mp hb with rfl | hb
        · exact le
        · rw [List.mem_singleton.mp hb]; exact lt
      rw [upd_ne (Nat.ne_of_lt lb)]
      exact (hf b hb).1
  done := by
    intro X hP hw hK hc i pins s σ H E I hf st hg
    subst hP hw hK
    obtain ⟨xs, hq, hx⟩ := hg
    obtain ⟨its, rv, tp, _⟩ := I.tuple hq
    obtain ⟨old, he⟩ := st.en
    have hl : i = its.toArray.size := by rw [List.size_toArray, ← rv.length]; exact hx.symm
    obtain ⟨f0, f1, _, f3, f4, f5⟩ := hf it (by simp)
    subst hl
    exact wpAny_pyNext_enum_endD (Draws.tuple (A := X.A.in1) (I.ok.hd hc) it a st.n2 its.toArray) he ⟨st.ti, tp⟩ fun h' eb => ⟨rfl, I.turned (t' := s.toks) (fun b o hb q => eb b o hb q) f0 f1 f3 f4 f5⟩
  self := fun A i s Q E st h => by
    obtain ⟨old, he⟩ := st.en
    exact wpAny_pyIter_enum he h
def iEnT (K : PySem.W.Frag) (ta : TA) : TI := fun σ H R => ta σ H fun vs H1 => ∃ a xs, vs = [.ref a] ∧ SqT K H1 a xs ∧ R (IteT K a) H1
theorem pi_enT {X : Cx} {e : Expr} {ta : TA} {p pos tpos : Pos} {elts : List Expr} {kk : Nat} (hg : Gl X "enumerate") (hm : X.mg "enumerate" = none) (ha : PA X [e] ta) (hs : starEach [e] X.env = [(false, eval e X.env)] := by rfl) :
    PI X (.Tuple elts kk tpos) (.Call (.Name "enumerate" p) [e] [] pos) (iEnT X.K ta) := by
  refine ⟨fun pins s σ H R I h => Call_ (ld_blt I hg hm boot_enumerate (PyProof.Rows.callWith_type1 (thn (ha.run pos pins s σ H _ I h) fun us s1 ⟨vs, H1, I1, r1, q1⟩ => ?_) hs rfl))⟩
  obtain ⟨a, xs, rfl, hq, q⟩ := q1
  obtain ⟨u, rfl, ru⟩ := vals1 r1
  cases ru
  obtain ⟨its, rv, tp, _⟩ := I1.tuple hq
  have la : a < s1.heap.objs.size := by obtain ⟨_, z, _⟩ := tp; exact Heap.lt_size z
  refine call_enum1 (begins_tuple a its.toArray) tp fun en ito kp => wpAny_pyIter_enum en ?_
  refine ⟨_, [s1.heap.objs.size + 1, s1.heap.objs.size], _, _, H1, rfl, I1.kept (t' := s1.toks) kp, turn_enT a (s1.heap.objs.size + 1) s1.heap.objs.size, ⟨⟨.none, en⟩, ⟨_, ito, rfl, rfl⟩, Nat.succ_ne_self _, Nat.ne_of_lt la, Nat.ne_of_lt (Nat.lt_succ_of_lt la)⟩, fun b hb => ?_, q⟩
  have le : s1.heap.objs.size ≤ b := by
    rcases List.mem_cons.mp hb with rfl | hb
    · exact Nat.le_add_right _ _
    · rw [List.mem_singleton.mp hb]; exact Nat.le_refl _
  exact I1.fpOk le (I1.hok.fresh le)
theorem walk_enT {K : PySem.W.Frag} {a : Addr} {xs : List V} : Walk (IteT K a) xs.length (fun H => SqT K H a xs) (YPair (fun i => some (.int (i : Nat))) (fun i => xs[i]?)) := by
  refine ⟨fun i _ hi q => ⟨xs, xs[i], q, by simp [hi]⟩, fun _ q => ⟨xs, q, rfl⟩, fun i H v H' _ q y => ?_⟩
  obtain ⟨c, x, h1, h2, h3, h4⟩ := y
  exact ⟨c, .int (i : Nat), x, h1, h2, h3, rfl, h4 xs q⟩
end Lc
set_option Elab.async false
set_option linter.all false
set_option maxRecDepth 100000
set_option maxHeartbeats 4000000
namespace Lc
open PySem PySem.Spec PyProof.Rows L2
/-! ## Deep data that stands in the abstract heap -/
mutual
inductive Dh (H : Hp) : V → PyData → Prop
  | non : Dh H .non .none
  | bl (b : Bool) : Dh H (.bl b) (.bool b)
  | int (i : Int) : Dh H (.int i) (.int i)
  | str (x : Str) : Dh H (.str x) (.str x)
  | tup {a : Addr} {xs : List V} {ds : List PyData} (e : H a = some (.tup xs)) (h : DhAll H xs ds) : Dh H (.ref a) (.tuple ds)
  | lst {a : Addr} {xs : List V} {ds : List PyData} (e : H a = some (.lst xs)) (h : DhAll H xs ds) : Dh H (.ref a) (.list ds)
  | dct {a : Addr} (e : H a = some (.dK [])) : Dh H (.ref a) (.dict [])
inductive DhAll (H : Hp) : List V → List PyData → Prop
  | nil : DhAll H [] []
  | cons {v : V} {vs : List V} {d : PyData} {ds : List PyData} (h : Dh H v d) (r : DhAll H vs ds) : DhAll H (v :: vs) (d :: ds)
end
mutual
theorem Dh.same {H H' : Hp} (s : Same H H') : ∀ {v : V} {d : PyData}, Dh H v d → Dh H' v d
  | _, _, .non => .non
  | _, _, .bl b => .bl b
  | _, _, .int i => .int i
  | _, _, .str x => .str x
  | _, _, .tup e h => .tup (s _ _ e) (DhAll.same s h)
  | _, _, .lst e h => .lst (s _ _ e) (DhAll.same s h)
  | _, _, .dct e => .dct (s _ _ e)
theorem DhAll.same {H H' : Hp} (s : Same H H') : ∀ {vs : List V} {ds : List PyData}, DhAll H vs ds → DhAll H' vs ds
  | _, _, .nil => .nil
  | _, _, .cons h r => .cons (Dh.same s h) (DhAll.same s r)
end
def tyD : PyData → String
  | .none => "NoneType"
  | .bool _ => "bool"
  | .int _ => "int"
  | .str _ => "str"
  | .tuple _ => "tuple"
  | .list _ => "list"
  | .dict _ => "dict"
theorem Dh.ty {H : Hp} {v : V} {d : PyData} (h : Dh H v d) : TyN H v (tyD d) := by
  cases h with
  | non => exact .non
  | bl b => exact .bl b
  | int i => exact .int i
  | str x => exact .str x
  | tup e _ => exact .tup e
  | lst e _ => exact .lst e
  | dct e => exact .dct e
theorem DhAll.len {H : Hp} {vs : List V} {ds : List PyData} (h : DhAll H vs ds) : vs.length = ds.length := by
  match h with
  | .nil => rfl
  | .cons _ r => rw [List.length_cons, List.length_cons, DhAll.len r]
theorem DhAll.get {H : Hp} : ∀ {vs : List V} {ds : List PyData}, DhAll H vs ds → ∀ (i : Nat) (v : V), vs[i]? = some v → ∃ d, ds[i]? = some d ∧ Dh H v d
  | _, _, .nil, i, v, e => by simp at e
  | _, _, .cons h r, 0, v, e => by
    obtain rfl := Option.some.inj e
    exact ⟨_, rfl, h⟩
  | _, _, .cons h r, i + 1, v, e => by
    obtain ⟨d, e1, e2⟩ := DhAll.get r i v (by simpa using e)
    exact ⟨d, by simpa using e1, e2⟩
theorem DhAll.append {H : Hp} : ∀ {vs : List V} {ds : List PyData} {us : List V} {es : List PyData}, DhAll H vs ds → DhAll H us es → DhAll H (vs ++ us) (ds ++ es)
  | _, _, _, _, .nil, r => r
  | _, _, _, _, .cons h t, r => .cons h (DhAll.append t r)
mutual
theorem Dh.dp {K : PySem.W.Frag} {H : Hp} : ∀ {v : V} {d : PyData}, Dh H v d → d.hasDict = false → Dp K H v d
  | _, _, .non, _ => .non
  | _, _, .bl b, _ => .bl b
  | _, _, .int i, _ => .int i
  | _, _, .str x, _ => .str x
  | _, _, .tup e h, n => .tup (SqT.of e) (DhAll.dp h (by simpa [PyData.hasDict] using n))
  | _, _, .lst e h, n => .lst (SqL.of e) (DhAll.dp h (by simpa [PyData.hasDict] using n))
  | _, _, .dct e, n => by simp [PyData.hasDict] at n
theorem DhAll.dp {K : PySem.W.Frag} {H : Hp} : ∀ {vs : List V} {ds : List PyData}, DhAll H vs ds → PyData.hasDictAll ds = false → DpAll K H vs ds
  | _, _, .nil, _ => .nil
  | _, _, .cons h r, n => by
    rw [PyData.hasDictAll, Bool.or_eq_false_iff] at n
    exact .cons (Dh.dp h n.1) (DhAll.dp r n.2)
end
theorem Dh.shw {K : PySem.W.Frag} {H : Hp} {v : V} {d : PyData} (h : Dh H v d) (h1 : d.showable = true) (h2 : d.hasDict = false) (h3 : d.depth ≤ 60) (h4 : d.shown.length ≤ sizeLine) : Shw K H v d.shown := .data (h.dp h2) h1 h2 h3 h4
/-! ## How large it is when it is shown -/
structure Tm (k n : Nat) (d : PyData) : Prop where
  sh : d.showable = true
  nd : d.hasDict = false
  dz : d.depth ≤ k
  ln : d.shown.length ≤ n
theorem Tm.mono {k n k' n' : Nat} {d : PyData} (h : Tm k n d) (a : k ≤ k') (b : n ≤ n') : Tm k' n' d := ⟨h.sh, h.nd, Nat.le_trans h.dz a, Nat.le_trans h.ln b⟩
theorem tm_fl {v : V} {d : PyData} {s : String} (h : Fl v d s) : Tm 0 20000 d := ⟨h.sh, h.nd, Nat.le_of_eq h.dz, h.ln⟩
theorem tm_all {k n : Nat} : ∀ {ds : List PyData}, (∀ d ∈ ds, Tm k n d) → PyData.showableAll ds = true ∧ PyData.hasDictAll ds = false ∧ PyData.depthAll ds ≤ k ∧ ((PyData.shownAll ds).map (·.length)).sum ≤ n * ds.length ∧ (PyData.shownAll ds).length = ds.length
  | [], _ => ⟨rfl, rfl, Nat.zero_le _, by simp [PyData.shownAll], rfl⟩
  | d :: ds, h => by
    obtain ⟨h1, h2, h3, h4, h5⟩ := tm_all (ds := ds) fun x hx => h x (List.mem_cons_of_mem _ hx)
    have hd := h d List.mem_cons_self
    refine ⟨?_, ?_, ?_, ?_, ?_⟩
    · simp [PyData.showableAll, hd.sh, h1]
    · simp [PyData.hasDictAll, hd.nd, h2]
    · simp only [PyData.depthAll]
      have := hd.dz
      omega
    · simp only [PyData.shownAll, List.map_cons, List.sum_cons, List.length_cons]
      have := hd.ln
      rw [Nat.mul_succ]
      omega
    · simp [PyData.shownAll, h5]
theorem tm_tup {k n : Nat} {ds : List PyData} (h : ∀ d ∈ ds, Tm k n d) : Tm (k + 1) (n * ds.length + 2 * ds.length + 4) (.tuple ds) := by
  obtain ⟨h1, h2, h3, h4, h5⟩ := tm_all h
  refine ⟨by simpa [PyData.showable] using h1, by simpa [PyData.hasDict] using h2, ?_, ?_⟩
  · simp only [PyData.depth]
    omega
  · have := tupleText_len_le (PyData.shownAll ds)
    simp only [PyData.shown]
    omega
theorem tm_lst {k n : Nat} {ds : List PyData} (h : ∀ d ∈ ds, Tm k n d) : Tm (k + 1) (n * ds.length + 2 * ds.length + 4) (.list ds) := by
  obtain ⟨h1, h2, h3, h4, h5⟩ := tm_all h
  refine ⟨by simpa [PyData.showable] using h1, by simpa [PyData.hasDict] using h2, ?_, ?_⟩
  · simp only [PyData.depth]
    omega
  · have := listText_len_le (PyData.shownAll ds)
    simp only [PyData.shown]
    omega
theorem Dh.shwT {K : PySem.W.Frag} {H : Hp} {v : V} {d : PyData} {k n : Nat} (h : Dh H v d) (t : Tm k n d) (a : k ≤ 60) (b : n ≤ 3000000) : Shw K H v d.shown := h.shw t.sh t.nd (Nat.le_trans t.dz a) (Nat.le_trans t.ln (Nat.le_trans b (by decide)))
end Lc
set_option Elab.async false
set_option linter.all false
set_option maxRecDepth 100000
set_option maxHeartbeats 4000000
namespace Lc
open PySem PySem.Spec PyProof.Rows L2
/-! ## (x, y) * 0, (x, y) * 1 -/
theorem tuple_mul1 (l : Addr) (items : Array Value) (n : Nat) (dd : Option Addr) (sl : Array (Option Value)) (u : Tok) :
    Meets (Builtin.«tuple.__mul__» ⟨[.ref l, .int 1 u], []⟩) (fun _ R s => s.heap.get? l = some { cls := .type "tuple", dict := dd, data := .seq items n, slots := sl } ∧ R (.ok (.ret (Value.ref l))) s) :=
  .of_wp fun prog w A R s h => by
    obtain ⟨hp, g, d, tk, os⟩ := s
    obtain ⟨hl, h⟩ := h
    have f1 := AutoSeq1.idx_int
    have c0 : (decide ((1 : Int) < -(2 ^ 63)) || decide ((1 : Int) ≥ 2 ^ 63)) = false := by decide
    have c1 : (items.isEmpty || (1 : Int) == 1) = true := by simp
    wp_walk using wpAny_loadPart' hl
    repeat (first
      | (refine wpAny_ite_false (decide_eq_false (by rw [c0]; exact Bool.false_ne_true)) ?_; wp_walk using wpAny_loadPart' hl)
      | (refine wpAny_ite_true (decide_eq_true c1) ?_; wp_walk using wpAny_loadPart' hl))
    exact ⟨_, rfl, h⟩
theorem tuple_mul0 (l : Addr) (items : Array Value) (n : Nat) (dd : Option Addr) (sl : Array (Option Value)) (u : Tok) (hne : items.isEmpty = false) :
    Meets (Builtin.«tuple.__mul__» ⟨[.ref l, .int 0 u], []⟩) (fun _ R s => s.heap.get? l = some { cls := .type "tuple", dict := dd, data := .seq items n, slots := sl } ∧
      R (.ok (.ret (Value.ref s.heap.objs.size))) { s with heap := s.heap.push { cls := Value.type "tuple", data := Data.seq #[] } }) :=
  .of_wp fun prog w A R s h => by
    obtain ⟨hp, g, d, tk, os⟩ := s
    obtain ⟨hl, h⟩ := h
    have f1 := AutoSeq1.idx_int
    have c0 : (decide ((0 : Int) < -(2 ^ 63)) || decide ((0 : Int) ≥ 2 ^ 63)) = false := by decide
    have c1 : (items.isEmpty || (0 : Int) == 1) = false := by rw [hne]; rfl
    have c2 : (decide ((0 : Int) ≤ 0) || items.isEmpty) = true := by simp
    wp_walk using wpAny_loadPart' hl
    repeat (first
      | (refine wpAny_ite_false (decide_eq_false (by rw [c0]; exact Bool.false_ne_true)) ?_; wp_walk using wpAny_loadPart' hl)
      | (refine wpAny_ite_false (decide_eq_false (by rw [c1]; exact Bool.false_ne_true)) ?_; wp_walk using wpAny_loadPart' hl)
      | (refine wpAny_ite_true (decide_eq_true c2) ?_; wp_walk using wpAny_loadPart' hl))
    exact ⟨_, rfl, h⟩
def rRep01 (K : PySem.W.Frag) : R2 := fun x y H Q => ∃ l k xs, x = .ref l ∧ y = .int k ∧ SqT K H l xs ∧ xs ≠ [] ∧ ((k = 1 ∧ Q (.ref l) H) ∨ (k = 0 ∧ ∀ p, H p = none → Q (.ref p) (upd H p (.tup []))))
section
variable {X : Cx}
theorem op_rep01 : OpR X (binaryOp .Mult) (rRep01 X.K) := by
  intro pins s σ H x y v u Q I rx ry h
  obtain ⟨l, k, xs, rfl, rfl, hT, hne, h⟩ := h
  cases rx
  obtain ⟨t, rfl⟩ := ry
  obtain ⟨its, r, ⟨⟨cls, dd, data, sl⟩, ho, hc, n, hd⟩, hs⟩ := I.tuple hT
  simp only at hc hd
  subst hc hd
  have hle : its.length = xs.length := r.length.symm
  have hn : its ≠ [] := fun e => hne (by
    rw [e] at hle
    exact List.eq_nil_of_length_eq_zero hle.symm)
  have hi : its.toArray.isEmpty = false := by
    cases its with
    | nil => exact absurd rfl hn
    | cons a b => rfl
  rcases h with ⟨rfl, q⟩ | ⟨rfl, q⟩
  · exact wpAny_binaryOp_repeat_ref (T := "tuple") (U := "int") (by decide) ⟨_, ho, rfl⟩ (fun s' => typeIs_int s' 1 t) noFill_tuple_mul F.fills_int_mul F.slot_int_rmul repeat_tuple F.slot_int_index.lookup
      (call_meets F.slot_int_rmul (typeIs_int s 1 t) F.entry_int_rmul (F.args_int_rmul_2 _ _) (int_rmul_tuple 1 t l its.toArray n dd sl)
        ⟨ho, rfl, ⟨_, ho, rfl⟩, call_meets F.slot_tuple_mul ⟨_, ho, rfl⟩ F.entry_tuple_mul (F.args_tuple_mul_2 _ _) (tuple_mul1 l its.toArray n dd sl t) ⟨ho, .ref l, H, I, rfl, q⟩⟩)
  · refine wpAny_binaryOp_repeat_ref (T := "tuple") (U := "int") (by decide) ⟨_, ho, rfl⟩ (fun s' => typeIs_int s' 0 t) noFill_tuple_mul F.fills_int_mul F.slot_int_rmul repeat_tuple F.slot_int_index.lookup
      (call_meets F.slot_int_rmul (typeIs_int s 0 t) F.entry_int_rmul (F.args_int_rmul_2 _ _) (int_rmul_tuple 0 t l its.toArray n dd sl)
        ⟨ho, rfl, ⟨_, ho, rfl⟩, call_meets F.slot_tuple_mul ⟨_, ho, rfl⟩ F.entry_tuple_mul (F.args_tuple_mul_2 _ _) (tuple_mul0 l its.toArray n dd sl t hi) ⟨ho, ?_⟩⟩)
    refine ⟨.ref s.heap.objs.size, _, I.laid (t' := s.toks) (o := .tup []) (fun b ob q => Heap.get?_push_of_some _ q) (Nat.le_refl _) ?_, rfl, q _ (I.hok.fresh (Nat.le_refl _))⟩
    exact ⟨Nat.zero_le _, [], .nil, IsTup.new _ _⟩
/-! ## What is never reached -/
theorem pss_dead {b : List Stmt} : PSs X b (fun _ _ _ => False) := ⟨fun _ _ _ _ _ _ h => h.elim⟩
theorem pg_dead {e : Expr} : PG X e (fun _ _ _ _ => False) := ⟨fun _ _ _ _ _ _ _ _ _ h => h.elim⟩
/-! ## C(e, ..) in a try -/
def tMakeS (C : Addr) (sp : Sp) (E : L2.St → XK) (t : TA) : TE := fun σ H Q => t σ H fun vs H1 => ∀ x dx, H1 x = none → H1 dx = none → dx ≠ x →
  sp (.ref x :: vs) (upd (upd H1 dx (.own x)) x (.ins C dx [])) (fun v H2 => v = .non ∧ Q (.ref x) H2) (E σ)
theorem pe_makeS {CX : CXT} {k : Nat} {C f : Addr} {fd : FuncData} {ps : List Str} {sp : Sp} {E : L2.St → XK} {x : Str} {p pos : Pos} {e : Expr} {es : List Expr} {t : TA}
    (M : Mk X.K C f) (F : FnOk X.prog X.w X.K X.mg X.base CX k f fd ps sp) (hr : Room (k + 1) X.A) (hg : Gl X x) (hm : X.mg x = some (.ref C)) (hb : Binds X.K fd ps []) (hx : ∀ σ, PassesAt CX X σ (E σ))
    (ha : PA X (e :: es) t) (hdb : (x == ("__debug__" : Str)) = false := by decide) (he : starEach (e :: es) X.env = (false, eval e X.env) :: starEach es X.env := by rfl) (hpl : (backTo pos (starEach es X.env)).any (·.1) = false := by rfl) :
    PE X (.Call (.Name x p) (e :: es) [] pos) (tMakeS C sp E t) := by
  refine ⟨fun pins s0 σ H0 Q I0 h0 => ?_⟩
  refine wpAny_Call_Name_kw (ld_glob I0 hg hm ?_ hdb)
  refine PySem.W.callWith_K (h₀ := X.base) I0.ok.mod.kin M.kp (thn (ha.run pos pins s0 σ H0 _ I0 h0) fun us s ⟨vs, H, I, r, h⟩ => ⟨I.kIn, ?_⟩) he hpl
  have hq := h (s.heap.objs.size + 1) s.heap.objs.size (I.hok.fresh (Nat.le_succ _)) (I.hok.fresh (Nat.le_refl _)) (Nat.ne_of_lt (Nat.lt_succ_self _))
  have I2 := Inv.made (C := C) I
  have r2 : Vals (V.ref (s.heap.objs.size + 1) :: vs) (Value.ref (s.heap.objs.size + 1) :: us) := .cons rfl r
  have hl : (Value.ref (s.heap.objs.size + 1) :: us).length = ps.length := by
    have e := r2.length
    rw [F.len _ _ _ _ hq] at e
    exact e.symm
  refine wpAny_call (make_map (f := f) I.kIn M.makes M.init (beq_iff_eq.mp M.fn) (codeAny_mono (F.run _ X.stack _ _ ⟨Value.ref (s.heap.objs.size + 1) :: us, []⟩ (Value.ref (s.heap.objs.size + 1) :: us) _ _ (E σ) (hr.make C us [])
    (I2.env0.make C us []) (by
      have z := hb _ (Value.ref (s.heap.objs.size + 1) :: us) I2.kIn (by rw [List.append_nil]; exact hl)
      rw [List.append_nil] at z
      exact z) r2 hq) fun r s' hq' => ?_))
  cases r with
  | error e => exact hx σ pins _ _ e s' I2 hq'
  | ok fl =>
    cases fl with
    | ret u =>
      obtain ⟨v, H', I3, rv, ev, q3⟩ := I2.after hq'
      subst ev
      exact ⟨rv, ⟨V.ref (s.heap.objs.size + 1), H', I3, rfl, q3⟩⟩
    | next => exact False.elim hq'
    | brk => exact False.elim hq'
    | cont => exact False.elim hq'
/-! ## len(o), o of an own class -/
structure LenC (K : PySem.W.Frag) (C f : Addr) : Prop where
  at_ : PySem.W.findIn K (.ref C) "__len__" = some (some (.ref f))
  fn : PySem.W.isFn K (.ref f) = true
def rLenI (C : Addr) (sp : Sp) : List V → Hp → VK → Prop := fun xs H Q => ∃ a dx fs, xs = [.ref a] ∧ H a = some (.ins C dx fs) ∧ sp [.ref a] H (fun v H' => ∃ n : Int, v = .int n ∧ 0 ≤ n ∧ n < 2 ^ 63 ∧ Q (.int n) H') E0
theorem call_lenI {k : Nat} {C f : Addr} {fd : FuncData} {ps : List Str} {sp : Sp} (c : LenC X.K C f) (F : FnOk X.prog X.w X.K X.mg X.base CX0 k f fd ps sp) (hr : Room (k + 1) X.A) (hb : Binds X.K fd ps []) : CallR X (.builtin "len") (rLenI C sp) := by
  intro pins s σ H xs us Q I rv h
  obtain ⟨a, dx, fs, rfl, ha, hsp⟩ := h
  obtain ⟨u, rfl, ru⟩ := vals1 rv
  cases ru
  obtain ⟨mA, J, _⟩ := ins_get I.hok ha
  obtain ⟨od, J, _⟩ := J.look
  refine Calls.call_function_entry kind_len plain_len entry_len (args_len1 _) ?_
  unfold Builtin.«len»
  refine wpAny_bind (m := oneArg "len" _) (wpAny_pure ?_)
  refine wpAny_bind (m := callSpecial? (.ref a) (Str.ofString "__len__")) (PySem.W.special_fn I.kIn J c.at_ (beq_iff_eq.mp c.fn) ?_)
  have e0 : Env0 X.prog X.w X.K X.mg X.base X.A.in1 X.stack s H := by
    have e := I.env0
    exact ⟨e.frames, e.mod, e.bs, e.bsz, e.funs, e.frf, e.hok, e.bare⟩
  have hl := F.len _ _ _ _ hsp
  have r2 : Vals [V.ref a] [Value.ref a] := .cons rfl .nil
  refine wpAny_call (codeAny_mono (F.run X.A.in1 X.stack s H ⟨[.ref a], []⟩ [.ref a] [.ref a] _ _ hr.in1 e0 (by
    have := hb s [.ref a] I.kIn (by simpa using hl)
    simpa using this) r2 hsp) fun r s' hq => ?_)
  cases r with
  | error e => exact hq.elim
  | ok fl =>
    cases fl with
    | ret u =>
      obtain ⟨v, H', I3, rv, n, rfl, h0, h1, q3⟩ := I.after hq
      obtain ⟨t, rfl⟩ := rv
      refine wpAny_bind (wpAny_holding (wpAny_pure ?_))
      refine wpAny_bind (wpAny_letGo ?_)
      show wpAny _ _ (if n < 0 then _ else _) _ _ _
      rw [if_neg (by omega)]
      show wpAny _ _ (if n ≥ 2 ^ 63 then _ else _) _ _ _
      rw [if_neg (by omega)]
      exact wpAny_bind (wpAny_mkInt (wpAny_pure ⟨_, rfl, .int n, H', I3.tok _, ⟨_, rfl⟩, q3⟩))
    | next => exact False.elim hq
    | brk => exact False.elim hq
    | cont => exact False.elim hq
end
end Lc
set_option Elab.async false
set_option linter.all false
set_option maxRecDepth 100000
set_option maxHeartbeats 4000000
namespace Lc
open PySem PySem.Spec PyProof.Rows L2
/-! ## Names that are drawn are names -/
theorem name_of {l : List Nat} {x : Str} (e : x.cps.toList = l) (ne : l ≠ []) (ln : l.length ≤ 12) (h1 : ∀ c r, l = c :: r → inL c = true) (h2 : ∀ c ∈ l, inS c = true) : nameB (.str x) = true := by
  show nameL x.cps.toList = true
  rw [e]
  cases l with
  | nil => exact absurd rfl ne
  | cons c r =>
    show (decide ((c :: r).length ≤ 12) && (inL c && (c :: r).all inS)) = true
    rw [decide_eq_true ln, h1 c r rfl, List.all_eq_true.mpr h2]
    rfl
theorem name_has {x : Str} (h : nameB (.str x) = true) : x.cps.toList ≠ [] ∧ x.cps.toList.length ≤ 12 ∧ (∀ c r, x.cps.toList = c :: r → inL c = true) ∧ ∀ c ∈ x.cps.toList, inS c = true := by
  have h : nameL x.cps.toList = true := h
  generalize x.cps.toList = l at h
  cases l with
  | nil => cases h
  | cons c r =>
    have h : (decide ((c :: r).length ≤ 12) && (inL c && (c :: r).all inS)) = true := h
    obtain ⟨a, h⟩ := Bool.and_eq_true_iff.mp h
    obtain ⟨b, h⟩ := Bool.and_eq_true_iff.mp h
    exact ⟨List.cons_ne_nil _ _, of_decide_eq_true a, fun c' r' e => by cases e; exact b, List.all_eq_true.mp h⟩
theorem app_list (x y : Str) : (x ++ y).cps.toList = x.cps.toList ++ y.cps.toList := by
  show (x.cps ++ y.cps).toList = _
  simp
theorem mul_list (i : Int) : (Txt.mul (PySem.Str.ofString "a") i).cps.toList = List.replicate i.toNat 97 := by
  have ea : (PySem.Str.ofString "a").cps.toList = [97] := by decide +kernel
  have el : ((PySem.Str.ofString "a").length == 0) = false := by decide +kernel
  unfold Txt.mul
  by_cases h1 : i < 1
  · rw [if_pos h1, show i.toNat = 0 by omega]
    rfl
  · rw [if_neg h1, el, Bool.or_false]
    by_cases h2 : (i == 1) = true
    · rw [if_pos h2, ea, show i.toNat = 1 by have := beq_iff_eq.mp h2; omega]
      rfl
    · rw [if_neg h2]
      show ((List.replicate i.toNat (PySem.Str.ofString "a").cps).foldl (· ++ ·) #[]).toList = _
      rw [foldl_app]
      simp only [List.map_replicate, ea]
      generalize i.toNat = n
      induction n with
      | zero => rfl
      | succ n ih =>
        rw [List.replicate_succ, List.replicate_succ]
        simpa using ih
theorem sgn_at {i : Int} (h0 : 0 ≤ i) (h1 : i < 36) : ∃ c, atI signs.cps.toList i = some c ∧ c ∈ signs.cps.toList ∧ inS c = true ∧ (i < 26 → inL c = true) := by
  obtain ⟨n, rfl⟩ : ∃ n : Nat, i = (n : Int) := ⟨i.toNat, by omega⟩
  have h : n < signs.cps.toList.length := by rw [signs_len]; omega
  have m := List.getElem_mem h
  refine ⟨signs.cps.toList[n], atI_nat (List.getElem?_eq_getElem h), m, decide_eq_true m, fun l => ?_⟩
  have all : ∀ k : Fin 26, (signs.cps.toList[k.1]?).all inL = true := by decide +kernel
  have z := all ⟨n, by omega⟩
  rw [List.getElem?_eq_getElem h] at z
  exact z
theorem in97 : inL 97 = true ∧ inS 97 = true := by decide +kernel
theorem name_one {k m : Int} {c : Nat} (h0 : 0 ≤ k) (hm : 0 ≤ m) (l : k + m ≤ 11) (hs : inS c = true) (hl : k = 0 → inL c = true) : nameB (.str (Txt.mul (PySem.Str.ofString "a") k ++ ⟨#[c]⟩ ++ Txt.mul (PySem.Str.ofString "a") m)) = true := by
  have e : (Txt.mul (PySem.Str.ofString "a") k ++ (⟨#[c]⟩ : Str) ++ Txt.mul (PySem.Str.ofString "a") m).cps.toList = List.replicate k.toNat 97 ++ [c] ++ List.replicate m.toNat 97 := by
    rw [app_list, app_list, mul_list, mul_list]
  refine name_of e (by simp) (by simp; omega) (fun c' r' q => ?_) (fun c' q => ?_)
  · by_cases z : k = 0
    · subst z
      have q : c :: List.replicate m.toNat 97 = c' :: r' := q
      cases q
      exact hl rfl
    · obtain ⟨n, hn⟩ : ∃ n, k.toNat = n + 1 := ⟨k.toNat - 1, by omega⟩
      rw [hn, List.replicate_succ] at q
      cases q
      exact in97.1
  · rcases List.mem_append.mp q with q | q
    · rcases List.mem_append.mp q with q | q
      · rw [List.eq_of_mem_replicate q]; exact in97.2
      · rw [List.mem_singleton.mp q]; exact hs
    · rw [List.eq_of_mem_replicate q]; exact in97.2
theorem glued_list : ∀ (cs : List Nat), (Str.join Str.empty (cs.map fun c => (⟨#[c]⟩ : Str))).cps.toList = cs
  | [] => rfl
  | [c] => rfl
  | c :: d :: r => by
    have ih := glued_list (d :: r)
    have e : Str.join Str.empty ((c :: d :: r).map fun c => (⟨#[c]⟩ : Str)) = (⟨#[c]⟩ : Str) ++ Str.empty ++ Str.join Str.empty ((d :: r).map fun c => (⟨#[c]⟩ : Str)) := rfl
    rw [e, app_list, app_list, ih]
    rfl
theorem name_join {cs : List Nat} (ne : cs ≠ []) (ln : cs.length ≤ 12) (h1 : ∀ c r, cs = c :: r → inL c = true) (h2 : ∀ c ∈ cs, inS c = true) : nameB (.str (Txt.join (PySem.Str.ofString "") (cs.map fun c => (⟨#[c]⟩ : Str)))) = true := by
  have e : Txt.join (PySem.Str.ofString "") (cs.map fun c => (⟨#[c]⟩ : Str)) = Str.join Str.empty (cs.map fun c => (⟨#[c]⟩ : Str)) := (StrLaws.glued_eq_join (PySem.Str.ofString "") _).trans rfl
  rw [e]
  exact name_of (glued_list cs) ne ln h1 h2
theorem cut_list (x : Str) : (cutS x none (some 11)).cps.toList = x.cps.toList.take 11 := by
  unfold cutS
  rw [lenL]
  simp [HT.sIx]
theorem name_cut {x : Str} {c : Nat} (h : nameB (.str x) = true) (hc : inS c = true) : nameB (.str (cutS x none (some 11) ++ ⟨#[c]⟩)) = true := by
  obtain ⟨a1, a2, a3, a4⟩ := name_has h
  have e : (cutS x none (some 11) ++ (⟨#[c]⟩ : Str)).cps.toList = x.cps.toList.take 11 ++ [c] := by rw [app_list, cut_list]
  refine name_of e (by simp) (by simp; omega) (fun c' r' q => ?_) (fun c' q => ?_)
  · cases z : x.cps.toList with
    | nil => exact absurd z a1
    | cons d r =>
      rw [z] at q
      have q : d :: (r.take 10 ++ [c]) = c' :: r' := q
      injection q with q1 _
      rw [← q1]
      exact a3 d r z
  · rcases List.mem_append.mp q with q | q
    · exact a4 c' (List.mem_of_mem_take q)
    · rw [List.mem_singleton.mp q]; exact hc
/-! ## Some letter is free -/
theorem pigeon {α : Type} [DecidableEq α] : ∀ {l m : List α}, l.Nodup → (∀ x ∈ l, x ∈ m) → l.length ≤ m.length
  | [], _, _, _ => Nat.zero_le _
  | x :: l, m, n, h => by
    obtain ⟨n1, n2⟩ := List.nodup_cons.mp n
    have hx := h x List.mem_cons_self
    have := pigeon (l := l) (m := m.erase x) n2 fun y hy => (List.mem_erase_of_ne (fun e => n1 (by rw [← e]; exact hy))).mpr (h y (List.mem_cons_of_mem _ hy))
    rw [List.length_erase_of_mem hx] at this
    have := List.length_pos_of_mem hx
    rw [List.length_cons]
    omega
theorem in_strs {z : Str} {ss : List Str} : inV (.str z) (ss.map V.str) = decide (z ∈ ss) := by
  rw [Bool.eq_iff_iff, decide_eq_true_iff]
  unfold inV
  rw [List.any_eq_true]
  constructor
  · rintro ⟨y, hy, e⟩
    obtain ⟨s, hs, rfl⟩ := List.mem_map.mp hy
    have : s = z := by simpa [eqV] using e
    rw [← this]; exact hs
  · intro h
    exact ⟨.str z, List.mem_map.mpr ⟨z, h, rfl⟩, by simp [eqV]⟩
theorem free_letter {x : Str} {ss : List Str} (l : ss.length < 36) (h : ∀ c ∈ signs.cps.toList, cutS x none (some 11) ++ (⟨#[c]⟩ : Str) ∈ ss) : False := by
  have inj : ∀ c d : Nat, cutS x none (some 11) ++ (⟨#[c]⟩ : Str) = cutS x none (some 11) ++ (⟨#[d]⟩ : Str) → c = d := fun c d e => by
    have e := congrArg (fun s : Str => s.cps.toList) e
    simp only [app_list] at e
    have := List.append_cancel_left e
    simpa using this
  have nd : signs.cps.toList.Nodup := by decide +kernel
  have := pigeon (l := signs.cps.toList.map fun c => cutS x none (some 11) ++ (⟨#[c]⟩ : Str)) (m := ss) (List.Pairwise.map _ (fun a b n e => n (inj a b e)) nd) fun y hy => by
    obtain ⟨c, hc, rfl⟩ := List.mem_map.mp hy
    exact h c hc
  rw [List.length_map, signs_len] at this
  omega
end Lc
set_option Elab.async false
set_option linter.all false
set_option maxRecDepth 100000
set_option maxHeartbeats 4000000
namespace Lc
open PySem PySem.Spec PyProof.Rows L2
/-! ## o.m(e, .., k = v, ..) -/
def tMethK (C : Addr) (m : Str) (n l : Nat) (sp : Sp) (gV : List V → List V → List V) (E : XK) (ta : TE) (t tk : TA) : TE := fun σ H Q => ta σ H fun x H1 => ∃ a dx fs, x = .ref a ∧ H1 a = some (.ins C dx fs) ∧ fs.lookup m = none ∧
  t σ H1 fun vs H2 => tk σ H2 fun zs H3 => vs.length = n ∧ zs.length = l ∧ sp (gV (x :: vs) zs) H3 Q E
section
variable {X : Cx} {CX : CXT} {k n : Nat} {f C : Addr} {fd : FuncData} {ps ks : List Str} {sp : Sp} {E : XK} {m : Str} {pos apos : Pos} {e o : Expr} {es : List Expr} {kws : List Keyword} {ta : TE} {t tk : TA} {g : List Value → List Value → List Value} {gV : List V → List V → List V}
theorem pe_methK {pl : Sem Bool} (he : PE X o ta) (c : Cls X.K C) (hm : Meth X.K C m f) (F : FnOk X.prog X.w X.K X.mg X.base CX k f fd ps sp) (hr : Room k X.A) (hb : KBn X.K fd ps (n + 1) ks g gV) (hx : Passes CX X E) (ha : PA X (e :: es) t) (hkw : PK X kws tk)
    (hall : (backToKw pos (keywordEach kws X.env)).all (·.1.isSome) = true := by rfl) (hks : (backToKw pos (keywordEach kws X.env)).filterMap (·.1) = ks := by rfl) (hst : starEach (e :: es) X.env = (false, eval e X.env) :: starEach es X.env := by rfl)
    (hpl : ((backTo pos (starEach (e :: es) X.env)).any (·.1) || (backToKw pos (keywordEach kws X.env)).any (·.1.isNone)) = false := by rfl)
    (ht : eval (.Call (.Attribute o m apos) (e :: es) kws pos) X.env = (do
      let ov ← eval o X.env
      standAt apos.atName
      let (f, first) ← holding [ov] (getMethod ov m pl)
      callWith pos f first (backTo pos (starEach (e :: es) X.env)) (backToKw pos (keywordEach kws X.env))) := by rfl) :
    PE X (.Call (.Attribute o m apos) (e :: es) kws pos) (tMethK C m n ks.length sp gV E ta t tk) := by
  refine ⟨fun pins s σ H Q I h => ?_⟩
  refine PySem.W.methodCall_KW (pl := pl) (thn (he.run pins s σ H _ I h) fun u s1 ⟨x, H1, I1, rx, a, dx, fs, ex, ea, l, q⟩ => ?_) ht
  subst ex
  obtain rfl : u = Value.ref a := rx
  refine getmeth_ok I1 ea c hm l ?_
  refine PySem.W.callWith_KW (first := [.ref a]) (h₀ := X.base) I.ok.mod.kin hm.kp hall (thn (ha.run pos pins s1 σ H1 _ I1 q) fun us s2 ⟨vs, H2, I2, r, q2⟩ => ?_) hpl hst
  refine thn (hkw.run pos pins s2 σ H2 _ I2 q2) fun ws s3 ⟨zs, H3, I3, rz, l1, l2, q3⟩ => ⟨I3.kIn, ?_⟩
  rw [hks]
  exact run_fnN (us := .ref a :: us) (vs := .ref a :: vs) F hr hb hx I3 (.cons rfl r) rz (by rw [List.length_cons, l1]) l2 q3
end
theorem kbN {K : PySem.W.Frag} {x qual : Str} {params : Arguments} {body : List Stmt} {scope : Scope} {kws : List (Str × V)} {f : Addr} {fd : FuncData} {ps ks : List Str} {n : Nat} (F : FunD K x qual params body scope [] kws f fd)
    (h : ∀ (kV doc pm : Value) (an : Option Addr) (cdv ct : Value) (us ws : List Value), us.length = n → ws.length = ks.length → bindArgs (PySem.W.fnOf x qual params body scope .none kV doc pm an cdv ct) ⟨us, ks.zip ws⟩ = pure (ps.zip (us ++ ws))) : KBn K fd ps n ks (fun us ws => us ++ ws) (fun vs zs => vs ++ zs) := by
  obtain ⟨oc, od, dV, kV, doc, pm, an, cdv, ct, osl, rfl, lk, hcd, hD, hK⟩ := F.ex
  rcases hD with ⟨_, rfl⟩ | ⟨e, _⟩
  · exact ⟨fun s us ws X l1 l2 => .of_eq (h kV doc pm an cdv ct us ws l1 l2), fun r1 r2 => r1.append r2⟩
  · exact absurd rfl e
/-! ## Data without lists: it stands as long as the tuples stand -/
def SameT (H H' : Hp) : Prop := ∀ b xs, H b = some (.tup xs) → H' b = some (.tup xs)
theorem SameT.refl (H : Hp) : SameT H H := fun _ _ e => e
theorem SameT.trans {H H1 H2 : Hp} (a : SameT H H1) (b : SameT H1 H2) : SameT H H2 := fun c xs e => b c xs (a c xs e)
theorem SameT.of {H H' : Hp} (s : Same H H') : SameT H H' := fun b xs e => s _ _ e
theorem SameT.b {t : Addr} {H H' : Hp} (T : Tape H t) (s : SameB t H H') : SameT H H' := fun b xs e => s _ _ (T.neT e) e
theorem SameT.at {a : Addr} {H H' : Hp} {o : HO} (h : H a = some o) (n : ∀ xs, o ≠ .tup xs) (s : SameB a H H') : SameT H H' := fun b xs e => s _ _ (fun z => by rw [z, h] at e; exact n xs (Option.some.inj e)) e
theorem SameT.lst {H : Hp} {a : Addr} {ys : List V} {o : HO} (h : H a = some (.lst ys)) : SameT H (upd H a o) := fun b xs e => by rw [upd_ne (ne_of e h nofun)]; exact e
mutual
def noL : PyData → Bool
  | .list _ => false
  | .dict _ => false
  | .tuple ds => noLs ds
  | _ => true
def noLs : List PyData → Bool
  | [] => true
  | d :: ds => noL d && noLs ds
end
mutual
theorem Dh.t {H H' : Hp} (s : SameT H H') : ∀ {v : V} {d : PyData}, Dh H v d → noL d = true → Dh H' v d
  | _, _, .non, _ => .non
  | _, _, .bl b, _ => .bl b
  | _, _, .int i, _ => .int i
  | _, _, .str x, _ => .str x
  | _, _, .tup e h, n => .tup (s _ _ e) (DhAll.t s h (by simpa [noL] using n))
  | _, _, .lst e h, n => by simp [noL] at n
  | _, _, .dct e, n => by simp [noL] at n
theorem DhAll.t {H H' : Hp} (s : SameT H H') : ∀ {vs : List V} {ds : List PyData}, DhAll H vs ds → noLs ds = true → DhAll H' vs ds
  | _, _, .nil, _ => .nil
  | _, _, .cons h r, n => by
    rw [noLs, Bool.and_eq_true_iff] at n
    exact .cons (Dh.t s h n.1) (DhAll.t s r n.2)
end
theorem noLs_app {a b : List PyData} : noLs (a ++ b) = (noLs a && noLs b) := by
  induction a with
  | nil => rfl
  | cons x a ih => rw [List.cons_append, noLs, noLs, ih, Bool.and_assoc]
theorem noLs_all {a : List PyData} : noLs a = true ↔ ∀ d ∈ a, noL d = true := by
  induction a with
  | nil => exact ⟨fun _ => nofun, fun _ => rfl⟩
  | cons x a ih =>
    rw [noLs, Bool.and_eq_true_iff, ih]
    constructor
    · rintro ⟨h1, h2⟩ d hd
      rcases List.mem_cons.mp hd with rfl | hd
      · exact h1
      · exact h2 d hd
    · exact fun h => ⟨h x List.mem_cons_self, fun d hd => h d (List.mem_cons_of_mem _ hd)⟩
end Lc
set_option Elab.async false
set_option linter.all false
set_option maxRecDepth 100000
set_option maxHeartbeats 4000000
namespace Lc
open PySem PySem.Spec PyProof.Rows L2
/-! ## a dict comprehension that is stored in a local name -/
section
variable {X : Cx}
theorem sw_dict {e1 e2 : Expr} {cs : List Comprehension} {sc : Scope} {p1 p2 : Pos} {nm : Str} {ln : Nat} {en : Env} (h1 : en.scope.kind = .function) (h2 : en.scope.names.lookup nm = some .local) (h3 : (p2.line == p1.line) = true)
    (h4 : (sc.names.any fun (a, b) => a == nm && (b == .local || b == .cell)) = false) : swapsWith (.DictComp e1 e2 cs sc p1) (some (.Name nm p2)) ln en = pure true := by
  have k1 : en.kindOf nm = some .local := h2
  have k2 : en.blockKind = .function := by
    unfold Env.blockKind
    rw [h1]
    rfl
  unfold swapsWith
  simp only [k2, k1, h4, Expr.pos, h3]
  rfl
theorem ps_setDc {i : Nat} {nm : Str} {p2 p1 p3 : Pos} {kx vx tg it : Expr} {ifs : List Expr} {sc : Scope} {own : List (Str × Nat)} {wi : TI} {g : TG} {tt : TT} {tk tv : TE} (calm : X.calm = true) (nd : X.N.Nodup) (at_ : X.N[i]? = some nm) (loc : X.env.scope.names.lookup nm = some .local)
    (sw : swapsWith (.DictComp kx vx [⟨tg, it, ifs, 0⟩] sc p1) (some (.Name nm p2)) p3.line X.env = pure true) (hi : PI X tg it wi) (ok : BlkOk X.N X.env.scope sc own)
    (hg : ∀ (s : Shared) (H : Hp) (C : Addr) (cl : List (Str × Addr)) (fp : List Addr), PG (X.blk s H sc (compEnvC sc cl C X.env) fp) tg g) (ht : ∀ (s : Shared) (H : Hp) (C : Addr) (cl : List (Str × Addr)) (fp : List Addr), PTs (X.blk s H sc (compEnvC sc cl C X.env) fp) ifs tt)
    (hk : ∀ (s : Shared) (H : Hp) (C : Addr) (cl : List (Str × Addr)) (fp : List Addr), PE (X.blk s H sc (compEnvC sc cl C X.env) fp) kx tk) (hv : ∀ (s : Shared) (H : Hp) (C : Addr) (cl : List (Str × Addr)) (fp : List Addr), PE (X.blk s H sc (compEnvC sc cl C X.env) fp) vx tv) (hs : ∀ x, foldedSetIterable it X.env x = pure x := by intro _; rfl) :
    PS X (.Assign [.Name nm p2] (.DictComp kx vx [⟨tg, it, ifs, 0⟩] sc p1) p3) (tAsg (tDc wi g tt tk tv (own.map (·.2))) (gName i)) := by
  refine ⟨fun pins st σ H D I q0 => ?_⟩
  rw [exec_Assign_Name_used _ _ _ _ sw]
  refine wpAny_bind (wpAny_standAt (wpAny_bind ?_))
  show wpAny _ X.A (do let _ ← comprehension (.DictComp kx vx [⟨tg, it, ifs, 0⟩] sc p1) sc X.env (firstIterPos [⟨tg, it, ifs, 0⟩] p1) newDict false (eval it X.env) (some (assign (.Name nm p2) X.env))) _ _ st
  have q1 : tDc wi g tt tk tv (own.map (·.2)) σ H (fun x H1 => gName i x σ H1 D.nx) := q0
  refine wpAny_bind (thn (dc_core (Qf := fun _ s' => SP X pins D .next s') calm nd I hi ok hg ht hk hv hs q1 fun L C s' mm H' I' qq hn fr => ?_) fun _ s' z => wpAny_pure (wpAny_pure z))
  show wpAny _ _ (assign (.Name nm p2) X.env (.ref L)) _ _ _
  refine wpAny_assign_Name (store_ok2 (v := V.ref L) I' nd at_ (.inl loc) rfl (fun s2 I2 ⟨a, sb, ha⟩ => ?_) (.inr loc))
  obtain ⟨g0, g1, _, g3, g4, g5⟩ := fr
  have ne : C ≠ a := by
    rcases ha with z | z
    · exact z ▸ g1
    · exact fun e => g4 nm a z e.symm
  refine ⟨mm, hn.sameBut sb ne, fun h3 sb3 => ?_⟩
  refine ⟨_, H', I2.turned (t' := s2.toks) (fun b o hb e => ?_) g0 g1 g3 g4 g5, qq⟩
  exact (sb3.2 b hb).trans e
end
/-- a dict comprehension over zip of two tuples of one length -/
theorem dc_zip {K : PySem.W.Frag} {a b : Addr} {xs ys : List V} {g : TG} {tt : TT} {tk tv : TE} {vs : List Nat} {σ : L2.St} {H1 : Hp} {D : Addr} {Qd : Hp → Prop} (hl : xs.length = ys.length) (Pv : Nat → Hp → Prop) (h0 : Pv 0 (upd H1 D (.dK []))) (hq : ∀ i H, Pv i H → SqT K H a xs ∧ SqT K H b ys)
    (hs : ∀ (i : Nat) (x y : V) (T : Addr) (H : Hp), xs[i]? = some x → ys[i]? = some y → Pv i H → H T = none → g (.ref T) (wipe σ vs) (upd H T (.tup [x, y])) fun σ2 H2 => wipe σ2 vs = wipe σ vs ∧ tt σ2 H2 fun c H3 =>
      if c = true then tk σ2 H3 fun k H4 => tv σ2 H4 fun z H5 => ∃ kvs kk, k = kV kk ∧ H5 D = some (.dK kvs) ∧ kvs.length < sizeLine ∧ Pv (i + 1) (upd H5 D (.dK (putK kvs kk z))) else Pv (i + 1) H3) (hd : ∀ H, Pv xs.length H → Qd H) :
    ∃ W : Nat → Nat → Hp → Prop, (∃ m, W 0 m (upd H1 D (.dK []))) ∧ ∀ i m H, W i m H →
      ((RZ.ItzT K a b).stop i H ∧ Qd H) ∨ ((RZ.ItzT K a b).go i H ∧ ∃ N : Hp → Prop, (∀ H', N H' → ∃ m', m' < m ∧ W (i + 1) m' H') ∧ ∀ v H', (RZ.ItzT K a b).yld i H v H' → g v (wipe σ vs) H' fun σ2 H2 => wipe σ2 vs = wipe σ vs ∧ tt σ2 H2 fun c H3 =>
        if c = true then tk σ2 H3 fun k H4 => tv σ2 H4 fun z H5 => ∃ kvs kk, k = kV kk ∧ H5 D = some (.dK kvs) ∧ kvs.length < sizeLine ∧ N (upd H5 D (.dK (putK kvs kk z))) else N H3) := by
  refine ⟨fun i m H => i + m = xs.length ∧ Pv i H, ⟨xs.length, Nat.zero_add _, h0⟩, ?_⟩
  rintro i m H ⟨em, pv⟩
  obtain ⟨q1, q2⟩ := hq i H pv
  cases m with
  | zero =>
    obtain rfl : i = xs.length := by omega
    exact .inl ⟨⟨xs, ys, q1, q2, .inl (Nat.le_refl _)⟩, hd H pv⟩
  | succ m =>
    have l1 : i < xs.length := by omega
    have l2 : i < ys.length := by omega
    refine .inr ⟨⟨xs, ys, _, _, q1, q2, List.getElem?_eq_getElem l1, List.getElem?_eq_getElem l2⟩, Pv (i + 1), fun H' p' => ⟨m, by omega, by omega, p'⟩, fun v H' yl => ?_⟩
    obtain ⟨T, x', y', rfl, hT, rfl, f1, f2⟩ := yl
    exact hs i x' y' T H (f1 xs q1) (f2 ys q2) pv hT
section
variable {X : Cx} {k : Nat} {f : Addr} {fd : FuncData} {ps : List Str} {sp : Sp} {x : Str} {p pos : Pos}
/-- f(), f kept under FnG -/
theorem pe_callG0 (F : FnG X.prog X.w X.K X.mg X.base k f fd ps sp) (gg : X.A.guards = some []) (hr : Room k X.A) (hg : Gl X x) (hm : X.mg x = some (.ref f)) (hk : PySem.W.keepIn X.K (.ref f) = true) (hb : Binds X.K fd ps []) (hdb : (x == ("__debug__" : Str)) = false := by decide) :
    PE X (.Call (.Name x p) [] [] pos) (tCall sp [] E0 tNil) := by
  refine ⟨fun pins s σ H Q I h => wpAny_Call_Name_kw (ld_glob I hg hm ?_ hdb)⟩
  refine PySem.W.callWith_K0 I.kIn hk ?_
  have q : sp [] H Q E0 := h
  have hl : ([] : List V).length = ps.length := F.len _ _ _ _ q
  have b := hb s [] I.kIn hl
  refine wpAny_call (codeAny_mono (F.run X.A X.stack s H ⟨[], []⟩ [] [] Q E0 gg hr I.env0 b .nil q) fun rr s' hq => ?_)
  cases rr with
  | error er => exact hq.elim
  | ok fl =>
    cases fl with
    | ret u => exact I.after hq
    | next => exact hq.elim
    | brk => exact hq.elim
    | cont => exact hq.elim
end
/-- a list comprehension over zip of two tuples of one length -/
theorem lc_zip {K : PySem.W.Frag} {a b : Addr} {xs ys : List V} {g : TG} {tt : TT} {te : TE} {vs : List Nat} {σ : L2.St} {H1 : Hp} {D : Addr} {Qd : Hp → Prop} (hl : xs.length = ys.length) (Pv : Nat → Hp → Prop) (h0 : Pv 0 (upd H1 D (.lst []))) (hq : ∀ i H, Pv i H → SqT K H a xs ∧ SqT K H b ys)
    (hs : ∀ (i : Nat) (x y : V) (T : Addr) (H : Hp), xs[i]? = some x → ys[i]? = some y → Pv i H → H T = none → g (.ref T) (wipe σ vs) (upd H T (.tup [x, y])) fun σ2 H2 => wipe σ2 vs = wipe σ vs ∧ tt σ2 H2 fun c H3 =>
      if c = true then te σ2 H3 fun z H4 => ∃ acc, H4 D = some (.lst acc) ∧ acc.length < sizeLine ∧ Pv (i + 1) (upd H4 D (.lst (acc ++ [z]))) else Pv (i + 1) H3) (hd : ∀ H, Pv xs.length H → Qd H) :
    ∃ W : Nat → Nat → Hp → Prop, (∃ m, W 0 m (upd H1 D (.lst []))) ∧ ∀ i m H, W i m H →
      ((RZ.ItzT K a b).stop i H ∧ Qd H) ∨ ((RZ.ItzT K a b).go i H ∧ ∃ N : Hp → Prop, (∀ H', N H' → ∃ m', m' < m ∧ W (i + 1) m' H') ∧ ∀ v H', (RZ.ItzT K a b).yld i H v H' → g v (wipe σ vs) H' fun σ2 H2 => wipe σ2 vs = wipe σ vs ∧ tt σ2 H2 fun c H3 =>
        if c = true then te σ2 H3 fun z H4 => ∃ acc, H4 D = some (.lst acc) ∧ acc.length < sizeLine ∧ N (upd H4 D (.lst (acc ++ [z]))) else N H3) := by
  refine ⟨fun i m H => i + m = xs.length ∧ Pv i H, ⟨xs.length, Nat.zero_add _, h0⟩, ?_⟩
  rintro i m H ⟨em, pv⟩
  obtain ⟨q1, q2⟩ := hq i H pv
  cases m with
  | zero =>
    obtain rfl : i = xs.length := by omega
    exact .inl ⟨⟨xs, ys, q1, q2, .inl (Nat.le_refl _)⟩, hd H pv⟩
  | succ m =>
    have l1 : i < xs.length := by omega
    have l2 : i < ys.length := by omega
    refine .inr ⟨⟨xs, ys, _, _, q1, q2, List.getElem?_eq_getElem l1, List.getElem?_eq_getElem l2⟩, Pv (i + 1), fun H' p' => ⟨m, by omega, by omega, p'⟩, fun v H' yl => ?_⟩
    obtain ⟨T, x', y', rfl, hT, rfl, f1, f2⟩ := yl
    exact hs i x' y' T H (f1 xs q1) (f2 ys q2) pv hT
theorem paired_snoc {α β : Type} {R : α → β → Prop} {a : α} {b : β} (h : R a b) : ∀ {l : List α} {m : List β}, Paired R l m → Paired R (l ++ [a]) (m ++ [b])
  | _, _, .nil => .cons h .nil
  | _, _, .cons g r => .cons g (paired_snoc h r)
theorem paired_imp {α β : Type} {R S : α → β → Prop} (h : ∀ a b, R a b → S a b) : ∀ {l : List α} {m : List β}, Paired R l m → Paired S l m
  | _, _, .nil => .nil
  | _, _, .cons g r => .cons (h _ _ g) (paired_imp h r)
end Lc
set_option Elab.async false
set_option linter.all false
set_option maxRecDepth 100000
set_option maxHeartbeats 4000000
namespace Lc
open PySem PySem.Spec PyProof.Rows L2 PySem.NumText
/-! ## Digits -/
def digs (m : Nat) : List Nat := (Nat.toDigits 10 m).map Char.toNat
theorem digs_small {m : Nat} (h : m < 10) : digs m = [48 + m] := by
  unfold digs
  rw [Nat.toDigits_of_lt_base h]
  have : ∀ k < 10, (Nat.digitChar k).toNat = 48 + k := by decide
  show [(Nat.digitChar m).toNat] = _
  rw [this m h]
theorem digs_big {m : Nat} (h : 10 ≤ m) : digs m = digs (m / 10) ++ [48 + m % 10] := by
  have hm : m % 10 < 10 := Nat.mod_lt m (by decide)
  have t : Nat.toDigits 10 (m / 10) ++ Nat.toDigits 10 (m % 10) = Nat.toDigits 10 (10 * (m / 10) + m % 10) := Nat.toDigits_append_toDigits (by decide) (by omega) hm
  rw [Nat.div_add_mod] at t
  have e := digs_small hm
  unfold digs at e ⊢
  rw [← t, List.map_append, e]
theorem digs_val (m : Nat) : digitsVal (digs m) = m := W.KIN.val_back m
theorem digs_all : ∀ m, AllDigits (digs m) := by
  intro m
  induction m using Nat.strongRecOn with
  | _ m ih =>
    by_cases h : m < 10
    · rw [digs_small h]
      intro c hc
      have : c = 48 + m := by simpa using hc
      omega
    · rw [digs_big (by omega)]
      intro c hc
      rcases List.mem_append.mp hc with hc | hc
      · exact ih (m / 10) (by omega) c hc
      · have : c = 48 + m % 10 := by simpa using hc
        omega
theorem digs_head : ∀ m, ∃ c r, digs m = c :: r ∧ (c = 48 → r = []) := by
  intro m
  have key : ∀ m, ∃ c r, digs m = c :: r ∧ (0 < m → 49 ≤ c) := by
    intro m
    induction m using Nat.strongRecOn with
    | _ m ih =>
      by_cases h : m < 10
      · exact ⟨48 + m, [], digs_small h, fun _ => by omega⟩
      · obtain ⟨c, r, e, g⟩ := ih (m / 10) (by omega)
        refine ⟨c, r ++ [48 + m % 10], ?_, fun _ => g (by omega)⟩
        rw [digs_big (by omega), e]
        rfl
  by_cases z : m = 0
  · exact ⟨48, [], by rw [z]; exact digs_small (by decide), fun _ => rfl⟩
  · obtain ⟨c, r, e, g⟩ := key m
    exact ⟨c, r, e, fun h => by have := g (by omega); omega⟩
theorem digs_len : ∀ (p m : Nat), 0 < p → m < 10 ^ p → (digs m).length ≤ p := by
  intro p
  induction p with
  | zero => intro m h; omega
  | succ p ih =>
    intro m _ h
    by_cases z : m < 10
    · rw [digs_small z]
      simp
    · rw [digs_big (by omega), List.length_append]
      have hp : 0 < p := by
        cases p with
        | zero => omega
        | succ q => omega
      have : m / 10 < 10 ^ p := by
        rw [Nat.div_lt_iff_lt_mul (by decide)]
        rw [Nat.pow_succ] at h
        exact h
      have := ih (m / 10) hp this
      simp only [List.length_cons, List.length_nil]
      omega
def zf (p r : Nat) : List Nat := List.replicate (p - (digs r).length) 48 ++ digs r
theorem zf_len {p r : Nat} (hp : 0 < p) (h : r < 10 ^ p) : (zf p r).length = p := by
  have := digs_len p r hp h
  unfold zf
  rw [List.length_append, List.length_replicate]
  omega
theorem zf_all (p r : Nat) : AllDigits (zf p r) := by
  intro c hc
  rcases List.mem_append.mp hc with hc | hc
  · have := List.eq_of_mem_replicate hc
    omega
  · exact digs_all r c hc
theorem val_from (l : List Nat) : ∀ a : Nat, l.foldl (fun acc c => acc * 10 + (c - 48)) a = a * 10 ^ l.length + digitsVal l := by
  induction l with
  | nil => intro a; simp [digitsVal]
  | cons c l ih =>
    intro a
    show l.foldl _ (a * 10 + (c - 48)) = _
    have e2 : digitsVal (c :: l) = l.foldl (fun acc c => acc * 10 + (c - 48)) (0 * 10 + (c - 48)) := rfl
    rw [ih, e2, ih, List.length_cons, Nat.pow_succ, Nat.zero_mul, Nat.zero_add, Nat.add_mul, Nat.mul_assoc, Nat.mul_comm 10]
    omega
theorem val_app (a b : List Nat) : digitsVal (a ++ b) = digitsVal a * 10 ^ b.length + digitsVal b := by
  unfold digitsVal
  rw [List.foldl_append]
  exact val_from b _
theorem val_zeros (k : Nat) : digitsVal (List.replicate k 48) = 0 := by
  induction k with
  | zero => rfl
  | succ k ih =>
    rw [List.replicate_succ, digitsVal_zero]
    exact ih
theorem zf_val (p r : Nat) : digitsVal (zf p r) = r := by
  unfold zf
  rw [val_app, val_zeros, digs_val]
  omega
/-! ## A text cut at the point -/
def jl : List (List Nat) → List Nat
  | [] => []
  | [x] => x
  | x :: y :: r => x ++ 46 :: jl (y :: r)
theorem cut_eq : ∀ {a b x y : List Nat}, 46 ∉ a → 46 ∉ b → a ++ 46 :: x = b ++ 46 :: y → a = b ∧ x = y
  | [], [], _, _, _, _, e => ⟨rfl, (List.cons.inj e).2⟩
  | [], c :: b, _, _, _, hb, e => absurd (List.cons.inj e).1 (fun z => hb (by rw [z]; exact List.mem_cons_self))
  | c :: a, [], _, _, ha, _, e => absurd (List.cons.inj e).1.symm (fun z => ha (by rw [z]; exact List.mem_cons_self))
  | c :: a, d :: b, x, y, ha, hb, e => by
    obtain ⟨e1, e2⟩ := List.cons.inj e
    obtain ⟨h1, h2⟩ := cut_eq (fun z => ha (List.mem_cons_of_mem _ z)) (fun z => hb (List.mem_cons_of_mem _ z)) e2
    exact ⟨by rw [e1, h1], h2⟩
theorem jl_one {ps : List (List Nat)} {a : List Nat} (hne : a ≠ []) (ha : 46 ∉ a) (e : jl ps = a) : ps = [a] := by
  match ps, e with
  | [], e => exact absurd e.symm hne
  | [x], e => rw [← show x = a from e]
  | x :: y :: r, e => exact absurd (by rw [← show x ++ 46 :: jl (y :: r) = a from e]; simp) ha
theorem jl_two {ps : List (List Nat)} {a b : List Nat} (hf : ∀ p ∈ ps, 46 ∉ p) (ha : 46 ∉ a) (hb : 46 ∉ b) (hne : b ≠ []) (e : jl ps = a ++ 46 :: b) : ps = [a, b] := by
  match ps, hf, e with
  | [], _, e => exact absurd e (by simp [jl])
  | [x], hf, e => exact absurd (by rw [show x = a ++ 46 :: b from e]; simp) (hf x List.mem_cons_self)
  | x :: y :: r, hf, e =>
    obtain ⟨h1, h2⟩ := cut_eq (hf x List.mem_cons_self) ha (show x ++ 46 :: jl (y :: r) = a ++ 46 :: b from e)
    rw [h1, jl_one hne hb h2]
theorem toL_join : ∀ ps : List Str, (Str.join ⟨#[46]⟩ ps).cps.toList = jl (ps.map fun p => p.cps.toList)
  | [] => rfl
  | [x] => rfl
  | x :: y :: r => by
    have ih := toL_join (y :: r)
    have e : Str.join ⟨#[46]⟩ (x :: y :: r) = x ++ ⟨#[46]⟩ ++ Str.join ⟨#[46]⟩ (y :: r) := rfl
    rw [e]
    show (x.cps ++ #[46] ++ (Str.join ⟨#[46]⟩ (y :: r)).cps).toList = _
    rw [Array.toList_append, Array.toList_append, ih]
    show x.cps.toList ++ [46] ++ jl (y.cps.toList :: r.map fun p => p.cps.toList) = x.cps.toList ++ 46 :: jl (y.cps.toList :: r.map fun p => p.cps.toList)
    rw [List.append_assoc]
    rfl
theorem dot_eq : PySem.Str.ofString "." = ⟨#[46]⟩ := by decide +kernel
theorem map_toL {ps : List Str} {ls : List (List Nat)} (h : ps.map (fun p => p.cps.toList) = ls) : ps = ls.map fun l => (⟨l.toArray⟩ : Str) := by
  rw [← h, List.map_map]
  have : ((fun l => (⟨l.toArray⟩ : Str)) ∘ fun p : Str => p.cps.toList) = id := by
    funext p
    obtain ⟨⟨l⟩⟩ := p
    rfl
  rw [this, List.map_id]
theorem split_jl (x : Str) : jl ((Txt.split x ⟨#[46]⟩).map fun p => p.cps.toList) = x.cps.toList := by
  rw [← toL_join, StrLaws.join_split]
theorem split_one {x : Str} (h : 46 ∉ x.cps.toList) (hne : x.cps.toList ≠ []) : Txt.split x ⟨#[46]⟩ = [x] := by
  have e := map_toL (jl_one hne h (split_jl x))
  rw [e]
  obtain ⟨⟨l⟩⟩ := x
  rfl
theorem split_two {x : Str} {a b : List Nat} (e : x.cps.toList = a ++ 46 :: b) (ha : 46 ∉ a) (hb : 46 ∉ b) (hne : b ≠ []) : Txt.split x ⟨#[46]⟩ = [⟨a.toArray⟩, ⟨b.toArray⟩] := by
  refine map_toL (jl_two (fun p hp => ?_) ha hb hne ((split_jl x).trans e))
  obtain ⟨q, hq, rfl⟩ := List.mem_map.mp hp
  exact StrLaws.split_free x 46 q hq
/-! ## Rounding -/
def ab (n : Int) : Int := if n < 0 then -n else n
def nu (n d s : Int) : Int := if n < 0 then -((2 * ab n * s + d) / (2 * d)) else (2 * ab n * s + d) / (2 * d)
theorem ab_nonneg (n : Int) : 0 ≤ ab n := by unfold ab; split <;> omega
theorem ab_nat (n : Int) : ab n = (n.natAbs : Int) := by unfold ab; split <;> omega
theorem nu_ab {n d s : Int} (hd : 0 < d) (hs : 0 < s) : ab (nu n d s) = (2 * ab n * s + d) / (2 * d) ∧ (nu n d s < 0 → n < 0) := by
  have h0 : 0 ≤ (2 * ab n * s + d) / (2 * d) := Int.ediv_nonneg (by have := Int.mul_nonneg (Int.mul_nonneg (by decide : (0:Int) ≤ 2) (ab_nonneg n)) (Int.le_of_lt hs); omega) (by omega)
  unfold nu
  generalize (2 * ab n * s + d) / (2 * d) = q at h0
  split
  · exact ⟨by unfold ab; split <;> omega, fun _ => by assumption⟩
  · exact ⟨by unfold ab; split <;> omega, fun h => by omega⟩
theorem nu_near {n d s : Int} (hd : 0 < d) (hs : 0 < s) : 2 * (ab (nu n d s) * d) ≤ 2 * (ab n * s) + d ∧ 2 * (ab n * s) < 2 * (ab (nu n d s) * d) + d := by
  rw [(nu_ab hd hs).1]
  have e := Int.mul_ediv_add_emod (2 * ab n * s + d) (2 * d)
  have r0 := Int.emod_nonneg (2 * ab n * s + d) (by omega : 2 * d ≠ 0)
  have r1 := Int.emod_lt_of_pos (2 * ab n * s + d) (by omega : 0 < 2 * d)
  generalize (2 * ab n * s + d) / (2 * d) = q at e
  generalize (2 * ab n * s + d) % (2 * d) = r at e r0 r1
  rw [Int.mul_assoc 2 d q, Int.mul_comm d q, Int.mul_assoc 2 (ab n) s] at e
  omega
/-- the same units again -/
theorem nu_again {u s a b : Int} (hs : 0 < s) (hb : 0 < b) (h : a * s = u * b) (hsg : (a < 0) ↔ (u < 0)) : nu a b s = u := by
  have e1 : ab a * s = ab u * b := by
    unfold ab
    by_cases z : a < 0
    · rw [if_pos z, if_pos (hsg.mp z), Int.neg_mul, Int.neg_mul, h]
    · rw [if_neg z, if_neg (fun q => z (hsg.mpr q)), h]
  have e2 : (2 * ab a * s + b) / (2 * b) = ab u := by
    have : 2 * ab a * s + b = b + 2 * b * ab u := by
      rw [Int.mul_assoc, e1, Int.mul_comm (ab u) b, ← Int.mul_assoc]
      omega
    rw [this, Int.add_mul_ediv_left _ _ (by omega : 2 * b ≠ 0), Int.ediv_eq_zero_of_lt (by omega) (by omega)]
    omega
  unfold nu
  rw [e2]
  unfold ab
  by_cases z : a < 0
  · rw [if_pos z, if_pos (hsg.mp z)]
    omega
  · rw [if_neg z, if_neg (fun q => z (hsg.mpr q))]
/-! ## What a decimal looks like -/
def tenP (p : Nat) : Nat := 10 ^ p
def decB (u : Int) (p : Nat) : List Nat := digs (u.natAbs / 10 ^ p) ++ (if p = 0 then [] else 46 :: zf p (u.natAbs % 10 ^ p))
def decL (u : Int) (p : Nat) : List Nat := (if u < 0 then [45] else []) ++ decB u p
end Lc
namespace Lc
open PySem PySem.Spec PyProof.Rows L2 PySem.NumText
theorem appL (x y : Str) : (x ++ y).cps.toList = x.cps.toList ++ y.cps.toList := by
  show (x.cps ++ y.cps).toList = _
  simp
theorem numL (m : Nat) : (PySem.Str.ofString (toString ((m : Nat) : Int))).cps.toList = digs m := W.KIN.signs_num m
theorem zfillL {a : Str} {k r : Nat} (h : a.cps.toList = digs r) : (Txt.zfill a (k : Int)).cps.toList = zf k r := by
  have ln : a.length = (digs r).length := by rw [lenL, h]
  unfold Txt.zfill
  by_cases z : (k : Int) ≤ a.length
  · rw [if_pos z, h]
    unfold zf
    rw [show k - (digs r).length = 0 by omega]
    rfl
  · rw [if_neg z]
    obtain ⟨c, rr, e, _⟩ := digs_head r
    have c0 : a.cps[0]? = some c := by
      rw [← Array.getElem?_toList, h, e]
      rfl
    have cd := digs_all r c (by rw [e]; exact List.mem_cons_self)
    have e2 : zfilled a ((k : Int).toNat - a.length) = Builtin.Str.padded a ((k : Int).toNat - a.length) 0 48 := by
      unfold zfilled
      rw [c0]
      split
      · rename_i q
        injection q with q
        omega
      · rename_i q
        injection q with q
        omega
      · rfl
    rw [e2]
    unfold Builtin.Str.padded zf
    show (Array.replicate ((k : Int).toNat - a.length) 48 ++ a.cps ++ Array.replicate 0 48).toList = _
    rw [Array.toList_append, Array.toList_append, Array.toList_replicate, Array.toList_replicate, h, ln]
    simp
theorem nu_le {n d s : Int} (hd : 0 < d) (hs : 0 < s) : ab (nu n d s) ≤ ab n * s := by
  have h := (nu_near (n := n) hd hs).1
  have N0 : 0 ≤ ab n * s := Int.mul_nonneg (ab_nonneg n) (Int.le_of_lt hs)
  generalize ab n * s = N at h N0
  generalize ab (nu n d s) = U at h
  rcases (by omega : N < U ∨ U ≤ N) with z | z
  · have a1 : (N + 1) * d ≤ U * d := Int.mul_le_mul_of_nonneg_right (by omega) (by omega)
    have a2 : N * 1 ≤ N * d := Int.mul_le_mul_of_nonneg_left (by omega) N0
    rw [Int.add_mul, Int.one_mul] at a1
    omega
  · exact z
inductive Pk (H : Hp) : V → Prop
  | ty {v : V} {t : String} (h : TyN H v t) (n : t ≠ "int") : Pk H v
  | out {k : Int} (h : k < 0 ∨ 9 < k) : Pk H (.int k)
theorem Pk.same {H H' : Hp} {v : V} (h : Pk H v) (s : Same H H') : Pk H' v := by
  cases h with
  | ty h n => exact .ty (h.same s) n
  | out h => exact .out h
theorem pad9 {k : Nat} (h : k ≤ 9) : PadOk (k : Int) = true := by
  have : ∀ k ≤ 9, PadOk ((k : Nat) : Int) = true := by decide +kernel
  exact this k h
theorem ten_pos (k : Nat) : (0 : Int) < 10 ^ k := Int.pow_pos (by decide)
theorem ten_small {k : Nat} (h : k ≤ 9) : ((10 : Int) ^ k).natAbs < 2 ^ 40 := by
  have : ∀ k ≤ 9, ((10 : Int) ^ k).natAbs < 2 ^ 40 := by decide +kernel
  exact this k h
end Lc
namespace Lc
open PySem PySem.Spec PyProof.Rows L2 PySem.NumText
theorem cut_first (x : Str) : (cutS x none (some 1)).cps.toList = x.cps.toList.take 1 := by
  have e : HT.sIx x.length 0 none = 0 := rfl
  have e2 : HT.sIx x.length x.length (some 1) = min 1 x.length := rfl
  unfold cutS
  rw [e, e2]
  show (x.cps.toList.drop 0).take (min 1 x.length - 0) = _
  rw [List.drop_zero, Nat.sub_zero, lenL]
  cases x.cps.toList with
  | nil => rfl
  | cons c r => simp
theorem cut_rest (x : Str) : (cutS x (some 1) none).cps.toList = x.cps.toList.drop 1 := by
  have e : HT.sIx x.length 0 (some 1) = min 1 x.length := rfl
  have e2 : HT.sIx x.length x.length none = x.length := rfl
  unfold cutS
  rw [e, e2]
  show (x.cps.toList.drop (min 1 x.length)).take (x.length - min 1 x.length) = _
  rw [lenL]
  cases x.cps.toList with
  | nil => rfl
  | cons c r => simp
theorem str_ext {x y : Str} (h : x.cps.toList = y.cps.toList) : x = y := by
  obtain ⟨⟨l⟩⟩ := x
  obtain ⟨⟨m⟩⟩ := y
  have : l = m := h
  rw [this]
theorem dec_head (u : Int) (k : Nat) : ∃ c r, decB u k = c :: r ∧ 48 ≤ c ∧ c ≤ 57 := by
  obtain ⟨c, r, e, _⟩ := digs_head (u.natAbs / 10 ^ k)
  have h := digs_all (u.natAbs / 10 ^ k) c (by rw [e]; exact List.mem_cons_self)
  exact ⟨c, _, by unfold decB; rw [e]; rfl, h.1, h.2⟩
theorem minus_is {x : Str} {u : Int} {k : Nat} (h : x.cps.toList = decL u k) : decide (V.str (cutS x none (some 1)) = V.str "-") = decide (u < 0) := by
  rw [Bool.eq_iff_iff, decide_eq_true_iff, decide_eq_true_iff]
  have e45 : (PySem.Str.ofString "-").cps.toList = [45] := by decide +kernel
  constructor
  · intro q
    injection q with q
    have z := cut_first x
    rw [q, h, e45] at z
    rcases (by omega : u < 0 ∨ ¬ u < 0) with g | g
    · exact g
    · obtain ⟨c, r, e, h1, h2⟩ := dec_head u k
      unfold decL at z
      rw [if_neg g, e] at z
      have : (45 : Nat) = c := by simpa using z
      omega
  · intro q
    have : cutS x none (some 1) = PySem.Str.ofString "-" := by
      apply str_ext
      rw [cut_first, h, e45]
      unfold decL
      rw [if_pos q]
      rfl
    rw [this]
theorem below_is {x : Str} {u : Int} {k : Nat} (h : x.cps.toList = decL u k) (n : u < 0) : (cutS x (some 1) none).cps.toList = decB u k := by
  rw [cut_rest, h]
  unfold decL
  rw [if_pos n]
  rfl
theorem digs_len_le {m : Nat} (h : m < 2 ^ 1100) : (digs m).length ≤ 1921 := by
  rw [← numL, ← lenL]
  refine int_text_len_1921 ?_
  rw [Int.natAbs_natCast]
  by_cases z : m = 0
  · rw [z]
    decide
  · exact Nat.lt_of_lt_of_le ((Nat.log2_lt z).mpr h) (by decide)
theorem decL_len {u : Int} {k : Nat} (h : u.natAbs < 2 ^ 1100) (k9 : k ≤ 9) : (decL u k).length ≤ 1940 ∧ (decB u k).length ≤ 1939 := by
  have h1 := digs_len_le (Nat.lt_of_le_of_lt (Nat.div_le_self u.natAbs (10 ^ k)) h)
  have h2 : (decB u k).length ≤ 1939 := by
    unfold decB
    rw [List.length_append]
    split
    · simp; omega
    · have := zf_len (p := k) (r := u.natAbs % 10 ^ k) (by omega) (Nat.mod_lt _ (Nat.pow_pos (by decide)))
      rw [List.length_cons, this]
      omega
  refine ⟨?_, h2⟩
  unfold decL
  rw [List.length_append]
  split
  · simp only [List.length_cons, List.length_nil]; omega
  · simp only [List.length_nil]; omega
theorem joinL_toL (ys : List Str) : (Txt.join (PySem.Str.ofString "") ys).cps.toList = (ys.map fun y => y.cps.toList).flatten := by
  have e : Txt.join (PySem.Str.ofString "") ys = Str.join Str.empty ys := (StrLaws.glued_eq_join (PySem.Str.ofString "") ys).trans rfl
  rw [e]
  have key : ∀ ys : List Str, (Str.join Str.empty ys).cps.toList = (ys.map fun y => y.cps.toList).flatten := by
    intro ys
    induction ys with
    | nil => rfl
    | cons x r ih =>
      cases r with
      | nil =>
        show x.cps.toList = _
        simp
      | cons y r =>
        have e : Str.join Str.empty (x :: y :: r) = x ++ Str.empty ++ Str.join Str.empty (y :: r) := rfl
        rw [e, appL, appL, ih]
        simp [Str.empty]
  exact key ys
def ten10 : Str := "0123456789"
theorem index_ten {c : Nat} (h : 48 ≤ c ∧ c ≤ 57) : Builtin.Str.occurrences ten10 ⟨#[c]⟩ 0 ten10.length 1 = [c - 48] := by
  have key : ∀ d < 10, Builtin.Str.occurrences ten10 ⟨#[48 + d]⟩ 0 ten10.length 1 = [d] := by decide +kernel
  have := key (c - 48) (by omega)
  rw [show 48 + (c - 48) = c by omega] at this
  exact this
theorem in_ten {c : Nat} (h : 48 ≤ c ∧ c ≤ 57) : decide (c ∈ ten10.cps.toList) = true := by
  have key : ∀ d < 10, decide (48 + d ∈ ten10.cps.toList) = true := by decide +kernel
  have := key (c - 48) (by omega)
  rw [show 48 + (c - 48) = c by omega] at this
  exact this
end Lc
set_option Elab.async false
set_option linter.all false
set_option maxRecDepth 100000
set_option maxHeartbeats 4000000
namespace Lc
open PySem PySem.Spec PyProof.Rows L2
theorem ud_entry : entryFor table "dict.update.loop" = some Builtin.«dict.update.loop» := entryFor_of_tree (by kernel_rfl)
theorem ud_plain : plainId "dict.update.loop" = true := by decide +kernel
section
variable {prog : Program} {w : World} {A : Around} {E : Value → Shared → Prop}
/-- the walk over the pairs -/
theorem upd_loopT {R : Result → Shared → Prop} {S I l : Addr} {items : Array Value} {res : Value} (hh : A.handled = none) (hlI : l ≠ I) (hSI : S ≠ I) (hSl : S ≠ l) :
    ∀ (rest : List (Key × Value)) (i : Nat) (acc : List (Key × Value)) (ix : Int) (t : Tok) (s : Shared), items.size = i + rest.length → acc.length + rest.length ≤ sizeLine →
      (∀ (j : Nat) (q : Key × Value), rest[j]? = some q → ∃ (b : Addr) (u : Value), items[i + j]? = some (.ref b) ∧ b ≠ S ∧ b ≠ I ∧ IsTup s.heap b #[u, q.2] ∧ keyIs q.1 u = true) →
      s.heap.IsTupleIter I l i → s.heap.IsTuple l items → s.heap.DictOf (mixKind prog w) S acc →
      (∀ h' tk, h'.DictOf (mixKind prog w) S (merged acc rest) → (∀ b o, b ≠ S → b ≠ I → s.heap.get? b = some o → h'.get? b = some o) → R (.ok (.ret res)) { s with heap := h', toks := tk }) →
      codeAny (model prog w) A (.builtin "dict.update.loop" ⟨[.ref S, .ref I, .int ix t, res], []⟩) R s
  | [], i, acc, ix, t, s, hsz, hln, ht, hit, hl, hm, hR => by
    refine codeAny_builtin ud_entry ?_
    rw [Around.under_plainId ud_plain _]
    show wpAny _ A.in1 (pyNext (.ref I) >>= _) _ _ s
    refine wpAny_bind (wpAny_pyNext_tuple_end (A := A.in1) hh hit hl (by first | exact Array.getElem?_eq_none (Nat.le_of_eq hsz) | (simp at hsz; simp; omega)) fun h' he => ?_)
    show wpAny _ A.in1 (Builtin.Dict.addKeywords S [] >>= _) _ _ _
    refine wpAny_bind (wpAny_pure (wpAny_pure ?_))
    exact hR h' s.toks (hm.extBut he hSI) fun b o _ hb e => he b o hb e
  | q :: rest, i, acc, ix, t, s, hsz, hln, ht, hit, hl, hm, hR => by
    obtain ⟨b, u, hb, hbS, hbI, htup, hk⟩ := ht 0 q rfl
    rw [List.length_cons] at hsz hln
    refine codeAny_builtin ud_entry ?_
    rw [Around.under_plainId ud_plain _]
    show wpAny _ A.in1 (pyNext (.ref I) >>= _) _ _ s
    refine wpAny_bind (wpAny_pyNext_tuple_item (x := .ref b) hit hl (by simpa using hb) fun h1 hit1 hs1 => ?_)
    have ht1 : IsTup h1 b #[u, q.2] := htup.extBut hs1.extBut hbI
    have hl1 : h1.IsTuple l items := hl.extBut hs1.extBut hlI
    have hm1 : h1.DictOf (mixKind prog w) S acc := hm.extBut hs1.extBut hSI
    obtain ⟨o, ho, hc, n, hd⟩ := id ht1
    show wpAny _ A.in1 (holding [Value.ref b] _ >>= _) _ _ _
    refine wpAny_bind (wpAny_holding ?_)
    refine wpAny_bind (wpAny_tryCatch ?_)
    unfold Builtin.Dict.pairItems
    refine wpAny_bind (wpAny_typeOf (T := "tuple") ⟨o, ho, hc⟩ ?_)
    rw [if_pos (by first | decide | rfl | simp)]
    refine wpAny_bind (wpAny_seqItems ho hd (wpAny_pure ?_))
    show wpAny _ A.in1 (holding [u, q.2] (dictSet S u q.2)) _ _ _
    refine wpAny_holding (wpAny_dictSet_pairs (knd := mixKind prog w) (k := q.1) hk hm1 (fun h2 hm2 hs2 => ?_) (by omega))
    refine wpAny_pure ⟨plainId_quiet ud_plain _, upd_loopT (items := items) hh hlI hSI hSl rest (i + 1) (stored acc q.1 q.2) (ix + 1) 0 _ (show items.size = i + 1 + rest.length by omega) ?_ (fun j q' e => ?_) ?_ ?_ hm2 fun h' tk hd' k => ?_⟩
    · have z := stored_length_le acc q.1 q.2
      omega
    · obtain ⟨b', u', hb', hbS', hbI', htup', hk'⟩ := ht (j + 1) q' (by simpa using e)
      refine ⟨b', u', ?_, hbS', hbI', (htup'.extBut hs1.extBut hbI').extBut hs2.extBut hbS', hk'⟩
      rw [show i + 1 + j = i + (j + 1) by omega]
      exact hb'
    · exact hit1.at fun o' e => hs2.extBut I o' (Ne.symm hSI) e
    · exact hl1.extBut hs2.extBut (Ne.symm hSl)
    · exact hR h' tk hd' fun c oc h3 h4 e => k c oc h3 h4 (hs2.extBut c oc h3 (hs1.extBut c oc h4 e))
/-- dict(t) of a tuple of pairs -/
theorem call_dict_pairsT {s : Shared} {l : Addr} {ol : Obj} {items : Array Value} {n : Nat} {prs : List (Key × Value)} {Q : Value → Shared → Prop} (hh : A.handled = none) (hl : s.heap.get? l = some ol) (hc : ol.cls = .type "tuple") (hd : ol.dict = none)
    (hdat : ol.data = .seq items n) (hsz : items.size = prs.length) (hln : prs.length ≤ sizeLine)
    (ht : ∀ (j : Nat) (q : Key × Value), prs[j]? = some q → ∃ (b : Addr) (u : Value), items[j]? = some (.ref b) ∧ IsTup s.heap b #[u, q.2] ∧ keyIs q.1 u = true)
    (h : ∀ h' tk, h'.DictOf (mixKind prog w) s.heap.objs.size (merged [] prs) → (∀ b o, s.heap.get? b = some o → h'.get? b = some o) → Q (.ref s.heap.objs.size) { s with heap := h', toks := tk }) :
    wpAny (model prog w) A (call (.type "dict") [.ref l]) Q E s := by
  refine callType_codes (Q₁ := fun obj s₁ => obj = .ref s.heap.objs.size ∧ s₁ = { s with heap := s.heap.push { cls := .type "dict", data := .dict #[] } }) PySem.F.kt_called_dict (PySem.F.kt_typeCall_dict_1 _) PySem.F.entry_dict_init (kt_code_dict_new _ ⟨rfl, rfl⟩) ?_
  rintro obj s₁ ⟨rfl, rfl⟩
  have hnew : (s.heap.push { cls := .type "dict", data := .dict #[] }).DictOf (mixKind prog w) s.heap.objs.size [] := Heap.DictOf.new s.heap
  have k0 : ∀ b o, s.heap.get? b = some o → (s.heap.push { cls := .type "dict", data := .dict #[] }).get? b = some o := fun b o e => Heap.get?_push_of_some _ e
  refine ⟨hnew.typeIs, PySem.F.args_dict_init_2 _ _, ?_⟩
  unfold Builtin.«dict.__init__»
  refine wpAny_bind ?_
  unfold Builtin.Dict.selfAndRest
  refine wpAny_bind (wpAny_notOrdered_dict hnew.typeIs ?_)
  show wpAny _ _ (pure (s.heap.objs.size, [Value.ref l])) _ _ _
  refine wpAny_pure ?_
  show wpAny _ _ (Builtin.Dict.updateFrom "dict.__init__" s.heap.objs.size (.ref l) [] .none) _ _ _
  unfold Builtin.Dict.updateFrom
  refine wpAny_bind (wpAny_typeOf (T := "tuple") ⟨ol, k0 _ _ hl, hc⟩ ?_)
  rw [if_pos (by first | decide | rfl | simp)]
  refine wpAny_bind (getAttrOr_miss_tuple (k0 _ _ hl) hc hdat hd tuple_no_keys (by decide +kernel) hh fun h1 tk1 hk1 => ?_)
  rw [if_pos (show (none : Option Value).isNone = true from rfl)]
  refine wpAny_bind (wpAny_rule ?_)
  have hl1 : h1.IsTuple l items := ⟨ol, hk1 _ _ (k0 _ _ hl), hc, n, hdat⟩
  have hS1 : s.heap.objs.size < h1.objs.size := by
    have e : (s.heap.push { cls := .type "dict", data := .dict #[] }).get? s.heap.objs.size = some { cls := .type "dict", data := .dict #[] } := Heap.get?_push_size _ rfl
    exact Heap.lt_size (hk1 _ _ e)
  refine wpAny_bind (wpAny_pyIter_tuple hl1 ?_)
  have k2 : ∀ b o, h1.get? b = some o → (h1.push { cls := .type "tuple_iterator", data := .fields #[.ref l, .int 0 0] }).get? b = some o := fun b o e => Heap.get?_push_of_some _ e
  have hlt : l < s.heap.objs.size := Heap.lt_size hl
  have key := upd_loopT (prog := prog) (w := w) (A := A.in1) (R := wants (fun r s₂ => r = .none ∧ Q (.ref s.heap.objs.size) s₂) E) (S := s.heap.objs.size) (I := h1.objs.size) (l := l) (items := items) (res := Value.none) hh
    (Nat.ne_of_lt (Nat.lt_trans hlt hS1)) (Nat.ne_of_lt hS1) (Nat.ne_of_gt hlt) prs 0 [] 0 0
    { s with heap := h1.push { cls := .type "tuple_iterator", data := .fields #[.ref l, .int 0 0] }, toks := tk1 } (by rw [hsz, Nat.zero_add]) (by rw [List.length_nil, Nat.zero_add]; exact hln)
    (fun j q e => by
      obtain ⟨b, u, e1, e2, e3⟩ := ht j q e
      have hb : b < s.heap.objs.size := e2.lt
      exact ⟨b, u, by rw [Nat.zero_add]; exact e1, Nat.ne_of_lt hb, Nat.ne_of_lt (Nat.lt_trans hb hS1), e2.keeps fun c o z => k2 _ _ (hk1 _ _ (k0 _ _ z)), e3⟩)
    ⟨_, Heap.get?_push_size _ rfl, rfl, rfl⟩ (hl1.at fun o e => k2 _ _ e) ((hnew.at fun o e => hk1 _ _ e).at fun o e => k2 _ _ e)
    (fun h' tk hd' k => ⟨rfl, h h' tk hd' fun b o e => k b o (Nat.ne_of_lt (Heap.lt_size e)) (Nat.ne_of_lt (Nat.lt_trans (Heap.lt_size e) hS1)) (k2 _ _ (hk1 _ _ (k0 _ _ e)))⟩)
  first
    | exact wpAny_pure ⟨plainId_quiet ud_plain _, key⟩
    | exact wpAny_bind (wpAny_pure (wpAny_pure ⟨plainId_quiet ud_plain _, key⟩))
end
/-! ## tuples whose very object is known: they have no table of their own -/
def ZT (H : Hp) (a : Addr) (xs : List V) : Prop := ∃ ob : Obj, ob.cls = .type "tuple" ∧ ob.dict = none ∧ H a = some (.frz ob (.tup xs))
theorem ZT.rd {H : Hp} {a : Addr} {xs : List V} (h : ZT H a xs) : Rd H a (.tup xs) := let ⟨ob, _, _, e⟩ := h; .inr ⟨ob, e⟩
theorem ZT.sq {K : PySem.W.Frag} {H : Hp} {a : Addr} {xs : List V} (h : ZT H a xs) : SqT K H a xs := .inl h.rd
theorem ZT.same {H H' : Hp} {a : Addr} {xs : List V} (h : ZT H a xs) (s : Same H H') : ZT H' a xs := let ⟨ob, c, d, e⟩ := h; ⟨ob, c, d, s _ _ e⟩
theorem _root_.L2.Rd.same {H H' : Hp} {a : Addr} {xs : List V} (h : Rd H a (.tup xs)) (s : Same H H') : Rd H' a (.tup xs) := by
  rcases h with h | ⟨o, h⟩
  · exact .inl (s _ _ h)
  · exact .inr ⟨o, s _ _ h⟩
theorem _root_.L2.Rd.sq {K : PySem.W.Frag} {H : Hp} {a : Addr} {xs : List V} (h : Rd H a (.tup xs)) : SqT K H a xs := .inl h
theorem Tape.neR {t p : Addr} {H : Hp} {xs : List V} (h : Tape H t) (e : Rd H p (.tup xs)) : p ≠ t := by
  intro z
  subst z
  obtain ⟨_, _, _, _, _, h1, _⟩ := h
  rcases e with e | ⟨o, e⟩ <;> (rw [h1] at e; cases e)
theorem _root_.L2.Rd.b {t : Addr} {H H' : Hp} {a : Addr} {xs : List V} (h : Rd H a (.tup xs)) (T : Tape H t) (s : SameB t H H') : Rd H' a (.tup xs) := by
  have n := T.neR h
  rcases h with h | ⟨o, h⟩
  · exact .inl (s _ _ n h)
  · exact .inr ⟨o, s _ _ n h⟩
theorem ZT.b {t : Addr} {H H' : Hp} {a : Addr} {xs : List V} (h : ZT H a xs) (T : Tape H t) (s : SameB t H H') : ZT H' a xs := by
  have n := T.neR h.rd
  obtain ⟨ob, c, d, e⟩ := h
  exact ⟨ob, c, d, s _ _ n e⟩
section
variable {X : Cx}
theorem zt_new {pins : List (Addr × Obj)} {σ : L2.St} {H : Hp} {s : Shared} {ys : List V} {its : List Value} (I : Inv X pins σ H s) (hz : ys.length ≤ sizeLine) (r : Vals ys its) :
    Inv X pins σ (upd H s.heap.objs.size (.frz { cls := .type "tuple", data := .seq its.toArray } (.tup ys))) { s with heap := s.heap.push { cls := .type "tuple", data := .seq its.toArray } } :=
  I.laid (t' := s.toks) (fun b o e => Heap.get?_push_of_some _ e) (Nat.le_refl _) (show ObjOk X.prog X.w _ _ _ (.frz _ (.tup ys)) from ⟨Heap.get?_push_size _ rfl, hz, its, r, IsTup.new _ _⟩)
/-- tuple(list): what is made is known to be plain -/
theorem call_tupleZ : CallR X (.type "tuple") (fun xs H Q => ∃ p ys, xs = [.ref p] ∧ SqL X.K H p ys ∧ ∀ l ob, H l = none → ob.cls = .type "tuple" → ob.dict = none → Q (.ref l) (upd H l (.frz ob (.tup ys)))) := by
  intro pins s σ H xs us Q I r h
  obtain ⟨p, ys, rfl, hq, q⟩ := h
  obtain ⟨u, rfl, rx⟩ := vals1 r
  cases rx
  obtain ⟨its, r', pl, hz⟩ := I.list hq
  have hlen := r'.length
  refine call_tuple_list pl.isList (fun h' kp => ?_) (by simp only [List.size_toArray] <;> omega)
  have I1 : Inv X pins σ H { s with heap := h' } := I.kept (t' := s.toks) kp
  exact ⟨.ref h'.objs.size, _, zt_new I1 hz r', rfl, q _ _ (I1.hok.fresh (Nat.le_refl _)) rfl rfl⟩
abbrev rCatZ (K : PySem.W.Frag) : V → V → Hp → VK → Prop := fun x y H Q => ∃ (a b : Addr) (xs ys : List V), x = .ref a ∧ y = .ref b ∧ SqT K H a xs ∧ SqT K H b ys ∧ xs ≠ [] ∧ xs.length + ys.length ≤ sizeLine ∧ (ys = [] → Q (.ref a) H) ∧ (ys ≠ [] → ∀ p ob, H p = none → ob.cls = .type "tuple" → ob.dict = none → Q (.ref p) (upd H p (.frz ob (.tup (xs ++ ys)))))
theorem op_catZ : OpR X (binaryOp .Add) (rCatZ X.K) := by
  intro pins s σ H x y v u Q I rx ry h
  obtain ⟨a, b, xs, ys, rfl, rfl, ha, hb, hx, hz, q1, q2⟩ := h
  cases rx
  cases ry
  obtain ⟨its, r1, p1, _⟩ := I.tuple ha
  obtain ⟨its2, r2, p2, _⟩ := I.tuple hb
  refine HT.cat_tup p1 p2 (fun z => hx (r1.nil_iff.mp z)) (fun z => ⟨.ref a, H, I, rfl, q1 (r2.nil_iff.mp z)⟩) (fun z => ?_) (by rw [← r1.length, ← r2.length]; exact hz)
  exact ⟨.ref s.heap.objs.size, _, zt_new I (by rw [List.length_append]; exact hz) (r1.append r2), rfl, q2 (fun w => z (r2.nil_iff.mpr w)) _ _ (I.hok.fresh (Nat.le_refl _)) rfl rfl⟩
/-- dict(t) of a plain tuple of pairs: later pairs win -/
theorem call_dictZ (hcalm : X.calm = true) : CallR X (.type "dict") (fun xs H Q => ∃ (a : Addr) (ps : List Addr) (kvs : List (Key × V)), xs = [.ref a] ∧ ZT H a (ps.map V.ref) ∧ Paired (fun p kv => SqT X.K H p [kV kv.1, kv.2]) ps kvs ∧
    ∀ p, H p = none → Q (.ref p) (upd H p (.dK (mergeK [] kvs)))) := by
  intro pins s σ H xs us Q I r q
  obtain ⟨a, ps, kvs, ex, ⟨o, hc, hd, hq⟩, hp, q⟩ := q
  subst ex
  obtain ⟨u, eu, rx⟩ := vals1 r
  subst eu
  cases rx
  obtain ⟨ho, hz, its, rv, o', ho', _, n, hdat⟩ := I.hok a _ hq
  rw [ho] at ho'
  cases ho'
  have ei := refs_at rv
  subst ei
  rw [List.length_map] at hz
  obtain ⟨prs, rel, hl, hpr⟩ := pairs_of I hp
  refine call_dict_pairsT (prs := prs) (I.ok.hd hcalm) ho hc hd hdat (by simp [hl]) (by rw [hl]; exact hz) (fun j q' e => ?_) fun h' tk hd' k => ?_
  · obtain ⟨b, u, e1, e2, e3⟩ := hpr j q' e
    exact ⟨b, u, by simp [e1], e2, e3⟩
  · have hm : (s.heap.objs.size == sysModules) = false := beq_eq_false_iff_ne.mpr (Nat.ne_of_gt I.big)
    have hlen : (mergeK [] kvs).length ≤ sizeLine := by
      refine Nat.le_trans (length_mergeK kvs []) ?_
      rw [List.length_nil, Nat.zero_add, rel.length, hl]
      exact hz
    exact ⟨.ref s.heap.objs.size, upd H s.heap.objs.size (.dK (mergeK [] kvs)), I.laid (t' := tk) k (Nat.le_refl _) (show ObjOk X.prog X.w _ _ _ (.dK (mergeK [] kvs)) from ⟨hlen, hm, merged [] prs, KV.merge rel .nil, hd'⟩), rfl, q _ (I.hok.fresh (Nat.le_refl _))⟩
end
end Lc
namespace Lc
open PySem PySem.Spec PyProof.Rows L2
/-- a tuple, or a list -/
def LT (H : Hp) (a : Addr) (xs : List V) : Prop := H a = some (.tup xs) ∨ H a = some (.lst xs)
theorem LT.same {H H' : Hp} {a : Addr} {xs : List V} (h : LT H a xs) (s : Same H H') : LT H' a xs := h.imp (s _ _) (s _ _)
theorem LT.sq {K : PySem.W.Frag} {H : Hp} {a : Addr} {xs : List V} (h : LT H a xs) : SqL K H a xs ∨ SqT K H a xs := h.symm.imp SqL.of SqT.of
end Lc
set_option Elab.async false
set_option linter.all false
set_option maxRecDepth 100000
set_option maxHeartbeats 4000000
namespace Lc
open PySem PySem.Spec PyProof.Rows L2
/-! ## sorted(xs), xs a list of things that are read as alike data -/
abbrev dLe : PyData → PyData → Bool := PySem.W.dataLe false (fun d : PyData => d)
def rSortD (K : PySem.W.Frag) : List V → Hp → VK → Prop := fun vs H Q => ∃ (a : Addr) (xs : List V) (ds : List PyData), vs = [.ref a] ∧ SqL K H a xs ∧ (∀ x ∈ xs, ∃ b, x = V.ref b) ∧ DhAll H xs ds ∧ PySem.W.AllAlike ds ∧ PySem.W.Sortable ds ∧ (∀ d ∈ ds, d.hasDict = false ∧ d.depth ≤ 50) ∧
  ∀ (ys : List V) (p : Addr), ys.Perm xs → DhAll H ys (ds.mergeSort dLe) → H p = none → Q (.ref p) (upd H p (.lst ys))
theorem back_perm {us out : List Value} {xs : List V} (e : xs = us.map backV) (h : out.Perm us) : (out.map backV).Perm xs := by
  rw [e]
  exact h.map backV
theorem each_dh {H : Hp} : ∀ {us : List Value} {ds : List PyData}, PySem.W.EachIs (fun (v : Value) d => Dh H (backV v) d) us ds → DhAll H (us.map backV) ds
  | _, _, .nil => .nil
  | _, _, .cons h r => .cons h (each_dh r)
theorem dh_each {H : Hp} : ∀ {us : List Value} {ds : List PyData}, DhAll H (us.map backV) ds → PySem.W.EachIs (fun (v : Value) d => Dh H (backV v) d) us ds
  | [], _, .nil => .nil
  | _ :: _, _, .cons h r => .cons h (dh_each r)
section
variable {X : Cx}
theorem dh_readsAll {pins : List (Addr × Obj)} {σ : L2.St} {H : Hp} {s : Shared} (I : Inv X pins σ H s) : ∀ {xs : List V} {us : List Value} {ds : List PyData}, Vals xs us → DhAll H xs ds → (∀ d ∈ ds, d.hasDict = false ∧ d.depth ≤ 50) → PySem.W.EachIs (fun v d => ∃ as, Reads s.heap v d as) us ds
  | _, _, _, .nil, .nil, _ => .nil
  | _, _, _, .cons r rs, .cons h hs, n => by
    obtain ⟨as, q⟩ := Dp.reads I _ _ _ (h.dp (n _ List.mem_cons_self).1) r
    exact .cons ⟨as, q⟩ (dh_readsAll I rs hs fun d hd => n d (List.mem_cons_of_mem _ hd))
theorem each_mono' {α β : Type} {R S : α → β → Prop} (f : ∀ a b, R a b → S a b) : ∀ {as : List α} {bs : List β}, PySem.W.EachIs R as bs → PySem.W.EachIs S as bs
  | _, _, .nil => .nil
  | _, _, .cons h r => .cons (f _ _ h) (each_mono' f r)
theorem call_sortedDt (hu : X.A.units + 64 < cLine) : CallR X (.builtin "sorted") (rSortD X.K) := by
  intro pins s σ H vs us Q I r h
  obtain ⟨a, xs, ds, rfl, hs, hx, hd, al, so, dp, q⟩ := h
  obtain ⟨its, rv, hl, hz⟩ := I.list hs
  obtain ⟨u, rfl, ru⟩ := vals1 r
  obtain rfl : u = Value.ref a := ru
  obtain ⟨e1, e2⟩ := refs_back rv hx
  have rd : PySem.W.EachIs (fun v d => ∃ as, Reads s.heap v d as) its ds := dh_readsAll I rv hd dp
  have lz : its.length ≤ sizeLine := by rw [← rv.length]; exact hz
  have keep : ∀ b o, s.heap.get? b = some o → (PySem.W.sortingHeap (PySem.W.copyHeap s.heap its) (s.heap.objs.size + 1) its).get? b = some o := fun b o e => PySem.W.sorting_copy_old e
  have rd2 : PySem.W.EachIs (fun v d => ∃ as, Reads (PySem.W.sortingHeap (PySem.W.copyHeap s.heap its) (s.heap.objs.size + 1) its) v d as) its ds := each_mono' (fun v d ⟨as, r⟩ => ⟨as, Reads.keeps keep r⟩) rd
  have S := PySem.W.SortsAt.data (prog := X.prog) (w := X.w) (A := X.A.in1.in1) (s := { s with heap := PySem.W.sortingHeap (PySem.W.copyHeap s.heap its) (s.heap.objs.size + 1) its }) rd2 al so fun d hm => by
    have := (dp d hm).2
    show X.A.units + 1 + 1 + d.depth < cLine
    omega
  have e3 : PySem.W.EachIs (fun (v : Value) d => Dh H (backV v) d) (PySem.W.sortVals (PySem.W.dataKind (PySem.W.sortingHeap (PySem.W.copyHeap s.heap its) (s.heap.objs.size + 1) its) ds) false its its) (ds.mergeSort dLe) :=
    PySem.W.sortVals_each (κ := PySem.W.dataKind (PySem.W.sortingHeap (PySem.W.copyHeap s.heap its) (s.heap.objs.size + 1) its) ds) (rev := false) (fun d : PyData => PySem.W.keyToks d) (dh_each (by rw [← e1]; exact hd)) (PySem.W.each_keys al rd2)
  have pm : (PySem.W.sortVals (PySem.W.dataKind (PySem.W.sortingHeap (PySem.W.copyHeap s.heap its) (s.heap.objs.size + 1) its) ds) false its its).Perm its := by
    unfold PySem.W.sortVals
    have z := (List.mergeSort_perm (its.zip its) (PySem.W.sortLe (PySem.W.dataKind (PySem.W.sortingHeap (PySem.W.copyHeap s.heap its) (s.heap.objs.size + 1) its) ds).toKeyOrd false fun p : Keyed => PySem.W.keyD (PySem.W.dataKind (PySem.W.sortingHeap (PySem.W.copyHeap s.heap its) (s.heap.objs.size + 1) its) ds) p.1)).map Prod.snd
    rw [List.map_snd_zip (Nat.le_refl _)] at z
    exact z
  refine PySem.W.sorted_vals hl.isList S lz ?_
  generalize PySem.W.sortVals (PySem.W.dataKind (PySem.W.sortingHeap (PySem.W.copyHeap s.heap its) (s.heap.objs.size + 1) its) ds) false its its = out at e3 pm ⊢
  have h3 : ∀ u ∈ out, ∃ a, u = Value.ref a := fun u hu => e2 u (pm.mem_iff.mp hu)
  obtain ⟨n, hn⟩ := sortedAll_at s.heap its out.toArray
  refine ⟨.ref _, upd H (s.heap.objs.size + 1) (.lst (out.map backV)), I.laid (t' := s.toks) (fun b o e => sortedAll_old e) (Nat.le_succ _) ⟨?_, out, n, vals_back h3, hn⟩, rfl, q _ _ (back_perm e1 pm) (each_dh e3) (I.hok.fresh (Nat.le_succ _))⟩
  rw [List.length_map, pm.length_eq]
  exact lz
end
end Lc
set_option Elab.async false
set_option linter.all false
set_option maxRecDepth 100000
set_option maxHeartbeats 4000000
namespace Lc
open PySem PySem.Spec PyProof.Rows L2 He
/-! ## an int in a dict of the module with text keys -/
def diB (K : PySem.W.Frag) (d : Addr) (x : Str) (n : Int) : Bool := match PySem.W.nsIn K d x with
  | some (some (.int m _)) => decide (m = n)
  | _ => false
theorem di_ok {K : PySem.W.Frag} {w : World} {d : Addr} {x : Str} {n : Int} (D : ∃ es n, KDict K w d es n) (h : diB K d x n = true) : KDct K w d x (.int n) ∧ ∃ u, PySem.W.nsIn K d x = some (some u) := by
  unfold diB at h
  split at h
  · rename_i m t q
    obtain ⟨es, k, D⟩ := D
    have e : m = n := of_decide_eq_true h
    exact ⟨⟨es, k, _, D.at_, D.lit, q, ⟨t, by rw [e]⟩⟩, _, q⟩
  · cases h
end Lc
set_option Elab.async false
set_option linter.all false
set_option maxRecDepth 100000
set_option maxHeartbeats 4000000
namespace Lc
open PySem PySem.Spec PyProof.Rows L2
/-! ## a comprehension within a comprehension -/
theorem lookup_relabel_up {env : Env} : ∀ {names : List (Str × NameKind)} {x : Str}, (names.lookup x = some .cell ∨ names.lookup x = some .free) →
    ((names.map fun (n, k) => if (k == NameKind.free && env.scope.kind == .function && env.kindOf n == some .cell) then (n, NameKind.cell) else (n, k)).lookup x = some .cell ∨
     (names.map fun (n, k) => if (k == NameKind.free && env.scope.kind == .function && env.kindOf n == some .cell) then (n, NameKind.cell) else (n, k)).lookup x = some .free)
  | [], x, h => by simp at h
  | (n, k) :: r, x, h => by
    have ih := @lookup_relabel_up env r x
    rw [List.map_cons]
    by_cases e : (x == n) = true
    · rw [List.lookup_cons, e] at h
      dsimp only
      split
      · rw [List.lookup_cons, e]; exact .inl rfl
      · rw [List.lookup_cons, e]; exact h
    · rw [List.lookup_cons, show (x == n) = false by simpa using e] at h
      dsimp only
      split
      · rw [List.lookup_cons, show (x == n) = false by simpa using e]; exact ih h
      · rw [List.lookup_cons, show (x == n) = false by simpa using e]; exact ih h
theorem blkOk_rel {N : List Str} {sc scope : Scope} {own : List (Str × Nat)} {env : Env} (h : BlkOk N sc scope own) : BlkOk N (relabel sc env) scope own :=
  ⟨h.kind, h.uniq, h.ix, fun y hy e => lookup_relabel_up (h.free y hy e), h.own⟩
/-- the statements of a def -/
def bodyOf : Stmt → List Stmt
  | .FunctionDef _ _ body _ _ _ _ _ _ _ => body
  | _ => []
/-- the scope of a comprehension -/
def lcScope : Expr → Scope → Scope
  | .ListComp _ _ sc _, _ => sc
  | _, d => d
end Lc
set_option Elab.async false
set_option linter.all false
set_option maxRecDepth 100000
set_option maxHeartbeats 4000000
namespace Lc
open PySem PySem.Spec PyProof.Rows L2 He
/-! ## The head's facts, with one more Bool -/
abbrev AlE : Type := AlD × Bool
def obsE (n : Nat) (fa : List Fa) (fn : List DefD) (ex : PySem.W.Frag → Bool) (g : Addr → Option Obj) : AlE := (obsD fa fn (frG g (asD g n)), ex (frG g (asD g n)))
def hookE (n : Nat) (fa : List Fa) (fn : List DefD) (ex : PySem.W.Frag → Bool) : PySem.W.Hook where
  α := AlE
  obs := fun s => obsE n fa fn ex s.heap.get?
  val := fun _ => (valD fn, true)
  says := fun _ h => ∃ K : PySem.W.Frag, K.In h ∧ SaysD fa fn K ∧ ex K = true
  of := fun _ _ e => ⟨_, frG_in, congrArg (fun z : AlE => z.1) e, congrArg (fun z : AlE => z.2) e⟩
  keeps := fun _ _ _ ⟨K, hK, c⟩ k => ⟨K, PySem.W.Frag.In.keeps hK k, c⟩
theorem obsE_eq {n : Nat} {fa : List Fa} {fn : List DefD} {ex : PySem.W.Frag → Bool} {g : Addr → Option Obj} {s : Shared} (h : ∀ a, g a = s.heap.get? a) : obsE n fa fn ex g = (hookE n fa fn ex).obs s := by
  have e : g = s.heap.get? := funext h
  rw [e] <;> rfl
/-! ## What is asked of the error classes -/
def optB (a b : Option Bool) : Bool := decide (a = b)
def optV (a b : Option Value) : Bool := decide (a = b)
def oexB (K : PySem.W.Frag) (C : Addr) : Bool := (match K.lookup C with
  | some ⟨.type "type", _, .cls cd, sl⟩ => (match cd.mro, sl.toList with
    | .ref C' :: bm, [_, _, _, _, some (.builtin n), _] => C' == C && n == "ValueError.__new__" && !cd.hasDel && cd.hasDict && PySem.HandSPX.refsVE bm
    | _, _ => false)
  | _ => false) && (eqO (PySem.W.findIn K (.ref C) "__setattr__") (some (some (.builtin "object.__setattr__"))) && (optB (PySem.W.subIn K (.ref C) (.type "BaseException")) (some true) && (optV (PySem.W.typeIn K (.ref C)) (some (.type "type")) && PySem.W.keepIn K (.ref C))))
theorem oexB_ok {K : PySem.W.Frag} {C : Addr} (h : oexB K C = true) : OexC K C := by
  obtain ⟨q, h⟩ := ba h
  obtain ⟨h1, h⟩ := ba h
  obtain ⟨h2, h⟩ := ba h
  obtain ⟨h3, h4⟩ := ba h
  refine ⟨?_, eqO_ok h1, of_decide_eq_true h2, of_decide_eq_true h3, h4⟩
  split at q
  · rename_i dd cd sl ho
    split at q
    · rename_i C' bm k0 k1 k2 k3 n k5 hm hs
      simp only [Bool.and_eq_true, beq_iff_eq, Bool.not_eq_true'] at q
      obtain ⟨⟨⟨⟨rfl, rfl⟩, hdel⟩, hdi⟩, ht⟩ := q
      obtain ⟨nm, bs, mro, ns, qn, hd, sn, sub, ab, col, del⟩ := cd
      dsimp only at hm hdel hdi
      subst hm hdel hdi
      have hsl : sl = #[k0, k1, k2, k3, some (.builtin "ValueError.__new__"), k5] := by
        obtain ⟨l⟩ := sl
        simp only at hs
        rw [hs]
      subst hsl
      exact ⟨nm, qn, ns, bs, bm, sn, sub, ab, col, dd, k0, k1, k2, k3, k5, ho, ht⟩
    · cases q
  · cases q
def xisB (K : PySem.W.Frag) (C : Addr) : Bool := (PySem.W.clsIn K C).isSome && (eqO (PySem.W.findIn K (.ref C) "__getattribute__") (some (some (.builtin "BaseException.__getattribute__"))) && (eqO (PySem.W.findIn K (.ref C) "__getattr__") (some none) &&
  (optB (PySem.W.subIn K (.ref C) (.type "BaseException")) (some true) && (eqO (PySem.W.findIn K (.ref C) "__class__") (some (some (.builtin "object.__class__"))) && (eqO (PySem.W.specialIn K (.builtin "object.__class__") "__get__") (some (some (.builtin "getset_descriptor.__get__"))) &&
  (optB (PySem.W.takesIn K (.builtin "object.__class__")) (some true) && optB (PySem.W.mroIn K C (.type "object")) (some true)))))))
theorem xisB_ok {K : PySem.W.Frag} {C : Addr} (h : xisB K C = true) : XisC K C := by
  obtain ⟨h1, h⟩ := ba h
  obtain ⟨h2, h⟩ := ba h
  obtain ⟨h3, h⟩ := ba h
  obtain ⟨h4, h⟩ := ba h
  obtain ⟨h5, h⟩ := ba h
  obtain ⟨h6, h⟩ := ba h
  obtain ⟨h7, h8⟩ := ba h
  exact ⟨h1, eqO_ok h2, eqO_ok h3, of_decide_eq_true h4, eqO_ok h5, eqO_ok h6, of_decide_eq_true h7, of_decide_eq_true h8⟩
/-- a def without defaults -/
theorem fun_of {K : PySem.W.Frag} {x qual : Str} {st : Stmt} {f : Addr} {fd : FuncData} (F : FunD K x qual (defArgs st) (defBody st) (defScope st) [] [] f fd) : Fun K x qual st f fd := by
  obtain ⟨oc, od, dV, kV, doc, pm, an, cdv, ct, osl, rfl, lk, hcd, hD, hK⟩ := F.ex
  rcases hD with ⟨_, rfl⟩ | ⟨e, _⟩
  · exact ⟨⟨oc, od, kV, doc, pm, an, cdv, ct, osl, rfl, lk, hcd⟩, F.kp⟩
  · exact absurd rfl e
/-! ## The end of a law whose defs are promised where no repr is under way -/
theorem walk_GE {l : PySem.W.OpenLaw} {n k : Nat} {q : Program} {loose : List Str} {XP : (Str → Option Value) → Heap → Prop} {YP : World → Heap → Prop} {d : DefRec} {x : Str}
    (hn : l.most = some n) (hn2 : n ≤ sizeLine) (hdf : d.params.defaults = []) (hr : Room k callerA)
    (F : ∀ (w : World) (mg : Str → Option Value) (fa : Addr) (h : Heap), YP w h → h.Ns mainGlobals mg → mg d.name = some (.ref fa) →
      ∃ (K : PySem.W.Frag) (fd : FuncData) (sp : Sp), K.In h ∧ (∀ (s : Shared) (u : Value), BindsTo s fd ⟨[u], []⟩ [(x, u)]) ∧
        (∀ (H : Hp) (a : Addr) (ns : List Int), ns.length ≤ n → SqL K H a (ns.map V.int) → sp [.ref a] H (fun v _ => v = .bl true) fun _ _ _ => False) ∧
        ∀ base : Heap, K.In base → base.Ns mainGlobals mg → FnG l.prog w K mg base k fa fd [x] sp) :
    PySem.W.WalkO q loose XP YP l.row.toRowW d [] (fun f vs => PySem.call f vs) := by
  refine Att.attach_call hn hdf fun w _ s mg mb fa _ _ _ _ a vs ns G Y _ _ _ hmg hobj hints hlen hg => ?_
  obtain ⟨K, fd, sp, KX, hb, hsp, hF⟩ := F w mg fa _ Y G.T.g hmg
  exact law_callG KX G.T.g G.T.b G.T.builtins G.T.nolimit hg hobj hints (Nat.le_trans hlen hn2) hr hF hb fun H hS => hsp H a ns hlen hS
end Lc
namespace Lc
theorem all_at {l : List Bool} (h : l.all id = true) (i : Nat) {b : Bool} (e : l[i]? = some b := by rfl) : b = true := List.all_eq_true.mp h b (List.mem_of_getElem? e)
end Lc
set_option Elab.async false
set_option linter.all false
set_option maxRecDepth 100000
set_option maxHeartbeats 4000000
namespace Lc
open PySem PySem.Spec PyProof.Rows L2 He
/-! ## The head's facts, with dicts of the module that have text keys -/
abbrev AlF : Type := AlE × List (Option (List (Option (Str × Int))))
def obsF (n : Nat) (fa : List Fa) (fn : List DefD) (ex : PySem.W.Frag → Bool) (ts : List Tab) (g : Addr → Option Obj) : AlF := (obsE n fa fn ex g, ts.map fun t => dicW (frG g (asD g n)) (t.1 (frG g (asD g n))))
def TabsOk (ts : List Tab) (w : World) (K : PySem.W.Frag) : Prop := ∀ (i : Nat) (t : Tab), ts[i]? = some t → ∃ es n, KDict K w (t.1 K) es n
theorem tabs_of {ts : List Tab} {w : World} {K : PySem.W.Frag} (e : ts.map (fun t => dicW K (t.1 K)) = ts.map fun t => some (keysIn w.params t.2)) : TabsOk ts w K := by
  intro i t h
  have e2 : (ts.map fun t => dicW K (t.1 K))[i]? = (ts.map fun t => some (keysIn w.params t.2))[i]? := congrArg (fun l => l[i]?) e
  rw [List.getElem?_map, h, List.getElem?_map, h] at e2
  exact dicW_ok (Option.some.inj e2)
def hookF (n : Nat) (fa : List Fa) (fn : List DefD) (ex : PySem.W.Frag → Bool) (ts : List Tab) : PySem.W.Hook where
  α := AlF
  obs := fun s => obsF n fa fn ex ts s.heap.get?
  val := fun w => ((valD fn, true), ts.map fun t : Tab => some (keysIn w.params t.2))
  says := fun w h => ∃ K : PySem.W.Frag, K.In h ∧ SaysD fa fn K ∧ ex K = true ∧ TabsOk ts w K
  of := fun _ _ e => ⟨_, frG_in, congrArg (fun z : AlF => z.1.1) e, congrArg (fun z : AlF => z.1.2) e, tabs_of (show _ = _ from congrArg (fun z : AlF => z.2) e)⟩
  keeps := fun _ _ _ ⟨K, hK, c⟩ k => ⟨K, PySem.W.Frag.In.keeps hK k, c⟩
theorem obsF_eq {n : Nat} {fa : List Fa} {fn : List DefD} {ex : PySem.W.Frag → Bool} {ts : List Tab} {g : Addr → Option Obj} {s : Shared} (h : ∀ a, g a = s.heap.get? a) : obsF n fa fn ex ts g = (hookF n fa fn ex ts).obs s := by
  have e : g = s.heap.get? := funext h
  rw [e] <;> rfl
/-! ## what stands in such a dict -/
def atD (K : PySem.W.Frag) (d : Addr) (x : Str) : Addr := match PySem.W.nsIn K d x with
  | some (some (.ref a)) => a
  | _ => 0
def tupA (K : PySem.W.Frag) (a : Addr) (vs : List Dv) : Bool := match K.lookup a with
  | some ⟨.type c, _, .seq its _, _⟩ => decide (c = "tuple") && (decide (its.size ≤ sizeLine) && relAll (vs.map (Dv.v K)) its.toList)
  | _ => false
theorem tupA_ok {K : PySem.W.Frag} {a : Addr} {vs : List Dv} (h : tupA K a vs = true) (H : Hp) : SqT K H a (vs.map (Dv.v K)) := by
  unfold tupA at h
  split at h
  · rename_i c od its n osl q
    obtain ⟨h1, h2⟩ := ba h
    obtain ⟨h3, h4⟩ := ba h2
    exact .inr ⟨_, its, n, q, congrArg Value.type (of_decide_eq_true h1), rfl, of_decide_eq_true h3, relAll_ok h4⟩
  · cases h
/-- at the key x a tuple of these -/
def dtB (K : PySem.W.Frag) (d : Addr) (x : Str) (vs : List Dv) : Bool := eqO (PySem.W.nsIn K d x) (some (some (.ref (atD K d x)))) && tupA K (atD K d x) vs
theorem kdct_of {K : PySem.W.Frag} {w : World} {d a : Addr} {x : Str} (D : ∃ es n, KDict K w d es n) (h : PySem.W.nsIn K d x = some (some (.ref a))) : KDct K w d x (.ref a) := by
  obtain ⟨es, n, D⟩ := D
  exact ⟨es, n, _, D.at_, D.lit, h, rfl⟩
theorem dt_ok {K : PySem.W.Frag} {w : World} {d : Addr} {x : Str} {vs : List Dv} (D : ∃ es n, KDict K w d es n) (h : dtB K d x vs = true) : ∃ a, KDct K w d x (.ref a) ∧ PySem.W.nsIn K d x = some (some (.ref a)) ∧ ∀ H, SqT K H a (vs.map (Dv.v K)) := by
  obtain ⟨h1, h2⟩ := ba h
  exact ⟨_, kdct_of D (eqO_ok h1), eqO_ok h1, fun H => tupA_ok h2 H⟩
/-- at the key x the def y -/
def dfB (K : PySem.W.Frag) (d : Addr) (x y : Str) : Bool := eqO (PySem.W.nsIn K d x) (some (some (.ref (ga K y))))
def dnB (K : PySem.W.Frag) (d : Addr) (x : Str) : Bool := eqO (PySem.W.nsIn K d x) (some none)
end Lc
set_option Elab.async false
set_option linter.all false
set_option maxRecDepth 100000
set_option maxHeartbeats 4000000
namespace Lc
open PySem PySem.Spec PyProof.Rows L2 He
/-! ## The head's facts from a few globals alone: what is reached from the named ones, but not through the globals' own dict -/
def growN (g : Addr → Option Obj) (as : List Addr) : List Addr := ((as ++ as.flatMap fun a => match g a with
  | some o => refsD o
  | none => []).filter fun a => !Nat.beq a mainGlobals).eraseDups
def asN (names : List Str) (g : Addr → Option Obj) : Nat → List Addr
  | 0 => (names.map fun x => ga (frG g [mainGlobals]) x).eraseDups
  | n + 1 => growN g (asN names g n)
def asM (sm : Bool) (names : List Str) (g : Addr → Option Obj) (n : Nat) : List Addr := mainGlobals :: (if sm = true then [sysModules] else []) ++ asN names g n
def obsK (fa : List Fa) (fn : List DefD) (ex : PySem.W.Frag → Bool) (ts : List Tab) (K : PySem.W.Frag) : AlF := ((obsD fa fn K, ex K), ts.map fun t => dicW K (t.1 K))
def obsN (sm : Bool) (names : List Str) (n : Nat) (fa : List Fa) (fn : List DefD) (ex : PySem.W.Frag → Bool) (ts : List Tab) (g : Addr → Option Obj) : AlF := obsK fa fn ex ts (frG g (asM sm names g n))
def hookN (sm : Bool) (names : List Str) (n : Nat) (fa : List Fa) (fn : List DefD) (ex : PySem.W.Frag → Bool) (ts : List Tab) : PySem.W.Hook where
  α := AlF
  obs := fun s => obsN sm names n fa fn ex ts s.heap.get?
  val := fun w => ((valD fn, true), ts.map fun t : Tab => some (keysIn w.params t.2))
  says := fun w h => ∃ K : PySem.W.Frag, K.In h ∧ SaysD fa fn K ∧ ex K = true ∧ TabsOk ts w K
  of := fun _ _ e => ⟨_, frG_in, congrArg (fun z : AlF => z.1.1) e, congrArg (fun z : AlF => z.1.2) e, tabs_of (show _ = _ from congrArg (fun z : AlF => z.2) e)⟩
  keeps := fun _ _ _ ⟨K, hK, c⟩ k => ⟨K, PySem.W.Frag.In.keeps hK k, c⟩
theorem obsN_eq {sm : Bool} {names : List Str} {n : Nat} {fa : List Fa} {fn : List DefD} {ex : PySem.W.Frag → Bool} {ts : List Tab} {g : Addr → Option Obj} {s : Shared} (h : ∀ a, g a = s.heap.get? a) : obsN sm names n fa fn ex ts g = (hookN sm names n fa fn ex ts).obs s := by
  have e : g = s.heap.get? := funext h
  rw [e] <;> rfl
theorem smN_of {K : PySem.W.Frag} (h : (K.lookup sysModules).isSome = true) : ∃ o, K.lookup sysModules = some o := Option.isSome_iff_exists.mp h
end Lc
set_option Elab.async false
set_option linter.all false
set_option maxRecDepth 100000
set_option maxHeartbeats 4000000
namespace Lc
open PySem PySem.Spec PyProof.Rows L2 He
/-! ## The head's facts from a written list of addresses -/
def obsA (as : List Addr) (fa : List Fa) (fn : List DefD) (ex : PySem.W.Frag → Bool) (ts : List Tab) (g : Addr → Option Obj) : AlF := obsK fa fn ex ts (frG g (mainGlobals :: as))
def hookA (as : List Addr) (fa : List Fa) (fn : List DefD) (ex : PySem.W.Frag → Bool) (ts : List Tab) : PySem.W.Hook where
  α := AlF
  obs := fun s => obsA as fa fn ex ts s.heap.get?
  val := fun w => ((valD fn, true), ts.map fun t : Tab => some (keysIn w.params t.2))
  says := fun w h => ∃ K : PySem.W.Frag, K.In h ∧ SaysD fa fn K ∧ ex K = true ∧ TabsOk ts w K
  of := fun _ _ e => ⟨_, frG_in, congrArg (fun z : AlF => z.1.1) e, congrArg (fun z : AlF => z.1.2) e, tabs_of (show _ = _ from congrArg (fun z : AlF => z.2) e)⟩
  keeps := fun _ _ _ ⟨K, hK, c⟩ k => ⟨K, PySem.W.Frag.In.keeps hK k, c⟩
theorem obsA_eq {as : List Addr} {fa : List Fa} {fn : List DefD} {ex : PySem.W.Frag → Bool} {ts : List Tab} {g : Addr → Option Obj} {s : Shared} (h : ∀ a, g a = s.heap.get? a) : obsA as fa fn ex ts g = (hookA as fa fn ex ts).obs s := by
  have e : g = s.heap.get? := funext h
  rw [e] <;> rfl
/-! ## the run, in parts -/
theorem opt_pair {α β γ : Type} {o : Option α} {f : α → β} {g : α → γ} {x : β} {y : γ} (h1 : o.map f = some x) (h2 : o.map g = some y) : o.map (fun s => (f s, g s)) = some (x, y) := by
  cases o with
  | none => cases h1
  | some s =>
    rw [Option.map_some, Option.some.injEq] at h1 h2
    rw [Option.map_some, h1, h2]
theorem opt_and {α : Type} {o : Option α} {f g : α → Bool} (h1 : o.map f = some true) (h2 : o.map g = some true) : o.map (fun s => f s && g s) = some true := by
  cases o with
  | none => cases h1
  | some s =>
    rw [Option.map_some, Option.some.injEq] at h1 h2
    rw [Option.map_some, h1, h2]
    rfl
theorem opt_run {α A B C D E : Type} {o : Option α} {f : α → A} {g : α → B} {h : α → (C × D) × E} {x : A} {y : B} {z : (C × D) × E} (hf : o.map f = some x) (hg : o.map (fun s => (g s, (h s).2)) = some (y, z.2))
    (ha : o.map (fun s => (h s).1.1) = some z.1.1) (he : o.map (fun s => (h s).1.2) = some z.1.2) : o.map (fun s => (f s, g s, h s)) = some (x, y, z) := by
  cases o with
  | none => cases hf
  | some s =>
    rw [Option.map_some, Option.some.injEq] at hf hg ha he
    rw [Prod.mk.injEq] at hg
    rw [Option.map_some, hf, hg.1]
    obtain ⟨⟨z1, z2⟩, z3⟩ := z
    have e1 : (h s).1.1 = z1 := ha
    have e2 : (h s).1.2 = z2 := he
    have e3 : (h s).2 = z3 := hg.2
    rw [← e1, ← e2, ← e3]
end Lc
set_option Elab.async false
set_option linter.all false
set_option maxRecDepth 100000
set_option maxHeartbeats 4000000
namespace K16
open PySem PySem.Spec PyProof.Rows L2 Lc
def top (i : Nat) : Stmt := PySem.Challenge.pw_liveclaims_k16_kept_and_set_rows.main.body.getD i (.Pass ⟨0, 0, 0, 0⟩)
/-! ## is_whole, common_divisor, is_rational -/
abbrev sWhole : Stmt := top 8
abbrev sCd : Stmt := top 9
abbrev sIsR : Stmt := top 10
def spWhole : Sp := fun vs H Q _ => ∃ (v : V) (t : String), vs = [v] ∧ TyN H v t ∧ Q (.bl (t == "int")) H
def spCd : Sp := fun vs H Q _ => ∃ a b : Int, vs = [.int a, .int b] ∧ 0 ≤ a ∧ 0 ≤ b ∧ Q (.int (gd a b)) H
def spIsR : Sp := fun vs H Q _ => ∃ (v : V) (b : Bool), vs = [v] ∧ Rk H v b ∧ Q (.bl b) H
section
variable {P : Program} {w : World} {K : PySem.W.Frag} {mg : Str → Option Value} {base : Heap} {f C : Addr} {fd : FuncData}
theorem scWhole : FnScope ["value"] ["value"] (defScope sWhole) := ⟨rfl, rfl, rfl, by decide +kernel, rfl, by decide +kernel, by decide +kernel⟩
theorem ok_whole (F : Fun K "is_whole" "is_whole" sWhole f fd) (T : Bt mg) : FnOk P w K mg base CX0 1 f fd ["value"] spWhole := by
  refine F.ok scWhole (fun vs H Q E h => ?_) (fun cdv A outer s H vs Q E hr h => ?_)
  · obtain ⟨v, t, rfl, _⟩ := h
    rfl
  · obtain ⟨v, t, rfl, ty, k⟩ := h
    refine ⟨_, pss_one (ps_ret (pe_and (pe_callB call_isi (by rfl) T.isi boot_isinstance (pa_cons (pv 0) (pa_cons (pe_bltn (v := .ty "int") (by rfl) T.int boot_int rfl) pa_nil)))
      (pe_one (pe_not (pe_callB call_isi (by rfl) T.isi boot_isinstance (pa_cons (pv 0) (pa_cons (pe_bltn (v := .ty "bool") (by rfl) T.bool boot_bool rfl) pa_nil))))))), ?_⟩
    refine ⟨_, rfl, v, .ty "int", _, _, _, rfl, .ty "int", ty.x, kit_int ty.mem, _, rfl, ?_⟩
    refine ite2 (fun hi => ?_) (fun hi => ?_)
    · refine ⟨_, rfl, v, .ty "bool", _, _, _, rfl, .ty "bool", ty.x, kit_bool ty.mem, _, rfl, ?_⟩
      have e : (!(t == "bool")) = (t == "int") := by cases ty <;> first | rfl | exact absurd hi (by decide)
      show Q (.bl (!(t == "bool"))) H
      rw [e]
      exact k
    · have e : false = (t == "int") := by cases ty <;> first | rfl | exact absurd rfl hi
      show Q (.bl false) H
      rw [e]
      exact k
theorem scCd : FnScope ["a", "b"] ["a", "b"] (defScope sCd) := ⟨rfl, rfl, rfl, by decide +kernel, rfl, by decide +kernel, by decide +kernel⟩
theorem ok_cd (F : Fun K "common_divisor" "common_divisor" sCd f fd) : FnOk P w K mg base CX0 1 f fd ["a", "b"] spCd := by
  refine F.ok scCd (fun vs H Q E h => ?_) (fun cdv A outer s H vs Q E hr h => ?_)
  · obtain ⟨a, b, rfl, _⟩ := h
    rfl
  · obtain ⟨a, b, rfl, ha, hb, k⟩ := h
    refine ⟨_, pss_cons (ps_while PassesOwn.never (pt_cmpR op_ne (pv 1) pe_int (nomark _)) (pss_one (ps_par (i := 0) (j := 1) (by rfl) scCd.nd rfl rfl (by decide) rfl rfl (pa_cons (pv 1) (pa_cons (pe_op op_mod (pv 0) (pv 1)) pa_nil)) (by rfl))))
      (pss_one (ps_ret (pv 0))), ?_⟩
    refine ⟨fun m σ H' => ∃ a' b' : Int, σ = [some (.int a'), some (.int b')] ∧ 0 ≤ a' ∧ 0 ≤ b' ∧ b'.toNat = m ∧ gd a' b' = gd a b ∧ H' = H, ⟨_, a, b, rfl, ha, hb, rfl, rfl, rfl⟩, ?_⟩
    rintro m σ H' ⟨a', b', rfl, ha', hb', rfl, e, rfl⟩
    refine ⟨_, rfl, rfl, _, rfl, ?_⟩
    rw [show (decide (V.int b' = V.int 0)) = decide (b' = 0) from dec_int.trans (by rw [Bool.eq_iff_iff]; simp)]
    by_cases z : b' = 0
    · rw [decide_eq_true z]
      refine iteF ⟨_, rfl, ?_⟩
      rw [← e, z, gd_zero ha'] at k
      exact k
    · rw [decide_eq_false z]
      have pb : 0 < b' := by omega
      refine iteT ⟨fun σ' H'' => ∃ a2 b2 : Int, σ' = [some (.int a2), some (.int b2)] ∧ 0 ≤ a2 ∧ 0 ≤ b2 ∧ b2.toNat < b'.toNat ∧ gd a2 b2 = gd a b ∧ H'' = H', ?_, ?_⟩
      · rintro σ' H'' ⟨a2, b2, h1, h2, h3, h4, h5, h6⟩
        exact ⟨_, h4, a2, b2, h1, h2, h3, rfl, h5, h6⟩
      · refine ⟨_, rfl, _, rfl, _, rfl, _, _, rfl, rfl, pb, _, _, rfl, b', a' % b', rfl, hb', Int.emod_nonneg _ (by omega), ?_, ?_, rfl⟩
        · have := Int.emod_lt_of_pos a' pb
          have := Int.emod_nonneg a' (by omega : b' ≠ 0)
          omega
        · rw [gd_step ha' pb]
          exact e
theorem scIsR : FnScope ["value", "n", "d"] ["value"] (defScope sIsR) := ⟨rfl, rfl, rfl, by decide +kernel, rfl, by decide +kernel, by decide +kernel⟩
theorem ok_isr {fW fC : Addr} {fdW fdC : FuncData} (F : Fun K "is_rational" "is_rational" sIsR f fd) (T : Bt mg) (GW : FnOk P w K mg base CX0 1 fW fdW ["value"] spWhole) (mW : mg "is_whole" = some (.ref fW)) (kW : PySem.W.keepIn K (.ref fW) = true) (bW : Binds K fdW ["value"] [])
    (GC : FnOk P w K mg base CX0 1 fC fdC ["a", "b"] spCd) (mC : mg "common_divisor" = some (.ref fC)) (kC : PySem.W.keepIn K (.ref fC) = true) (bC : Binds K fdC ["a", "b"] []) : FnOk P w K mg base CX0 2 f fd ["value"] spIsR := by
  refine F.ok scIsR (fun vs H Q E h => ?_) (fun cdv A outer s H vs Q E hr h => ?_)
  · obtain ⟨v, b, rfl, _⟩ := h
    rfl
  · obtain ⟨v, b, rfl, hk, k⟩ := h
    refine ⟨_, pss_cons (ps_if (PW.pt (pw_or (pt_not (pt_val (pe_callB call_isi (by rfl) T.isi boot_isinstance (pa_cons (pv 0) (pa_cons (pe_bltn (v := .ty "tuple") (by rfl) T.tuple boot_tuple rfl) pa_nil)))))
        (pw_or1 (pt_cmpR op_ne (pe_callB call_len_seq (by rfl) T.len PySem.boot_len (pa_cons (pv 0) pa_nil)) pe_int (nomark _))))) (pss_one (ps_ret pe_bl)) pss_nil)
      (pss_cons (ps_asg (pv 0) (pg_tup rfl (pgs_cons (pg_name (i := 1) scIsR.nd rfl (.inl rfl)) (pgs_cons (pg_name (i := 2) scIsR.nd rfl (.inl rfl)) pgs_nil))))
      (pss_cons (ps_if (PW.pt (pw_or (pt_not (pt_val (pe_call GW hr (by rfl) mW kW bW .nil pass0 (pa_cons (pv 1) pa_nil)))) (pw_or (pt_not (pt_val (pe_call GW hr (by rfl) mW kW bW .nil pass0 (pa_cons (pv 2) pa_nil))))
        (pw_or1 (pt_cmpR op_lt (pv 2) pe_int (nomark _)))))) (pss_one (ps_ret pe_bl)) pss_nil)
      (pss_one (ps_ret (pe_cmpR op_eq (pe_call GC hr (by rfl) mC kC bC .nil pass0 (pa_cons (pe_callB call_abs (by rfl) T.abs boot_abs (pa_cons (pv 1) pa_nil)) (pa_cons (pv 2) pa_nil))) pe_int (nomark _)))))), ?_⟩
    cases hk with
    | @other _ t ty n =>
      refine ⟨_, rfl, v, .ty "tuple", _, _, _, rfl, .ty "tuple", ty.x, kit_tuple ty.mem, _, rfl, ?_⟩
      have e : (t == "tuple") = false := by simpa using n
      rw [e]
      exact iteT (iteT k)
    | @len a xs e n =>
      refine ⟨_, rfl, .ref a, .ty "tuple", _, _, _, rfl, .ty "tuple", (TyN.tup e).x, kit_tuple (by decide), _, rfl, ?_⟩
      refine iteF ⟨_, rfl, a, xs, rfl, .inr (SqT.of e), rfl, _, rfl, ?_⟩
      have z : decide (V.int (xs.length : Int) = V.int 2) = false := decide_eq_false (fun q => n (by injection q with q; omega))
      rw [z]
      exact iteT k
    | @pair a x y tx ty e hx hy =>
      refine ⟨_, rfl, .ref a, .ty "tuple", _, _, _, rfl, .ty "tuple", (TyN.tup e).x, kit_tuple (by decide), _, rfl, ?_⟩
      refine iteF ⟨_, rfl, a, _, rfl, .inr (SqT.of e), rfl, _, rfl, ?_⟩
      refine iteF ?_
      refine ⟨_, rfl, a, _, rfl, SqT.of e, rfl, _, _, rfl, _, _, rfl, rfl, ?_⟩
      refine ⟨_, rfl, x, tx, rfl, hx, _, rfl, ?_⟩
      by_cases ix : tx = "int"
      · obtain ⟨n, rfl⟩ := hx.isInt ix
        subst ix
        · refine iteF ⟨_, rfl, y, ty, rfl, hy, _, rfl, ?_⟩
          by_cases iy : ty = "int"
          · obtain ⟨d, rfl⟩ := hy.isInt iy
            subst iy
            · refine iteF ⟨_, rfl, _, _, rfl, rfl, _, rfl, ?_⟩
              by_cases hd : d < 1
              · rw [decide_eq_true hd]
                have z : ratB (.int n) (.int d) = false := by
                  show (decide (0 < d) && _) = false
                  rw [decide_eq_false (by omega : ¬ 0 < d)]
                  rfl
                rw [z] at k
                exact iteT k
              · rw [decide_eq_false hd]
                refine iteF ?_
                refine ⟨_, rfl, n, rfl, _, rfl, _, d, rfl, by split <;> omega, by omega, rfl, ?_⟩
                have z : ratB (.int n) (.int d) = decide (V.int (gd (if n < 0 then -n else n) d) = V.int 1) := by
                  show (decide (0 < d) && decide (gd n d = 1)) = _
                  rw [decide_eq_true (by omega : 0 < d), gd_abs]
                  rw [Bool.eq_iff_iff]
                  simp
                rw [z] at k
                exact k
          · have z : (ty == "int") = false := by simpa using iy
            have z2 : ratB (.int n) y = false := by
              cases hy <;> first | rfl | exact absurd rfl iy
            rw [z2] at k
            rw [z]
            exact iteT (iteT k)
      · have z : (tx == "int") = false := by simpa using ix
        have z2 : ratB x y = false := by
          cases hx <;> first | rfl | exact absurd rfl ix
        rw [z2] at k
        rw [z]
        exact iteT (iteT k)
end
abbrev sTape : Stmt := top 124
section
variable {P : Program} {w : World} {K : PySem.W.Frag} {mg : Str → Option Value} {base : Heap} {f : Addr} {fd : FuncData}
theorem scTape : FnScope ["_law_script"] ["_law_script"] (defScope sTape) := ⟨rfl, rfl, rfl, by decide +kernel, rfl, by decide +kernel, by decide +kernel⟩
theorem ok_tape (F : Fun K "_law_tape" "_law_tape" sTape f fd) (T : Bt mg) : FnOk P w K mg base CX0 1 f fd ["_law_script"] (spTape K) := by
  refine F.ok scTape (fun vs H Q E h => ?_) (fun cdv A outer s H vs Q E hr h => ?_)
  · obtain ⟨a, ns, rfl, _⟩ := h
    rfl
  · obtain ⟨a, ns, rfl, hS, k⟩ := h
    refine ⟨_, pss_one (ps_ret (pe_lst (pa_cons (pe_callTy call_list_of (by rfl) T.list boot_list (pa_cons (pe_slice sl_list (pv 0) po_none (po_some pe_int)) pa_nil)) (pa_cons pe_int (pa_cons pe_int (pa_cons pe_int pa_nil)))))), ?_⟩
    obtain ⟨ms, e⟩ := cut_ints ns none (some 63)
    refine ⟨_, rfl, _, rfl, a, _, rfl, hS, fun p hp => ⟨p, _, rfl, .inl (SqL.of upd_same), fun l hl => ⟨by show 4 ≤ sizeLine; decide, fun t ht => ?_⟩⟩⟩
    have s1 : Same H (upd H p (.lst (cutV (ns.map V.int) none (some 63)))) := Same.upd hp
    have s2 := Same.upd (o := .lst (cutV (ns.map V.int) none (some 63))) hl
    have s3 := Same.upd (o := .lst [.ref l, .int 0, .int 0, .int 17]) ht
    refine k t _ ((s1.trans s2).trans s3) ((s1.trans s2).free ht) ⟨l, ms, 0, 0, 17, upd_same, ?_, by decide, by decide, by decide, by decide⟩
    rw [← e]
    exact s3 _ _ upd_same
end
abbrev sDraw : Stmt := top 125
section
variable {P : Program} {w : World} {K : PySem.W.Frag} {mg : Str → Option Value} {base : Heap} {f : Addr} {fd : FuncData}
theorem scDraw : FnScope ["_law_tape_here", "_law_many", "_law_digit", "_law_cell", "_law_near"] ["_law_tape_here", "_law_many"] (defScope sDraw) := ⟨rfl, rfl, rfl, by decide +kernel, rfl, by decide +kernel, by decide +kernel⟩
theorem ok_draw (F : Fun K "_law_draw" "_law_draw" sDraw f fd) (T : Bt mg) : FnOk P w K mg base CX0 1 f fd ["_law_tape_here", "_law_many"] spDrawL := by
  refine F.ok scDraw (fun vs H Q E h => ?_) (fun cdv A outer s H vs Q E hr h => ?_)
  · obtain ⟨t, l, m, rfl, _⟩ := h
    rfl
  · obtain ⟨t, l, m, rfl, ⟨ns, pos, rest, mix, ht, hl, p0, r0, m0, m1⟩, hm, hm2, k⟩ := h
    refine ⟨_, pss_cons (ps_if (pt_cmpR op_gt (pe_ix ix_list (pv 0) pe_int (fun _ _ => rfl)) pe_int (nomark _))
        (pss_cons (ps_set (i := 2) scDraw.nd rfl (Or.inl rfl) (pe_op op_mod (pe_ix ix_list (pv 0) pe_int (fun _ _ => rfl)) (pv 1)))
        (pss_cons (ps_asg (pe_op op_fdivW (pe_ix ix_list (pv 0) pe_int (fun _ _ => rfl)) (pv 1)) (pg_sub (pv 0) pe_int set_list)) (pss_one (ps_ret (pv 2))))) pss_nil)
      (pss_cons (ps_set (i := 3) scDraw.nd rfl (Or.inl rfl) pe_int)
      (Evl.pss_cut (ps_if (pt_cmpR op_lt (pe_ix ix_list (pv 0) pe_int (fun _ _ => rfl)) (pe_callB call_len_seq (by rfl) T.len PySem.boot_len (pa_cons (pe_ix ix_list (pv 0) pe_int (fun _ _ => rfl)) pa_nil)) (nomark _))
        (pss_one (ps_set (i := 3) scDraw.nd rfl (Or.inl rfl) (pe_ix ix_list (pe_ix ix_list (pv 0) pe_int (fun _ _ => rfl)) (pe_ix ix_list (pv 0) pe_int (fun _ _ => rfl)) (fun _ _ => rfl)))) pss_nil)
      (pss_cons (ps_asg (pe_op op_add (pe_ix ix_list (pv 0) pe_int (fun _ _ => rfl)) pe_int) (pg_sub (pv 0) pe_int set_list))
      (pss_cons (ps_if (pt_cmpR op_ge (pv 3) (pe_op op_pow pe_int pe_int) (nomark _))
        (pss_cons (ps_asg (pe_op op_fdivW (pv 3) (pv 1)) (pg_sub (pv 0) pe_int set_list)) (pss_one (ps_ret (pe_op op_mod (pv 3) (pv 1))))) pss_nil)
      (pss_cons (ps_set (i := 4) scDraw.nd rfl (Or.inl rfl) (pe_op op_add (pe_op op_add (pe_op op_mod (pv 3) pe_int) (pe_op op_mul pe_int (pe_ix ix_list (pv 0) pe_int (fun _ _ => rfl)))) pe_int))
      (pss_cons (ps_asg (pe_op op_mod (pe_op op_add (pe_op op_mul (pe_ix ix_list (pv 0) pe_int (fun _ _ => rfl)) pe_int) (pv 4)) pe_int) (pg_sub (pv 0) pe_int set_list))
      (pss_one (ps_ret (pe_op op_mod (pe_op op_mod (pe_op op_pow (pe_ix ix_list (pv 0) pe_int (fun _ _ => rfl)) pe_int) pe_int) (pv 1)))))))))), ?_⟩
    have nl := tape_ne ht hl
    have dv : ∀ c : Int, CDivW c m := fun c => ⟨hm, log_lt' hm2⟩
    have M0 : (0 : Int) < 2147483647 := by decide
    refine ⟨_, rfl, t, _, _, _, rfl, rfl, SqL.of ht, rfl, _, _, rfl, rfl, _, rfl, ?_⟩
    refine ite2 (fun z => ?_) (fun z => ?_)
    · have z' : 0 < rest := of_decide_eq_true z
      refine ⟨_, rfl, t, _, _, _, rfl, rfl, SqL.of ht, rfl, _, rfl, _, _, rfl, rfl, hm, ?_⟩
      refine ⟨_, rfl, t, _, _, _, rfl, rfl, SqL.of ht, rfl, _, rfl, _, _, rfl, rfl, dv _, _, rfl, t, _, _, 2, rfl, rfl, ht, rfl, ?_⟩
      refine ⟨_, rfl, ?_⟩
      refine k _ _ (Int.emod_nonneg _ (by omega)) (Int.emod_lt_of_pos _ hm) ⟨ns, pos, rest / m, mix, upd_same, by rw [upd_ne nl]; exact hl, p0, Int.ediv_nonneg r0 (by omega), m0, m1⟩ SameB.upd
    · refine ⟨fun σ' H' => ∃ c : Int, σ' = [some (.ref t), some (.int m), none, some (.int c), none] ∧ H' = H, ?_, ?_⟩
      · refine ⟨_, rfl, t, _, _, _, rfl, rfl, SqL.of ht, rfl, _, rfl, t, _, _, _, rfl, rfl, SqL.of ht, rfl, l, _, rfl, .inl (SqL.of hl), _, _, rfl, rfl, _, rfl, ?_⟩
        refine ite2 (fun y => ?_) (fun y => ?_)
        · have y' : pos < ((ns.map V.int).length : Int) := of_decide_eq_true y
          rw [List.length_map] at y'
          have g : (ns.map V.int)[pos.toNat]? = some (.int (ns[pos.toNat]'(by omega))) := by
            rw [List.getElem?_map, List.getElem?_eq_getElem (by omega : pos.toNat < ns.length)]
            rfl
          exact ⟨_, rfl, t, _, _, _, rfl, rfl, SqL.of ht, rfl, _, rfl, t, _, _, _, rfl, rfl, SqL.of ht, rfl, l, _, _, _, rfl, rfl, SqL.of hl, at_of (by omega) g, _, rfl, rfl⟩
        · exact ⟨0, rfl, rfl⟩
      · rintro σ' H' ⟨c, rfl, rfl⟩
        refine ⟨_, rfl, t, _, _, _, rfl, rfl, SqL.of ht, rfl, _, _, rfl, rfl, _, rfl, t, _, _, 1, rfl, rfl, ht, rfl, ?_⟩
        refine ⟨_, rfl, _, _, rfl, rfl, ⟨by decide, by decide, by decide⟩, _, _, rfl, rfl, _, rfl, ?_⟩
        refine ite2 (fun y => ?_) (fun y => ?_)
        · have y' : (10 : Int) ^ (18 : Int).toNat ≤ c := of_decide_eq_true y
          have c0 : 0 ≤ c := Int.le_trans (by decide) y'
          refine ⟨_, rfl, _, rfl, _, _, rfl, rfl, dv _, _, rfl, t, _, _, 2, rfl, rfl, upd_same, rfl, ?_⟩
          refine ⟨_, rfl, _, rfl, _, _, rfl, rfl, hm, ?_⟩
          exact k _ _ (Int.emod_nonneg _ (by omega)) (Int.emod_lt_of_pos _ hm) ⟨ns, pos + 1, c / m, mix, upd_same, by rw [upd_ne nl, upd_ne nl]; exact hl, by omega, Int.ediv_nonneg c0 (by omega), m0, m1⟩ (SameB.upd.trans SameB.upd)
        · refine ⟨_, rfl, _, _, rfl, rfl, M0, _, rfl, t, _, _, _, rfl, rfl, SqL.of upd_same, rfl, _, _, rfl, rfl, .inl ⟨by decide, by decide⟩, _, _, rfl, rfl, _, _, rfl, rfl, ?_⟩
          refine ⟨_, rfl, t, _, _, _, rfl, rfl, SqL.of upd_same, rfl, _, _, rfl, rfl, .inl ⟨by omega, by omega⟩, _, rfl, _, _, rfl, rfl, _, _, rfl, rfl, M0, _, rfl, t, _, _, 3, rfl, rfl, upd_same, rfl, ?_⟩
          have q0 := Int.emod_nonneg (mix * 48271 + (c % 2147483647 + 7919 * (pos + 1) + 11)) (by decide : (2147483647 : Int) ≠ 0)
          have q1 := Int.emod_lt_of_pos (mix * 48271 + (c % 2147483647 + 7919 * (pos + 1) + 11)) M0
          refine ⟨_, rfl, t, _, _, _, rfl, rfl, SqL.of upd_same, rfl, _, _, rfl, rfl, ⟨by decide, by decide, ?_⟩, _, _, rfl, rfl, M0, _, rfl, _, _, rfl, rfl, hm, ?_⟩
          · omega
          · exact k _ _ (Int.emod_nonneg _ (by omega)) (Int.emod_lt_of_pos _ hm) ⟨ns, pos + 1, rest, _, upd_same, by rw [upd_ne nl, upd_ne nl]; exact hl, by omega, r0, q0, q1⟩ (SameB.upd.trans SameB.upd)
end
abbrev sLst : Stmt := top 126
section
variable {P : Program} {w : World} {K : PySem.W.Frag} {mg : Str → Option Value} {base : Heap} {f : Addr} {fd : FuncData}
theorem scLst : FnScope ["_law_n", "_law_d", "_law_a", "_law_b", "_law_rest"] ["_law_n", "_law_d"] (defScope sLst) := ⟨rfl, rfl, rfl, by decide +kernel, rfl, by decide +kernel, by decide +kernel⟩
theorem ok_lst (F : Fun K "_law_lowest" "_law_lowest" sLst f fd) (T : Bt mg) : FnOk P w K mg base CX0 1 f fd ["_law_n", "_law_d"] spLowest := by
  refine F.ok scLst (fun vs H Q E h => ?_) (fun cdv A outer s H vs Q E hr h => ?_)
  · obtain ⟨n, d, rfl, _⟩ := h
    rfl
  · obtain ⟨n, d, rfl, hd, hd2, k⟩ := h
    refine ⟨_, pss_cons (ps_set (i := 2) scLst.nd rfl (Or.inl rfl) (pe_callB call_abs (by rfl) T.abs boot_abs (pa_cons (pv 0) pa_nil)))
      (pss_cons (ps_set (i := 3) scLst.nd rfl (Or.inl rfl) (pv 1))
      (pss_cons (ps_while PassesOwn.never (pt_cmpR op_gt (pv 3) pe_int (nomark _))
        (pss_cons (ps_set (i := 4) scLst.nd rfl (Or.inl rfl) (pe_op op_mod (pv 2) (pv 3))) (pss_cons (ps_set (i := 2) scLst.nd rfl (Or.inl rfl) (pv 3)) (pss_one (ps_set (i := 3) scLst.nd rfl (Or.inl rfl) (pv 4))))))
      (pss_one (ps_ret (pe_tup (pa_cons (pe_op op_fdivW (pv 0) (pv 2)) (pa_cons (pe_op op_fdivW (pv 1) (pv 2)) pa_nil))))))), ?_⟩
    refine ⟨_, rfl, n, rfl, _, rfl, ?_⟩
    refine ⟨fun m σ H' => ∃ (a' b' : Int) (r : Option V), σ = [some (.int n), some (.int d), some (.int a'), some (.int b'), r] ∧ 0 ≤ a' ∧ 0 ≤ b' ∧ b'.toNat = m ∧ gd a' b' = gd n d ∧ H' = H, ⟨_, _, d, none, rfl, by split <;> omega, by omega, rfl, gd_abs n d, rfl⟩, ?_⟩
    rintro m σ H' ⟨a', b', r, rfl, ha', hb', rfl, e, rfl⟩
    refine ⟨_, rfl, _, _, rfl, rfl, _, rfl, ?_⟩
    refine ite2 (fun z => ?_) (fun z => ?_)
    · have pb : 0 < b' := of_decide_eq_true z
      refine ⟨fun σ' H'' => ∃ (a2 b2 : Int) (r : Option V), σ' = [some (.int n), some (.int d), some (.int a2), some (.int b2), r] ∧ 0 ≤ a2 ∧ 0 ≤ b2 ∧ b2.toNat < b'.toNat ∧ gd a2 b2 = gd n d ∧ H'' = H', ?_, ?_⟩
      · rintro σ' H'' ⟨a2, b2, r2, h1, h2, h3, h4, h5, h6⟩
        exact ⟨_, h4, a2, b2, r2, h1, h2, h3, rfl, h5, h6⟩
      · refine ⟨_, rfl, _, rfl, _, _, rfl, rfl, pb, _, rfl, _, rfl, b', a' % b', _, rfl, hb', Int.emod_nonneg _ (by omega), ?_, ?_, rfl⟩
        · have := Int.emod_lt_of_pos a' pb
          have := Int.emod_nonneg a' (by omega : b' ≠ 0)
          omega
        · rw [gd_step ha' pb]
          exact e
    · have zb : ¬ 0 < b' := fun q => z (decide_eq_true q)
      have z0 : b' = 0 := by omega
      rw [z0, gd_zero ha'] at e
      subst e
      have g0 : 0 < gd n d := gd_pos (by omega)
      have gl : (gd n d).natAbs < 2 ^ 4000 := Nat.lt_of_le_of_lt (gd_natAbs_le (by omega)) hd2
      exact ⟨_, rfl, _, rfl, _, _, rfl, rfl, ⟨g0, log_lt' gl⟩, _, rfl, _, rfl, _, _, rfl, rfl, ⟨g0, log_lt' gl⟩, by show 2 ≤ sizeLine; decide, k⟩
end
abbrev sName : Stmt := top 25
section
variable {P : Program} {w : World} {K : PySem.W.Frag} {mg : Str → Option Value} {base : Heap} {f : Addr} {fd : FuncData} {u1 u2 : Tok} {u3 : Tok}
theorem scName : FnScope ["value", "sign"] ["value"] (defScope sName) := ⟨rfl, rfl, rfl, by decide +kernel, rfl, by decide +kernel, by decide +kernel⟩
theorem ok_name (F : Fun K "is_name" "is_name" sName f fd) (T : Bt mg) (m1 : mg "LETTERS" = some (.str letters u1)) (m2 : mg "NAME_SIGNS" = some (.str signs u2)) (m3 : mg "LONGEST_NAME" = some (.int 12 u3)) : FnOk P w K mg base CX0 1 f fd ["value"] spName := by
  refine F.ok scName (fun vs H Q E h => ?_) (fun cdv A outer s H vs Q E hr h => ?_)
  · obtain ⟨v, t, rfl, _⟩ := h
    rfl
  · obtain ⟨v, t, rfl, ty, hl, k⟩ := h
    refine ⟨_, pss_cons (ps_if (PW.pt (pw_or (pt_not (pt_val (pe_callB call_isi (by rfl) T.isi boot_isinstance (pa_cons (pv 0) (pa_cons (pe_bltn (v := .ty "str") (by rfl) T.str boot_str rfl) pa_nil))))) (pw_or (pt_cmpR op_eq (pv 0) pe_str (nomark _))
        (pw_or1 (pt_cmpR op_gt (pe_callB call_len_str (by rfl) T.len PySem.boot_len (pa_cons (pv 0) pa_nil)) (pe_glob (v := .int 12) (by rfl) m3 ⟨_, rfl⟩) (nomark _)))))) (pss_one (ps_ret pe_bl)) pss_nil)
      (pss_one (ps_ret (pe_and (pe_cmpR op_in_sign (pe_ix ix_str (pv 0) pe_int (fun _ _ => rfl)) (pe_glob (v := .str letters) (by rfl) m1 ⟨_, rfl⟩) (by rfl))
        (pe_one (pe_callB (cr_all rfl) (by rfl) T.all (by decide +kernel) (pa_cons (pe_lc (own := [("sign", 1)]) (g := gName 1) (tt := tYes) (te := tOp rInS (tVar 1) (tC (.str signs))) (by rfl) scName.nd (pi_str (pv 0)) (blkOk_by (own := [("sign", 1)]) (N := ["value", "sign"]) (sc := defScope sName) (by decide +kernel))
          (fun _ _ _ _ _ => pg_name (i := 1) scName.nd rfl (Or.inl rfl)) (fun _ _ _ _ _ => pts_nil) (fun _ _ _ _ _ => pe_cmpR op_in_sign (pv 1) (pe_glob (v := .str signs) (by rfl) m2 ⟨_, rfl⟩) (by rfl))) pa_nil)))))), ?_⟩
    refine ⟨_, rfl, v, .ty "str", _, _, _, rfl, .ty "str", ty.x, kit_str ty.mem, _, rfl, ?_⟩
    by_cases ts : t = "str"
    · obtain ⟨x, rfl⟩ := ty.isStr ts
      subst ts
      have hx := hl x rfl
      refine iteF ⟨_, rfl, rfl, _, rfl, ?_⟩
      rw [dec_empty]
      cases e : x.cps.toList with
      | nil =>
        rw [decide_eq_true rfl]
        have k0 := k H (Same.refl H)
        rw [name_nil e] at k0
        exact iteT (iteT k0)
      | cons c r =>
        rw [decide_eq_false (by simp)]
        refine iteF ⟨_, rfl, x, rfl, hx, _, _, rfl, rfl, _, rfl, ?_⟩
        rw [lenL x]
        by_cases l12 : x.cps.toList.length ≤ 12
        · rw [decide_eq_false (by omega)]
          refine iteF ?_
          have ni := name_is e l12
          refine ⟨_, rfl, x, 0, c, rfl, rfl, hx, (show atI x.cps.toList ((0 : Nat) : Int) = some c from atI_nat (by rw [e]; rfl)), c, letters, rfl, rfl, _, rfl, ?_⟩
          show if inL c = true then _ else _
          refine ite2 (fun z => ?_) (fun z => ?_)
          · refine ⟨_, rfl, x, rfl, fun D hD => lc_it walk_str (fun i H' => H' = upd H D (.lst ((x.cps.toList.take i).map fun c => .bl (inS c)))) rfl (fun _ _ _ _ => True.intro) ?_ ?_⟩
            · rintro i y H' H'' hi rfl ⟨rfl, c', hc', rfl⟩
              refine ⟨rfl, ?_⟩
              change tOp rInS (tVar 1) (tC (.str signs)) _ _ _
              refine ⟨_, rfl, c', signs, rfl, rfl, _, upd_same, ?_, ?_⟩
              · rw [List.length_map, List.length_take]
                exact Nat.lt_of_le_of_lt (Nat.min_le_right _ _) (Nat.lt_of_le_of_lt l12 (by decide))
              · rw [upd_upd]
                exact congrArg (fun z => upd H D (.lst z)) (grow hc' inS)
            · rintro H' rfl
              have ez : x.cps.size = x.cps.toList.length := by simp
              refine ⟨D, x.cps.toList.map inS, rfl, SqL.of (by rw [upd_same, ez, List.take_length, List.map_map]; rfl), ?_⟩
              have k1 := k _ (Same.upd (o := .lst ((x.cps.toList.take x.cps.size).map fun c => .bl (inS c))) hD)
              rw [ni, z, ← e] at k1
              rw [List.all_map]
              exact k1
          · have k0 := k H (Same.refl H)
            rw [ni, show inL c = false by simpa using z] at k0
            exact k0
        · rw [decide_eq_true (by omega)]
          have k0 := k H (Same.refl H)
          rw [name_long l12] at k0
          exact iteT k0
    · have z : (t == "str") = false := by simpa using ts
      rw [z]
      have k0 := k H (Same.refl H)
      have nb : nameB v = false := by cases ty <;> first | rfl | exact absurd rfl ts
      rw [nb] at k0
      exact iteT (iteT k0)
end
end K16
set_option Elab.async false
set_option linter.all false
set_option maxRecDepth 100000
set_option maxHeartbeats 8000000
namespace K16
open PySem PySem.Spec PyProof.Rows L2 Lc He
/-! ## the head -/
def dOf (x : Str) (st : Stmt) : DefD := ⟨(x, none), x, x, defArgs st, defBody st, defScope st, [], []⟩
def dMt (c m q : Str) (st : Stmt) : DefD := ⟨(c, some m), m, q, defArgs st, defBody st, defScope st, [], []⟩
def dKw (x : Str) (st : Stmt) (kw : List (Str × Dv)) : DefD := ⟨(x, none), x, x, defArgs st, defBody st, defScope st, [], kw⟩
def dDf (x : Str) (st : Stmt) (df : List Dv) : DefD := ⟨(x, none), x, x, defArgs st, defBody st, defScope st, df, []⟩
def dMd (c m q : Str) (st : Stmt) (df : List Dv) : DefD := ⟨(c, some m), m, q, defArgs st, defBody st, defScope st, df, []⟩
def fn : List DefD := [dMt "Table" "__init__" "Table.__init__" (inClass (top 58) 0), dMt "Table" "columns" "Table.columns" (inClass (top 58) 1), dMt "Table" "rows" "Table.rows" (inClass (top 58) 2), dOf "is_whole" (top 8), dOf "common_divisor" (top 9), dOf "is_rational" (top 10), dOf "check_rational" (top 11), dOf "lowest_terms" (top 12), dOf "add" (top 13), dOf "subtract" (top 14), dOf "multiply" (top 15), dOf "divide" (top 16), dOf "compare" (top 17), dOf "is_name" (top 25), dOf "within_limit" (top 26), dOf "is_value" (top 27), dOf "has_word" (top 36), dOf "kind_of_value" (top 38), dOf "leaf_kind" (top 37), dOf "check_operands" (top 39), dOf "result_kind" (top 40), dOf "kind_at" (top 35), dOf "kind_of" (top 33), dOf "kind_or_none" (top 34), dOf "limited" (top 41), dOf "plus" (top 42), dOf "minus" (top 43), dOf "times" (top 44), dOf "over" (top 45), dOf "less" (top 46), dOf "same" (top 47), dOf "both" (top 48), dOf "either" (top 49), dOf "evaluate" (top 52), dOf "worth" (top 53), dOf "worth_of_two" (top 54), dOf "names_of" (top 57), dOf "is_between" (top 78), dOf "is_tuple_of" (top 79), dOf "kind_in" (top 80), dOf "are_columns" (top 81), dOf "bounded" (top 82), dOf "behind_keep" (top 83), dOf "behind_set" (top 84), dOf "behind_select" (top 85), dOf "behind_rename" (top 86), dOf "behind_sample" (top 89), dOf "word_of" (top 97), dOf "columns_behind" (top 98), dOf "resolved" (top 100), dOf "draw" (top 103), dOf "places_of" (top 104), dOf "picked" (top 105), dOf "kept_rows" (top 106), dOf "set_rows" (top 107), dOf "selected_rows" (top 108), dOf "all_rows" (top 109), dOf "sampled_rows" (top 113), dKw "run" (top 122) [("setting", .non)], dOf "_law_tape" (top 124), dOf "_law_draw" (top 125), dOf "_law_lowest" (top 126), dOf "_law_rational" (top 127), dOf "_law_name" (top 128), dOf "_law_fresh" (top 129), dOf "_law_columns" (top 130), dOf "_law_value" (top 131), dOf "_law_values" (top 132), dOf "_law_leaf" (top 133), dOf "_law_expression" (top 134), dOf "_law_pick" (top 135), dOf "_law_set_step" (top 136), dOf "_law_sort_step" (top 137), dOf "_law_sample_step" (top 138), dOf "_law_keeping_step" (top 139), dOf "_law_lineage" (top 140), dOf "_law_calc" (top 141), dOf "_law_limited" (top 142), dOf "_law_flags" (top 143), dOf "_law_at" (top 144), dOf "_law_by_name" (top 145), dOf "_law_row_step" (top 146), dOf "_law_rows" (top 147), dOf "_law_plain_step" (top 148), dOf "_law_is" (top 149), dOf "law" (top 150)]
def gl : List Str := (["Table", "LENGTHS", "BEHIND", "ROWS_BEHIND", "BadExpression", "STRICT", "LENIENT", "KINDS", "OPERANDS", "PAIRED", "ARITHMETIC", "is_whole", "common_divisor", "is_rational", "check_rational", "lowest_terms", "add", "subtract", "multiply", "divide"] : List Str) ++ (["compare", "is_name", "within_limit", "is_value", "has_word", "kind_of_value", "leaf_kind", "check_operands", "result_kind", "kind_at", "kind_of", "kind_or_none", "limited", "plus", "minus", "times", "over", "less", "same", "both"] : List Str) ++ (["either", "evaluate", "worth", "worth_of_two", "names_of", "is_between", "is_tuple_of", "kind_in", "are_columns", "bounded", "behind_keep", "behind_set", "behind_select", "behind_rename", "behind_sample", "word_of", "columns_behind", "resolved", "draw", "places_of"] : List Str) ++ (["picked", "kept_rows", "set_rows", "selected_rows", "all_rows", "sampled_rows", "run", "_law_tape", "_law_draw", "_law_lowest", "_law_rational", "_law_name", "_law_fresh", "_law_columns", "_law_value", "_law_values", "_law_leaf", "_law_expression", "_law_pick", "_law_set_step"] : List Str) ++ (["_law_sort_step", "_law_sample_step", "_law_keeping_step", "_law_lineage", "_law_calc", "_law_limited", "_law_flags", "_law_at", "_law_by_name", "_law_row_step", "_law_rows", "_law_plain_step", "_law_is"] : List Str)
def loose : List Str := gl ++ (["BadNumber", "UnknownName", "DivisionByZero", "TooLarge", "BadChoice", "LETTERS", "NAME_SIGNS", "LONGEST_NAME", "LIMIT", "MOST_COLUMNS", "DEEPEST", "union_of", "FUNCTIONS", "total", "by_size", "common_scale", "scaled", "sum_of", "mean_of", "median_of"] : List Str) ++ (["least_of", "greatest_of", "OF_SOME", "MOST_COUNT", "MOST_WHOLE", "MOST_SEED", "ORDERS", "MOST_KEYS", "MOST_TOTALS", "behind_sort", "behind_first", "behind_join", "behind_union", "is_total", "behind_group", "behind_distinct", "chosen_index", "MOST_ROWS", "order_key", "sorted_rows"] : List Str) ++ (["first_rows", "grouped", "check_size", "joined_rows", "united_rows", "limited_total", "group_rows", "distinct_rows"] : List Str)
def fa : List Fa := (.glo "law") :: gl.map Fa.glo ++ (btNames ++ (["sorted", "zip"] : List Str)).map Fa.free ++ [.str "LETTERS" letters, .str "NAME_SIGNS" signs, .int "LONGEST_NAME" 12, .int "LIMIT" lim, .int "DEEPEST" 8, .int "MOST_COLUMNS" 8, .int "MOST_WHOLE" 1000, .int "MOST_SEED" 1000000000]
def exL (K : PySem.W.Frag) : List Bool := [dnB K (ga K "LENIENT") "plus", dfB K (ga K "STRICT") "plus" "plus", dnB K (ga K "LENIENT") "minus", dfB K (ga K "STRICT") "minus" "minus", dnB K (ga K "LENIENT") "times", dfB K (ga K "STRICT") "times" "times", dnB K (ga K "LENIENT") "over", dfB K (ga K "STRICT") "over" "over", dnB K (ga K "LENIENT") "less", dfB K (ga K "STRICT") "less" "less", dnB K (ga K "LENIENT") "same", dfB K (ga K "STRICT") "same" "same", dfB K (ga K "LENIENT") "both" "both", dfB K (ga K "LENIENT") "either" "either", tupB K "KINDS" [.str "number", .str "word", .str "flag"], tupB K "PAIRED" [.str "same", .str "if"], tupB K "ARITHMETIC" [.str "plus", .str "minus", .str "times", .str "over"], dtB K (ga K "OPERANDS") "plus" [.str "number", .str "number"], dtB K (ga K "OPERANDS") "minus" [.str "number", .str "number"], dtB K (ga K "OPERANDS") "times" [.str "number", .str "number"], dtB K (ga K "OPERANDS") "over" [.str "number", .str "number"], dtB K (ga K "OPERANDS") "less" [.str "number", .str "number"], dtB K (ga K "OPERANDS") "same" [.non, .non], dtB K (ga K "OPERANDS") "both" [.str "flag", .str "flag"], dtB K (ga K "OPERANDS") "either" [.str "flag", .str "flag"], dtB K (ga K "OPERANDS") "not" [.str "flag"], dtB K (ga K "OPERANDS") "missing" [.non], dtB K (ga K "OPERANDS") "if" [.str "flag", .non, .non], Fa.ok K (.mkr "Table"), Fa.ok K (.cls "Table"), Fa.ok K (.noat "Table" "shape"), Fa.ok K (.noat "Table" "body"), Fa.ok K (.meth "Table" "columns"), Fa.ok K (.meth "Table" "rows"), eqO (PySem.W.findIn K (.ref (ga K "Table")) "__class__") (some (some (.builtin "object.__class__"))), eqO (PySem.W.specialIn K (.builtin "object.__class__") "__get__") (some (some (.builtin "getset_descriptor.__get__"))), optB (PySem.W.takesIn K (.builtin "object.__class__")) (some true), optB (PySem.W.mroIn K (ga K "Table") (.type "object")) (some true), optB (PySem.W.kitOne K (.ref (ga K "Table")) (.ref (ga K "Table"))) (some true), diB K (ga K "LENGTHS") "keep" 2, diB K (ga K "LENGTHS") "set" 3, diB K (ga K "LENGTHS") "select" 2, diB K (ga K "LENGTHS") "rename" 3, diB K (ga K "LENGTHS") "sample" 4, dfB K (ga K "BEHIND") "keep" "behind_keep", dfB K (ga K "BEHIND") "set" "behind_set", dfB K (ga K "BEHIND") "select" "behind_select", dfB K (ga K "BEHIND") "rename" "behind_rename", dfB K (ga K "BEHIND") "sample" "behind_sample", decide ([ga K "kept_rows", ga K "set_rows", ga K "selected_rows", ga K "all_rows", ga K "sampled_rows"].Nodup), dfB K (ga K "ROWS_BEHIND") "keep" "kept_rows", dfB K (ga K "ROWS_BEHIND") "set" "set_rows", dfB K (ga K "ROWS_BEHIND") "select" "selected_rows", dfB K (ga K "ROWS_BEHIND") "rename" "all_rows", dfB K (ga K "ROWS_BEHIND") "sample" "sampled_rows"]
def ex (K : PySem.W.Frag) : Bool := (exL K).all id
def ts : List Tab := [((fun K => ga K "STRICT"), ["plus", "minus", "times", "over", "less", "same"]), ((fun K => ga K "LENIENT"), ["both", "either"]), ((fun K => ga K "OPERANDS"), ["plus", "minus", "times", "over", "less", "same", "both", "either", "not", "missing", "if"]), ((fun K => ga K "LENGTHS"), ["keep", "set", "select", "rename", "sort", "first", "sample", "join", "union", "group", "distinct"]), ((fun K => ga K "BEHIND"), ["keep", "set", "select", "rename", "sort", "first", "sample", "join", "union", "group", "distinct"]), ((fun K => ga K "ROWS_BEHIND"), ["keep", "set", "select", "rename", "sort", "first", "sample", "join", "union", "group", "distinct"])]
def ads : List Addr := ([922, 435, 611, 612, 749, 51, 345, 346, 198, 218, 231, 230, 134, 141, 148, 155, 162, 169, 176, 183, 190, 197, 203, 210, 217, 255, 267, 262, 274, 281, 248, 236, 243, 288, 295, 302, 309, 316, 323, 330] : List Addr) ++ ([337, 344, 351, 356, 363, 373, 508, 515, 522, 529, 536, 543, 548, 553, 558, 579, 619, 626, 640, 647, 652, 657, 662, 669, 674, 681, 705, 755, 762, 769, 776, 783, 788, 795, 802, 809, 814, 819, 824, 831] : List Addr) ++ ([836, 841, 848, 853, 860, 867, 874, 881, 886, 891, 896, 901, 908, 915, 921, 434, 565, 572, 584, 591, 603, 610, 693, 700, 724, 731, 743, 748, 50, 219, 220, 221, 222, 223, 224, 225, 226, 227, 228, 229] : List Addr) ++ ([133, 140, 147, 154, 161, 168, 175, 182, 189, 196, 202, 209, 216, 254, 266, 261, 273, 280, 247, 235, 242, 287, 294, 301, 308, 315, 322, 329, 336, 343, 350, 355, 362, 372, 507, 514, 521, 528, 535, 542] : List Addr) ++ ([547, 552, 557, 578, 618, 625, 639, 646, 651, 656, 661, 668, 673, 680, 704, 754, 750, 761, 768, 775, 782, 787, 794, 801, 808, 813, 818, 823, 830, 835, 840, 847, 852, 859, 866, 873, 880, 885, 890, 895] : List Addr) ++ ([900, 907, 914, 916, 917, 918, 919, 920, 387, 394, 401, 406, 411, 418, 425, 432, 433, 436, 437, 564, 571, 583, 590, 602, 609, 692, 699, 723, 730, 742, 747, 386, 393, 400, 405, 410, 417, 424, 431] : List Addr)
abbrev R : PySem.W.OpenRow := PySem.W.OpenLaw.row PySem.Challenge.rw_liveclaims_k16_kept_and_set_rows
abbrev hk : PySem.W.Hook := hookA ads fa fn ex ts
def ob (s : PySem.W.SharedT) : AlF := obsA ads fa fn ex ts (HandSHeadRun.getT s)
theorem ob_eq (s : PySem.W.SharedT) : ob s = hk.obs s.abs := obsA_eq (HandSHeadRun.getT_eq s)
open PySem.W PySem.Calls HandSHeadRun in
theorem pL_false (w : World) (os : OsState) : (endF (stepQ (denQ tabQ) R.prog (w.withFollow "special-get-raises" false)) 20000 R.prog (w.withFollow "special-get-raises" false) os).map (fun s => looksF R.prog (boot_heap (w.withFollow "special-get-raises" false).params) s.abs) = some (true) := by
  kernel_rfl
open PySem.W PySem.Calls HandSHeadRun in
theorem pS_false (w : World) (os : OsState) : (endF (stepQ (denQ tabQ) R.prog (w.withFollow "special-get-raises" false)) 20000 R.prog (w.withFollow "special-get-raises" false) os).map (fun s => (seenQ (PySem.W.view R.prog [150]) loose (importedModules R.prog.main.body) (fun s => xlAt (PySem.W.view R.prog [150]) [] s && recOk R.toRowW.records s) s.abs, (ob s).2)) = some ((openGood (PySem.W.view R.prog [150]) loose, (hk.val (w.withFollow "special-get-raises" false)).2)) := by
  kernel_rfl
open PySem.W PySem.Calls HandSHeadRun in
theorem pA_false (w : World) (os : OsState) : (endF (stepQ (denQ tabQ) R.prog (w.withFollow "special-get-raises" false)) 20000 R.prog (w.withFollow "special-get-raises" false) os).map (fun s => (ob s).1.1) = some ((hk.val (w.withFollow "special-get-raises" false)).1.1) := by
  kernel_rfl
open PySem.W PySem.Calls HandSHeadRun in
theorem pE_false (w : World) (os : OsState) : (endF (stepQ (denQ tabQ) R.prog (w.withFollow "special-get-raises" false)) 20000 R.prog (w.withFollow "special-get-raises" false) os).map (fun s => (ob s).1.2) = some ((hk.val (w.withFollow "special-get-raises" false)).1.2) := by
  kernel_rfl
theorem run_false (w : World) : HandSHeadRun.RunEq R (PySem.W.view R.prog [150]) hk ob 20000 loose (w.withFollow "special-get-raises" false) := fun os => opt_run (pL_false w os) (pS_false w os) (pA_false w os) (pE_false w os)
open PySem.W PySem.Calls HandSHeadRun in
theorem pL_true (w : World) (os : OsState) : (endF (stepQ (denQ tabQ) R.prog (w.withFollow "special-get-raises" true)) 20000 R.prog (w.withFollow "special-get-raises" true) os).map (fun s => looksF R.prog (boot_heap (w.withFollow "special-get-raises" true).params) s.abs) = some (true) := by
  kernel_rfl
open PySem.W PySem.Calls HandSHeadRun in
theorem pS_true (w : World) (os : OsState) : (endF (stepQ (denQ tabQ) R.prog (w.withFollow "special-get-raises" true)) 20000 R.prog (w.withFollow "special-get-raises" true) os).map (fun s => (seenQ (PySem.W.view R.prog [150]) loose (importedModules R.prog.main.body) (fun s => xlAt (PySem.W.view R.prog [150]) [] s && recOk R.toRowW.records s) s.abs, (ob s).2)) = some ((openGood (PySem.W.view R.prog [150]) loose, (hk.val (w.withFollow "special-get-raises" true)).2)) := by
  kernel_rfl
open PySem.W PySem.Calls HandSHeadRun in
theorem pA_true (w : World) (os : OsState) : (endF (stepQ (denQ tabQ) R.prog (w.withFollow "special-get-raises" true)) 20000 R.prog (w.withFollow "special-get-raises" true) os).map (fun s => (ob s).1.1) = some ((hk.val (w.withFollow "special-get-raises" true)).1.1) := by
  kernel_rfl
open PySem.W PySem.Calls HandSHeadRun in
theorem pE_true (w : World) (os : OsState) : (endF (stepQ (denQ tabQ) R.prog (w.withFollow "special-get-raises" true)) 20000 R.prog (w.withFollow "special-get-raises" true) os).map (fun s => (ob s).1.2) = some ((hk.val (w.withFollow "special-get-raises" true)).1.2) := by
  kernel_rfl
theorem run_true (w : World) : HandSHeadRun.RunEq R (PySem.W.view R.prog [150]) hk ob 20000 loose (w.withFollow "special-get-raises" true) := fun os => opt_run (pL_true w os) (pS_true w os) (pA_true w os) (pE_true w os)
theorem run (w : World) : HandSHeadRun.RunEq R (PySem.W.view R.prog [150]) hk ob 20000 loose w := PySem.W.byRow2 "special-get-raises" (P := fun w => HandSHeadRun.RunEq R (PySem.W.view R.prog [150]) hk ob 20000 loose w) run_false run_true w
end K16
set_option Elab.async false
set_option linter.all false
set_option maxRecDepth 100000
set_option maxHeartbeats 4000000
namespace K16
open PySem PySem.Spec PyProof.Rows L2 Lc
def spLNm : Sp := fun vs H Q _ => ∃ (t l : Addr), vs = [.ref t] ∧ TapeL l H t ∧ ∀ (x : Str) (H' : Hp), Sh 12 x → nameB (.str x) = true → TapeL l H' t → SameB t H H' → Q (.str x) H'
abbrev sLnm : Stmt := top 128
section
variable {P : Program} {w : World} {K : PySem.W.Frag} {mg : Str → Option Value} {base : Heap} {f fD : Addr} {fd fdD : FuncData}
theorem scLnm : FnScope ["_law_tape_here", "_law_letters", "_law_size", "_law_place", "_law_sign", "_law_k"] ["_law_tape_here"] (defScope sLnm) := ⟨rfl, rfl, rfl, by decide +kernel, rfl, by decide +kernel, by decide +kernel⟩
theorem ok_lnm (F : Fun K "_law_name" "_law_name" sLnm f fd) (T : Bt mg) (GD : FnOk P w K mg base CX0 1 fD fdD ["_law_tape_here", "_law_many"] spDrawL) (mD : mg "_law_draw" = some (.ref fD)) (kD : PySem.W.keepIn K (.ref fD) = true) (bD : Binds K fdD ["_law_tape_here", "_law_many"] []) :
    FnOk P w K mg base CX0 2 f fd ["_law_tape_here"] spLNm := by
  refine F.ok scLnm (fun vs H Q E h => ?_) (fun cdv A outer s H vs Q E hr h => ?_)
  · obtain ⟨t, l, rfl, _⟩ := h
    rfl
  · obtain ⟨t, l, rfl, hT, k⟩ := h
    replace hT : TapeL l H t := hT
    refine ⟨_, pss_cons (ps_set (i := 1) scLnm.nd rfl (Or.inr rfl) pe_str)
      (pss_cons (ps_set (i := 2) scLnm.nd rfl (Or.inl rfl) (pe_op op_add pe_int (pe_call GD hr (by rfl) mD kD bD .nil pass0 (pa_cons (pv 0) (pa_cons pe_int pa_nil)))))
      (pss_cons (ps_if (pt_cmpR op_eq (pe_call GD hr (by rfl) mD kD bD .nil pass0 (pa_cons (pv 0) (pa_cons pe_int pa_nil))) pe_int (nomark _))
        (pss_cons (ps_set (i := 3) scLnm.nd rfl (Or.inl rfl) (pe_call GD hr (by rfl) mD kD bD .nil pass0 (pa_cons (pv 0) (pa_cons (pv 2) pa_nil))))
        (pss_cons (ps_set (i := 4) scLnm.nd rfl (Or.inl rfl) (pe_ix ix_str (pv 1) (pe_call GD hr (by rfl) mD kD bD .nil pass0 (pa_cons (pv 0) (pa_cons (pe_op op_add pe_int (pe_op op_mul pe_int (pe_callTy call_int1 (by rfl) T.int boot_int (pa_cons (pe_cmpR op_gt (pv 3) pe_int (nomark _)) pa_nil)))) pa_nil))) (fun _ _ => rfl)))
        (pss_one (ps_ret (pe_op op_add_str (pe_op op_add_str (pe_op op_mulS pe_str (pv 3)) (pv 4)) (pe_op op_mulS pe_str (pe_op op_sub (pe_op op_sub (pv 2) pe_int) (pv 3)))))))) pss_nil)
      (pss_one (ps_ret (pe_join pe_str (pe_lc (own := [("_law_k", 5)]) (g := gName 5) (tt := tYes) (te := tOp rIxS (tVar 1) (tCall spDrawL [] E0 (tCons (tVar 0) (tCons (tOp (rI0 fun i j => .int (i + j)) (tC (.int 26)) (tOp (rI CMul fun i j => .int (i * j)) (tC (.int 10)) (tCB (fun xs H Q => (∃ i, xs = [.int i] ∧ Q (.int i) H) ∨ ∃ k, xs = [.bl k] ∧ Q (.int (if k then 1 else 0)) H) (tCons (tOp (rI0 fun i j => .bl (decide (j < i))) (tVar 5) (tC (.int 0))) tNil)))) tNil)))) (by rfl) scLnm.nd (pi_range1 (by rfl) T.range (pa_cons (pv 2) pa_nil))
        (blkOk_by (own := [("_law_k", 5)]) (N := ["_law_tape_here", "_law_letters", "_law_size", "_law_place", "_law_sign", "_law_k"]) (sc := defScope sLnm) (by decide +kernel)) (fun _ _ _ _ _ => pg_name (i := 5) scLnm.nd rfl (Or.inl rfl)) (fun _ _ _ _ _ => pts_nil)
        (fun _ _ _ _ _ => pe_ix ix_str (pv 1) (pe_call GD hr (by rfl) mD kD bD .nil pass0 (pa_cons (pv 0) (pa_cons (pe_op op_add pe_int (pe_op op_mul pe_int (pe_callTy call_int1 (by rfl) T.int boot_int (pa_cons (pe_cmpR op_gt (pv 5) pe_int (nomark _)) pa_nil)))) pa_nil))) (fun _ _ => rfl)))))))), ?_⟩
    have big : ∀ z : Int, 0 ≤ z → z ≤ 1000 → z.natAbs < 2 ^ 4000 := fun z h1 h2 => big1000 h1 h2
    have sl : (signs.cps.toList.length : Int) = 36 := by rw [signs_len]; rfl
    have sz : signs.length ≤ sizeLine := by rw [lenL, signs_len]; decide
    refine ⟨_, rfl, t, l, _, rfl, hT, by decide, big _ (by decide) (by decide), fun k1 H1 u1 v1 T1 S1 => ⟨_, _, rfl, rfl, ?_⟩⟩
    refine ⟨_, rfl, t, l, _, rfl, T1, by decide, big _ (by decide) (by decide), fun k2 H2 u2 v2 T2 S2 => ⟨rfl, _, rfl, ?_⟩⟩
    refine ite2 (fun _ => ?_) (fun _ => ?_)
    · refine ⟨_, rfl, _, rfl, t, l, _, rfl, T2, by omega, big _ (by omega) (by omega), fun k3 H3 u3 v3 T3 S3 => ?_⟩
      refine ⟨_, rfl, _, rfl, _, rfl, _, _, rfl, rfl, .inr ⟨_, rfl, _, _, rfl, rfl, .inl ⟨by decide, by decide⟩, _, _, rfl, rfl, t, l, _, rfl, T3, by split <;> decide, big _ (by split <;> decide) (by split <;> decide), fun k4 H4 u4 v4 T4 S4 => ?_⟩⟩
      obtain ⟨c, hc, mc, isc, ilc⟩ := sgn_at (i := k4) u4 (by split at v4 <;> omega)
      refine ⟨signs, k4, c, rfl, rfl, sz, hc, ?_⟩
      have m1 : Sh k3.toNat (Txt.mul (PySem.Str.ofString "a") k3) := sh_mul sh_a (Nat.le_refl _) (Nat.le_refl _)
      have m2 : Sh 1 (⟨#[c]⟩ : Str) := sh_one (signs_ok c mc)
      have m3 : Sh (1 + k1 - 1 - k3).toNat (Txt.mul (PySem.Str.ofString "a") (1 + k1 - 1 - k3)) := sh_mul sh_a (Nat.le_refl _) (Nat.le_refl _)
      have ss : (100 : Nat) ≤ sizeLine := by decide
      refine ⟨_, rfl, _, _, rfl, rfl, mul_ok a_size (by omega) (by omega), _, rfl, _, _, rfl, rfl, ?_, _, rfl, _, _, rfl, rfl, _, rfl, _, _, rfl, rfl, _, _, rfl, rfl, mul_ok a_size (by omega) (by omega), _, _, rfl, rfl, ?_, ?_⟩
      · have := sh_len m1
        have := sh_len m2
        omega
      · have := sh_len (sh_app m1 m2)
        have := sh_len m3
        omega
      · exact k _ _ ((sh_app (sh_app m1 m2) m3).mono (by omega)) (name_one u3 (by omega) (by omega) isc (fun z => ilc (by rw [z] at v4; simpa using v4))) T4 (((S1.trans S2).trans S3).trans S4)
    · refine ⟨⟨_, rfl⟩, _, rfl, _, rfl, by omega, by omega, fun D hD => ?_⟩
      have nD : D ≠ t := T2.tape.ne hD
      have nL : D ≠ l := by
        obtain ⟨xs, z⟩ := T2.list
        exact Ne.symm (ne_of_none z hD)
      let one : Nat → Str := fun c => ⟨#[c]⟩
      refine lc_it walk_range (fun i H' => ∃ cs : List Nat, H' D = some (.lst ((cs.map one).map V.str)) ∧ cs.length = i ∧ (∀ c ∈ cs, c ∈ signs.cps.toList ∧ inS c = true) ∧ (∀ c r, cs = c :: r → inL c = true) ∧ TapeL l H' t ∧ SameB t H2 H') ⟨[], upd_same, rfl, by simp, nofun, T2.same (Same.upd hD), Same.b t (Same.upd hD)⟩ (fun _ _ _ _ => True.intro) ?_ ?_
      · rintro i y H' H'' hi ⟨cs, h1, h2, h3, h3b, h4, h5⟩ ⟨rfl, rfl⟩
        refine ⟨rfl, ?_⟩
        change tOp rIxS (tVar 1) _ _ _ _
        refine ⟨_, rfl, _, rfl, _, rfl, _, _, rfl, rfl, .inr ⟨_, rfl, _, _, rfl, rfl, .inl ⟨by decide, by decide⟩, _, _, rfl, rfl, t, l, _, rfl, h4, by split <;> decide, big _ (by split <;> decide) (by split <;> decide), fun k4 H4 u4 v4 T4 S4 => ?_⟩⟩
        obtain ⟨c, hc, mc, isc, ilc⟩ := sgn_at (i := k4) u4 (by split at v4 <;> omega)
        refine ⟨signs, k4, c, rfl, rfl, sz, hc, _, S4 _ _ nD h1, by rw [List.length_map, List.length_map, h2]; exact Nat.lt_trans hi (Nat.lt_of_le_of_lt (show (1 + k1).toNat ≤ 12 by omega) (by decide)), ?_⟩
        refine ⟨cs ++ [c], by rw [upd_same, List.map_append, List.map_append]; rfl, by rw [List.length_append, h2]; rfl, fun y hy => ?_, fun c' r' e => ?_, T4.upd nD nL, fun b o n e => ?_⟩
        · rcases List.mem_append.mp hy with hy | hy
          · exact h3 y hy
          · rw [List.mem_singleton.mp hy]
            exact ⟨mc, isc⟩
        · cases cs with
          | nil =>
            have e : c = c' := by injection e
            rw [← e]
            have i0 : i = 0 := by rw [← h2]; rfl
            subst i0
            exact ilc (by simpa using v4)
          | cons d r =>
            injection e with e _
            rw [← e]
            exact h3b d r rfl
        · rw [upd_ne (ne_of_none e hD)]
          exact (h5.trans S4) b o n e
      · rintro H' ⟨cs, h1, h2, h3, h3b, h4, h5⟩
        have e12 : cs.length ≤ 12 := by omega
        have s1 : ∀ y ∈ cs.map one, Sh 1 y := fun y hy => by
          obtain ⟨c, hc, rfl⟩ := List.mem_map.mp hy
          exact sh_one (signs_ok c (h3 c hc).1)
        have sum : ∀ l : List Str, (∀ y ∈ l, Sh 1 y) → (l.map (·.length)).sum ≤ l.length := by
          intro l
          induction l with
          | nil => intro _; simp
          | cons y l ih =>
            intro h
            have := ih fun z hz => h z (List.mem_cons_of_mem _ hz)
            have := sh_len (h y List.mem_cons_self)
            simp only [List.map_cons, List.sum_cons, List.length_cons]
            omega
        have lm : (cs.map one).length = cs.length := List.length_map ..
        refine ⟨_, D, cs.map one, rfl, rfl, .inl (SqL.of h1), by have := sum _ s1; show _ + (cs.map one).length * 0 ≤ _; omega, ?_⟩
        exact k _ _ ((join_sh _ s1).mono (by omega)) (name_join (fun z => by rw [z] at h2; have : (0 : Nat) = (1 + k1).toNat := h2; omega) e12 h3b (fun c hc => (h3 c hc).2)) h4 ((S1.trans S2).trans h5)
end
end K16
set_option Elab.async false
set_option linter.all false
set_option maxRecDepth 100000
set_option maxHeartbeats 4000000
namespace K16
open PySem PySem.Spec PyProof.Rows L2 Lc
abbrev sFr : Stmt := top 129
def spFr : Sp := fun vs H Q _ => ∃ (t c l : Addr) (ss : List Str), vs = [.ref t, .ref l] ∧ TapeL c H t ∧ H l = some (.lst (ss.map V.str)) ∧ ss.length < 36 ∧ ∀ (x : Str) (H' : Hp), Sh 12 x → nameB (.str x) = true → x ∉ ss → TapeL c H' t → SameB t H H' → Q (.str x) H'
theorem ne_tape {H : Hp} {t l : Addr} {ss : List Str} (T : Tape H t) (h : H l = some (.lst (ss.map V.str))) : l ≠ t := fun z => by
  obtain ⟨a, _, _, _, _, ht, _⟩ := T
  rw [z, ht] at h
  cases ss with
  | nil => cases h
  | cons x r =>
    injection h with h
    injection h with h
    injection h with h1 _
    cases h1
section
variable {P : Program} {w : World} {K : PySem.W.Frag} {mg : Str → Option Value} {base : Heap} {f fN : Addr} {fd fdN : FuncData}
theorem scFr : FnScope ["_law_tape_here", "_law_taken", "_law_name_here", "_law_letter"] ["_law_tape_here", "_law_taken"] (defScope sFr) := ⟨rfl, rfl, rfl, by decide +kernel, rfl, by decide +kernel, by decide +kernel⟩
theorem ok_fr (F : Fun K "_law_fresh" "_law_fresh" sFr f fd) (GN : FnOk P w K mg base CX0 2 fN fdN ["_law_tape_here"] spLNm) (mN : mg "_law_name" = some (.ref fN)) (kN : PySem.W.keepIn K (.ref fN) = true) (bN : Binds K fdN ["_law_tape_here"] []) :
    FnOk P w K mg base CX0 3 f fd ["_law_tape_here", "_law_taken"] spFr := by
  refine F.ok scFr (fun vs H Q E h => ?_) (fun cdv A outer s H vs Q E hr h => ?_)
  · obtain ⟨t, c, l, ss, rfl, _⟩ := h
    rfl
  · obtain ⟨t, tl, l, ss, rfl, hT, hl, l36, k⟩ := h
    refine ⟨_, pss_cons (ps_set (i := 2) scFr.nd rfl (Or.inl rfl) (pe_call GN hr (by rfl) mN kN bN .nil pass0 (pa_cons (pv 0) pa_nil)))
      (pss_cons (ps_if (pt_cmpR op_notIn_seq (pv 2) (pv 1) (by rfl)) (pss_one (ps_ret (pv 2))) pss_nil)
      (pss_cons (ps_for PassesOwn.never rfl (pi_str pe_str) (pg_name (i := 3) scFr.nd rfl (Or.inl rfl))
        (pss_one (ps_if (pt_cmpR op_notIn_seq (pe_op op_add_str (pe_slice sl_str (pv 2) po_none (po_some pe_int)) (pv 3)) (pv 1) (by rfl)) (pss_one (ps_ret (pe_op op_add_str (pe_slice sl_str (pv 2) po_none (po_some pe_int)) (pv 3)))) pss_nil)))
      (pss_one (ps_ret (pv 2))))), ?_⟩
    refine ⟨_, rfl, t, tl, rfl, hT, fun x H1 hx nx T1 S1 => ?_⟩
    have hl1 := S1 _ _ (ne_tape hT.tape hl) hl
    have fl : (ss.map V.str).all flatV = true := by simp [flatV]
    have ln := hx.line (by decide)
    refine ⟨_, rfl, _, rfl, l, _, rfl, .inl (SqL.of hl1), rfl, fl, _, rfl, ite2 (fun y => ?_) (fun y => ?_)⟩
    · refine ⟨_, rfl, k x H1 hx nx (fun m => ?_) T1 S1⟩
      rw [if_pos rfl, in_strs, decide_eq_true m] at y
      cases y
    · refine ⟨_, rfl, for_it walk_str (fun i σ H' => (∃ x3 : Option V, σ = [some (.ref t), some (.ref l), some (.str x), x3]) ∧ H' = H1 ∧ ∀ (j : Nat) (c : Nat), j < i → signs.cps[j]? = some c → cutS x none (some 11) ++ (⟨#[c]⟩ : Str) ∈ ss) ⟨⟨_, rfl⟩, rfl, fun j c h => absurd h (Nat.not_lt_zero _)⟩ (fun _ _ _ _ _ => trivial) ?_ ?_⟩
      · rintro i v σ Ha Hb hi ⟨⟨x3, rfl⟩, rfl, all⟩ ⟨rfl, c, hc, rfl⟩
        have hc : signs.cps[i]? = some c := hc
        have mc : c ∈ signs.cps.toList := Array.mem_toList_iff.mpr (Array.mem_of_getElem? hc)
        have isc : inS c = true := decide_eq_true mc
        have cs : c < 1114112 := signs_ok c mc
        have sc : Sh 11 (cutS x none (some 11)) := ⟨by rw [cut_list, List.length_take]; omega, (sh_cut none (some 11) hx).ok⟩
        have so : Sh 1 (⟨#[c]⟩ : Str) := sh_one cs
        have lt : (cutS x none (some 11)).length + (⟨#[c]⟩ : Str).length ≤ sizeLine := Nat.le_trans (Nat.add_le_add (sh_len sc) (sh_len so)) (by decide)
        refine ⟨_, rfl, 11, rfl, x, rfl, ln, _, rfl, _, _, rfl, rfl, lt, _, rfl, l, _, rfl, .inl (SqL.of hl1), rfl, fl, _, rfl, ite2 (fun y => ?_) (fun y => ?_)⟩
        · refine ⟨_, rfl, 11, rfl, x, rfl, ln, _, rfl, _, _, rfl, rfl, lt, k _ _ (sh_app sc so) (name_cut nx isc) (fun m => ?_) T1 S1⟩
          rw [if_pos rfl, in_strs, decide_eq_true m] at y
          cases y
        · refine ⟨⟨_, rfl⟩, rfl, fun j c' hj hc' => ?_⟩
          by_cases e : j = i
          · subst e
            rw [hc] at hc'
            cases hc'
            rw [if_pos rfl, in_strs] at y
            exact of_decide_eq_true (by simpa using y)
          · exact all j c' (by omega) hc'
      · rintro σ H' ⟨⟨x3, rfl⟩, rfl, all⟩
        refine (free_letter (x := x) l36 fun c mc => ?_).elim
        obtain ⟨j, hj⟩ := List.mem_iff_getElem?.mp mc
        rw [Array.getElem?_toList] at hj
        exact all j c (Array.getElem?_eq_some_iff.mp hj).1 hj
end
theorem Same.gone {H H' : Hp} {p : Addr} (s : Same H H') (e : H' p = none) : H p = none := by
  cases q : H p with
  | none => rfl
  | some o => rw [s p o q] at e; cases e
abbrev sCls : Stmt := top 130
/-! ## columns: pairs of texts -/
inductive Cols (H : Hp) : List V → List (Str × Str) → Prop
  | nil : Cols H [] []
  | cons {a : Addr} {z k : Str} {xs : List V} {ps : List (Str × Str)} (e : H a = some (.tup [.str z, .str k])) (r : Cols H xs ps) : Cols H (.ref a :: xs) ((z, k) :: ps)
theorem Cols.t {H H' : Hp} (s : SameT H H') : ∀ {xs : List V} {ps : List (Str × Str)}, Cols H xs ps → Cols H' xs ps
  | _, _, .nil => .nil
  | _, _, .cons e r => .cons (s _ _ e) (Cols.t s r)
theorem Cols.app {H : Hp} : ∀ {xs ys : List V} {ps qs : List (Str × Str)}, Cols H xs ps → Cols H ys qs → Cols H (xs ++ ys) (ps ++ qs)
  | _, _, _, _, .nil, r => r
  | _, _, _, _, .cons e h, r => .cons e (Cols.app h r)
theorem Cols.len {H : Hp} : ∀ {xs : List V} {ps : List (Str × Str)}, Cols H xs ps → xs.length = ps.length
  | _, _, .nil => rfl
  | _, _, .cons _ r => by rw [List.length_cons, List.length_cons, Cols.len r]
def colP (p : Str × Str) : PyData := .tuple [.str p.1, .str p.2]
theorem Cols.dh {H : Hp} : ∀ {xs : List V} {ps : List (Str × Str)}, Cols H xs ps → DhAll H xs (ps.map colP)
  | _, _, .nil => .nil
  | _, _, .cons e r => .cons (.tup e (.cons (.str _) (.cons (.str _) .nil))) (Cols.dh r)
def KindS (k : Str) : Prop := k = "number" ∨ k = "word" ∨ k = "flag"
theorem KindS.sh {k : Str} (h : KindS k) : Sh 100 k := by
  rcases h with rfl | rfl | rfl <;> exact ⟨by decide +kernel, by decide +kernel⟩
def spCls : Sp := fun vs H Q _ => ∃ (t c l n : Addr) (m : Int) (lead tk : List Str), vs = [.ref t, .ref l, .int m, .ref n] ∧ TapeL c H t ∧ LT H l (lead.map V.str) ∧ LT H n (tk.map V.str) ∧ tk.length ≤ 8 ∧ 0 ≤ m ∧ m ≤ 7 ∧ lead.length + m.toNat ≤ 8 ∧ (∀ k ∈ lead, KindS k) ∧
  ∀ (r : Addr) (xs : List V) (ps : List (Str × Str)) (H' : Hp), ZT H' r xs → Cols H' xs ps → (∀ p ∈ ps, Sh 12 p.1 ∧ nameB (.str p.1) = true ∧ KindS p.2) → (ps.map (·.1)).Nodup → (∀ p ∈ ps, p.1 ∉ tk) → lead.length ≤ ps.length → ps.length ≤ lead.length + m.toNat → TapeL c H' t → SameB t H H' → Q (.ref r) H'
section
variable {P : Program} {w : World} {K : PySem.W.Frag} {mg : Str → Option Value} {base : Heap} {f fD fF : Addr} {fd fdD fdF : FuncData}
theorem scCls : FnScope ["_law_tape_here", "_law_lead", "_law_many", "_law_taken", "_law_names", "_law_columns_here", "_law_kinds", "_law_k", "_law_kind"] ["_law_tape_here", "_law_lead", "_law_many", "_law_taken"] (defScope sCls) := ⟨rfl, rfl, rfl, by decide +kernel, rfl, by decide +kernel, by decide +kernel⟩
theorem ok_cls (F : Fun K "_law_columns" "_law_columns" sCls f fd) (T : Bt mg) (GD : FnOk P w K mg base CX0 1 fD fdD ["_law_tape_here", "_law_many"] spDrawL) (mD : mg "_law_draw" = some (.ref fD)) (kD : PySem.W.keepIn K (.ref fD) = true) (bD : Binds K fdD ["_law_tape_here", "_law_many"] [])
    (GF : FnOk P w K mg base CX0 3 fF fdF ["_law_tape_here", "_law_taken"] spFr) (mF : mg "_law_fresh" = some (.ref fF)) (kF : PySem.W.keepIn K (.ref fF) = true) (bF : Binds K fdF ["_law_tape_here", "_law_taken"] []) :
    FnOk P w K mg base CX0 4 f fd ["_law_tape_here", "_law_lead", "_law_many", "_law_taken"] spCls := by
  refine F.ok scCls (fun vs H Q E h => ?_) (fun cdv A outer s H vs Q E hr h => ?_)
  · obtain ⟨t, c, l, n, m, lead, tk, rfl, _⟩ := h
    rfl
  · obtain ⟨t, c, l, n, m, lead, tk, rfl, hT, hl, hn, tk8, m0, m7, ld8, hkl, k⟩ := h
    have hr1 : Room 1 _ := hr.mono (by decide)
    refine ⟨_, pss_cons (ps_set (i := 4) scCls.nd rfl (Or.inl rfl) (pe_callTy call_list_of (by rfl) T.list boot_list (pa_cons (pv 3) pa_nil)))
      (pss_cons (ps_set (i := 5) scCls.nd rfl (Or.inl rfl) (pe_lst pa_nil))
      (pss_cons (ps_set (i := 6) scCls.nd rfl (Or.inl rfl) (pe_callTy call_list_of (by rfl) T.list boot_list (pa_cons (pv 1) pa_nil)))
      (Evl.pss_cut (ps_for PassesOwn.never rfl (pi_range1 (by rfl) T.range (pa_cons (pe_call GD hr1 (by rfl) mD kD bD .nil pass0 (pa_cons (pv 0) (pa_cons (pe_op op_add (pv 2) pe_int) pa_nil))) pa_nil)) (pg_name (i := 7) scCls.nd rfl (Or.inl rfl))
        (pss_one (ps_expr (pe_bm PySem.F.plainAttrs_list PySem.F.slot_list_append PySem.F.type_list_append mt_append (pv 6) (pa_cons (pe_ix ix_list (pe_lst (pa_cons pe_str (pa_cons pe_str (pa_cons pe_str pa_nil)))) (pe_call GD hr1 (by rfl) mD kD bD .nil pass0 (pa_cons (pv 0) (pa_cons pe_int pa_nil))) (fun _ _ => rfl)) pa_nil)))))
      (pss_cons (ps_for PassesOwn.never rfl (pi_list (pv 6)) (pg_name (i := 8) scCls.nd rfl (Or.inl rfl))
        (pss_cons (ps_expr (pe_bm PySem.F.plainAttrs_list PySem.F.slot_list_append PySem.F.type_list_append mt_append (pv 4) (pa_cons (pe_call GF hr (by rfl) mF kF bF .nil pass0 (pa_cons (pv 0) (pa_cons (pv 4) pa_nil))) pa_nil)))
        (pss_one (ps_expr (pe_bm PySem.F.plainAttrs_list PySem.F.slot_list_append PySem.F.type_list_append mt_append (pv 5) (pa_cons (pe_tup (pa_cons (pe_ix ix_list (pv 4) (pe_un un_neg pe_int) (fun _ _ => rfl)) (pa_cons (pv 8) pa_nil))) pa_nil))))))
      (pss_one (ps_ret (pe_callTy call_tupleZ (by rfl) T.tuple boot_tuple (pa_cons (pv 5) pa_nil)))))))), ?_⟩
    refine ⟨_, rfl, n, _, rfl, hn.sq, fun L hL => ⟨by show 0 ≤ sizeLine; decide, fun M hM => ?_⟩⟩
    have yL := Same.upd (o := .lst (tk.map V.str)) hL
    have yM := Same.upd (o := .lst []) hM
    refine ⟨_, rfl, l, _, rfl, (hl.same (yL.trans yM)).sq, fun N hN => ?_⟩
    have yN := Same.upd (o := .lst (lead.map V.str)) hN
    have nLt := hT.tape.ne hL
    have nMt := (hT.same yL).tape.ne hM
    have nNt := (hT.same (yL.trans yM)).tape.ne hN
    obtain ⟨ys, hc⟩ := hT.list
    have nLc : L ≠ c := Ne.symm (ne_of_none hc hL)
    have nMc : M ≠ c := Ne.symm (ne_of_none (yL _ _ hc) hM)
    have nNc : N ≠ c := Ne.symm (ne_of_none ((yL.trans yM) _ _ hc) hN)
    have eL : upd H L (.lst (tk.map V.str)) L = some (.lst (tk.map V.str)) := upd_same
    have nML : L ≠ M := ne_of_none eL hM
    have nNL : L ≠ N := ne_of_none (yM _ _ eL) hN
    have nNM : M ≠ N := ne_of_none (show upd (upd H L (.lst (tk.map V.str))) M (.lst []) M = some (.lst []) from upd_same) hN
    have hL3 := (yM.trans yN) _ _ eL
    have hM3 := yN _ _ (show upd (upd H L (.lst (tk.map V.str))) M (.lst []) M = some (.lst []) from upd_same)
    have hN3 : upd (upd (upd H L (.lst (tk.map V.str))) M (.lst [])) N (.lst (lead.map V.str)) N = some (.lst (lead.map V.str)) := upd_same
    have s3 := yL.trans (yM.trans yN)
    have gM := Same.gone yL hM
    have gN := Same.gone (yL.trans yM) hN
    have hT3 := hT.same s3
    generalize upd (upd (upd H L (.lst (tk.map V.str))) M (.lst [])) N (.lst (lead.map V.str)) = H3 at hL3 hM3 hN3 s3 hT3 yN ⊢
    clear yN yM yL eL
    have o3 : 3 ≤ sizeLine := by decide
    let Md : Option V → Option V → List Str → L2.St → Hp → Prop := fun x7 x8 ks σ H' => σ = [some (.ref t), some (.ref l), some (.int m), some (.ref n), some (.ref L), some (.ref M), some (.ref N), x7, x8] ∧ H' N = some (.lst (ks.map V.str)) ∧ (∀ k ∈ ks, KindS k) ∧ TapeL c H' t ∧ SameB t H H'
    refine ⟨fun σ H' => ∃ x7 ks, Md x7 none ks σ H' ∧ H' L = some (.lst (tk.map V.str)) ∧ H' M = some (.lst []) ∧ lead.length ≤ ks.length ∧ ks.length ≤ lead.length + m.toNat, ?_, ?_⟩
    · refine ⟨_, rfl, _, rfl, _, _, rfl, rfl, t, c, _, rfl, hT3, by omega, big1000 (by omega) (by omega), fun k2 H4 u2 w2 T4 S4 => ⟨k2, rfl, by omega, by omega, for_range (n := k2.toNat) (fun i σ H' => ∃ x7 ks, Md x7 none ks σ H' ∧ H' L = some (.lst (tk.map V.str)) ∧ H' M = some (.lst []) ∧ ks.length = i + lead.length)
        ⟨_, lead, ⟨rfl, S4 _ _ nNt hN3, hkl, T4, (Same.b t s3).trans S4⟩, S4 _ _ nLt hL3, S4 _ _ nMt hM3, (Nat.zero_add _).symm⟩ ?_ ?_⟩⟩
      · rintro i σ H5 hi ⟨x7, ks, ⟨rfl, hN5, hk5, T5, S5⟩, hL5, hM5, e5⟩
        refine ⟨_, rfl, .inl ⟨rfl, _, SqL.of hN5⟩, o3, fun q hq => ?_⟩
        have zq := Same.upd (o := .lst [.str "number", .str "word", .str "flag"]) hq
        have nq := T5.tape.ne hq
        refine ⟨_, rfl, t, c, _, rfl, T5.same zq, by decide, big1000 (by decide) (by decide), fun k3 H6 u3 w3 T6 S6 => ?_⟩
        obtain ⟨kk, hkk, skk⟩ : ∃ kk : Str, ([.str "number", .str "word", .str "flag"] : List V)[k3.toNat]? = some (.str kk) ∧ KindS kk := by
          have : k3.toNat = 0 ∨ k3.toNat = 1 ∨ k3.toNat = 2 := by omega
          rcases this with e | e | e <;> rw [e]
          · exact ⟨_, rfl, .inl rfl⟩
          · exact ⟨_, rfl, .inr (.inl rfl)⟩
          · exact ⟨_, rfl, .inr (.inr rfl)⟩
        have S7 : SameB t H5 H6 := (Same.b t zq).trans S6
        have hN6 := S7 _ _ nNt hN5
        refine ⟨q, _, _, _, rfl, rfl, SqL.of (S6 _ _ nq upd_same), at_of (j := k3.toNat) (by omega) hkk, N, _, _, rfl, rfl, hN6, ?_, ?_⟩
        · rw [List.length_map, e5]
          exact Nat.lt_of_le_of_lt (show i + lead.length ≤ 8 by omega) (by decide)
        · refine ⟨_, ks ++ [kk], ⟨rfl, by rw [upd_same, List.map_append]; rfl, fun k hk => ?_, T6.upd nNt nNc, fun b o n e => ?_⟩, by rw [upd_ne nNL]; exact S7 _ _ nLt hL5, by rw [upd_ne nNM]; exact S7 _ _ nMt hM5, by rw [List.length_append, e5, List.length_singleton]; omega⟩
          · rcases List.mem_append.mp hk with hk | hk
            · exact hk5 k hk
            · rw [List.mem_singleton.mp hk]; exact skk
          · rw [upd_ne (fun z => by rw [z, gN] at e; cases e)]
            exact (S5.trans S7) b o n e
      · rintro σ H5 ⟨x7, ks, h5, hL5, hM5, e5⟩
        exact ⟨x7, ks, h5, hL5, hM5, by omega, by omega⟩
    · rintro σ H5 ⟨x7, ks, ⟨rfl, hN5, hk5, T5, S5⟩, hL5, hM5, e5, e6⟩
      refine ⟨_, rfl, N, rfl, ⟨_, SqL.of hN5⟩, for_list (K := K) (a := N) (xs := ks.map V.str) (fun i σ H' => ∃ (x8 : Option V) (ns : List Str) (xs : List V) (ps : List (Str × Str)), Md x7 x8 ks σ H' ∧ H' L = some (.lst ((tk ++ ns).map V.str)) ∧ H' M = some (.lst xs) ∧ Cols H' xs ps ∧ (∀ p ∈ ps, Sh 12 p.1 ∧ nameB (.str p.1) = true ∧ KindS p.2) ∧ ns.length = i ∧ ps.length = i ∧ ps.map (·.1) = ns ∧ ns.Nodup ∧ ∀ x ∈ ns, x ∉ tk)
        ⟨_, [], [], [], ⟨rfl, hN5, hk5, T5, S5⟩, by rw [List.append_nil]; exact hL5, hM5, .nil, nofun, rfl, rfl, rfl, List.nodup_nil, nofun⟩ (fun i σ H' _ p => by obtain ⟨_, _, _, _, ⟨_, z, _⟩, _⟩ := p; exact SqL.of z) ?_ ?_⟩
      · rintro i x σ H6 hx ⟨x8, ns, xs, ps, ⟨rfl, hN6, _, T6, S6⟩, hL6, hM6, hc6, hp6, e7, e8, en, nd, ntk⟩
        obtain ⟨kk, hkk, rfl⟩ : ∃ kk, ks[i]? = some kk ∧ V.str kk = x := by
          rw [List.getElem?_map] at hx
          cases q : ks[i]? with
          | none => rw [q] at hx; cases hx
          | some kk => rw [q] at hx; exact ⟨kk, rfl, Option.some.inj hx⟩
        have hi8 : i < 8 := Nat.lt_of_lt_of_le (List.getElem?_eq_some_iff.mp hkk).1 (show ks.length ≤ 8 by omega)
        have skk := hk5 kk (List.mem_of_getElem? hkk)
        have lim : ∀ {m : Nat}, m ≤ 8 → m < sizeLine := fun h => Nat.lt_of_le_of_lt h (by decide)
        refine ⟨_, rfl, .inl ⟨rfl, _, SqL.of hL6⟩, _, rfl, _, rfl, t, c, L, tk ++ ns, rfl, T6, hL6, by rw [List.length_append]; omega, fun z H7 hz nz fz T7 S7 => ?_⟩
        have hL7 := S7 _ _ nLt hL6
        have hM7 := S7 _ _ nMt hM6
        have hN7 := S7 _ _ nNt hN6
        have hc7 := hc6.t (SameT.b T6.tape S7)
        refine ⟨L, _, _, rfl, rfl, hL7, by rw [List.length_map, List.length_append, e7]; exact Nat.lt_of_le_of_lt (show _ ≤ 16 by omega) (by decide), ?_⟩
        have hc8 := hc7.t (SameT.lst (o := .lst ((tk ++ ns).map V.str ++ [.str z])) hL7)
        have T8 := T7.upd (o := .lst ((tk ++ ns).map V.str ++ [.str z])) nLt nLc
        have hL8 : upd H7 L (.lst ((tk ++ ns).map V.str ++ [.str z])) L = some (.lst ((tk ++ ns).map V.str ++ [.str z])) := upd_same
        have hM8 : upd H7 L (.lst ((tk ++ ns).map V.str ++ [.str z])) M = some (.lst xs) := by rw [upd_ne (Ne.symm nML)]; exact hM7
        have hN8 : upd H7 L (.lst ((tk ++ ns).map V.str ++ [.str z])) N = some (.lst (ks.map V.str)) := by rw [upd_ne (Ne.symm nNL)]; exact hN7
        have S8 : SameB t H (upd H7 L (.lst ((tk ++ ns).map V.str ++ [.str z]))) := fun b o n e => by
          rw [upd_ne (fun z => by rw [z, hL] at e; cases e)]
          exact (S6.trans S7) b o n e
        generalize upd H7 L (.lst ((tk ++ ns).map V.str ++ [.str z])) = H8 at hc8 T8 hL8 hM8 hN8 S8 ⊢
        refine ⟨_, rfl, .inl ⟨rfl, _, SqL.of hM8⟩, _, rfl, _, rfl, L, _, _, _, rfl, rfl, SqL.of hL8, (show atI ((tk ++ ns).map V.str ++ [.str z]) (-1) = some (.str z) from ?_), _, rfl, by show 2 ≤ sizeLine; decide, fun q hq => ?_⟩
        · unfold atI
          rw [show ixN ((tk ++ ns).map V.str ++ [V.str z]).length (-1) = some (tk ++ ns).length from ?_]
          · simp
          · have hl : ((tk ++ ns).map V.str ++ [V.str z]).length = (tk ++ ns).length + 1 := by rw [List.length_append, List.length_map]; rfl
            unfold ixN
            rw [hl, if_neg (by decide), if_pos (by omega)]
            exact congrArg some (by omega)
        have zq := Same.upd (o := .tup [.str z, .str kk]) hq
        have hM9 := zq _ _ hM8
        have lx := hc6.len
        refine ⟨M, _, _, rfl, rfl, hM9, lim (by omega), ?_⟩
        refine ⟨_, ns ++ [z], xs ++ [.ref q], ps ++ [(z, kk)], ⟨rfl, by rw [upd_ne (Ne.symm nNM)]; exact zq _ _ hN8, hk5, (T8.same zq).upd nMt nMc, fun b o n e => ?_⟩, by rw [upd_ne nML, zq _ _ hL8, ← List.append_assoc, List.map_append (l₁ := tk ++ ns)]; rfl, upd_same, ?_, ?_, by rw [List.length_append, e7]; rfl, by rw [List.length_append, e8]; rfl, by rw [List.map_append, en]; rfl, List.nodup_append.mpr ⟨nd, List.nodup_cons.mpr ⟨nofun, List.nodup_nil⟩, fun a ha b hb => by rw [List.mem_singleton.mp hb]; exact fun e => fz (List.mem_append_right _ (by rw [← e]; exact ha))⟩, fun x hx => ?_⟩
        · rw [upd_ne (fun z => by rw [z, gM] at e; cases e)]
          exact (S8.trans (Same.b t zq)) b o n e
        · have eq : upd H8 q (.tup [.str z, .str kk]) q = some (.tup [.str z, .str kk]) := upd_same
          have hc9 := (hc8.t (SameT.of zq)).app (.cons eq .nil)
          exact hc9.t (SameT.lst hM9)
        · intro p hp
          rcases List.mem_append.mp hp with hp | hp
          · exact hp6 p hp
          · rw [List.mem_singleton.mp hp]; exact ⟨hz, nz, skk⟩
        · rcases List.mem_append.mp hx with hx | hx
          · exact ntk x hx
          · rw [List.mem_singleton.mp hx]; exact fun q => fz (List.mem_append_left _ q)
      · rintro σ H6 ⟨x8, ns, xs, ps, ⟨rfl, hN6, _, T6, S6⟩, hL6, hM6, hc6, hp6, e7, e8, en, nd, ntk⟩
        rw [List.length_map] at e8
        refine ⟨_, rfl, M, xs, rfl, SqL.of hM6, fun r ob hr c1 c2 => ?_⟩
        have zr := Same.upd (o := .frz ob (.tup xs)) hr
        exact k r xs ps _ ⟨ob, c1, c2, upd_same⟩ (hc6.t (SameT.of zr)) hp6 (by rw [en]; exact nd) (fun p hp => ntk p.1 (by rw [← en]; exact List.mem_map_of_mem hp)) (by omega) (by omega) (T6.same zr) (S6.trans (Same.b t zr))
end
end K16
set_option Elab.async false
set_option linter.all false
set_option maxRecDepth 100000
set_option maxHeartbeats 4000000
namespace K16
open PySem PySem.Spec PyProof.Rows L2 Lc
def spRatL : Sp := fun vs H Q _ => ∃ (t c : Addr) (b : Bool), vs = [.ref t, .bl b] ∧ TapeL c H t ∧ ∀ (p : Addr) (n d : Int) (H' : Hp), Rt n d → n.natAbs ≤ 10000000000000000000000000000000000000000 → d.natAbs ≤ 10000000000000000000000000000000000000000 → H' p = some (.tup [.int n, .int d]) → H p = none → TapeL c H' t → SameB t H H' → Q (.ref p) H'
abbrev sRat : Stmt := top 127
section
variable {P : Program} {w : World} {K : PySem.W.Frag} {mg : Str → Option Value} {base : Heap} {f : Addr} {fd : FuncData}
theorem scRat : FnScope ["_law_tape_here", "_law_wide", "_law_size", "_law_number", "_law_edge"] ["_law_tape_here", "_law_wide"] (defScope sRat) := ⟨rfl, rfl, rfl, by decide +kernel, rfl, by decide +kernel, by decide +kernel⟩
theorem ok_rat {fD fL : Addr} {fdD fdL : FuncData} (F : Fun K "_law_rational" "_law_rational" sRat f fd) (T : Bt mg) (GD : FnOk P w K mg base CX0 1 fD fdD ["_law_tape_here", "_law_many"] spDrawL) (mD : mg "_law_draw" = some (.ref fD)) (kD : PySem.W.keepIn K (.ref fD) = true) (bD : Binds K fdD ["_law_tape_here", "_law_many"] [])
    (GL : FnOk P w K mg base CX0 1 fL fdL ["_law_n", "_law_d"] spLowest) (mL : mg "_law_lowest" = some (.ref fL)) (kL : PySem.W.keepIn K (.ref fL) = true) (bL : Binds K fdL ["_law_n", "_law_d"] []) : FnOk P w K mg base CX0 2 f fd ["_law_tape_here", "_law_wide"] spRatL := by
  refine F.ok scRat (fun vs H Q E h => ?_) (fun cdv A outer s H vs Q E hr h => ?_)
  · obtain ⟨t, c, b, rfl, _⟩ := h
    rfl
  · obtain ⟨t, c, b, rfl, hT, k⟩ := h
    refine ⟨_, pss_cons (ps_set (i := 2) scRat.nd rfl (Or.inl rfl) (pe_call GD hr (by rfl) mD kD bD .nil pass0 (pa_cons (pv 0) (pa_cons (pe_op op_add pe_int (pe_op op_mul pe_int (pe_callTy call_int1 (by rfl) T.int boot_int (pa_cons (pv 1) pa_nil)))) pa_nil))))
      (pss_cons (ps_if (pt_cmpR op_lt (pv 2) pe_int (nomark _)) (pss_one (ps_ret (pe_tup (pa_cons (pe_op op_sub (pe_call GD hr (by rfl) mD kD bD .nil pass0 (pa_cons (pv 0) (pa_cons pe_int pa_nil))) pe_int) (pa_cons pe_int pa_nil))))) pss_nil)
      (pss_cons (ps_if (pt_cmpR op_lt (pv 2) pe_int (nomark _)) (pss_one (ps_ret (pe_call GL hr (by rfl) mL kL bL .nil pass0 (pa_cons (pe_op op_sub (pe_call GD hr (by rfl) mD kD bD .nil pass0 (pa_cons (pv 0) (pa_cons pe_int pa_nil))) pe_int) (pa_cons (pe_op op_add pe_int (pe_call GD hr (by rfl) mD kD bD .nil pass0 (pa_cons (pv 0) (pa_cons pe_int pa_nil)))) pa_nil))))) pss_nil)
      (pss_cons (ps_if (pt_cmpR op_eq (pv 2) pe_int (nomark _)) (pss_cons (ps_set (i := 3) scRat.nd rfl (Or.inl rfl) (pe_op op_sub (pe_call GD hr (by rfl) mD kD bD .nil pass0 (pa_cons (pv 0) (pa_cons (pe_op op_add (pe_op op_mul pe_int (pe_op op_pow pe_int pe_int)) pe_int) pa_nil))) (pe_op op_pow pe_int pe_int)))
          (pss_one (ps_ret (pe_call GL hr (by rfl) mL kL bL .nil pass0 (pa_cons (pv 3) (pa_cons (pe_op op_add pe_int (pe_call GD hr (by rfl) mD kD bD .nil pass0 (pa_cons (pv 0) (pa_cons (pe_op op_pow pe_int pe_int) pa_nil)))) pa_nil)))))) pss_nil)
      (pss_cons (ps_set (i := 4) scRat.nd rfl (Or.inl rfl) (pe_op op_sub (pe_op op_pow pe_int pe_int) (pe_call GD hr (by rfl) mD kD bD .nil pass0 (pa_cons (pv 0) (pa_cons pe_int pa_nil)))))
      (pss_one (ps_ret (pe_ix ix_list (pe_lst (pa_cons (pe_tup (pa_cons (pv 4) (pa_cons pe_int pa_nil))) (pa_cons (pe_tup (pa_cons (pe_op op_sub pe_int (pv 4)) (pa_cons pe_int pa_nil))) (pa_cons (pe_tup (pa_cons pe_int (pa_cons (pv 4) pa_nil))) (pa_cons (pe_tup (pa_cons (pe_un un_neg pe_int) (pa_cons (pv 4) pa_nil))) pa_nil)))))
        (pe_call GD hr (by rfl) mD kD bD .nil pass0 (pa_cons (pv 0) (pa_cons pe_int pa_nil))) (fun _ _ => rfl)))))))), ?_⟩
    have two : 2 ≤ sizeLine := by decide
    have pw18 : CPow 10 18 := ⟨by decide, by decide, by decide⟩
    have pw40 : CPow 10 40 := ⟨by decide, by decide, by decide⟩
    have b140 : ∀ z : Int, -100000000000000000000000000000000000000000 ≤ z → z ≤ 100000000000000000000000000000000000000000 → z.natAbs < 2 ^ 140 := by
      intro z h1 h2
      have : (2 : Nat) ^ 140 = 1393796574908163946345982392040522594123776 := by decide
      omega
    have big : ∀ z : Int, -100000000000000000000000000000000000000000 ≤ z → z ≤ 100000000000000000000000000000000000000000 → z.natAbs < 2 ^ 4000 := fun z h1 h2 => Nat.lt_of_lt_of_le (b140 z h1 h2) (Nat.pow_le_pow_right (by decide) (by decide))
    have b40 : ∀ z : Int, -10000000000000000000000000000000000000000 ≤ z → z ≤ 10000000000000000000000000000000000000000 → z.natAbs ≤ 10000000000000000000000000000000000000000 := by
      intro z h1 h2
      omega
    refine ⟨_, rfl, _, rfl, .inr ⟨b, rfl, _, _, rfl, rfl, .inl ⟨by decide, by decide⟩, _, _, rfl, rfl, t, c, _, rfl, hT, by cases b <;> decide, by cases b <;> exact big _ (by decide) (by decide), fun k1 H1 u1 v1 T1 S1 => ?_⟩⟩
    refine ⟨_, rfl, _, _, rfl, rfl, _, rfl, ?_⟩
    refine ite2 (fun _ => ?_) (fun _ => ?_)
    · refine ⟨_, rfl, t, c, _, rfl, T1, by decide, big _ (by decide) (by decide), fun k2 H2 u2 v2 T2 S2 => ?_⟩
      refine ⟨_, _, rfl, rfl, two, fun p hp => ?_⟩
      exact k p (k2 - 7) 1 _ (rt_one _) (b40 _ (by omega) (by omega)) (b40 _ (by decide) (by decide)) upd_same ((S1.trans S2).free T2.tape hp) (T2.same (Same.upd hp)) ((S1.trans S2).trans (Same.b t (Same.upd hp)))
    · refine ⟨_, rfl, _, _, rfl, rfl, _, rfl, ?_⟩
      refine ite2 (fun _ => ?_) (fun _ => ?_)
      · refine ⟨_, rfl, t, c, _, rfl, T1, by decide, big _ (by decide) (by decide), fun k2 H2 u2 v2 T2 S2 => ?_⟩
        refine ⟨_, _, rfl, rfl, _, rfl, t, c, _, rfl, T2, by decide, big _ (by decide) (by decide), fun k3 H3 u3 v3 T3 S3 => ?_⟩
        refine ⟨_, _, rfl, rfl, _, _, rfl, by omega, big _ (by omega) (by omega), fun p hp => ?_⟩
        have le := low_le (n := k2 - 200) (d := 1 + k3) (by omega)
        exact k p _ _ _ (low_rt (by omega)) (Nat.le_trans le.1 (b40 _ (by omega) (by omega))) (Nat.le_trans le.2 (b40 _ (by omega) (by omega))) upd_same (((S1.trans S2).trans S3).free T3.tape hp) (T3.same (Same.upd hp)) (((S1.trans S2).trans S3).trans (Same.b t (Same.upd hp)))
      · refine ⟨_, rfl, rfl, _, rfl, ?_⟩
        refine ite2 (fun _ => ?_) (fun _ => ?_)
        · refine ⟨_, rfl, _, _, rfl, rfl, pw18, _, _, rfl, rfl, .inl ⟨by decide, by decide⟩, _, _, rfl, rfl, t, c, _, rfl, T1, ?_, ?_, fun k2 H2 u2 v2 T2 S2 => ?_⟩
          · rw [p18]
            decide
          · rw [p18]
            exact big _ (by decide) (by decide)
          rw [p18] at v2
          refine ⟨_, _, rfl, rfl, pw18, _, _, rfl, rfl, _, rfl, _, rfl, _, _, rfl, rfl, pw18, t, c, _, rfl, T2, ?_, ?_, fun k3 H3 u3 v3 T3 S3 => ?_⟩
          · rw [p18]
            decide
          · rw [p18]
            exact big _ (by decide) (by decide)
          rw [p18] at v3
          refine ⟨_, _, rfl, rfl, _, _, rfl, by omega, big _ (by omega) (by omega), fun p hp => ?_⟩
          have le := low_le (n := k2 - 10 ^ (18 : Int).toNat) (d := 1 + k3) (by omega)
          rw [p18] at le
          refine k p _ _ _ (low_rt (by omega)) ?_ (Nat.le_trans le.2 (b40 _ (by omega) (by omega))) upd_same (((S1.trans S2).trans S3).free T3.tape hp) (T3.same (Same.upd hp)) (((S1.trans S2).trans S3).trans (Same.b t (Same.upd hp)))
          exact Nat.le_trans le.1 (b40 _ (by omega) (by omega))
        · refine ⟨_, _, rfl, rfl, pw40, _, rfl, t, c, _, rfl, T1, by decide, big _ (by decide) (by decide), fun k2 H2 u2 v2 T2 S2 => ?_⟩
          refine ⟨_, _, rfl, rfl, ?_⟩
          rw [p40]
          obtain ⟨ed, he⟩ : ∃ ed : Int, ed = 10000000000000000000000000000000000000000 - k2 := ⟨_, rfl⟩
          rw [show (fun i j : Int => V.int (i - j)) 10000000000000000000000000000000000000000 k2 = V.int ed by rw [he]]
          refine ⟨_, rfl, two, fun a1 ha1 => ⟨_, rfl, _, _, rfl, rfl, two, fun a2 ha2 => ⟨_, rfl, two, fun a3 ha3 => ⟨_, rfl, _, rfl, two, fun a4 ha4 => ⟨by show 4 ≤ sizeLine; decide, fun a5 ha5 => ?_⟩⟩⟩⟩⟩
          have z1 := Same.upd (o := .tup [.int ed, .int 1]) ha1
          have z2 := Same.upd (o := .tup [.int (0 - ed), .int 1]) ha2
          have z3 := Same.upd (o := .tup [.int 1, .int ed]) ha3
          have z4 := Same.upd (o := .tup [.int (-1), .int ed]) ha4
          have z5 := Same.upd (o := .lst [.ref a1, .ref a2, .ref a3, .ref a4]) ha5
          have zz := z1.trans (z2.trans (z3.trans (z4.trans z5)))
          have T5 := T2.same zz
          refine ⟨_, rfl, t, c, _, rfl, T5, by decide, big _ (by decide) (by decide), fun k3 H3 u3 v3 T3 S3 => ?_⟩
          have n5 : a5 ≠ t := (T2.same (z1.trans (z2.trans (z3.trans z4)))).tape.ne ha5
          have n1 : a1 ≠ t := T2.tape.ne ha1
          have n2 : a2 ≠ t := (T2.same z1).tape.ne ha2
          have n3 : a3 ≠ t := (T2.same (z1.trans z2)).tape.ne ha3
          have n4 : a4 ≠ t := (T2.same (z1.trans (z2.trans z3))).tape.ne ha4
          have f0 := S1.trans S2
          have g1 : H a1 = none := f0.free T2.tape ha1
          have g2 : H a2 = none := f0.free T2.tape (z1.free ha2)
          have g3 : H a3 = none := f0.free T2.tape ((z1.trans z2).free ha3)
          have g4 : H a4 = none := f0.free T2.tape ((z1.trans (z2.trans z3)).free ha4)
          have sb := (f0.trans (Same.b t zz)).trans S3
          have e1 := S3 _ _ n1 ((z2.trans (z3.trans (z4.trans z5))) _ _ upd_same)
          have e2 := S3 _ _ n2 ((z3.trans (z4.trans z5)) _ _ upd_same)
          have e3 := S3 _ _ n3 ((z4.trans z5) _ _ upd_same)
          have e4 := S3 _ _ n4 (z5 _ _ upd_same)
          have hL := S3 _ _ n5 (upd_same)
          rcases (by omega : k3 = 0 ∨ k3 = 1 ∨ k3 = 2 ∨ k3 = 3) with rfl | rfl | rfl | rfl
          · exact ⟨a5, _, _, _, rfl, rfl, SqL.of hL, rfl, k a1 _ _ _ (rt_one _) (b40 _ (by omega) (by omega)) (b40 _ (by omega) (by omega)) e1 g1 T3 sb⟩
          · exact ⟨a5, _, _, _, rfl, rfl, SqL.of hL, rfl, k a2 _ _ _ (rt_one _) (b40 _ (by omega) (by omega)) (b40 _ (by omega) (by omega)) e2 g2 T3 sb⟩
          · exact ⟨a5, _, _, _, rfl, rfl, SqL.of hL, rfl, k a3 _ _ _ (rt_inv (by omega)) (b40 _ (by omega) (by omega)) (b40 _ (by omega) (by omega)) e3 g3 T3 sb⟩
          · exact ⟨a5, _, _, _, rfl, rfl, SqL.of hL, rfl, k a4 _ _ _ (rt_ninv (by omega)) (b40 _ (by omega) (by omega)) (b40 _ (by omega) (by omega)) e4 g4 T3 sb⟩
end
end K16
set_option Elab.async false
set_option linter.all false
set_option maxRecDepth 100000
set_option maxHeartbeats 4000000
namespace K16
open PySem PySem.Spec PyProof.Rows L2 Lc
abbrev sLv : Stmt := top 131
abbrev sLvs : Stmt := top 132
/-! ## values -/
inductive Vk : Str → PyData → Prop
  | non (k : Str) : Vk k .none
  | num {n d : Int} (h : Rt n d) (h1 : n.natAbs ≤ 10000000000000000000000000000000000000000) (h2 : d.natAbs ≤ 10000000000000000000000000000000000000000) : Vk "number" (.tuple [.int n, .int d])
  | flag (b : Bool) : Vk "flag" (.bool b)
  | word {x : Str} (h : Sh 12 x) (hn : nameB (.str x) = true) : Vk "word" (.str x)
inductive Vks : List Str → List PyData → Prop
  | nil : Vks [] []
  | cons {k : Str} {d : PyData} {ks : List Str} {ds : List PyData} (h : Vk k d) (r : Vks ks ds) : Vks (k :: ks) (d :: ds)
theorem Vks.app {k : Str} {d : PyData} (h : Vk k d) : ∀ {ks : List Str} {ds : List PyData}, Vks ks ds → Vks (ks ++ [k]) (ds ++ [d])
  | _, _, .nil => .cons h .nil
  | _, _, .cons a r => .cons a (Vks.app h r)
theorem Vks.len : ∀ {ks : List Str} {ds : List PyData}, Vks ks ds → ks.length = ds.length
  | _, _, .nil => rfl
  | _, _, .cons _ r => by rw [List.length_cons, List.length_cons, Vks.len r]
/-- v is d, all its parts are new since H -/
def DhF (H H' : Hp) (v : V) (d : PyData) : Prop := ∀ H2 : Hp, (∀ b o, H b = none → H' b = some o → H2 b = some o) → Dh H2 v d
theorem DhF.now {H H' : Hp} {v : V} {d : PyData} (h : DhF H H' v d) : Dh H' v d := h H' fun _ _ _ e => e
def spVal : Sp := fun vs H Q _ => ∃ (t c : Addr) (kind : Str) (b : Bool), vs = [.ref t, .str kind, .bl b] ∧ TapeL c H t ∧ KindS kind ∧ ∀ (v : V) (d : PyData) (H' : Hp), DhF H H' v d → Vk kind d → TapeL c H' t → SameB t H H' → Q v H'
def spVals : Sp := fun vs H Q _ => ∃ (t c L : Addr) (b : Bool) (xs : List V) (ps : List (Str × Str)), vs = [.ref t, .ref L, .bl b] ∧ TapeL c H t ∧ Rd H L (.tup xs) ∧ Cols H xs ps ∧ (∀ p ∈ ps, KindS p.2) ∧ ps.length ≤ 8 ∧
  ∀ (r : Addr) (ds : List PyData) (H' : Hp), DhF H H' (.ref r) (.tuple ds) → Vks (ps.map (·.2)) ds → TapeL c H' t → SameB t H H' → Q (.ref r) H'
abbrev teVs : TE := tCall spVal [] E0 (tCons (tVar 0) (tCons (tVar 4) (tCons (tVar 2) tNil)))
theorem Cols.get {H : Hp} : ∀ {xs : List V} {ps : List (Str × Str)}, Cols H xs ps → ∀ (i : Nat) (x : V), xs[i]? = some x → ∃ a z kk, x = .ref a ∧ H a = some (.tup [.str z, .str kk]) ∧ ps[i]? = some (z, kk)
  | _, _, .nil, i, x, e => by simp at e
  | _, _, .cons h r, 0, x, e => by
    obtain rfl := Option.some.inj e
    exact ⟨_, _, _, rfl, h, rfl⟩
  | _, _, .cons h r, i + 1, x, e => by
    obtain ⟨a, z, kk, h1, h2, h3⟩ := Cols.get r i x (by simpa using e)
    exact ⟨a, z, kk, h1, h2, by simpa using h3⟩
section
variable {P : Program} {w : World} {K : PySem.W.Frag} {mg : Str → Option Value} {base : Heap} {f fD fR fN fV : Addr} {fd fdD fdR fdN fdV : FuncData}
theorem scLv : FnScope ["_law_tape_here", "_law_kind", "_law_wide"] ["_law_tape_here", "_law_kind", "_law_wide"] (defScope sLv) := ⟨rfl, rfl, rfl, by decide +kernel, rfl, by decide +kernel, by decide +kernel⟩
theorem ok_lv (F : Fun K "_law_value" "_law_value" sLv f fd) (GD : FnOk P w K mg base CX0 1 fD fdD ["_law_tape_here", "_law_many"] spDrawL) (mD : mg "_law_draw" = some (.ref fD)) (kD : PySem.W.keepIn K (.ref fD) = true) (bD : Binds K fdD ["_law_tape_here", "_law_many"] [])
    (GR : FnOk P w K mg base CX0 2 fR fdR ["_law_tape_here", "_law_wide"] spRatL) (mR : mg "_law_rational" = some (.ref fR)) (kR : PySem.W.keepIn K (.ref fR) = true) (bR : Binds K fdR ["_law_tape_here", "_law_wide"] [])
    (GN : FnOk P w K mg base CX0 2 fN fdN ["_law_tape_here"] spLNm) (mN : mg "_law_name" = some (.ref fN)) (kN : PySem.W.keepIn K (.ref fN) = true) (bN : Binds K fdN ["_law_tape_here"] []) : FnOk P w K mg base CX0 3 f fd ["_law_tape_here", "_law_kind", "_law_wide"] spVal := by
  refine F.ok scLv (fun vs H Q E h => ?_) (fun cdv A outer s H vs Q E hr h => ?_)
  · obtain ⟨t, c, kind, b, rfl, _⟩ := h
    rfl
  · obtain ⟨t, c, kind, b, rfl, hT, hk, k⟩ := h
    have hr1 : Room 1 _ := hr.mono (by decide)
    refine ⟨_, pss_cons (ps_if (pt_cmpR op_eq (pe_call GD hr1 (by rfl) mD kD bD .nil pass0 (pa_cons (pv 0) (pa_cons pe_int pa_nil))) pe_int (nomark _)) (pss_one (ps_ret pe_non)) pss_nil)
      (pss_cons (ps_if (pt_cmpR op_eq (pv 1) pe_str (nomark _)) (pss_one (ps_ret (pe_call GR hr (by rfl) mR kR bR .nil pass0 (pa_cons (pv 0) (pa_cons (pv 2) pa_nil))))) pss_nil)
      (pss_cons (ps_if (pt_cmpR op_eq (pv 1) pe_str (nomark _)) (pss_one (ps_ret (pe_cmpR op_eq (pe_call GD hr1 (by rfl) mD kD bD .nil pass0 (pa_cons (pv 0) (pa_cons pe_int pa_nil))) pe_int (nomark _)))) pss_nil)
      (pss_cons (ps_if (pt_cmpR op_gt (pe_call GD hr1 (by rfl) mD kD bD .nil pass0 (pa_cons (pv 0) (pa_cons pe_int pa_nil))) pe_int (nomark _)) (pss_one (ps_ret (pe_ix ix_list (pe_lst (pa_cons pe_str (pa_cons pe_str (pa_cons pe_str (pa_cons pe_str pa_nil))))) (pe_call GD hr1 (by rfl) mD kD bD .nil pass0 (pa_cons (pv 0) (pa_cons pe_int pa_nil))) (fun _ _ => rfl)))) pss_nil)
      (pss_one (ps_ret (pe_call GN hr (by rfl) mN kN bN .nil pass0 (pa_cons (pv 0) pa_nil))))))), ?_⟩
    have sh : ∀ {x : Str}, kind ≠ "number" → kind ≠ "flag" → Sh 12 x → nameB (.str x) = true → Vk kind (.str x) := fun n1 n2 h1 h2 => by
      rcases hk with rfl | rfl | rfl
      · exact absurd rfl n1
      · exact .word h1 h2
      · exact absurd rfl n2
    refine ⟨_, rfl, t, c, _, rfl, hT, by decide, big1000 (by decide) (by decide), fun k1 H1 u1 w1 T1 S1 => ⟨rfl, _, rfl, ite2 (fun _ => ?_) (fun _ => ?_)⟩⟩
    · exact k .non .none H1 (fun _ _ => .non) (.non _) T1 S1
    refine ⟨_, rfl, rfl, _, rfl, ite2 (fun y => ?_) (fun y => ?_)⟩
    · have ek : kind = "number" := by have := of_decide_eq_true y; injection this
      refine ⟨_, rfl, _, rfl, t, c, b, rfl, T1, fun p n d H2 rt h1 h2 hp gp T2 S2 => k (.ref p) _ H2 (fun H3 s3 => ?_) (by rw [ek]; exact .num rt h1 h2) T2 (S1.trans S2)⟩
      have gH : H p = none := by
        cases q : H p with
        | none => rfl
        | some o =>
          by_cases z : p = t
          · obtain ⟨_, _, _, _, ht, _⟩ := T1
            rw [z, ht] at gp
            cases gp
          · rw [S1 p o z q] at gp
            cases gp
      exact .tup (s3 _ _ gH hp) (.cons (.int n) (.cons (.int d) .nil))
    have n1 : kind ≠ "number" := fun e => y (decide_eq_true (by rw [e]))
    refine ⟨_, rfl, rfl, _, rfl, ite2 (fun y => ?_) (fun y => ?_)⟩
    · have ek : kind = "flag" := by have := of_decide_eq_true y; injection this
      exact ⟨_, rfl, t, c, _, rfl, T1, by decide, big1000 (by decide) (by decide), fun k2 H2 u2 w2 T2 S2 => ⟨rfl, k _ (.bool _) H2 (fun _ _ => .bl _) (by rw [ek]; exact .flag _) T2 (S1.trans S2)⟩⟩
    have n2 : kind ≠ "flag" := fun e => y (decide_eq_true (by rw [e]))
    refine ⟨_, rfl, t, c, _, rfl, T1, by decide, big1000 (by decide) (by decide), fun k2 H2 u2 w2 T2 S2 => ⟨_, _, rfl, rfl, _, rfl, ite2 (fun _ => ?_) (fun _ => ?_)⟩⟩
    · refine ⟨by show 4 ≤ sizeLine; decide, fun q hq => ?_⟩
      have zq := Same.upd (o := .lst [.str "a", .str "b", .str "ab", .str "b0"]) hq
      have nq := T2.tape.ne hq
      refine ⟨_, rfl, t, c, _, rfl, T2.same zq, by decide, big1000 (by decide) (by decide), fun k3 H3 u3 w3 T3 S3 => ?_⟩
      obtain ⟨x, hx, sx, nx⟩ : ∃ x : Str, ([.str "a", .str "b", .str "ab", .str "b0"] : List V)[k3.toNat]? = some (.str x) ∧ Sh 12 x ∧ nameB (.str x) = true := by
        have : k3.toNat = 0 ∨ k3.toNat = 1 ∨ k3.toNat = 2 ∨ k3.toNat = 3 := by omega
        rcases this with e | e | e | e <;> rw [e]
        · exact ⟨_, rfl, ⟨by decide +kernel, by decide +kernel⟩, by decide +kernel⟩
        · exact ⟨_, rfl, ⟨by decide +kernel, by decide +kernel⟩, by decide +kernel⟩
        · exact ⟨_, rfl, ⟨by decide +kernel, by decide +kernel⟩, by decide +kernel⟩
        · exact ⟨_, rfl, ⟨by decide +kernel, by decide +kernel⟩, by decide +kernel⟩
      exact ⟨q, _, _, _, rfl, rfl, SqL.of (S3 _ _ nq upd_same), at_of (j := k3.toNat) (by omega) hx, k _ (.str x) H3 (fun _ _ => .str x) (sh n1 n2 sx nx) T3 (((S1.trans S2).trans (Same.b t zq)).trans S3)⟩
    · exact ⟨_, rfl, t, c, rfl, T2, fun x H3 hx nx T3 S3 => k _ (.str x) H3 (fun _ _ => .str x) (sh n1 n2 hx nx) T3 ((S1.trans S2).trans S3)⟩
theorem scLvs : FnScope ["_law_tape_here", "_law_columns_here", "_law_wide", "_law_name_here", "_law_kind"] ["_law_tape_here", "_law_columns_here", "_law_wide"] (defScope sLvs) := ⟨rfl, rfl, rfl, by decide +kernel, rfl, by decide +kernel, by decide +kernel⟩
theorem ok_lvs (F : Fun K "_law_values" "_law_values" sLvs f fd) (T : Bt mg) (GV : FnOk P w K mg base CX0 3 fV fdV ["_law_tape_here", "_law_kind", "_law_wide"] spVal) (mV : mg "_law_value" = some (.ref fV)) (kV : PySem.W.keepIn K (.ref fV) = true) (bV : Binds K fdV ["_law_tape_here", "_law_kind", "_law_wide"] []) : FnOk P w K mg base CX0 4 f fd ["_law_tape_here", "_law_columns_here", "_law_wide"] spVals := by
  refine F.ok scLvs (fun vs H Q E h => ?_) (fun cdv A outer s H vs Q E hr h => ?_)
  · obtain ⟨t, c, L, b, xs, ps, rfl, _⟩ := h
    rfl
  · obtain ⟨t, c, L, b, xs, ps, rfl, hT, hL, hc, hk, l8, k⟩ := h
    refine ⟨_, pss_one (ps_ret (pe_callTy call_tuple_of (by rfl) T.tuple boot_tuple (pa_cons (pe_lc (own := [("_law_name_here", 3), ("_law_kind", 4)]) (g := gTup K 2 (gCons (gName 3) (gCons (gName 4) gNil))) (tt := tYes) (te := teVs) (by rfl) scLvs.nd (pi_tup (pv 1)) (blkOk_by (own := [("_law_name_here", 3), ("_law_kind", 4)]) (N := ["_law_tape_here", "_law_columns_here", "_law_wide", "_law_name_here", "_law_kind"]) (sc := defScope sLvs) (by decide +kernel))
      (fun _ _ _ _ _ => pg_tup rfl (pgs_cons (pg_name (i := 3) scLvs.nd rfl (.inl rfl)) (pgs_cons (pg_name (i := 4) scLvs.nd rfl (.inl rfl)) pgs_nil))) (fun _ _ _ _ _ => pts_nil) (fun _ _ _ _ _ => pe_call GV hr (by rfl) mV kV bV .nil pass0 (pa_cons (pv 0) (pa_cons (pv 4) (pa_cons (pv 2) pa_nil))))) pa_nil))), ?_⟩
    refine ⟨_, rfl, L, rfl, ⟨_, hL.sq⟩, fun D hD => lc_tup (K := K) (a := L) (xs := xs) (fun i H' => ∃ (ys : List V) (ds : List PyData), H' D = some (.lst ys) ∧ ys.length = i ∧ (∀ H2 : Hp, (∀ b o, b ≠ D → H b = none → H' b = some o → H2 b = some o) → DhAll H2 ys ds) ∧ Vks ((ps.take i).map (·.2)) ds ∧ TapeL c H' t ∧ SameB t H H')
      ⟨[], [], upd_same, rfl, fun _ _ => .nil, .nil, hT.same (Same.upd hD), Same.b t (Same.upd hD)⟩ (fun i H' _ p => by obtain ⟨_, _, _, _, _, _, _, s'⟩ := p; exact (hL.b hT.tape s').sq) ?_ ?_⟩
    · rintro i x H1 hx ⟨ys, ds, hD1, rfl, hds, hv, T1, S1⟩
      obtain ⟨a, z, kk, rfl, ea, ep⟩ := hc.get _ _ hx
      have ea1 := S1 _ _ (hT.tape.neT ea) ea
      have lx := hc.len
      have hi : ys.length < xs.length := (List.getElem?_eq_some_iff.mp hx).1
      have nD := hT.tape.ne hD
      refine ⟨a, _, rfl, SqT.of ea1, rfl, _, _, rfl, _, _, rfl, rfl, rfl, ?_⟩
      change teVs _ _ _
      refine ⟨_, rfl, _, rfl, _, rfl, t, c, kk, b, rfl, T1, hk _ (List.mem_of_getElem? ep), fun v d H2 hv2 vk T2 S2 => ?_⟩
      refine ⟨ys, S2 _ _ nD hD1, Nat.lt_of_lt_of_le hi (Nat.le_trans (show xs.length ≤ 8 by omega) (by decide)), ys ++ [v], ds ++ [d], upd_same, by rw [List.length_append]; rfl, fun H3 h3 => ?_, ?_, ?_, fun b' o n e => ?_⟩
      · refine DhAll.append (hds H3 fun b' o n1 n2 e => h3 b' o n1 n2 ?_) (.cons (hv2 H3 fun b' o n2 e => ?_) .nil)
        · rw [upd_ne n1]
          exact S2 b' o (hT.tape.ne n2) e
        · have nb : b' ≠ D := fun z => by rw [z, hD1] at n2; cases n2
          have nh : H b' = none := by
            cases q : H b' with
            | none => rfl
            | some o' =>
              by_cases z : b' = t
              · obtain ⟨_, _, _, _, ht, _⟩ := T1
                rw [z, ht] at n2
                cases n2
              · rw [S1 b' o' z q] at n2
                cases n2
          exact h3 b' o nb nh (by rw [upd_ne nb]; exact e)
      · rw [List.take_add_one, ep, List.map_append]
        exact Vks.app vk hv
      · have nc : D ≠ c := by
          obtain ⟨zs, hz⟩ := hT.list
          exact Ne.symm (ne_of_none hz hD)
        exact T2.upd nD nc
      · rw [upd_ne (ne_of_none e hD)]
        exact (S1.trans S2) b' o n e
    · rintro H1 ⟨ys, ds, hD1, _, hds, hv, T1, S1⟩
      refine ⟨D, ys, rfl, .inl ⟨SqL.of hD1, fun r hr => ?_⟩⟩
      have zr := Same.upd (o := .tup ys) hr
      have lx := hc.len
      rw [lx, List.take_length] at hv
      have nt := T1.tape.ne hr
      have gr : H r = none := S1.free T1.tape hr
      refine k r ds _ (fun H2 h2 => .tup (h2 _ _ gr upd_same) (hds H2 fun b' o n1 n2 e => h2 b' o n2 (zr _ _ e))) hv (T1.same zr) (S1.trans (Same.b t zr))
end
end K16
set_option Elab.async false
set_option linter.all false
set_option maxRecDepth 100000
set_option maxHeartbeats 4000000
namespace K16
open PySem PySem.Spec PyProof.Rows L2 Lc
abbrev sLf : Stmt := top 133
/-- words over one and over two operands: the operands' kind, the result's -/
def OneW (w k r : Str) : Prop := (w = "not" ∧ k = "flag" ∧ r = "flag") ∨ (w = "missing" ∧ KindS k ∧ r = "flag")
def TwoW (w k r : Str) : Prop := ((w = "plus" ∨ w = "minus" ∨ w = "times" ∨ w = "over") ∧ k = "number" ∧ r = "number") ∨ (w = "less" ∧ k = "number" ∧ r = "flag") ∨ (w = "same" ∧ KindS k ∧ r = "flag") ∨ ((w = "both" ∨ w = "either") ∧ k = "flag" ∧ r = "flag")
/-- valid expressions of a kind over the columns ps, at most n deep -/
inductive Xp (ps : List (Str × Str)) : Nat → Str → PyData → Prop
  | col {n : Nat} {z k : Str} (h : (z, k) ∈ ps) : Xp ps (n + 1) k (.tuple [.str "column", .str z])
  | val {n : Nat} {k : Str} {d : PyData} (h : Vk k d) (nn : d ≠ .none) : Xp ps (n + 1) k (.tuple [.str "value", d])
  | one {n : Nat} {w k r : Str} {a : PyData} (hw : OneW w k r) (ha : Xp ps n k a) : Xp ps (n + 1) r (.tuple [.str w, a])
  | two {n : Nat} {w k r : Str} {a b : PyData} (hw : TwoW w k r) (ha : Xp ps n k a) (hb : Xp ps n k b) : Xp ps (n + 1) r (.tuple [.str w, a, b])
  | iff {n : Nat} {k : Str} {a b c : PyData} (ha : Xp ps n "flag" a) (hb : Xp ps n k b) (hc : Xp ps n k c) : Xp ps (n + 1) k (.tuple [.str "if", a, b, c])
theorem Xp.mono {ps : List (Str × Str)} {n : Nat} {k : Str} {d : PyData} (h : Xp ps n k d) : ∀ {m : Nat}, n ≤ m → Xp ps m k d := by
  induction h with
  | col h => intro m l; obtain ⟨j, rfl⟩ : ∃ j, m = j + 1 := ⟨m - 1, by omega⟩; exact .col h
  | val h nn => intro m l; obtain ⟨j, rfl⟩ : ∃ j, m = j + 1 := ⟨m - 1, by omega⟩; exact .val h nn
  | one hw _ ia => intro m l; obtain ⟨j, rfl⟩ : ∃ j, m = j + 1 := ⟨m - 1, by omega⟩; exact .one hw (ia (by omega))
  | two hw _ _ ia ib => intro m l; obtain ⟨j, rfl⟩ : ∃ j, m = j + 1 := ⟨m - 1, by omega⟩; exact .two hw (ia (by omega)) (ib (by omega))
  | iff _ _ _ ia ib ic => intro m l; obtain ⟨j, rfl⟩ : ∃ j, m = j + 1 := ⟨m - 1, by omega⟩; exact .iff (ia (by omega)) (ib (by omega)) (ic (by omega))
theorem DhF.wide {t : Addr} {H Ha Hb : Hp} {v : V} {d : PyData} (h : DhF Ha Hb v d) (s : SameB t H Ha) (T : Tape Ha t) : DhF H Hb v d := fun H2 h2 => h H2 fun b o n e => h2 b o (s.free T n) e
theorem DhF.later {t : Addr} {H Hb Hc : Hp} {v : V} {d : PyData} (h : DhF H Hb v d) (T : Tape H t) (s : SameB t Hb Hc) : DhF H Hc v d := fun H2 h2 => h H2 fun b o e e' => h2 b o e (s b o (T.ne e) e')
theorem Cols.b {t : Addr} {H H' : Hp} {xs : List V} {ps : List (Str × Str)} (h : Cols H xs ps) (T : Tape H t) (s : SameB t H H') : Cols H' xs ps := h.t (SameT.b T s)
/-- what a drawn expression is -/
def NewF (H : Hp) (t c : Addr) (ps : List (Str × Str)) (n : Nat) (k : Str) (Q : VK) : Prop := ∀ (v : V) (d : PyData) (H' : Hp), DhF H H' v d → Xp ps n k d → TapeL c H' t → SameB t H H' → Q v H'
def spLf : Sp := fun vs H Q _ => ∃ (t c L : Addr) (kind : Str) (xs : List V) (ps : List (Str × Str)), vs = [.ref t, .ref L, .str kind] ∧ KindS kind ∧ TapeL c H t ∧ Rd H L (.tup xs) ∧ Cols H xs ps ∧ ps.length ≤ 8 ∧ NewF H t c ps 1 kind Q
abbrev ttLf : TT := tTest (tOp rEq (tVar 5) (tVar 2))
section
variable {P : Program} {w : World} {K : PySem.W.Frag} {mg : Str → Option Value} {base : Heap} {f fD fR fL : Addr} {fd fdD fdR fdL : FuncData}
abbrev nLf : List Str := ["_law_tape_here", "_law_columns_here", "_law_kind", "_law_same", "_law_name_here", "_law_other"]
theorem scLf : FnScope nLf ["_law_tape_here", "_law_columns_here", "_law_kind"] (defScope sLf) := ⟨rfl, rfl, rfl, by decide +kernel, rfl, by decide +kernel, by decide +kernel⟩
theorem ok_lf (F : Fun K "_law_leaf" "_law_leaf" sLf f fd) (T : Bt mg) (GD : FnOk P w K mg base CX0 1 fD fdD ["_law_tape_here", "_law_many"] spDrawL) (mD : mg "_law_draw" = some (.ref fD)) (kD : PySem.W.keepIn K (.ref fD) = true) (bD : Binds K fdD ["_law_tape_here", "_law_many"] [])
    (GR : FnOk P w K mg base CX0 2 fR fdR ["_law_tape_here", "_law_wide"] spRatL) (mR : mg "_law_rational" = some (.ref fR)) (kR : PySem.W.keepIn K (.ref fR) = true) (bR : Binds K fdR ["_law_tape_here", "_law_wide"] []) : FnOk P w K mg base CX0 3 f fd ["_law_tape_here", "_law_columns_here", "_law_kind"] spLf := by
  refine F.ok scLf (fun vs H Q E h => ?_) (fun cdv A outer s H vs Q E hr h => ?_)
  · obtain ⟨t, c, L, kind, xs, ps, rfl, _⟩ := h
    rfl
  · obtain ⟨t, c, L, kind, xs, ps, rfl, hk, hT, hL, hc, l8, k⟩ := h
    have hr1 : Room 1 _ := hr.mono (by decide)
    refine ⟨_, Evl.pss_cut (ps_setLc (i := 3) (own := [("_law_name_here", 4), ("_law_other", 5)]) (g := gTup K 2 (gCons (gName 4) (gCons (gName 5) gNil))) (tt := ttLf) (te := tVar 4) (by rfl) scLf.nd rfl rfl (sw_true rfl rfl rfl (by decide +kernel)) (pi_tup (pv 1)) (blkOk_by (own := [("_law_name_here", 4), ("_law_other", 5)]) (N := nLf) (sc := defScope sLf) (by decide +kernel))
          (fun _ _ _ _ _ => pg_tup rfl (pgs_cons (pg_name (i := 4) scLf.nd rfl (.inl rfl)) (pgs_cons (pg_name (i := 5) scLf.nd rfl (.inl rfl)) pgs_nil))) (fun _ _ _ _ _ => pts_one (pt_cmpR op_eq (pv 5) (pv 2) (nomark _))) (fun _ _ _ _ _ => pv 4))
      (Evl.pss_cut (ps_if (PW.pt (pw_and (pt_truth (pv 3) (fun _ => rfl)) (pw_and1 (pt_cmpR op_gt (pe_call GD hr1 (by rfl) mD kD bD .nil pass0 (pa_cons (pv 0) (pa_cons pe_int pa_nil))) pe_int (nomark _)))))
        (pss_one (ps_ret (pe_tup (pa_cons pe_str (pa_cons (pe_ix ix_list (pv 3) (pe_call GD hr1 (by rfl) mD kD bD .nil pass0 (pa_cons (pv 0) (pa_cons (pe_callB call_len_seq (by rfl) T.len PySem.boot_len (pa_cons (pv 3) pa_nil)) pa_nil))) (fun _ _ => rfl)) pa_nil))))) pss_nil)
      (pss_cons (ps_if (pt_cmpR op_eq (pv 2) pe_str (nomark _)) (pss_one (ps_ret (pe_tup (pa_cons pe_str (pa_cons (pe_call GR hr (by rfl) mR kR bR .nil pass0 (pa_cons (pv 0) (pa_cons pe_bl pa_nil))) pa_nil))))) pss_nil)
      (pss_cons (ps_if (pt_cmpR op_eq (pv 2) pe_str (nomark _)) (pss_one (ps_ret (pe_tup (pa_cons pe_str (pa_cons (pe_cmpR op_eq (pe_call GD hr1 (by rfl) mD kD bD .nil pass0 (pa_cons (pv 0) (pa_cons pe_int pa_nil))) pe_int (nomark _)) pa_nil))))) pss_nil)
      (pss_one (ps_ret (pe_tup (pa_cons pe_str (pa_cons (pe_ix ix_list (pe_lst (pa_cons pe_str (pa_cons pe_str (pa_cons pe_str (pa_cons pe_str pa_nil))))) (pe_call GD hr1 (by rfl) mD kD bD .nil pass0 (pa_cons (pv 0) (pa_cons pe_int pa_nil))) (fun _ _ => rfl)) pa_nil)))))))), ?_⟩
    have two : 2 ≤ sizeLine := by decide
    have four : 4 ≤ sizeLine := by decide
    have lx := hc.len
    -- the columns of the kind
    refine ⟨fun σ H' => ∃ (W : Addr) (ns : List Str) (x4 x5 : Option V), σ = [some (.ref t), some (.ref L), some (.str kind), some (.ref W), x4, x5] ∧ H' W = some (.lst (ns.map V.str)) ∧ H W = none ∧ ns.length ≤ 8 ∧ (∀ z ∈ ns, (z, kind) ∈ ps) ∧ Same H H', ?_, ?_⟩
    · refine ⟨_, rfl, L, rfl, ⟨_, hL.sq⟩, fun D hD => lc_tup (K := K) (a := L) (xs := xs) (fun i H' => ∃ ns : List Str, H' D = some (.lst (ns.map V.str)) ∧ ns.length ≤ i ∧ (∀ z ∈ ns, (z, kind) ∈ ps) ∧ Same H H') ⟨[], upd_same, Nat.le_refl _, nofun, Same.upd hD⟩ (fun i H' _ p => by obtain ⟨_, _, _, _, s'⟩ := p; exact (hL.same s').sq) ?_ ?_⟩
      · rintro i x H1 hx ⟨ns, hD1, ln, hn, s1⟩
        obtain ⟨a, z, kk, rfl, ea, ep⟩ := hc.get _ _ hx
        have hi : i < xs.length := (List.getElem?_eq_some_iff.mp hx).1
        refine ⟨a, _, rfl, SqT.of (s1 _ _ ea), rfl, _, _, rfl, _, _, rfl, rfl, rfl, ?_⟩
        change ttLf _ _ _
        refine ⟨_, rfl, _, rfl, rfl, _, rfl, ite2 (fun q => ?_) (fun q => ?_)⟩
        · have ek : kk = kind := by have := of_decide_eq_true q; injection this
          subst ek
          refine ⟨_, rfl, _, hD1, ?_, ns ++ [z], by rw [upd_same, List.map_append]; rfl, by rw [List.length_append]; show ns.length + 1 ≤ _; omega, fun y hy => ?_, fun b o e => by rw [upd_ne (ne_of_none e hD)]; exact s1 b o e⟩
          · rw [List.length_map]
            exact Nat.lt_of_le_of_lt (show _ ≤ 8 by omega) (by decide)
          · rcases List.mem_append.mp hy with hy | hy
            · exact hn y hy
            · rw [List.mem_singleton.mp hy]
              exact List.mem_of_getElem? ep
        · exact ⟨ns, hD1, by omega, hn, s1⟩
      · rintro H1 ⟨ns, hD1, ln, hn, s1⟩
        exact ⟨D, ns, _, _, rfl, hD1, hD, by omega, hn, s1⟩
    rintro σ H1 ⟨W, ns, x4, x5, rfl, hW, gW, ln, hn, s1⟩
    have T1 := hT.same s1
    have nW := hT.tape.ne gW
    have S1 := Same.b t s1
    -- a column
    refine ⟨fun σ H' => σ = [some (.ref t), some (.ref L), some (.str kind), some (.ref W), x4, x5] ∧ TapeL c H' t ∧ SameB t H H', ?_, ?_⟩
    · refine ⟨_, rfl, _, .inl ⟨_, SqL.of hW, rfl⟩, ite2 (fun ne => ?_) (fun _ => iteF ⟨rfl, T1, S1⟩)⟩
      have pos : 0 < ns.length := by
        cases ns with
        | nil => simp at ne
        | cons a r => exact Nat.succ_pos _
      refine ⟨_, rfl, t, c, _, rfl, T1, by decide, big1000 (by decide) (by decide), fun j H2 _ _ T2 S2 => ⟨_, _, rfl, rfl, _, rfl, ite2 (fun _ => ?_) (fun _ => ⟨rfl, T2, S1.trans S2⟩)⟩⟩
      have hW2 := S2 _ _ nW hW
      refine ⟨_, rfl, _, rfl, _, rfl, W, _, rfl, .inl (SqL.of hW2), t, c, _, rfl, T2, by rw [List.length_map]; omega, big1000 (by omega) (by rw [List.length_map]; omega), fun j H3 j0 j1 T3 S3 => ?_⟩
      rw [List.length_map] at j1
      have hj : j.toNat < ns.length := by omega
      have hm : (ns.map V.str)[j.toNat]? = some (.str ns[j.toNat]) := by rw [List.getElem?_map, List.getElem?_eq_getElem hj]; rfl
      refine ⟨W, _, _, _, rfl, rfl, SqL.of (S3 _ _ nW hW2), at_of (j := j.toNat) (by omega) hm, two, fun r hr' => ?_⟩
      have S13 := (S1.trans S2).trans S3
      have zr := Same.upd (o := .tup [.str "column", .str ns[j.toNat]]) hr'
      exact k _ _ _ (fun H5 h5 => .tup (h5 _ _ (S13.free T3.tape hr') upd_same) (.cons (.str _) (.cons (.str _) .nil))) (.col (n := 0) (hn _ (List.getElem_mem hj))) (T3.same zr) (S13.trans (Same.b t zr))
    clear hW gW hn s1 T1 nW S1
    rintro σ H1 ⟨rfl, T1, S1⟩
    have fin : ∀ {H3 : Hp} {v : V} {d : PyData}, DhF H H3 v d → Vk kind d → d ≠ .none → TapeL c H3 t → SameB t H H3 → ∀ r, H3 r = none → Q (.ref r) (upd H3 r (.tup [.str "value", v])) := fun {H3 v d} df vk nn T3 S3 r hr' => by
      have zr := Same.upd (o := .tup [.str "value", v]) hr'
      exact k _ _ _ (fun H5 h5 => .tup (h5 _ _ (S3.free T3.tape hr') upd_same) (.cons (.str _) (.cons ((df.later hT.tape (Same.b t zr)) H5 h5) .nil))) (.val (n := 0) vk nn) (T3.same zr) (S3.trans (Same.b t zr))
    refine ⟨_, rfl, rfl, _, rfl, ?_⟩
    rw [decide_eq_decide.mpr (show V.str kind = V.str "number" ↔ kind = "number" from ⟨fun e => by injection e, fun e => by rw [e]⟩)]
    by_cases k1 : kind = "number"
    · rw [decide_eq_true k1]
      subst k1
      refine iteT ⟨_, rfl, t, c, false, rfl, T1, fun p n d H2 rt h1 h2 e g T2 S2 => ⟨two, ?_⟩⟩
      have g0 := S1.free T1.tape g
      exact fin (fun H5 h5 => .tup (h5 _ _ g0 e) (.cons (.int n) (.cons (.int d) .nil))) (.num rt h1 h2) nofun T2 (S1.trans S2)
    rw [decide_eq_false k1]
    refine iteF ⟨_, rfl, rfl, _, rfl, ?_⟩
    rw [decide_eq_decide.mpr (show V.str kind = V.str "flag" ↔ kind = "flag" from ⟨fun e => by injection e, fun e => by rw [e]⟩)]
    by_cases k2 : kind = "flag"
    · rw [decide_eq_true k2]
      subst k2
      exact iteT ⟨_, rfl, t, c, _, rfl, T1, by decide, big1000 (by decide) (by decide), fun j H2 _ _ T2 S2 => ⟨rfl, two, fin (fun _ _ => .bl _) (.flag _) nofun T2 (S1.trans S2)⟩⟩
    rw [decide_eq_false k2]
    have k3 : kind = "word" := by rcases hk with z | z | z; exact absurd z k1; exact z; exact absurd z k2
    subst k3
    refine iteF ⟨four, fun Y hY => ?_⟩
    have zY := Same.upd (o := .lst [.str "a", .str "b", .str "ab", .str "b0"]) hY
    have nY := T1.tape.ne hY
    refine ⟨_, rfl, t, c, _, rfl, T1.same zY, by decide, big1000 (by decide) (by decide), fun j H2 j0 j4 T2 S2 => ?_⟩
    have S12 := S1.trans ((Same.b t zY).trans S2)
    have all : ∀ v ∈ ([.str "a", .str "b", .str "ab", .str "b0"] : List V), ∃ z : Str, v = .str z ∧ Sh 12 z ∧ nameB (.str z) = true := by
      intro v hv
      simp only [List.mem_cons, List.not_mem_nil, or_false] at hv
      rcases hv with rfl | rfl | rfl | rfl <;> exact ⟨_, rfl, ⟨by decide +kernel, by decide +kernel⟩, by decide +kernel⟩
    have hj : j.toNat < ([.str "a", .str "b", .str "ab", .str "b0"] : List V).length := by show j.toNat < 4; omega
    obtain ⟨z, ez, sz, nz⟩ := all _ (List.getElem_mem hj)
    refine ⟨Y, _, _, _, rfl, rfl, SqL.of (S2 _ _ nY upd_same), at_of (j := j.toNat) (by omega) ((List.getElem?_eq_getElem hj).trans (congrArg some ez)), two, ?_⟩
    exact fin (fun _ _ => .str z) (.word sz nz) nofun T2 S12
end
theorem fn_none {P : Program} {w : World} {K : PySem.W.Frag} {mg : Str → Option Value} {base : Heap} {f : Addr} {fd : FuncData} {ps : List Str} {k : Nat} : FnOk P w K mg base CX0 k f fd ps (fun _ _ _ _ => False) := ⟨fun _ _ _ _ h => h.elim, fun _ _ _ _ _ _ _ _ _ _ _ _ _ h => h.elim⟩
end K16
set_option Elab.async false
set_option linter.all false
set_option maxRecDepth 100000
set_option maxHeartbeats 4000000
namespace K16
open PySem PySem.Spec PyProof.Rows L2 Lc
/-! ## columns, and what a drawn step makes of them -/
/-- the steps that this law draws -/
inductive Ps where
  | keep (e : PyData)
  | set (x : Str) (e : PyData)
  | select (ns : List Str)
  | rename (a b : Str)
  | sort (a : Str) (u : Bool)
  | sample (n w s : Nat)
def updn (u : Bool) : Str := if u then "up" else "down"
def strT (ns : List Str) : PyData := .tuple (ns.map PyData.str)
def Ps.d : Ps → PyData
  | .keep e => .tuple [.str "keep", e]
  | .set x e => .tuple [.str "set", .str x, e]
  | .select ns => .tuple [.str "select", strT ns]
  | .rename a b => .tuple [.str "rename", .str a, .str b]
  | .sort a u => .tuple [.str "sort", .str a, .str (updn u)]
  | .sample n w s => .tuple [.str "sample", .int n, .int w, .int s]
def Ps.w : Ps → Str
  | .keep _ => "keep"
  | .set _ _ => "set"
  | .select _ => "select"
  | .rename _ _ => "rename"
  | .sort _ _ => "sort"
  | .sample _ _ _ => "sample"
abbrev nmS (x : Str) : Prop := nameB (.str x) = true
abbrev vS (ss : List Str) : List V := ss.map V.str
abbrev CsL : Type := List (Str × Str)
structure ColP (ps : CsL) : Prop where
  ok : ∀ p ∈ ps, Sh 12 p.1 ∧ nameB (.str p.1) = true ∧ KindS p.2
  nd : (ps.map (·.1)).Nodup
  l1 : 1 ≤ ps.length
  l8 : ps.length ≤ 8
abbrev nms (ps : CsL) : List Str := ps.map (·.1)
theorem ColP.nm {ps : CsL} (h : ColP ps) {x : Str} (hx : x ∈ nms ps) : Sh 12 x ∧ nmS x := by
  obtain ⟨p, hp, rfl⟩ := List.mem_map.mp hx
  exact ⟨(h.ok p hp).1, (h.ok p hp).2.1⟩
def kdOf (ps : CsL) (n : Str) : Str := ((ps.find? fun p => decide (p.1 = n)).map (·.2)).getD ""
theorem kdOf_mem {ps : CsL} (h : (ps.map (·.1)).Nodup) {p : Str × Str} (hp : p ∈ ps) : kdOf ps p.1 = p.2 := by
  induction ps with
  | nil => cases hp
  | cons q r ih =>
    unfold kdOf
    rw [List.find?_cons]
    rcases List.mem_cons.mp hp with rfl | hp
    · rw [decide_eq_true rfl]
      rfl
    · rw [List.map_cons, List.nodup_cons] at h
      have : ¬ q.1 = p.1 := fun e => h.1 (by rw [e]; exact List.mem_map_of_mem hp)
      rw [decide_eq_false this]
      exact ih h.2 hp
theorem ColP.kd {ps : CsL} (h : ColP ps) {x : Str} (hx : x ∈ nms ps) : (x, kdOf ps x) ∈ ps ∧ KindS (kdOf ps x) := by
  obtain ⟨p, hp, rfl⟩ := List.mem_map.mp hx
  rw [kdOf_mem h.nd hp]
  exact ⟨hp, (h.ok p hp).2.2⟩
inductive Lead (ps : CsL) : Ps → CsL → Prop
  | keep {e : PyData} (h : Xp ps 3 "flag" e) : Lead ps (.keep e) ps
  | setO {x k : Str} {e : PyData} (hx : x ∈ nms ps) (hk : KindS k) (h : Xp ps 3 k e) : Lead ps (.set x e) (ps.map fun p => (p.1, if p.1 = x then k else p.2))
  | setN {x k : Str} {e : PyData} (hx : x ∉ nms ps) (nx : Sh 12 x ∧ nmS x) (hk : KindS k) (h : Xp ps 3 k e) (l : ps.length < 8) : Lead ps (.set x e) (ps ++ [(x, k)])
  | select {ns : List Str} (h : ∀ n ∈ ns, n ∈ nms ps) (nd : ns.Nodup) (l1 : 1 ≤ ns.length) (l8 : ns.length ≤ 8) : Lead ps (.select ns) (ns.map fun n => (n, kdOf ps n))
  | rename {a b : Str} (ha : a ∈ nms ps) (nb : Sh 12 b ∧ nmS b) (hb : ∀ n ∈ nms ps, n ≠ a → b ≠ n) : Lead ps (.rename a b) (ps.map fun p => (if p.1 = a then b else p.1, p.2))
  | sort {a : Str} {u : Bool} (ha : a ∈ nms ps) : Lead ps (.sort a u) ps
  | sample {n w s : Nat} (h1 : n ≤ w) (h2 : 1 ≤ w) (h3 : w ≤ 1000) (h4 : s ≤ 1000000000) : Lead ps (.sample n w s) ps
theorem nodup_map {α β : Type} {f : α → β} {l : List α} (h : l.Nodup) (inj : ∀ a ∈ l, ∀ b ∈ l, f a = f b → a = b) : (l.map f).Nodup := by
  induction l with
  | nil => exact List.nodup_nil
  | cons a r ih =>
    rw [List.nodup_cons] at h
    rw [List.map_cons, List.nodup_cons]
    refine ⟨fun m => ?_, ih h.2 fun x hx y hy => inj x (List.mem_cons_of_mem _ hx) y (List.mem_cons_of_mem _ hy)⟩
    obtain ⟨b, hb, e⟩ := List.mem_map.mp m
    exact h.1 (by rw [← inj b (List.mem_cons_of_mem _ hb) a List.mem_cons_self e]; exact hb)
theorem Lead.go {ps qs : CsL} {p : Ps} (h : Lead ps p qs) (c : ColP ps) : ColP qs := by
  have sel : ∀ {ns : List Str}, (∀ n ∈ ns, n ∈ nms ps) → ∀ p ∈ ns.map (fun n => (n, kdOf ps n)), Sh 12 p.1 ∧ nameB (.str p.1) = true ∧ KindS p.2 := fun {ns} h p hp => by
    obtain ⟨n, hn, rfl⟩ := List.mem_map.mp hp
    exact ⟨(c.nm (h n hn)).1, (c.nm (h n hn)).2, (c.kd (h n hn)).2⟩
  have idm : ∀ ns : List Str, (ns.map (fun n => (n, kdOf ps n))).map (·.1) = ns := fun ns => by rw [List.map_map]; exact List.map_id' ns
  cases h with
  | keep h => exact c
  | @setO x k e hx hk h =>
    refine ⟨?_, ?_, by rw [List.length_map]; exact c.l1, by rw [List.length_map]; exact c.l8⟩
    · intro p hp
      obtain ⟨q, hq, rfl⟩ := List.mem_map.mp hp
      obtain ⟨h1, h2, h3⟩ := c.ok q hq
      refine ⟨h1, h2, ?_⟩
      show KindS (if q.1 = x then k else q.2)
      split
      · exact hk
      · exact h3
    · rw [List.map_map]
      exact c.nd
  | @setN x k e hx nx hk h l =>
    refine ⟨?_, ?_, by rw [List.length_append]; show 1 ≤ _ + 1; omega, by rw [List.length_append]; show _ + 1 ≤ 8; omega⟩
    · intro p hp
      rcases List.mem_append.mp hp with hp | hp
      · exact c.ok p hp
      · rw [List.mem_singleton.mp hp]; exact ⟨nx.1, nx.2, hk⟩
    · rw [List.map_append, List.nodup_append]
      exact ⟨c.nd, List.nodup_cons.mpr ⟨nofun, List.nodup_nil⟩, fun a ha b hb e => hx (by rw [List.mem_singleton.mp hb] at e; rw [← show a = x from e]; exact ha)⟩
  | @select ns h nd l1 l8 =>
    exact ⟨sel h, by rw [idm]; exact nd, by rw [List.length_map]; exact l1, by rw [List.length_map]; exact l8⟩
  | @rename a b ha nb hb =>
    refine ⟨?_, ?_, by rw [List.length_map]; exact c.l1, by rw [List.length_map]; exact c.l8⟩
    · intro p hp
      obtain ⟨q, hq, rfl⟩ := List.mem_map.mp hp
      obtain ⟨h1, h2, h3⟩ := c.ok q hq
      show Sh 12 (if q.1 = a then b else q.1) ∧ nameB (.str (if q.1 = a then b else q.1)) = true ∧ _
      split
      · exact ⟨nb.1, nb.2, h3⟩
      · exact ⟨h1, h2, h3⟩
    · have e : (ps.map fun p => (if p.1 = a then b else p.1, p.2)).map (·.1) = (nms ps).map fun n => if n = a then b else n := by
        rw [List.map_map, List.map_map]
        rfl
      rw [e]
      refine nodup_map c.nd fun x hx y hy exy => ?_
      by_cases h1 : x = a
      · by_cases h2 : y = a
        · rw [h1, h2]
        · rw [if_pos h1, if_neg h2] at exy
          exact absurd exy (hb y hy h2)
      · by_cases h2 : y = a
        · rw [if_neg h1, if_pos h2] at exy
          exact absurd exy.symm (hb x hx h1)
        · rw [if_neg h1, if_neg h2] at exy
          exact exy
  | sort ha => exact c
  | sample h1 h2 h3 h4 => exact c
/-! ## columns in the heap -/
def dl (t : Addr) (H : Hp) : Hp := fun b => if b = t then none else H b
theorem dl_at {t a : Addr} {H : Hp} {o : HO} (n : a ≠ t) (e : H a = some o) : dl t H a = some o := by
  unfold dl
  rw [if_neg n]
  exact e
theorem dl_of {t a : Addr} {H : Hp} {o : HO} (e : dl t H a = some o) : a ≠ t ∧ H a = some o := by
  unfold dl at e
  by_cases q : a = t
  · rw [if_pos q] at e; cases e
  · rw [if_neg q] at e; exact ⟨q, e⟩
theorem dl_same {t : Addr} {H H' : Hp} (s : SameB t H H') : Same (dl t H) (dl t H') := fun b o e => dl_at (dl_of e).1 (s b o (dl_of e).1 (dl_of e).2)
theorem dl_here {t : Addr} {H : Hp} : Same (dl t H) H := fun b o e => (dl_of e).2
abbrev DhT (t : Addr) (H : Hp) (v : V) (d : PyData) : Prop := Dh (dl t H) v d
theorem dts {t : Addr} {H H1 : Hp} {v : V} {d : PyData} (h : DhT t H v d) (s : Same H H1) : DhT t H1 v d := h.same (dl_same (Same.b t s))
theorem dtb {t : Addr} {H H1 : Hp} {v : V} {d : PyData} (h : DhT t H v d) (s : SameB t H H1) : DhT t H1 v d := h.same (dl_same s)
theorem dtsA {t : Addr} {H H1 : Hp} {vs : List V} {ds : List PyData} (h : DhAll (dl t H) vs ds) (s : Same H H1) : DhAll (dl t H1) vs ds := h.same (dl_same (Same.b t s))
theorem dtbA {t : Addr} {H H1 : Hp} {vs : List V} {ds : List PyData} (h : DhAll (dl t H) vs ds) (s : SameB t H H1) : DhAll (dl t H1) vs ds := h.same (dl_same s)
theorem DhF.t {t : Addr} {H H' : Hp} {v : V} {d : PyData} (T : Tape H t) (h : DhF H H' v d) : DhT t H' v d := h (dl t H') fun b o n e => dl_at (T.ne n) e
/-- a new tuple of data -/
theorem dh_tupT {t p : Addr} {H : Hp} {vs : List V} {ds : List PyData} (T : Tape H t) (h : DhAll (dl t H) vs ds) (hp : H p = none) : DhT t (upd H p (.tup vs)) (.ref p) (.tuple ds) := .tup (dl_at (T.ne hp) upd_same) (dtsA h (Same.upd hp))
def CA (H : Hp) (L : Addr) (ps : CsL) : Prop := ∃ xs, ZT H L xs ∧ Cols H xs ps
theorem CA.b {t : Addr} {H H' : Hp} {L : Addr} {ps : CsL} (h : CA H L ps) (T : Tape H t) (s : SameB t H H') : CA H' L ps := by
  obtain ⟨xs, z, c⟩ := h
  exact ⟨xs, z.b T s, c.b T s⟩
theorem CA.same {H H' : Hp} {L : Addr} {ps : CsL} (h : CA H L ps) (s : Same H H') : CA H' L ps := by
  obtain ⟨xs, z, c⟩ := h
  exact ⟨xs, z.same s, c.t (SameT.of s)⟩
theorem SameT.b2 {t : Addr} {H H' : Hp} (T : Tape H t) (s : SameB t H H') : SameT H H' := SameT.b T s
/-- a text of these columns as it is: the names -/
theorem cols_at {H : Hp} {xs : List V} {ps : CsL} (c : Cols H xs ps) {i : Nat} {x : V} (h : xs[i]? = some x) : ∃ a z k, x = .ref a ∧ H a = some (.tup [.str z, .str k]) ∧ ps[i]? = some (z, k) := c.get _ _ h
/-- what is new stays when the tape is drawn from and when a list is written -/
theorem dlT {t a : Addr} {H : Hp} {zs ys : List V} (e : H a = some (.lst zs)) : SameT (dl t H) (dl t (upd H a (.lst ys))) := fun b xs q => by
  obtain ⟨n, q⟩ := dl_of q
  exact dl_at n (by rw [upd_ne (ne_of q e nofun)]; exact q)
theorem DhT.upd {t a : Addr} {H : Hp} {zs ys : List V} {v : V} {d : PyData} (h : DhT t H v d) (n : noL d = true) (e : H a = some (.lst zs)) : DhT t (L2.upd H a (.lst ys)) v d := h.t (dlT e) n
theorem dhtA_upd {t a : Addr} {H : Hp} {zs ys vs : List V} {ds : List PyData} (h : DhAll (dl t H) vs ds) (n : ∀ d ∈ ds, noL d = true) (e : H a = some (.lst zs)) : DhAll (dl t (L2.upd H a (.lst ys))) vs ds := by
  induction ds generalizing vs with
  | nil => cases h; exact .nil
  | cons d ds ih =>
    cases h with
    | cons h r => exact .cons (DhT.upd h (n d List.mem_cons_self) e) (ih r fun x hx => n x (List.mem_cons_of_mem _ hx))
theorem Vk.noL {k : Str} {d : PyData} (h : Vk k d) : noL d = true := by cases h <;> rfl
theorem Xp.noL {ps : List (Str × Str)} {n : Nat} {k : Str} {d : PyData} (h : Xp ps n k d) : noL d = true := by
  induction h with
  | col _ => rfl
  | val h _ => simp [Lc.noL, noLs, h.noL]
  | one _ _ ia => simp [Lc.noL, noLs, ia]
  | two _ _ _ ia ib => simp [Lc.noL, noLs, ia, ib]
  | iff _ _ _ ia ib ic => simp [Lc.noL, noLs, ia, ib, ic]
def NewX (H : Hp) (t c : Addr) (ps : List (Str × Str)) (n : Nat) (k : Str) (Q : VK) : Prop := ∀ (v : V) (d : PyData) (H' : Hp), DhT t H' v d → Xp ps n k d → TapeL c H' t → SameB t H H' → Q v H'
def spXp : Nat → Sp
  | 0 => fun _ _ _ _ => False
  | n + 1 => fun vs H Q _ => ∃ (t c L : Addr) (kind : Str) (xs : List V) (ps : List (Str × Str)), vs = [.ref t, .ref L, .str kind, .int ((n : Int) + 1)] ∧ KindS kind ∧ TapeL c H t ∧ Rd H L (.tup xs) ∧ Cols H xs ps ∧ ps.length ≤ 8 ∧ NewX H t c ps (n + 1) kind Q
end K16
set_option Elab.async false
set_option linter.all false
set_option maxRecDepth 100000
set_option maxHeartbeats 4000000
namespace K16
open PySem PySem.Spec PyProof.Rows L2 Lc
/-! ## some of the items, in a drawn order -/
theorem erase_perm {α : Type} : ∀ {l : List α} {k : Nat} {y : α}, l[k]? = some y → (y :: l.eraseIdx k).Perm l
  | [], k, y, h => by simp at h
  | a :: l, 0, y, h => by
    have e : a = y := by simpa using h
    subst e
    exact List.Perm.refl _
  | a :: l, k + 1, y, h => by
    have ih := erase_perm (l := l) (k := k) (y := y) (by simpa using h)
    show (y :: a :: l.eraseIdx k).Perm (a :: l)
    exact (List.Perm.swap a y _).trans (ih.cons a)
theorem map_er {α β : Type} (f : α → β) : ∀ (l : List α) (k : Nat), (l.map f).eraseIdx k = (l.eraseIdx k).map f
  | [], k => by cases k <;> rfl
  | a :: l, 0 => rfl
  | a :: l, k + 1 => by
    show f a :: (l.map f).eraseIdx k = f a :: (l.eraseIdx k).map f
    rw [map_er f l k]
def spPk : Sp := fun vs H Q _ => ∃ (t c L : Addr) (ss : List Str) (many : Int), vs = [.ref t, .ref L, .int many] ∧ TapeL c H t ∧ H L = some (.lst (vS ss)) ∧ ss.Nodup ∧ ss.length ≤ 8 ∧ 1 ≤ many ∧ many ≤ 8 ∧
  ∀ (G : Addr) (gs : List Str) (H' : Hp), H' G = some (.lst (vS gs)) → H G = none → (∀ x ∈ gs, x ∈ ss) → gs.Nodup → (ss ≠ [] → gs ≠ []) → (gs.length : Int) ≤ many → TapeL c H' t → SameB t H H' → Q (.ref G) H'
def spSmp : Sp := fun vs H Q _ => ∃ (t c : Addr), vs = [.ref t] ∧ TapeL c H t ∧ ∀ (v : V) (n w s : Nat) (H' : Hp), n ≤ w → 1 ≤ w → w ≤ 1000 → s ≤ 1000000000 → DhT t H' v (Ps.d (.sample n w s)) → TapeL c H' t → SameB t H H' → Q v H'
def spSrt : Sp := fun vs H Q _ => ∃ (t c L : Addr) (ps : CsL), vs = [.ref t, .ref L] ∧ TapeL c H t ∧ CA H L ps ∧ ColP ps ∧ ∀ (v : V) (a : Str) (u : Bool) (H' : Hp), a ∈ nms ps → DhT t H' v (Ps.d (.sort a u)) → TapeL c H' t → SameB t H H' → Q v H'
theorem nm_turn {H H1 : Hp} {D : Addr} {ps : CsL} {i : Nat} {z kk : Str} (hD : H D = none) (hD1 : H1 D = some (.lst (vS ((nms ps).take i)))) (ep : ps[i]? = some (z, kk)) (l8 : ps.length ≤ 8) (s1 : Same H H1) : ∃ acc, H1 D = some (.lst acc) ∧ acc.length < sizeLine ∧ (upd H1 D (.lst (acc ++ [.str z])) D = some (.lst (vS ((nms ps).take (i + 1)))) ∧ Same H (upd H1 D (.lst (acc ++ [.str z])))) := by
  refine ⟨_, hD1, ?_, ?_, fun b o e => by rw [upd_ne (ne_of_none e hD)]; exact s1 b o e⟩
  · rw [List.length_map, List.length_take, List.length_map]
    exact Nat.lt_of_le_of_lt (show _ ≤ 8 by omega) (by decide)
  · have : (nms ps)[i]? = some z := by rw [List.getElem?_map, ep]; rfl
    rw [upd_same, List.take_add_one, this]
    unfold vS
    rw [List.map_append]
    rfl
theorem seq_ix {n : Nat} {d : Int} (h0 : 0 ≤ d) (h1 : d < n) : seqIndex? d n = some d.toNat := by
  refine (ixN_seq (n := n) (i := d) (j := d.toNat) ?_).1
  unfold ixN
  rw [if_pos h0, if_pos h1]
theorem lt_size {n : Nat} (h : n ≤ 1000) : n < sizeLine := Nat.lt_of_le_of_lt h (by decide)
section
variable {P : Program} {w : World} {K : PySem.W.Frag} {mg : Str → Option Value} {base : Heap} {f : Addr} {fd : FuncData}
abbrev sPk : Stmt := top 135
abbrev nPk : List Str := ["_law_tape_here", "_law_items", "_law_many", "_law_rest", "_law_got", "_law_k"]
abbrev pPk : List Str := ["_law_tape_here", "_law_items", "_law_many"]
theorem scPk : FnScope nPk pPk (defScope sPk) := ⟨rfl, rfl, rfl, by decide +kernel, rfl, by decide +kernel, by decide +kernel⟩
section
variable {fA_ : Addr} {fdA_ : FuncData}
theorem ok_Pk (F : Fun K "_law_pick" "_law_pick" sPk f fd) (T : Bt mg)
    (GA_ : FnOk P w K mg base CX0 1 fA_ fdA_ ["_law_tape_here", "_law_many"] (spDrawL)) (mA_ : mg "_law_draw" = some (.ref fA_)) (kA_ : PySem.W.keepIn K (.ref fA_) = true) (bA_ : Binds K fdA_ ["_law_tape_here", "_law_many"] []) : FnOk P w K mg base CX0 2 f fd pPk (spPk) := by
  refine F.ok scPk (fun vs H Q E h => ?_) (fun cdv A outer s H vs Q E hr h => ?_)
  · obtain ⟨t, c, L, ss, many, rfl, _⟩ := h
    rfl
  · obtain ⟨t, c, L, ss, many, rfl, hT, hL, nd, l8, m1, m8, k⟩ := h
    have hrA_ : Room (1) _ := hr.mono (by first | decide | omega)
    refine ⟨_, (pss_cons (ps_set (i := 3) scPk.nd rfl (Or.inl rfl) (pe_callTy call_list_of (by rfl) T.list boot_list (pa_cons (pv 1) pa_nil)))
      (pss_cons (ps_set (i := 4) scPk.nd rfl (Or.inl rfl) (pe_lst pa_nil))
      (pss_cons (ps_for PassesOwn.never rfl (pi_range1 (by rfl) T.range (pa_cons (pe_callB (call_min2 rfl) (by rfl) T.min (by decide +kernel) (pa_cons (pe_callB call_len_seq (by rfl) T.len PySem.boot_len (pa_cons (pv 3) pa_nil)) (pa_cons (pv 2) pa_nil))) pa_nil)) (pg_name (i := 5) scPk.nd rfl (.inl rfl)) (pss_one (ps_if (PW.pt (pw_or (pt_cmpR op_eq (pv 5) pe_int (nomark _)) (pw_or1 (pt_cmpR op_gt (pe_call GA_ hrA_ (by rfl) mA_ kA_ bA_ .nil pass0 (pa_cons (pv 0) (pa_cons pe_int pa_nil))) pe_int (nomark _))))) (pss_one (ps_expr (pe_bm PySem.F.plainAttrs_list PySem.F.slot_list_append PySem.F.type_list_append mt_append (pv 4) (pa_cons (pe_bm PySem.F.plainAttrs_list PySem.F.slot_list_pop PySem.F.type_list_pop mt_popAt (pv 3) (pa_cons (pe_call GA_ hrA_ (by rfl) mA_ kA_ bA_ .nil pass0 (pa_cons (pv 0) (pa_cons (pe_callB call_len_seq (by rfl) T.len PySem.boot_len (pa_cons (pv 3) pa_nil)) pa_nil))) pa_nil)) pa_nil)))) pss_nil)))
      (pss_one (ps_ret (pv 4)))))), ?_⟩
    have two : 2 ≤ sizeLine := by decide
    have one : 1 ≤ sizeLine := by decide
    have three : 3 ≤ sizeLine := by decide
    have four : 4 ≤ sizeLine := by decide
    have nLt := ne_tape hT.tape hL
    refine ⟨_, rfl, L, _, rfl, .inl (SqL.of hL), fun R hR => ⟨Nat.zero_le _, fun G hG => ?_⟩⟩
    have zR := Same.upd (o := .lst (vS ss)) hR
    have zG := Same.upd (o := .lst []) hG
    have gG := Same.gone zR hG
    have nRt := hT.tape.ne hR
    have nGt := hT.tape.ne gG
    obtain ⟨ys, hc⟩ := hT.list
    have nRc : R ≠ c := Ne.symm (ne_of_none hc hR)
    have nGc : G ≠ c := Ne.symm (ne_of_none hc gG)
    have eR0 : upd H R (.lst (vS ss)) R = some (.lst (vS ss)) := upd_same
    have nRG : R ≠ G := ne_of_none eR0 hG
    have eR1 := zG _ _ eR0
    have eG1 : upd (upd H R (.lst (vS ss))) G (.lst []) G = some (.lst []) := upd_same
    have z2 := zR.trans zG
    have T2 := hT.same z2
    generalize upd (upd H R (.lst (vS ss))) G (.lst []) = H2 at eR1 eG1 z2 T2 ⊢
    clear zG eR0 zR
    refine ⟨_, rfl, R, _, rfl, .inl (SqL.of eR1), _, rfl, _, _, rfl, ?_⟩
    rw [List.length_map]
    generalize hn : (if many < (ss.length : Int) then many else (ss.length : Int)) = n
    have n1 : n ≤ many ∧ n ≤ ss.length ∧ 0 ≤ n ∧ (ss ≠ [] → 0 < n) := by
      have : ss ≠ [] → 0 < ss.length := fun h => List.length_pos_iff.mpr h
      by_cases q : many < (ss.length : Int)
      · rw [if_pos q] at hn; omega
      · rw [if_neg q] at hn
        refine ⟨by omega, by omega, by omega, fun h => ?_⟩
        have := this h
        omega
    clear hn
    refine ⟨n, rfl, by omega, by omega, for_range (n := n.toNat) (fun i σ H' => (∃ (x5 : Option V) (rs gs : List Str), σ = [some (.ref t), some (.ref L), some (.int many), some (.ref R), some (.ref G), x5] ∧ H' R = some (.lst (vS rs)) ∧ H' G = some (.lst (vS gs)) ∧ (gs ++ rs).Nodup ∧ (∀ x ∈ gs ++ rs, x ∈ ss) ∧ gs.length + rs.length = ss.length ∧ gs.length ≤ i ∧ (0 < i → gs ≠ [])) ∧ TapeL c H' t ∧ SameB t H H')
      ⟨⟨none, ss, [], rfl, eR1, eG1, nd, fun x hx => hx, Nat.zero_add _, Nat.le_refl _, fun h => absurd h (Nat.lt_irrefl 0)⟩, T2, Same.b t z2⟩ ?_ ?_⟩
    · clear eR1 eG1 T2
      rintro i σ H3 hi ⟨⟨x5, rs, gs, rfl, eR, eG, pnd, pin, len, gl, ge⟩, T3, S3⟩
      refine ⟨_, rfl, rfl, _, rfl, ?_⟩
      by_cases z : i = 0
      · rw [show decide (V.int ((0 : Int) + (i : Int)) = V.int 0) = true by rw [z]; rfl]
        refine iteT (iteT ?_)
        refine ⟨_, rfl, .inl ⟨rfl, _, SqL.of eG⟩, _, rfl, .inl ⟨rfl, _, SqL.of eR⟩, _, rfl, _, rfl, R, _, rfl, .inl (SqL.of eR), t, c, _, rfl, T3, by rw [List.length_map]; omega, big1000 (by omega) (by rw [List.length_map]; omega), fun d Hd d0 d1 Td Sd => ?_⟩
        rw [List.length_map] at d1
        have eR2 := Sd _ _ nRt eR
        have eG2 := Sd _ _ nGt eG
        have hd : d.toNat < rs.length := by omega
        obtain ⟨y, ey⟩ : ∃ y, rs[d.toNat]? = some y := ⟨_, List.getElem?_eq_getElem hd⟩
        have pm := erase_perm ey
        refine ⟨R, _, d, d.toNat, .str y, rfl, rfl, eR2, by omega, by omega, seq_ix d0 (by rw [List.length_map]; omega), by rw [List.getElem?_map, ey]; rfl, G, _, _, rfl, rfl, by rw [upd_ne (Ne.symm nRG)]; exact eG2, by rw [List.length_map]; exact lt_size (by omega), ?_⟩
        rw [map_er]
        have er := List.length_eraseIdx_of_lt hd
        refine ⟨⟨_, rs.eraseIdx d.toNat, gs ++ [y], rfl, by rw [upd_ne nRG, upd_same], by rw [upd_same]; unfold vS; rw [List.map_append]; rfl, ?_, ?_, by rw [List.length_append]; show _ + 1 + _ = _; omega, by rw [List.length_append]; show _ + 1 ≤ _; omega, fun _ => by simp⟩, (Td.upd nRt nRc).upd nGt nGc, ?_⟩
        · rw [List.append_assoc]
          exact pnd.perm ((List.Perm.append_left gs pm).symm)
        · intro x hx
          refine pin x ?_
          rw [List.append_assoc] at hx
          exact (List.Perm.append_left gs pm).mem_iff.mp hx
        · intro b o n e
          rw [upd_ne (fun z => by rw [z, gG] at e; cases e), upd_ne (fun z => by rw [z, hR] at e; cases e)]
          exact (S3.trans Sd) b o n e
      · rw [show decide (V.int ((0 : Int) + (i : Int)) = V.int 0) = false from decide_eq_false (fun h => z (by injection h with h; omega))]
        refine iteF ⟨_, rfl, t, c, _, rfl, T3, by decide, big1000 (by decide) (by decide), fun e He e0 e3 T4 S4 => ?_⟩
        replace eR := S4 _ _ nRt eR
        replace eG := S4 _ _ nGt eG
        have S34 := S3.trans S4
        refine ⟨_, _, rfl, rfl, _, rfl, ite2 (fun _ => ?_) (fun _ => ⟨⟨_, rs, gs, rfl, eR, eG, pnd, pin, len, by omega, fun _ => ge (by omega)⟩, T4, S34⟩)⟩
        refine ⟨_, rfl, .inl ⟨rfl, _, SqL.of eG⟩, _, rfl, .inl ⟨rfl, _, SqL.of eR⟩, _, rfl, _, rfl, R, _, rfl, .inl (SqL.of eR), t, c, _, rfl, T4, by rw [List.length_map]; omega, big1000 (by omega) (by rw [List.length_map]; omega), fun d Hd d0 d1 Td Sd => ?_⟩
        rw [List.length_map] at d1
        have eR2 := Sd _ _ nRt eR
        have eG2 := Sd _ _ nGt eG
        have hd : d.toNat < rs.length := by omega
        obtain ⟨y, ey⟩ : ∃ y, rs[d.toNat]? = some y := ⟨_, List.getElem?_eq_getElem hd⟩
        have pm := erase_perm ey
        refine ⟨R, _, d, d.toNat, .str y, rfl, rfl, eR2, by omega, by omega, seq_ix d0 (by rw [List.length_map]; omega), by rw [List.getElem?_map, ey]; rfl, G, _, _, rfl, rfl, by rw [upd_ne (Ne.symm nRG)]; exact eG2, by rw [List.length_map]; exact lt_size (by omega), ?_⟩
        rw [map_er]
        have er := List.length_eraseIdx_of_lt hd
        refine ⟨⟨_, rs.eraseIdx d.toNat, gs ++ [y], rfl, by rw [upd_ne nRG, upd_same], by rw [upd_same]; unfold vS; rw [List.map_append]; rfl, ?_, ?_, by rw [List.length_append]; show _ + 1 + _ = _; omega, by rw [List.length_append]; show _ + 1 ≤ _; omega, fun _ => by simp⟩, (Td.upd nRt nRc).upd nGt nGc, ?_⟩
        · rw [List.append_assoc]
          exact pnd.perm ((List.Perm.append_left gs pm).symm)
        · intro x hx
          refine pin x ?_
          rw [List.append_assoc] at hx
          exact (List.Perm.append_left gs pm).mem_iff.mp hx
        · intro b o n e
          rw [upd_ne (fun z => by rw [z, gG] at e; cases e), upd_ne (fun z => by rw [z, hR] at e; cases e)]
          exact (S34.trans Sd) b o n e
    · rintro σ H3 ⟨⟨x5, rs, gs, rfl, eR, eG, pnd, pin, len, gl, ge⟩, T3, S3⟩
      exact ⟨_, rfl, k G gs H3 eG gG (fun x hx => pin x (List.mem_append_left _ hx)) (List.nodup_append.mp pnd).1 (fun h => ge (by have := n1.2.2.2 h; omega)) (by omega) T3 S3⟩
end
abbrev sSmp : Stmt := top 138
abbrev nSmp : List Str := ["_law_tape_here", "_law_whole"]
abbrev pSmp : List Str := ["_law_tape_here"]
theorem scSmp : FnScope nSmp pSmp (defScope sSmp) := ⟨rfl, rfl, rfl, by decide +kernel, rfl, by decide +kernel, by decide +kernel⟩
section
variable {fA_ : Addr} {fdA_ : FuncData}
theorem ok_Smp (F : Fun K "_law_sample_step" "_law_sample_step" sSmp f fd) (T : Bt mg)
    (GA_ : FnOk P w K mg base CX0 1 fA_ fdA_ ["_law_tape_here", "_law_many"] (spDrawL)) (mA_ : mg "_law_draw" = some (.ref fA_)) (kA_ : PySem.W.keepIn K (.ref fA_) = true) (bA_ : Binds K fdA_ ["_law_tape_here", "_law_many"] []) : FnOk P w K mg base CX0 2 f fd pSmp (spSmp) := by
  refine F.ok scSmp (fun vs H Q E h => ?_) (fun cdv A outer s H vs Q E hr h => ?_)
  · obtain ⟨t, c, rfl, _⟩ := h
    rfl
  · obtain ⟨t, c, rfl, hT, k⟩ := h
    have hrA_ : Room (1) _ := hr.mono (by first | decide | omega)
    refine ⟨_, (pss_cons (ps_set (i := 1) scSmp.nd rfl (Or.inl rfl) (pe_ix ix_list (pe_lst (pa_cons pe_int (pa_cons pe_int (pa_cons pe_int (pa_cons pe_int pa_nil))))) (pe_call GA_ hrA_ (by rfl) mA_ kA_ bA_ .nil pass0 (pa_cons (pv 0) (pa_cons pe_int pa_nil))) (fun _ _ => rfl)))
      (pss_one (ps_ret (pe_tup (pa_cons pe_str (pa_cons (pe_call GA_ hrA_ (by rfl) mA_ kA_ bA_ .nil pass0 (pa_cons (pv 0) (pa_cons (pe_op op_add (pv 1) pe_int) pa_nil))) (pa_cons (pv 1) (pa_cons (pe_call GA_ hrA_ (by rfl) mA_ kA_ bA_ .nil pass0 (pa_cons (pv 0) (pa_cons (pe_op op_add (pe_op op_pow pe_int pe_int) pe_int) pa_nil))) pa_nil)))))))), ?_⟩
    have two : 2 ≤ sizeLine := by decide
    have one : 1 ≤ sizeLine := by decide
    have three : 3 ≤ sizeLine := by decide
    have four : 4 ≤ sizeLine := by decide
    have pw9 : CPow 10 9 := ⟨by decide, by decide, by decide⟩
    have p9 : (10 : Int) ^ (9 : Int).toNat = 1000000000 := by decide
    have bigx : ∀ z : Int, 0 ≤ z → z ≤ 1000000001 → z.natAbs < 2 ^ 4000 := fun z h1 h2 => Nat.lt_of_lt_of_le (show z.natAbs < 2 ^ 40 by omega) (Nat.pow_le_pow_right (by decide) (by decide))
    refine ⟨four, fun Y hY => ?_⟩
    have zY := Same.upd (o := .lst [.int 2, .int 3, .int 10, .int 1000]) hY
    have nY := hT.tape.ne hY
    refine ⟨_, rfl, t, c, _, rfl, hT.same zY, by decide, big1000 (by decide) (by decide), fun j H2 j0 j4 T2 S2 => ?_⟩
    obtain ⟨w, ew, w1, w2⟩ : ∃ w : Nat, ([.int 2, .int 3, .int 10, .int 1000] : List V)[j.toNat]? = some (.int w) ∧ 1 ≤ w ∧ w ≤ 1000 := by
      have : j.toNat = 0 ∨ j.toNat = 1 ∨ j.toNat = 2 ∨ j.toNat = 3 := by omega
      rcases this with e | e | e | e <;> rw [e]
      · exact ⟨2, rfl, by decide, by decide⟩
      · exact ⟨3, rfl, by decide, by decide⟩
      · exact ⟨10, rfl, by decide, by decide⟩
      · exact ⟨1000, rfl, by decide, by decide⟩
    have S02 := (Same.b t zY).trans S2
    refine ⟨Y, _, _, .int w, rfl, rfl, SqL.of (S2 _ _ nY upd_same), at_of (j := j.toNat) (by omega) ew, ?_⟩
    refine ⟨_, rfl, _, rfl, _, _, rfl, rfl, t, c, _, rfl, T2, by omega, bigx _ (by omega) (by omega), fun n H3 n0 n1 T3 S3 => ?_⟩
    refine ⟨_, rfl, _, rfl, _, _, rfl, rfl, pw9, _, _, rfl, rfl, t, c, _, rfl, T3, by rw [p9]; decide, by rw [p9]; exact bigx _ (by decide) (by decide), fun s H4 s0 s1 T4 S4 => ⟨four, fun r hr => ?_⟩⟩
    rw [p9] at s1
    obtain ⟨n, rfl⟩ : ∃ m : Nat, n = m := ⟨n.toNat, by omega⟩
    obtain ⟨s, rfl⟩ : ∃ m : Nat, s = m := ⟨s.toNat, by omega⟩
    exact k _ n w s _ (by omega) w1 w2 (by omega) (dh_tupT T4.tape (.cons (.str _) (.cons (.int _) (.cons (.int _) (.cons (.int _) .nil)))) hr) (T4.same (Same.upd hr)) ((S02.trans (S3.trans S4)).trans (Same.b t (Same.upd hr)))
end
abbrev sSrt : Stmt := top 137
abbrev nSrt : List Str := ["_law_tape_here", "_law_columns_here", "_law_names", "_law_name_here", "_law_kind"]
abbrev pSrt : List Str := ["_law_tape_here", "_law_columns_here"]
theorem scSrt : FnScope nSrt pSrt (defScope sSrt) := ⟨rfl, rfl, rfl, by decide +kernel, rfl, by decide +kernel, by decide +kernel⟩
section
variable {fA_ : Addr} {fdA_ : FuncData}
theorem ok_Srt (F : Fun K "_law_sort_step" "_law_sort_step" sSrt f fd) (T : Bt mg)
    (GA_ : FnOk P w K mg base CX0 1 fA_ fdA_ ["_law_tape_here", "_law_many"] (spDrawL)) (mA_ : mg "_law_draw" = some (.ref fA_)) (kA_ : PySem.W.keepIn K (.ref fA_) = true) (bA_ : Binds K fdA_ ["_law_tape_here", "_law_many"] []) : FnOk P w K mg base CX0 2 f fd pSrt (spSrt) := by
  refine F.ok scSrt (fun vs H Q E h => ?_) (fun cdv A outer s H vs Q E hr h => ?_)
  · obtain ⟨t, c, L, ps, rfl, _⟩ := h
    rfl
  · obtain ⟨t, c, L, ps, rfl, hT, hL, cp, k⟩ := h
    have hrA_ : Room (1) _ := hr.mono (by first | decide | omega)
    refine ⟨_, (pss_cons (ps_setLc (i := 2) (own := [("_law_name_here", 3), ("_law_kind", 4)]) (g := (gTup K 2 (gCons (gName 3) (gCons (gName 4) gNil)))) (tt := tYes) (te := tVar 3) (by rfl) scSrt.nd rfl rfl (sw_true rfl rfl rfl (by decide +kernel)) (pi_tup (pv 1)) (blkOk_by (own := [("_law_name_here", 3), ("_law_kind", 4)]) (N := nSrt) (sc := defScope sSrt) (by decide +kernel)) (fun _ _ _ _ _ => (pg_tup rfl (pgs_cons (pg_name (i := 3) scSrt.nd rfl (.inl rfl)) (pgs_cons (pg_name (i := 4) scSrt.nd rfl (.inl rfl)) pgs_nil)))) (fun _ _ _ _ _ => pts_nil) (fun _ _ _ _ _ => (pv 3)))
      (pss_one (ps_ret (pe_tup (pa_cons pe_str (pa_cons (pe_ix ix_list (pv 2) (pe_call GA_ hrA_ (by rfl) mA_ kA_ bA_ .nil pass0 (pa_cons (pv 0) (pa_cons (pe_callB call_len_seq (by rfl) T.len PySem.boot_len (pa_cons (pv 2) pa_nil)) pa_nil))) (fun _ _ => rfl)) (pa_cons (pe_ix ix_list (pe_lst (pa_cons pe_str (pa_cons pe_str pa_nil))) (pe_call GA_ hrA_ (by rfl) mA_ kA_ bA_ .nil pass0 (pa_cons (pv 0) (pa_cons pe_int pa_nil))) (fun _ _ => rfl)) pa_nil))))))), ?_⟩
    have two : 2 ≤ sizeLine := by decide
    have one : 1 ≤ sizeLine := by decide
    have three : 3 ≤ sizeLine := by decide
    have four : 4 ≤ sizeLine := by decide
    obtain ⟨xs, zL, cc⟩ := hL
    have l8 := cp.l8
    have l1 := cp.l1
    refine ⟨_, rfl, L, rfl, ⟨_, zL.sq⟩, fun W hW => lc_tup (K := K) (a := L) (xs := xs) (fun i H' => H' W = some (.lst (vS ((nms ps).take i))) ∧ Same H H') ⟨upd_same, Same.upd hW⟩ (fun i H' _ pr => (zL.same pr.2).sq) ?_ ?_⟩
    · rintro i x H1 hx ⟨hW1, s1⟩
      obtain ⟨a, z, kk, rfl, ea, ep⟩ := cc.get _ _ hx
      refine ⟨a, _, rfl, SqT.of (s1 _ _ ea), rfl, _, _, rfl, _, _, rfl, rfl, rfl, ?_⟩
      dsimp only [tYes]
      exact iteT ⟨_, rfl, nm_turn hW hW1 ep cp.l8 s1⟩
    rintro H1 ⟨hW1, s1⟩
    rw [show xs.length = (nms ps).length by rw [cc.len, List.length_map], List.take_length] at hW1
    have T1 := hT.same s1
    have nW := hT.tape.ne hW
    have ln : (vS (nms ps)).length = ps.length := by rw [List.length_map, List.length_map]
    refine ⟨_, rfl, _, rfl, _, rfl, W, _, rfl, .inl (SqL.of hW1), t, c, _, rfl, T1, by rw [ln]; omega, big1000 (by omega) (by rw [ln]; omega), fun j H2 j0 j1 T2 S2 => ?_⟩
    rw [ln] at j1
    have hj : j.toNat < (nms ps).length := by rw [List.length_map]; omega
    obtain ⟨z, ez⟩ : ∃ z, (nms ps)[j.toNat]? = some z := ⟨_, List.getElem?_eq_getElem hj⟩
    refine ⟨W, _, _, .str z, rfl, rfl, SqL.of (S2 _ _ nW hW1), at_of (j := j.toNat) (by omega) (by rw [List.getElem?_map, ez]; rfl), two, fun Y hY => ?_⟩
    have zY := Same.upd (o := .lst [.str "up", .str "down"]) hY
    have nY := T2.tape.ne hY
    refine ⟨_, rfl, t, c, _, rfl, T2.same zY, by decide, big1000 (by decide) (by decide), fun u H3 u0 u2 T3 S3 => ?_⟩
    obtain ⟨b, eb⟩ : ∃ b : Bool, ([.str "up", .str "down"] : List V)[u.toNat]? = some (.str (updn b)) := by
      have : u.toNat = 0 ∨ u.toNat = 1 := by omega
      rcases this with e | e <;> rw [e]
      · exact ⟨true, rfl⟩
      · exact ⟨false, rfl⟩
    refine ⟨Y, _, _, .str (updn b), rfl, rfl, SqL.of (S3 _ _ nY upd_same), at_of (j := u.toNat) (by omega) eb, three, fun r hr => ?_⟩
    have S := (Same.b t s1).trans (S2.trans ((Same.b t zY).trans S3))
    exact k _ z b _ (List.mem_of_getElem? ez) (dh_tupT T3.tape (.cons (.str _) (.cons (.str _) (.cons (.str _) .nil))) hr) (T3.same (Same.upd hr)) (S.trans (Same.b t (Same.upd hr)))
end
end
end K16
set_option Elab.async false
set_option linter.all false
set_option maxRecDepth 100000
set_option maxHeartbeats 4000000
namespace K16
open PySem PySem.Spec PyProof.Rows L2 Lc
/-! ## set: a column is written anew, or a new one -/
abbrev rI1 : List V → Hp → VK → Prop := fun xs H Q => (∃ i, xs = [.int i] ∧ Q (.int i) H) ∨ ∃ k, xs = [.bl k] ∧ Q (.int (if k then 1 else 0)) H
abbrev teSet (K : PySem.W.Frag) : TE := tTup (tCons (tVar 6) (tCons (tOp (rIxL K) (tLst (tCons (tVar 7) (tCons (tVar 4) tNil))) (tCB rI1 (tCons (tOp rEq (tVar 6) (tVar 3)) tNil))) tNil))
def spKs : Sp := fun vs H Q _ => ∃ (t c L : Addr) (ps : CsL), vs = [.ref t, .ref L] ∧ TapeL c H t ∧ CA H L ps ∧ ColP ps ∧ ∀ (r : Addr) (v : V) (C : Addr) (p : Ps) (qs : CsL) (H' : Hp), H' r = some (.tup [v, .ref C]) → DhT t H' v p.d → CA H' C qs → Lead ps p qs → TapeL c H' t → SameB t H H' → Q (.ref r) H'
theorem col_turn {H H1 H2 : Hp} {D p : Addr} {ys : List V} {qs : CsL} {z k : Str} (hD : H D = none) (e1 : H1 D = some (.lst ys)) (c1 : Cols H1 ys qs) (l : ys.length ≤ 100) (s1 : Same H H1) (s2 : Same H1 H2) (hp : H2 p = none) :
    ∃ acc, upd H2 p (.tup [.str z, .str k]) D = some (.lst acc) ∧ acc.length < sizeLine ∧ ((∃ ys', upd (upd H2 p (.tup [.str z, .str k])) D (.lst (acc ++ [.ref p])) D = some (.lst ys') ∧ Cols (upd (upd H2 p (.tup [.str z, .str k])) D (.lst (acc ++ [.ref p]))) ys' (qs ++ [(z, k)])) ∧ Same H (upd (upd H2 p (.tup [.str z, .str k])) D (.lst (acc ++ [.ref p])))) := by
  have zp := Same.upd (o := .tup [.str z, .str k]) hp
  have e3 := zp _ _ (s2 _ _ e1)
  refine ⟨ys, e3, lt_size (by omega), ⟨ys ++ [.ref p], upd_same, ?_⟩, fun b o e => by rw [upd_ne (ne_of_none e hD)]; exact zp _ _ (s2 _ _ (s1 _ _ e))⟩
  have c3 : Cols (upd H2 p (.tup [.str z, .str k])) ys qs := (c1.t (SameT.of s2)).t (SameT.of zp)
  exact (c3.app (.cons upd_same .nil)).t (SameT.lst e3)
section
variable {P : Program} {w : World} {K : PySem.W.Frag} {mg : Str → Option Value} {base : Heap} {f : Addr} {fd : FuncData}
abbrev sSst : Stmt := top 136
abbrev nSst : List Str := ["_law_tape_here", "_law_columns_here", "_law_names", "_law_name_here", "_law_kind", "_law_step", "_law_other", "_law_old"]
abbrev pSst : List Str := ["_law_tape_here", "_law_columns_here"]
theorem scSst : FnScope nSst pSst (defScope sSst) := ⟨rfl, rfl, rfl, by decide +kernel, rfl, by decide +kernel, by decide +kernel⟩
section
variable {fA_ fB_ fC_ : Addr} {fdA_ fdB_ fdC_ : FuncData}
theorem ok_Sst (F : Fun K "_law_set_step" "_law_set_step" sSst f fd) (T : Bt mg)
    (GA_ : FnOk P w K mg base CX0 1 fA_ fdA_ ["_law_tape_here", "_law_many"] (spDrawL)) (mA_ : mg "_law_draw" = some (.ref fA_)) (kA_ : PySem.W.keepIn K (.ref fA_) = true) (bA_ : Binds K fdA_ ["_law_tape_here", "_law_many"] [])
    (GB_ : FnOk P w K mg base CX0 3 fB_ fdB_ ["_law_tape_here", "_law_taken"] (spFr)) (mB_ : mg "_law_fresh" = some (.ref fB_)) (kB_ : PySem.W.keepIn K (.ref fB_) = true) (bB_ : Binds K fdB_ ["_law_tape_here", "_law_taken"] [])
    (GC_ : FnOk P w K mg base CX0 6 fC_ fdC_ ["_law_tape_here", "_law_columns_here", "_law_kind", "_law_depth"] (spXp 3)) (mC_ : mg "_law_expression" = some (.ref fC_)) (kC_ : PySem.W.keepIn K (.ref fC_) = true) (bC_ : Binds K fdC_ ["_law_tape_here", "_law_columns_here", "_law_kind", "_law_depth"] []) : FnOk P w K mg base CX0 7 f fd pSst (spKs) := by
  refine F.ok scSst (fun vs H Q E h => ?_) (fun cdv A outer s H vs Q E hr h => ?_)
  · obtain ⟨t, c, L, ps, rfl, _⟩ := h
    rfl
  · obtain ⟨t, c, L, ps, rfl, hT, hL, cp, k⟩ := h
    have hrA_ : Room (1) _ := hr.mono (by first | decide | omega)
    have hrB_ : Room (3) _ := hr.mono (by first | decide | omega)
    have hrC_ : Room (6) _ := hr.mono (by first | decide | omega)
    refine ⟨_, (Evl.pss_cut (ps_setLc (i := 2) (own := [("_law_name_here", 3), ("_law_kind", 4)]) (g := (gTup K 2 (gCons (gName 3) (gCons (gName 4) gNil)))) (tt := tYes) (te := tVar 3) (by rfl) scSst.nd rfl rfl (sw_true rfl rfl rfl (by decide +kernel)) (pi_tup (pv 1)) (blkOk_by (own := [("_law_name_here", 3), ("_law_kind", 4)]) (N := nSst) (sc := defScope sSst) (by decide +kernel)) (fun _ _ _ _ _ => (pg_tup rfl (pgs_cons (pg_name (i := 3) scSst.nd rfl (.inl rfl)) (pgs_cons (pg_name (i := 4) scSst.nd rfl (.inl rfl)) pgs_nil)))) (fun _ _ _ _ _ => pts_nil) (fun _ _ _ _ _ => (pv 3)))
      (pss_cons (ps_set (i := 4) scSst.nd rfl (Or.inr rfl) (pe_ix ix_list (pe_lst (pa_cons pe_str (pa_cons pe_str (pa_cons pe_str pa_nil)))) (pe_call GA_ hrA_ (by rfl) mA_ kA_ bA_ .nil pass0 (pa_cons (pv 0) (pa_cons pe_int pa_nil))) (fun _ _ => rfl)))
      (pss_cons (ps_set (i := 3) scSst.nd rfl (Or.inr rfl) (pe_ix ix_list (pv 2) (pe_call GA_ hrA_ (by rfl) mA_ kA_ bA_ .nil pass0 (pa_cons (pv 0) (pa_cons (pe_callB call_len_seq (by rfl) T.len PySem.boot_len (pa_cons (pv 2) pa_nil)) pa_nil))) (fun _ _ => rfl)))
      (Evl.pss_cut (ps_if (PW.pt (pw_and (pt_cmpR op_lt (pe_callB call_len_seq (by rfl) T.len PySem.boot_len (pa_cons (pv 1) pa_nil)) pe_int (nomark _)) (pw_and1 (pt_cmpR op_eq (pe_call GA_ hrA_ (by rfl) mA_ kA_ bA_ .nil pass0 (pa_cons (pv 0) (pa_cons pe_int pa_nil))) pe_int (nomark _))))) (pss_one (ps_set (i := 3) scSst.nd rfl (Or.inr rfl) (pe_call GB_ hrB_ (by rfl) mB_ kB_ bB_ .nil pass0 (pa_cons (pv 0) (pa_cons (pv 2) pa_nil))))) pss_nil)
      (Evl.pss_cut (ps_set (i := 5) scSst.nd rfl (Or.inl rfl) (pe_tup (pa_cons pe_str (pa_cons (pv 3) (pa_cons (pe_call GC_ hrC_ (by rfl) mC_ kC_ bC_ .nil pass0 (pa_cons (pv 0) (pa_cons (pv 1) (pa_cons (pv 4) (pa_cons pe_int pa_nil))))) pa_nil)))))
      (pss_cons (ps_if (pt_cmpR op_notIn_seq (pv 3) (pv 2) (by rfl)) (pss_one (ps_ret (pe_tup (pa_cons (pv 5) (pa_cons (pe_op op_catZ (pv 1) (pe_tup (pa_cons (pe_tup (pa_cons (pv 3) (pa_cons (pv 4) pa_nil))) pa_nil))) pa_nil))))) pss_nil)
      (pss_one (ps_ret (pe_tup (pa_cons (pv 5) (pa_cons (pe_callTy call_tupleZ (by rfl) T.tuple boot_tuple (pa_cons (pe_lc (own := [("_law_other", 6), ("_law_old", 7)]) (g := (gTup K 2 (gCons (gName 6) (gCons (gName 7) gNil)))) (tt := tYes) (te := teSet K) (by rfl) scSst.nd (pi_tup (pv 1)) (blkOk_by (own := [("_law_other", 6), ("_law_old", 7)]) (N := nSst) (sc := defScope sSst) (by decide +kernel)) (fun _ _ _ _ _ => (pg_tup rfl (pgs_cons (pg_name (i := 6) scSst.nd rfl (.inl rfl)) (pgs_cons (pg_name (i := 7) scSst.nd rfl (.inl rfl)) pgs_nil)))) (fun _ _ _ _ _ => pts_nil) (fun _ _ _ _ _ => (pe_tup (pa_cons (pv 6) (pa_cons (pe_ix ix_list (pe_lst (pa_cons (pv 7) (pa_cons (pv 4) pa_nil))) (pe_callTy call_int1 (by rfl) T.int boot_int (pa_cons (pe_cmpR op_eq (pv 6) (pv 3) (nomark _)) pa_nil)) (fun _ _ => rfl)) pa_nil))))) pa_nil)) pa_nil))))))))))), ?_⟩
    have two : 2 ≤ sizeLine := by decide
    have one : 1 ≤ sizeLine := by decide
    have three : 3 ≤ sizeLine := by decide
    have four : 4 ≤ sizeLine := by decide
    obtain ⟨xs, zL, cc⟩ := hL
    have l8 := cp.l8
    have l1 := cp.l1
    have lx := cc.len
    have lnm : (nms ps).length = ps.length := List.length_map _
    have ln : (vS (nms ps)).length = ps.length := by rw [List.length_map, lnm]
    have fl : (vS (nms ps)).all flatV = true := by simp [flatV]
    refine ⟨fun σ H' => ∃ W : Addr, σ = [some (.ref t), some (.ref L), some (.ref W), none, none, none, none, none] ∧ H' W = some (.lst (vS (nms ps))) ∧ H W = none ∧ Same H H', ?_, ?_⟩
    · refine ⟨_, rfl, L, rfl, ⟨_, zL.sq⟩, fun W hW => lc_tup (K := K) (a := L) (xs := xs) (fun i H' => H' W = some (.lst (vS ((nms ps).take i))) ∧ Same H H') ⟨upd_same, Same.upd hW⟩ (fun i H' _ pr => (zL.same pr.2).sq) ?_ ?_⟩
      · rintro i x H1 hx ⟨hW1, s1⟩
        obtain ⟨a, z, kk, rfl, ea, ep⟩ := cc.get _ _ hx
        refine ⟨a, _, rfl, SqT.of (s1 _ _ ea), rfl, _, _, rfl, _, _, rfl, rfl, rfl, ?_⟩
        dsimp only [tYes]
        exact iteT ⟨_, rfl, nm_turn hW hW1 ep cp.l8 s1⟩
      rintro H1 ⟨hW1, s1⟩
      rw [show xs.length = (nms ps).length by rw [cc.len, List.length_map], List.take_length] at hW1
      exact ⟨W, rfl, hW1, hW, s1⟩
    rintro σ H1 ⟨W, rfl, hW1, hW, s1⟩
    have T1 := hT.same s1
    have S1 := Same.b t s1
    have nW := hT.tape.ne hW
    refine ⟨three, fun Y hY => ?_⟩
    have zY := Same.upd (o := .lst [.str "number", .str "word", .str "flag"]) hY
    have nY := T1.tape.ne hY
    refine ⟨_, rfl, t, c, _, rfl, T1.same zY, by decide, big1000 (by decide) (by decide), fun j H2 j0 j3 T2 S2 => ?_⟩
    obtain ⟨kd, ekd, hk⟩ : ∃ kk : Str, ([.str "number", .str "word", .str "flag"] : List V)[j.toNat]? = some (.str kk) ∧ KindS kk := by
      have : j.toNat = 0 ∨ j.toNat = 1 ∨ j.toNat = 2 := by omega
      rcases this with e | e | e <;> rw [e]
      · exact ⟨_, rfl, .inl rfl⟩
      · exact ⟨_, rfl, .inr (.inl rfl)⟩
      · exact ⟨_, rfl, .inr (.inr rfl)⟩
    refine ⟨Y, _, _, .str kd, rfl, rfl, SqL.of (S2 _ _ nY upd_same), at_of (j := j.toNat) (by omega) ekd, ?_⟩
    have S02 := S1.trans ((Same.b t zY).trans S2)
    have hW2 := S2 _ _ nW (zY _ _ hW1)
    refine ⟨_, rfl, _, rfl, _, rfl, W, _, rfl, .inl (SqL.of hW2), t, c, _, rfl, T2, by rw [ln]; omega, big1000 (by omega) (by rw [ln]; omega), fun i H3 i0 i1 T3 S3 => ?_⟩
    rw [ln] at i1
    obtain ⟨z, ez⟩ : ∃ z, (nms ps)[i.toNat]? = some z := ⟨_, List.getElem?_eq_getElem (by omega)⟩
    have hW3 := S3 _ _ nW hW2
    refine ⟨W, _, _, .str z, rfl, rfl, SqL.of hW3, at_of (j := i.toNat) (by omega) (by rw [List.getElem?_map, ez]; rfl), ?_⟩
    have S03 := S02.trans S3
    have zm := List.mem_of_getElem? ez
    clear S1 S2 S3 S02 T1 T2 zY ekd ez hW1 hW2 s1 hY
    let M := fun (y5 : Option V) (σ : L2.St) (H' : Hp) (x : Str) => σ = [some (.ref t), some (.ref L), some (.ref W), some (.str x), some (.str kd), y5, none, none] ∧ H' W = some (.lst (vS (nms ps))) ∧ (x ∈ nms ps ∨ (x ∉ nms ps ∧ Sh 12 x ∧ nmS x ∧ ps.length < 8)) ∧ TapeL c H' t ∧ SameB t H H'
    refine ⟨fun σ H' => ∃ x, M none σ H' x, ?_, ?_⟩
    · refine ⟨_, rfl, L, _, rfl, .inr (zL.b hT.tape S03).sq, _, _, rfl, rfl, _, rfl, ite2 (fun q => ?_) (fun q => iteF ⟨z, rfl, hW3, .inl zm, T3, S03⟩)⟩
      have q := of_decide_eq_true q
      refine ⟨_, rfl, t, c, _, rfl, T3, by decide, big1000 (by decide) (by decide), fun d H4 d0 d2 T4 S4 => ⟨rfl, _, rfl, ite2 (fun _ => ?_) (fun _ => ⟨z, rfl, S4 _ _ nW hW3, .inl zm, T4, S03.trans S4⟩)⟩⟩
      have hW4 := S4 _ _ nW hW3
      exact ⟨_, rfl, _, rfl, t, c, W, nms ps, rfl, T4, hW4, by omega, fun x H5 hx nx fz T5 S5 => ⟨x, rfl, S5 _ _ nW hW4, .inr ⟨fz, hx, nx, by omega⟩, T5, (S03.trans S4).trans S5⟩⟩
    clear hW3 zm T3 S03 ln
    rintro σ H3 ⟨x, rfl, hW3, hx, T3, S03⟩
    refine ⟨fun σ H' => ∃ v e, M (some v) σ H' x ∧ DhT t H' v (Ps.d (.set x e)) ∧ Xp ps 3 kd e, ?_, ?_⟩
    · refine ⟨_, rfl, _, rfl, _, rfl, _, rfl, t, c, L, kd, xs, ps, rfl, hk, T3, (zL.b hT.tape S03).rd, cc.b hT.tape S03, l8, fun v e H4 df xp T4 S4 => ⟨three, fun r hr => ?_⟩⟩
      have zr := Same.upd (o := .tup [.str "set", .str x, v]) hr
      exact ⟨.ref r, e, ⟨rfl, zr _ _ (S4 _ _ nW hW3), hx, T4.same zr, (S03.trans S4).trans (Same.b t zr)⟩, dh_tupT T4.tape (.cons (.str _) (.cons (.str _) (.cons (df) .nil))) hr, xp⟩
    clear hW3 T3 S03
    rintro σ H4 ⟨v, e, ⟨rfl, hW4, hx, T4, S4⟩, dv, xp⟩
    have z4 := zL.b hT.tape S4
    have c4 := cc.b hT.tape S4
    refine ⟨_, rfl, _, rfl, W, _, rfl, .inl (SqL.of hW4), rfl, fl, _, rfl, ite2 (fun y => ?_) (fun y => ?_)⟩
    · have nx : x ∉ nms ps := fun m => by
        rw [if_pos rfl, in_strs, decide_eq_true m] at y
        cases y
      obtain ⟨_, h1, h2, h3⟩ : x ∉ nms ps ∧ Sh 12 x ∧ nmS x ∧ ps.length < 8 := by
        rcases hx with hx | hx
        · exact absurd hx nx
        · exact hx
      refine ⟨_, rfl, _, rfl, _, rfl, _, rfl, two, fun p hp => ⟨one, fun q hq => ?_⟩⟩
      have zp := Same.upd (o := .tup [.str x, .str kd]) hp
      have zq := Same.upd (o := .tup [.ref p]) hq
      have zpq := zp.trans zq
      refine ⟨L, q, xs, [.ref p], rfl, rfl, (z4.same zpq).sq, SqT.of upd_same, fun z => by rw [z] at lx; change 0 = _ at lx; omega, Nat.le_trans (show _ + 1 ≤ 9 by omega) (by decide), nofun, fun _ r ob hr d1 d2 => ⟨two, fun s hs => ?_⟩⟩
      have zr := Same.upd (o := .frz ob (.tup (xs ++ [.ref p]))) hr
      have zs := Same.upd (o := .tup [v, .ref r]) hs
      have zall := zpq.trans (zr.trans zs)
      refine k s v r (.set x e) _ _ upd_same (dts dv zall) ⟨xs ++ [.ref p], ⟨ob, d1, d2, zs _ _ upd_same⟩, (c4.t (SameT.of zall)).app (.cons (zs _ _ (zr _ _ (zq _ _ upd_same))) .nil)⟩ (.setN nx ⟨h1, h2⟩ hk xp h3) (T4.same zall) (S4.trans (Same.b t zall))
    · have mx : x ∈ nms ps := by
        rw [if_pos rfl, in_strs] at y
        exact of_decide_eq_true (by simpa using y)
      refine ⟨_, rfl, _, rfl, L, rfl, ⟨_, z4.sq⟩, fun D hD => lc_tup (K := K) (a := L) (xs := xs) (fun i H' => (∃ ys, H' D = some (.lst ys) ∧ Cols H' ys ((ps.take i).map fun p => (p.1, if p.1 = x then kd else p.2))) ∧ Same H4 H') ⟨⟨[], upd_same, .nil⟩, Same.upd hD⟩ (fun i H' _ pr => (z4.same pr.2).sq) ?_ ?_⟩
      · rintro i y H5 hi ⟨⟨ys, e5, c5⟩, s5⟩
        obtain ⟨a, z, kk, rfl, ea, ep⟩ := c4.get _ _ hi
        have l5 := c5.len
        rw [List.length_map, List.length_take] at l5
        refine ⟨a, _, rfl, SqT.of (s5 _ _ ea), rfl, _, _, rfl, _, _, rfl, rfl, rfl, ?_⟩
        dsimp only [tYes]
        refine iteT ?_
        change teSet K _ _ _
        refine ⟨_, rfl, _, rfl, _, rfl, two, fun q hq => ⟨_, rfl, _, rfl, rfl, .inr ⟨_, rfl, q, _, _, .str (if z = x then kd else kk), rfl, rfl, SqL.of upd_same, ?_, two, fun p hp => ?_⟩⟩⟩
        · by_cases zx : z = x
          · rw [if_pos zx, show decide (V.str z = V.str x) = true by rw [zx]; exact decide_eq_true rfl]
            rfl
          · rw [if_neg zx, show decide (V.str z = V.str x) = false from decide_eq_false (fun h => zx (by injection h))]
            rfl
        · rw [List.take_add_one, ep, List.map_append]
          exact col_turn hD e5 c5 (by omega) s5 (Same.upd hq) hp
      rintro H5 ⟨⟨ys, e5, c5⟩, s5⟩
      rw [lx, List.take_length] at c5
      refine ⟨D, ys, rfl, SqL.of e5, fun r ob hr d1 d2 => ⟨two, fun s hs => ?_⟩⟩
      have zr := Same.upd (o := .frz ob (.tup ys)) hr
      have zs := Same.upd (o := .tup [v, .ref r]) hs
      have zall := s5.trans (zr.trans zs)
      exact k s v r (.set x e) _ _ upd_same (dts dv zall) ⟨ys, ⟨ob, d1, d2, zs _ _ upd_same⟩, c5.t (SameT.of (zr.trans zs))⟩ (.setO mx hk xp) (T4.same zall) (S4.trans (Same.b t zall))
end
end
end K16
set_option Elab.async false
set_option linter.all false
set_option maxRecDepth 100000
set_option maxHeartbeats 4000000
namespace K16
open PySem PySem.Spec PyProof.Rows L2 Lc
/-! ## the kinds of columns as a dict -/
def dkc (ps : CsL) : List (Key × V) := ps.map fun p => ((Sum.inr p.1 : Key), V.str p.2)
theorem merge_new : ∀ (more acc : List (Key × V)), ((acc ++ more).map (·.1)).Nodup → mergeK acc more = acc ++ more
  | [], acc, _ => (List.append_nil acc).symm
  | e :: r, acc, h => by
    have hn : (acc.any fun kv => decide (kv.1 = e.1)) = false := by
      rw [List.any_eq_false]
      intro x hx
      rw [List.map_append, List.nodup_append] at h
      have := h.2.2 x.1 (List.mem_map_of_mem hx) e.1 (List.mem_map_of_mem List.mem_cons_self)
      simpa using this
    have e1 : putK acc e.1 e.2 = acc ++ [e] := by
      unfold putK
      rw [hn, if_neg (by decide)]
    show mergeK (putK acc e.1 e.2) r = _
    rw [e1, merge_new r (acc ++ [e]) (by rw [List.append_assoc]; exact h), List.append_assoc]
    rfl
theorem dkc_merge {ps : CsL} (h : (nms ps).Nodup) : mergeK [] (dkc ps) = dkc ps := by
  refine merge_new (dkc ps) [] ?_
  rw [List.nil_append]
  unfold dkc
  rw [List.map_map]
  have e : ((fun x : Key × V => x.1) ∘ fun p : Str × Str => ((Sum.inr p.1 : Key), V.str p.2)) = (Sum.inr : Str → Key) ∘ (fun p : Str × Str => p.1) := rfl
  rw [e, ← List.map_map]
  exact nodup_map h fun a _ b _ q => by injection q
theorem dkc_get (x : Str) : ∀ ps : CsL, valV (dkc ps) (Sum.inr x : Key) = (ps.find? fun p => decide (p.1 = x)).map fun p => .str p.2
  | [] => rfl
  | p :: ps => by
    have ih := dkc_get x ps
    unfold dkc at ih ⊢
    rw [List.map_cons, List.find?_cons]
    by_cases q : p.1 = x
    · rw [valV_pos (by rw [q]), decide_eq_true q]
      rfl
    · rw [valV_neg (fun w => q (by injection w)), decide_eq_false q]
      exact ih
theorem dkc_in {ps : CsL} {x : Str} (h : x ∈ nms ps) : valV (dkc ps) (Sum.inr x : Key) = some (.str (kdOf ps x)) := by
  rw [dkc_get]
  unfold kdOf
  obtain ⟨p, hp, rfl⟩ := List.mem_map.mp h
  cases e : ps.find? fun q => decide (q.1 = p.1) with
  | none => exact absurd (List.find?_eq_none.mp e p hp) (by simp)
  | some q => rfl
theorem dkc_no {ps : CsL} {x : Str} (h : x ∉ nms ps) : valV (dkc ps) (Sum.inr x : Key) = none := by
  rw [dkc_get]
  cases e : ps.find? fun q => decide (q.1 = x) with
  | none => rfl
  | some q =>
    have h1 := List.find?_some e
    have h2 := List.mem_of_find?_eq_some e
    exact absurd (by rw [← show q.1 = x by simpa using h1]; exact List.mem_map_of_mem h2) h
theorem cols_refs {K : PySem.W.Frag} {H : Hp} : ∀ {xs : List V} {ps : CsL}, Cols H xs ps → ∃ as : List Addr, xs = as.map V.ref ∧ Paired (fun (p : Addr) (kv : Key × V) => SqT K H p [kV kv.1, kv.2]) as (dkc ps)
  | _, _, .nil => ⟨[], rfl, .nil⟩
  | _, _, .cons (a := a) e r => by
    obtain ⟨as, h1, h2⟩ := cols_refs (K := K) r
    exact ⟨a :: as, by rw [h1]; rfl, .cons (SqT.of e) h2⟩
abbrev teSel : TE := tTup (tCons (tVar 4) (tCons (tDGet (tVar 7) (tVar 4)) tNil))
abbrev ttRen : TT := tTest (tOp rNe (tVar 4) (tVar 8))
abbrev teRen (K : PySem.W.Frag) : TE := tTup (tCons (tOp (rIxL K) (tLst (tCons (tVar 4) (tCons (tVar 9) tNil))) (tCB rI1 (tCons (tOp rEq (tVar 4) (tVar 8)) tNil))) (tCons (tVar 5) tNil))
theorem strsA {H : Hp} : ∀ (ns : List Str), DhAll H (vS ns) (ns.map PyData.str)
  | [] => .nil
  | z :: ns => .cons (.str _) (strsA ns)
section
variable {P : Program} {w : World} {K : PySem.W.Frag} {mg : Str → Option Value} {base : Heap} {f : Addr} {fd : FuncData}
abbrev sKsp : Stmt := top 139
abbrev nKsp : List Str := ["_law_tape_here", "_law_columns_here", "_law_turn", "_law_names", "_law_name_here", "_law_kind", "_law_picked", "_law_kinds", "_law_old", "_law_new"]
abbrev pKsp : List Str := ["_law_tape_here", "_law_columns_here"]
theorem scKsp : FnScope nKsp pKsp (defScope sKsp) := ⟨rfl, rfl, rfl, by decide +kernel, rfl, by decide +kernel, by decide +kernel⟩
section
variable {fA_ fB_ fC_ fD_ fE_ fF_ fG_ : Addr} {fdA_ fdB_ fdC_ fdD_ fdE_ fdF_ fdG_ : FuncData}
theorem ok_Ksp (F : Fun K "_law_keeping_step" "_law_keeping_step" sKsp f fd) (T : Bt mg)
    (GA_ : FnOk P w K mg base CX0 1 fA_ fdA_ ["_law_tape_here", "_law_many"] (spDrawL)) (mA_ : mg "_law_draw" = some (.ref fA_)) (kA_ : PySem.W.keepIn K (.ref fA_) = true) (bA_ : Binds K fdA_ ["_law_tape_here", "_law_many"] [])
    (GB_ : FnOk P w K mg base CX0 2 fB_ fdB_ ["_law_tape_here", "_law_items", "_law_many"] (spPk)) (mB_ : mg "_law_pick" = some (.ref fB_)) (kB_ : PySem.W.keepIn K (.ref fB_) = true) (bB_ : Binds K fdB_ ["_law_tape_here", "_law_items", "_law_many"] [])
    (GC_ : FnOk P w K mg base CX0 3 fC_ fdC_ ["_law_tape_here", "_law_taken"] (spFr)) (mC_ : mg "_law_fresh" = some (.ref fC_)) (kC_ : PySem.W.keepIn K (.ref fC_) = true) (bC_ : Binds K fdC_ ["_law_tape_here", "_law_taken"] [])
    (GD_ : FnOk P w K mg base CX0 6 fD_ fdD_ ["_law_tape_here", "_law_columns_here", "_law_kind", "_law_depth"] (spXp 3)) (mD_ : mg "_law_expression" = some (.ref fD_)) (kD_ : PySem.W.keepIn K (.ref fD_) = true) (bD_ : Binds K fdD_ ["_law_tape_here", "_law_columns_here", "_law_kind", "_law_depth"] [])
    (GE_ : FnOk P w K mg base CX0 2 fE_ fdE_ ["_law_tape_here"] (spSmp)) (mE_ : mg "_law_sample_step" = some (.ref fE_)) (kE_ : PySem.W.keepIn K (.ref fE_) = true) (bE_ : Binds K fdE_ ["_law_tape_here"] [])
    (GF_ : FnOk P w K mg base CX0 2 fF_ fdF_ ["_law_tape_here", "_law_columns_here"] (spSrt)) (mF_ : mg "_law_sort_step" = some (.ref fF_)) (kF_ : PySem.W.keepIn K (.ref fF_) = true) (bF_ : Binds K fdF_ ["_law_tape_here", "_law_columns_here"] [])
    (GG_ : FnOk P w K mg base CX0 7 fG_ fdG_ ["_law_tape_here", "_law_columns_here"] (spKs)) (mG_ : mg "_law_set_step" = some (.ref fG_)) (kG_ : PySem.W.keepIn K (.ref fG_) = true) (bG_ : Binds K fdG_ ["_law_tape_here", "_law_columns_here"] []) : FnOk P w K mg base CX0 8 f fd pKsp (spKs) := by
  refine F.ok scKsp (fun vs H Q E h => ?_) (fun cdv A outer s H vs Q E hr h => ?_)
  · obtain ⟨t, c, L, ps, rfl, _⟩ := h
    rfl
  · obtain ⟨t, c, L, ps, rfl, hT, hL, cp, k⟩ := h
    have hrA_ : Room (1) _ := hr.mono (by first | decide | omega)
    have hrB_ : Room (2) _ := hr.mono (by first | decide | omega)
    have hrC_ : Room (3) _ := hr.mono (by first | decide | omega)
    have hrD_ : Room (6) _ := hr.mono (by first | decide | omega)
    have hrE_ : Room (2) _ := hr.mono (by first | decide | omega)
    have hrF_ : Room (2) _ := hr.mono (by first | decide | omega)
    have hrG_ : Room (7) _ := hr.mono (by first | decide | omega)
    refine ⟨_, (pss_cons (ps_set (i := 2) scKsp.nd rfl (Or.inl rfl) (pe_call GA_ hrA_ (by rfl) mA_ kA_ bA_ .nil pass0 (pa_cons (pv 0) (pa_cons pe_int pa_nil))))
      (Evl.pss_cut (ps_setLc (i := 3) (own := [("_law_name_here", 4), ("_law_kind", 5)]) (g := (gTup K 2 (gCons (gName 4) (gCons (gName 5) gNil)))) (tt := tYes) (te := tVar 4) (by rfl) scKsp.nd rfl rfl (sw_true rfl rfl rfl (by decide +kernel)) (pi_tup (pv 1)) (blkOk_by (own := [("_law_name_here", 4), ("_law_kind", 5)]) (N := nKsp) (sc := defScope sKsp) (by decide +kernel)) (fun _ _ _ _ _ => (pg_tup rfl (pgs_cons (pg_name (i := 4) scKsp.nd rfl (.inl rfl)) (pgs_cons (pg_name (i := 5) scKsp.nd rfl (.inl rfl)) pgs_nil)))) (fun _ _ _ _ _ => pts_nil) (fun _ _ _ _ _ => (pv 4)))
      (pss_cons (ps_if (pt_cmpR op_eq (pv 2) pe_int (nomark _)) (pss_one (ps_ret (pe_tup (pa_cons (pe_call GE_ hrE_ (by rfl) mE_ kE_ bE_ .nil pass0 (pa_cons (pv 0) pa_nil)) (pa_cons (pv 1) pa_nil))))) pss_nil)
      (pss_cons (ps_if (pt_cmpR op_eq (pv 2) pe_int (nomark _)) (pss_one (ps_ret (pe_tup (pa_cons (pe_call GF_ hrF_ (by rfl) mF_ kF_ bF_ .nil pass0 (pa_cons (pv 0) (pa_cons (pv 1) pa_nil))) (pa_cons (pv 1) pa_nil))))) pss_nil)
      (pss_cons (ps_if (pt_cmpR op_eq (pv 2) pe_int (nomark _)) (pss_cons (ps_set (i := 6) scKsp.nd rfl (Or.inl rfl) (pe_call GB_ hrB_ (by rfl) mB_ kB_ bB_ .nil pass0 (pa_cons (pv 0) (pa_cons (pv 3) (pa_cons pe_int pa_nil)))))
      (pss_cons (ps_set (i := 7) scKsp.nd rfl (Or.inr rfl) (pe_callTy (call_dictZ rfl) (by rfl) T.dict boot_dict (pa_cons (pv 1) pa_nil)))
      (pss_one (ps_ret (pe_tup (pa_cons (pe_tup (pa_cons pe_str (pa_cons (pe_callTy call_tuple_of (by rfl) T.tuple boot_tuple (pa_cons (pv 6) pa_nil)) pa_nil))) (pa_cons (pe_callTy call_tupleZ (by rfl) T.tuple boot_tuple (pa_cons (pe_lc (own := [("_law_name_here", 4)]) (g := (gName 4)) (tt := tYes) (te := teSel) (by rfl) scKsp.nd (pi_list (pv 6)) (blkOk_by (own := [("_law_name_here", 4)]) (N := nKsp) (sc := defScope sKsp) (by decide +kernel)) (fun _ _ _ _ _ => (pg_name (i := 4) scKsp.nd rfl (.inl rfl))) (fun _ _ _ _ _ => pts_nil) (fun _ _ _ _ _ => (pe_tup (pa_cons (pv 4) (pa_cons (pe_dget (hu_of hr) (pv 7) (pv 4) (fun _ _ => rfl)) pa_nil))))) pa_nil)) pa_nil))))))) pss_nil)
      (pss_cons (ps_if (pt_cmpR op_eq (pv 2) pe_int (nomark _)) (pss_cons (ps_set (i := 8) scKsp.nd rfl (Or.inr rfl) (pe_ix ix_list (pv 3) (pe_call GA_ hrA_ (by rfl) mA_ kA_ bA_ .nil pass0 (pa_cons (pv 0) (pa_cons (pe_callB call_len_seq (by rfl) T.len PySem.boot_len (pa_cons (pv 3) pa_nil)) pa_nil))) (fun _ _ => rfl)))
      (pss_cons (ps_set (i := 9) scKsp.nd rfl (Or.inr rfl) (pe_call GC_ hrC_ (by rfl) mC_ kC_ bC_ .nil pass0 (pa_cons (pv 0) (pa_cons (pe_lc (own := [("_law_name_here", 4)]) (g := (gName 4)) (tt := ttRen) (te := tVar 4) (by rfl) scKsp.nd (pi_list (pv 3)) (blkOk_by (own := [("_law_name_here", 4)]) (N := nKsp) (sc := defScope sKsp) (by decide +kernel)) (fun _ _ _ _ _ => (pg_name (i := 4) scKsp.nd rfl (.inl rfl))) (fun _ _ _ _ _ => (pts_one (pt_cmpR op_ne (pv 4) (pv 8) (nomark _)))) (fun _ _ _ _ _ => (pv 4))) pa_nil))))
      (pss_one (ps_ret (pe_tup (pa_cons (pe_tup (pa_cons pe_str (pa_cons (pv 8) (pa_cons (pv 9) pa_nil)))) (pa_cons (pe_callTy call_tupleZ (by rfl) T.tuple boot_tuple (pa_cons (pe_lc (own := [("_law_name_here", 4), ("_law_kind", 5)]) (g := (gTup K 2 (gCons (gName 4) (gCons (gName 5) gNil)))) (tt := tYes) (te := teRen K) (by rfl) scKsp.nd (pi_tup (pv 1)) (blkOk_by (own := [("_law_name_here", 4), ("_law_kind", 5)]) (N := nKsp) (sc := defScope sKsp) (by decide +kernel)) (fun _ _ _ _ _ => (pg_tup rfl (pgs_cons (pg_name (i := 4) scKsp.nd rfl (.inl rfl)) (pgs_cons (pg_name (i := 5) scKsp.nd rfl (.inl rfl)) pgs_nil)))) (fun _ _ _ _ _ => pts_nil) (fun _ _ _ _ _ => (pe_tup (pa_cons (pe_ix ix_list (pe_lst (pa_cons (pv 4) (pa_cons (pv 9) pa_nil))) (pe_callTy call_int1 (by rfl) T.int boot_int (pa_cons (pe_cmpR op_eq (pv 4) (pv 8) (nomark _)) pa_nil)) (fun _ _ => rfl)) (pa_cons (pv 5) pa_nil))))) pa_nil)) pa_nil))))))) pss_nil)
      (pss_cons (ps_if (pt_cmpR op_eq (pv 2) pe_int (nomark _)) (pss_one (ps_ret (pe_call GG_ hrG_ (by rfl) mG_ kG_ bG_ .nil pass0 (pa_cons (pv 0) (pa_cons (pv 1) pa_nil))))) pss_nil)
      (pss_one (ps_ret (pe_tup (pa_cons (pe_tup (pa_cons pe_str (pa_cons (pe_call GD_ hrD_ (by rfl) mD_ kD_ bD_ .nil pass0 (pa_cons (pv 0) (pa_cons (pv 1) (pa_cons pe_str (pa_cons pe_int pa_nil))))) pa_nil))) (pa_cons (pv 1) pa_nil)))))))))))), ?_⟩
    have two : 2 ≤ sizeLine := by decide
    have one : 1 ≤ sizeLine := by decide
    have three : 3 ≤ sizeLine := by decide
    have four : 4 ≤ sizeLine := by decide
    obtain ⟨xs, zL, cc⟩ := hL
    have l8 := cp.l8
    have l1 := cp.l1
    have lx := cc.len
    have lnm : (nms ps).length = ps.length := List.length_map _
    have ln : (vS (nms ps)).length = ps.length := by rw [List.length_map, lnm]
    refine ⟨_, rfl, t, c, _, rfl, hT, by decide, big1000 (by decide) (by decide), fun u H0 u0 u7 T0 S0 => ?_⟩
    have z0 := zL.b hT.tape S0
    have c0 := cc.b hT.tape S0
    refine ⟨fun σ H' => ∃ W : Addr, σ = [some (.ref t), some (.ref L), some (.int u), some (.ref W), none, none, none, none, none, none] ∧ H' W = some (.lst (vS (nms ps))) ∧ W ≠ t ∧ TapeL c H' t ∧ SameB t H H', ?_, ?_⟩
    · refine ⟨_, rfl, L, rfl, ⟨_, z0.sq⟩, fun W hW => lc_tup (K := K) (a := L) (xs := xs) (fun i H' => H' W = some (.lst (vS ((nms ps).take i))) ∧ Same H0 H') ⟨upd_same, Same.upd hW⟩ (fun i H' _ pr => (z0.same pr.2).sq) ?_ ?_⟩
      · rintro i x H1 hx ⟨hW1, s1⟩
        obtain ⟨a, z, kk, rfl, ea, ep⟩ := c0.get _ _ hx
        refine ⟨a, _, rfl, SqT.of (s1 _ _ ea), rfl, _, _, rfl, _, _, rfl, rfl, rfl, ?_⟩
        dsimp only [tYes]
        exact iteT ⟨_, rfl, nm_turn hW hW1 ep cp.l8 s1⟩
      rintro H1 ⟨hW1, s1⟩
      rw [show xs.length = (nms ps).length by rw [c0.len, List.length_map], List.take_length] at hW1
      exact ⟨W, rfl, hW1, T0.tape.ne hW, T0.same s1, S0.trans (Same.b t s1)⟩
    clear z0 c0 T0 S0
    rintro σ H1 ⟨W, rfl, hW1, nW, T1, S1⟩
    have z1 := zL.b hT.tape S1
    have c1 := cc.b hT.tape S1
    have fin : ∀ {H' : Hp} {v : V} {p : Ps}, DhT t H' v p.d → Lead ps p ps → TapeL c H' t → SameB t H H' → ∀ r, H' r = none → Q (.ref r) (upd H' r (.tup [v, .ref L])) := fun {H' v p} dv ld T' S' r hr => by
      have zr := Same.upd (o := .tup [v, .ref L]) hr
      exact k r v L p ps _ upd_same (dts dv zr) ⟨xs, (zL.b hT.tape S').same zr, (cc.b hT.tape S').t (SameT.of zr)⟩ ld (T'.same zr) (S'.trans (Same.b t zr))
    refine ⟨_, rfl, rfl, _, rfl, ite2 (fun _ => ?_) (fun _ => ?_)⟩
    · exact ⟨_, rfl, t, c, rfl, T1, fun v n w s H2 h1 h2 h3 h4 dv T2 S2 => ⟨_, rfl, two, fun r hr => fin dv (.sample h1 h2 h3 h4) T2 (S1.trans S2) r hr⟩⟩
    refine ⟨_, rfl, rfl, _, rfl, ite2 (fun _ => ?_) (fun _ => ?_)⟩
    · exact ⟨_, rfl, _, rfl, t, c, L, ps, rfl, T1, ⟨xs, z1, c1⟩, cp, fun v a u H2 ha dv T2 S2 => ⟨_, rfl, two, fun r hr => fin dv (.sort ha) T2 (S1.trans S2) r hr⟩⟩
    refine ⟨_, rfl, rfl, _, rfl, ite2 (fun _ => ?_) (fun _ => ?_)⟩
    · refine ⟨_, rfl, _, rfl, t, c, W, nms ps, _, rfl, T1, hW1, cp.nd, by omega, by decide, by decide, fun G gs H2 eG gG gin gnd gne gl T2 S2 => ?_⟩
      have S02 := S1.trans S2
      have z2 := zL.b hT.tape S02
      have c2 := cc.b hT.tape S02
      obtain ⟨as, ex, pr⟩ := cols_refs (K := K) c2
      rw [ex] at z2
      refine ⟨_, rfl, L, as, dkc ps, rfl, z2, pr, fun d hd => ?_⟩
      rw [dkc_merge cp.nd]
      have zd := Same.upd (o := .dK (dkc ps)) hd
      have ed : upd H2 d (.dK (dkc ps)) d = some (.dK (dkc ps)) := upd_same
      have eG3 := zd _ _ eG
      have T3 := T2.same zd
      have S03 := S02.trans (Same.b t zd)
      generalize upd H2 d (.dK (dkc ps)) = H3 at ed eG3 T3 S03 ⊢
      refine ⟨_, rfl, G, _, rfl, .inl ⟨SqL.of eG3, fun p hp => ⟨two, fun q hq => ?_⟩⟩⟩
      have zp := Same.upd (o := .tup (vS gs)) hp
      have zq := Same.upd (o := .tup [.str "select", .ref p]) hq
      have zpq := zp.trans zq
      have dv : DhT t (upd (upd H3 p (.tup (vS gs))) q (.tup [.str "select", .ref p])) (.ref q) (Ps.d (.select gs)) := dh_tupT (T3.same zp).tape (.cons (.str _) (.cons (.tup (dl_at (T3.tape.ne hp) upd_same) (strsA gs)) .nil)) hq
      have T4 := T3.same zpq
      have S04 := S03.trans (Same.b t zpq)
      have ed4 := zpq _ _ ed
      have eG4 := zpq _ _ eG3
      generalize upd (upd H3 p (.tup (vS gs))) q (.tup [.str "select", .ref p]) = H4 at dv T4 S04 ed4 eG4 ⊢
      refine ⟨_, rfl, G, rfl, ⟨_, SqL.of eG4⟩, fun D hD => lc_list (K := K) (a := G) (xs := vS gs) (fun i H' => (∃ ys, H' D = some (.lst ys) ∧ Cols H' ys ((gs.take i).map fun n => (n, kdOf ps n))) ∧ Same H4 H') ⟨⟨[], upd_same, .nil⟩, Same.upd hD⟩ (fun i H' _ pr => SqL.of (pr.2 _ _ eG4)) ?_ ?_⟩
      · rintro i y H5 hi ⟨⟨ys, e5, c5⟩, s5⟩
        rw [List.getElem?_map] at hi
        obtain ⟨g, eg, rfl⟩ := Option.map_eq_some_iff.mp hi
        have l5 := c5.len
        rw [List.length_map, List.length_take] at l5
        have hg := gin g (List.mem_of_getElem? eg)
        have q := DGet.k (k := (Sum.inr g : Key)) (s5 _ _ ed4)
        rw [dkc_in hg] at q
        refine ⟨rfl, ?_⟩
        dsimp only [tYes]
        refine iteT ?_
        change teSel _ _ _
        refine ⟨_, rfl, _, rfl, _, rfl, d, _, rfl, q, two, fun p hp => ?_⟩
        rw [List.take_add_one, eg, List.map_append]
        exact col_turn hD e5 c5 (by omega) s5 (Same.refl _) hp
      rintro H5 ⟨⟨ys, e5, c5⟩, s5⟩
      rw [List.length_map, List.take_length] at c5
      refine ⟨D, ys, rfl, SqL.of e5, fun r ob hr d1 d2 => ⟨two, fun s hs => ?_⟩⟩
      have zr := Same.upd (o := .frz ob (.tup ys)) hr
      have zs := Same.upd (o := .tup [.ref q, .ref r]) hs
      have zall := s5.trans (zr.trans zs)
      have g1 : 1 ≤ gs.length := List.length_pos_iff.mpr (gne (fun e => by rw [e] at lnm; change 0 = _ at lnm; omega))
      exact k s (.ref q) r (.select gs) _ _ upd_same (dts dv zall) ⟨ys, ⟨ob, d1, d2, zs _ _ upd_same⟩, c5.t (SameT.of (zr.trans zs))⟩ (.select gin gnd g1 (by omega)) (T4.same zall) (S04.trans (Same.b t zall))
    refine ⟨_, rfl, rfl, _, rfl, ite2 (fun _ => ?_) (fun _ => ?_)⟩
    · refine ⟨_, rfl, _, rfl, _, rfl, W, _, rfl, .inl (SqL.of hW1), t, c, _, rfl, T1, by rw [ln]; omega, big1000 (by omega) (by rw [ln]; omega), fun j H2 j0 j1 T2 S2 => ?_⟩
      rw [ln] at j1
      obtain ⟨old, eo⟩ : ∃ z, (nms ps)[j.toNat]? = some z := ⟨_, List.getElem?_eq_getElem (by omega)⟩
      have hW2 := S2 _ _ nW hW1
      have om := List.mem_of_getElem? eo
      refine ⟨W, _, _, .str old, rfl, rfl, SqL.of hW2, at_of (j := j.toNat) (by omega) (by rw [List.getElem?_map, eo]; rfl), ?_⟩
      refine ⟨_, rfl, _, rfl, W, rfl, ⟨_, SqL.of hW2⟩, fun D hD => lc_list (K := K) (a := W) (xs := vS (nms ps)) (fun i H' => (∃ ss : List Str, H' D = some (.lst (vS ss)) ∧ ss.length ≤ i ∧ ∀ n ∈ (nms ps).take i, n ≠ old → n ∈ ss) ∧ Same H2 H') ⟨⟨[], upd_same, Nat.le_refl _, fun n hn => by simp at hn⟩, Same.upd hD⟩ (fun i H' _ pr => SqL.of (pr.2 _ _ hW2)) ?_ ?_⟩
      · rintro i y H5 hi ⟨⟨ss, e5, l5, c5⟩, s5⟩
        rw [List.getElem?_map] at hi
        obtain ⟨g, eg, rfl⟩ := Option.map_eq_some_iff.mp hi
        have ig : i < ps.length := by have := (List.getElem?_eq_some_iff.mp eg).1; omega
        refine ⟨rfl, ?_⟩
        change ttRen _ _ _
        refine ⟨_, rfl, _, rfl, rfl, _, rfl, ?_⟩
        by_cases zx : g = old
        · rw [show decide (V.str g = V.str old) = true by rw [zx]; exact decide_eq_true rfl]
          refine iteF ⟨⟨ss, e5, by omega, fun n hn ne => ?_⟩, s5⟩
          rw [List.take_add_one, eg] at hn
          rcases List.mem_append.mp hn with hn | hn
          · exact c5 n hn ne
          · rw [Option.toList_some, List.mem_singleton] at hn
            exact absurd (hn.trans zx) ne
        · rw [show decide (V.str g = V.str old) = false from decide_eq_false (fun h => zx (by injection h))]
          refine iteT ⟨_, rfl, _, e5, by rw [List.length_map]; exact lt_size (by omega), ⟨ss ++ [g], by rw [upd_same]; unfold vS; rw [List.map_append]; rfl, by rw [List.length_append]; show _ + 1 ≤ _; omega, fun n hn ne => ?_⟩, fun b o e => by rw [upd_ne (ne_of_none e hD)]; exact s5 b o e⟩
          rw [List.take_add_one, eg] at hn
          rcases List.mem_append.mp hn with hn | hn
          · exact List.mem_append_left _ (c5 n hn ne)
          · rw [Option.toList_some, List.mem_singleton] at hn
            rw [hn]
            exact List.mem_append_right _ List.mem_cons_self
      rintro H3 ⟨⟨ss, e3, l3, c3⟩, s3⟩
      rw [ln] at l3
      rw [ln, ← lnm, List.take_length] at c3
      refine ⟨t, c, D, ss, rfl, T2.same s3, e3, by omega, fun new H4 hx nx fz T4 S4 => ?_⟩
      have S04 := (S1.trans S2).trans ((Same.b t s3).trans S4)
      have z4 := zL.b hT.tape S04
      have c4 := cc.b hT.tape S04
      refine ⟨_, rfl, _, rfl, three, fun q hq => ?_⟩
      have zq := Same.upd (o := .tup [.str "rename", .str old, .str new]) hq
      have dv : DhT t (upd H4 q (.tup [.str "rename", .str old, .str new])) (.ref q) (Ps.d (.rename old new)) := dh_tupT T4.tape (.cons (.str _) (.cons (.str _) (.cons (.str _) .nil))) hq
      have T5 := T4.same zq
      have S05 := S04.trans (Same.b t zq)
      have z5 := z4.same zq
      have c5 := c4.t (SameT.of zq)
      generalize upd H4 q (.tup [.str "rename", .str old, .str new]) = H5 at dv T5 S05 z5 c5 ⊢
      refine ⟨_, rfl, L, rfl, ⟨_, z5.sq⟩, fun D hD => lc_tup (K := K) (a := L) (xs := xs) (fun i H' => (∃ ys, H' D = some (.lst ys) ∧ Cols H' ys ((ps.take i).map fun p => (if p.1 = old then new else p.1, p.2))) ∧ Same H5 H') ⟨⟨[], upd_same, .nil⟩, Same.upd hD⟩ (fun i H' _ pr => (z5.same pr.2).sq) ?_ ?_⟩
      · rintro i y H6 hi ⟨⟨ys, e6, c6⟩, s6⟩
        obtain ⟨a, z, kk, rfl, ea, ep⟩ := c5.get _ _ hi
        have l6 := c6.len
        rw [List.length_map, List.length_take] at l6
        refine ⟨a, _, rfl, SqT.of (s6 _ _ ea), rfl, _, _, rfl, _, _, rfl, rfl, rfl, ?_⟩
        dsimp only [tYes]
        refine iteT ?_
        change teRen K _ _ _
        refine ⟨_, rfl, _, rfl, two, fun q hq => ⟨_, rfl, _, rfl, rfl, .inr ⟨_, rfl, q, _, _, .str (if z = old then new else z), rfl, rfl, SqL.of upd_same, ?_, _, rfl, two, fun p hp => ?_⟩⟩⟩
        · by_cases zx : z = old
          · rw [if_pos zx, show decide (V.str z = V.str old) = true by rw [zx]; exact decide_eq_true rfl]
            rfl
          · rw [if_neg zx, show decide (V.str z = V.str old) = false from decide_eq_false (fun h => zx (by injection h))]
            rfl
        · rw [List.take_add_one, ep, List.map_append]
          exact col_turn hD e6 c6 (by omega) s6 (Same.upd hq) hp
      rintro H6 ⟨⟨ys, e6, c6⟩, s6⟩
      rw [lx, List.take_length] at c6
      refine ⟨D, ys, rfl, SqL.of e6, fun r ob hr d1 d2 => ⟨two, fun s hs => ?_⟩⟩
      have zr := Same.upd (o := .frz ob (.tup ys)) hr
      have zs := Same.upd (o := .tup [.ref q, .ref r]) hs
      have zall := s6.trans (zr.trans zs)
      exact k s (.ref q) r (.rename old new) _ _ upd_same (dts dv zall) ⟨ys, ⟨ob, d1, d2, zs _ _ upd_same⟩, c6.t (SameT.of (zr.trans zs))⟩ (.rename om ⟨hx, nx⟩ fun n hn ne e => fz (by rw [e]; exact c3 n hn ne)) (T5.same zall) (S05.trans (Same.b t zall))
    refine ⟨_, rfl, rfl, _, rfl, ite2 (fun _ => ?_) (fun _ => ?_)⟩
    · exact ⟨_, rfl, _, rfl, t, c, L, ps, rfl, T1, ⟨xs, z1, c1⟩, cp, fun r v C p qs H2 e1 dv ca ld T2 S2 => k r v C p qs H2 e1 dv ca ld T2 (S1.trans S2)⟩
    refine ⟨_, rfl, _, rfl, t, c, L, _, xs, ps, rfl, .inr (.inr rfl), T1, z1.rd, c1, l8, fun v e H2 df xp T2 S2 => ⟨two, fun q hq => ⟨_, rfl, two, fun r hr => ?_⟩⟩⟩
    have zq := Same.upd (o := .tup [.str "keep", v]) hq
    exact fin (p := .keep e) (dh_tupT T2.tape (.cons (.str _) (.cons (df) .nil)) hq) (.keep xp) (T2.same zq) ((S1.trans S2).trans (Same.b t zq)) r hr
end
end
end K16
set_option Elab.async false
set_option linter.all false
set_option maxRecDepth 100000
set_option maxHeartbeats 4000000
namespace K16
open PySem PySem.Spec PyProof.Rows L2 Lc
mutual
def dpt : PyData → Nat
  | .tuple ds => dpw ds
  | _ => 0
def dpw : List PyData → Nat
  | .str w :: r => if w = ("column" : Str) ∨ w = ("value" : Str) then 1 else 1 + dpts r
  | _ => 0
def dpts : List PyData → Nat
  | [] => 0
  | d :: r => max (dpt d) (dpts r)
end
theorem dpt_leaf {w : Str} {r : List PyData} (h : w = "column" ∨ w = "value") : dpt (.tuple (.str w :: r)) = 1 := by rw [dpt, dpw, if_pos h]
theorem dpt_op {w : Str} {r : List PyData} (h : ¬ (w = "column" ∨ w = "value")) : dpt (.tuple (.str w :: r)) = 1 + dpts r := by rw [dpt, dpw, if_neg h]
theorem dpts_max : ∀ {ds : List PyData} {m : Nat}, 0 < ds.length → (∃ d ∈ ds, dpt d = m) → (∀ d ∈ ds, dpt d ≤ m) → dpts ds = m
  | [], _, h, _, _ => absurd h (by decide)
  | [d], m, _, ⟨x, hx, e⟩, _ => by
    rw [List.mem_singleton.mp hx] at e
    rw [dpts, dpts, e]
    omega
  | d :: a :: r, m, _, ⟨x, hx, e⟩, hm => by
    have up : dpts (a :: r) ≤ m := by
      have key : ∀ l : List PyData, (∀ d ∈ l, dpt d ≤ m) → dpts l ≤ m := fun l => by
        induction l with
        | nil => intro _; rw [dpts]; omega
        | cons y l ih => intro h; rw [dpts]; have := h y List.mem_cons_self; have := ih (fun d hd => h d (List.mem_cons_of_mem _ hd)); omega
      exact key _ fun d hd => hm d (List.mem_cons_of_mem _ hd)
    have d0 := hm d List.mem_cons_self
    rw [dpts]
    rcases List.mem_cons.mp hx with rfl | hx
    · omega
    · have low : ∀ l : List PyData, x ∈ l → dpt x ≤ dpts l := fun l => by
        induction l with
        | nil => intro h; cases h
        | cons y l ih =>
          intro h
          rw [dpts]
          rcases List.mem_cons.mp h with rfl | h
          · omega
          · have := ih h; omega
      have := low _ hx
      omega
theorem w_leaf {w : Str} (h : w = "not" ∨ w = "missing" ∨ w = "plus" ∨ w = "minus" ∨ w = "times" ∨ w = "over" ∨ w = "less" ∨ w = "same" ∨ w = "both" ∨ w = "either" ∨ w = "if") : ¬ (w = "column" ∨ w = "value") := by
  rcases h with rfl | rfl | rfl | rfl | rfl | rfl | rfl | rfl | rfl | rfl | rfl <;> decide +kernel
theorem OneW.no {w k r : Str} (h : OneW w k r) : ¬ (w = "column" ∨ w = "value") := by
  rcases h with ⟨rfl, _⟩ | ⟨rfl, _⟩ <;> decide +kernel
theorem TwoW.no {w k r : Str} (h : TwoW w k r) : ¬ (w = "column" ∨ w = "value") := by
  rcases h with ⟨rfl | rfl | rfl | rfl, _⟩ | ⟨rfl, _⟩ | ⟨rfl, _⟩ | ⟨rfl | rfl, _⟩ <;> decide +kernel
/-- an expression: a leaf, or a word and its operands -/
theorem Xp.ops {ps : List (Str × Str)} {n : Nat} {k : Str} {d : PyData} (h : Xp ps (n + 1) k d) : (∃ (w : Str) (x : PyData), (w = "column" ∨ w = "value") ∧ d = .tuple [.str w, x]) ∨ ∃ (w : Str) (os : List PyData), ¬ (w = ("column" : Str) ∨ w = ("value" : Str)) ∧ d = .tuple (.str w :: os) ∧ 0 < os.length ∧ os.length ≤ 3 ∧ ∀ o ∈ os, ∃ k', Xp ps n k' o := by
  cases h with
  | col h => exact .inl ⟨_, _, .inl rfl, rfl⟩
  | val h _ => exact .inl ⟨_, _, .inr rfl, rfl⟩
  | one hw ha => exact .inr ⟨_, _, hw.no, rfl, by simp, by simp, fun o ho => by rw [List.mem_singleton.mp ho]; exact ⟨_, ha⟩⟩
  | two hw ha hb => exact .inr ⟨_, _, hw.no, rfl, by simp, by simp, fun o ho => by simp only [List.mem_cons, List.not_mem_nil, or_false] at ho; rcases ho with rfl | rfl; exact ⟨_, ha⟩; exact ⟨_, hb⟩⟩
  | iff ha hb hc => exact .inr ⟨_, _, by decide +kernel, rfl, by simp, by simp, fun o ho => by simp only [List.mem_cons, List.not_mem_nil, or_false] at ho; rcases ho with rfl | rfl | rfl; exact ⟨_, ha⟩; exact ⟨_, hb⟩; exact ⟨_, hc⟩⟩
theorem Xp.zero {ps : List (Str × Str)} {k : Str} {d : PyData} (h : Xp ps 0 k d) : False := nomatch h
theorem cut_tail {x : V} {ys : List V} : cutV (x :: ys) (some 1) none = ys := by
  unfold cutV
  simp [HT.sIx]
theorem tail_not {x : V} {ys : List V} : ¬ (HT.sIx (x :: ys).length 0 (some 1) = 0 ∧ HT.sIx (x :: ys).length (x :: ys).length none = (x :: ys).length) := by
  rintro ⟨z, _⟩
  have : HT.sIx (x :: ys).length 0 (some ((1 : Nat) : Int)) = min 1 (x :: ys).length := HT.sIx_nat _ _ _
  have z' : HT.sIx (x :: ys).length 0 (some ((1 : Nat) : Int)) = 0 := z
  rw [List.length_cons] at *
  omega
theorem at_zero {x : V} {ys : List V} : atI (x :: ys) (0 : Int) = some x := (show atI (x :: ys) ((0 : Nat) : Int) = some x from atI_nat rfl)
end K16
set_option Elab.async false
set_option linter.all false
set_option maxRecDepth 100000
set_option maxHeartbeats 4000000
namespace K16
open PySem PySem.Spec PyProof.Rows L2 Lc
abbrev sWithin : Stmt := top 26
abbrev sValue : Stmt := top 27
def isB : V → Bool
  | .bl _ => true
  | _ => false
def valB (kind : Str) (v : V) (b : Bool) : Bool := decide (v = .non) || (if kind = "number" then b else if kind = "word" then nameB v else isB v)
def spWithin : Sp := fun vs H Q _ => ∃ (a : Addr) (n d : Int), vs = [.ref a] ∧ H a = some (.tup [.int n, .int d]) ∧ Q (.bl (limB (.int n) (.int d))) H
def spValue : Sp := fun vs H Q _ => ∃ (v : V) (kind : Str) (b : Bool), vs = [v, .str kind] ∧ Thing H v b ∧ ∀ H', Same H H' → Q (.bl (valB kind v b)) H'
section
variable {P : Program} {w : World} {K : PySem.W.Frag} {mg : Str → Option Value} {base : Heap} {f : Addr} {fd : FuncData} {u1 : Tok} {fR fW fN fD fL fA fQ fX fY : Addr} {fdR fdW fdN fdD fdL fdA fdQ fdX fdY : FuncData}
theorem scWithin : FnScope ["number"] ["number"] (defScope sWithin) := ⟨rfl, rfl, rfl, by decide +kernel, rfl, by decide +kernel, by decide +kernel⟩
theorem ok_within (F : Fun K "within_limit" "within_limit" sWithin f fd) (T : Bt mg) (m1 : mg "LIMIT" = some (.int lim u1)) : FnOk P w K mg base CX0 1 f fd ["number"] spWithin := by
  refine F.ok scWithin (fun vs H Q E h => ?_) (fun cdv A outer s H vs Q E hr h => ?_)
  · obtain ⟨a, n, d, rfl, _⟩ := h
    rfl
  · obtain ⟨a, n, d, rfl, ha, k⟩ := h
    refine ⟨_, pss_one (ps_ret (pe_and (pe_cmpR op_le (pe_callB call_abs (by rfl) T.abs boot_abs (pa_cons (pe_ix ix_tup (pv 0) pe_int (fun _ _ => rfl)) pa_nil)) (pe_glob (v := .int lim) (by rfl) m1 ⟨_, rfl⟩) (nomark _))
      (pe_one (pe_cmpR op_le (pe_ix ix_tup (pv 0) pe_int (fun _ _ => rfl)) (pe_glob (v := .int lim) (by rfl) m1 ⟨_, rfl⟩) (nomark _))))), ?_⟩
    refine ⟨_, rfl, a, _, _, _, rfl, rfl, SqT.of ha, rfl, n, rfl, _, _, rfl, rfl, _, rfl, ?_⟩
    have e : limB (.int n) (.int d) = (decide ((if n < 0 then -n else n) ≤ lim) && decide (d ≤ lim)) := rfl
    rw [e] at k
    by_cases z : (if n < 0 then -n else n) ≤ lim
    · rw [decide_eq_true z] at k ⊢
      exact iteT ⟨_, rfl, a, _, _, _, rfl, rfl, SqT.of ha, rfl, _, _, rfl, rfl, k⟩
    · rw [decide_eq_false z] at k ⊢
      exact iteF k
theorem scValue : FnScope ["value", "kind"] ["value", "kind"] (defScope sValue) := ⟨rfl, rfl, rfl, by decide +kernel, rfl, by decide +kernel, by decide +kernel⟩
theorem dec_str (x y : Str) : decide (V.str x = V.str y) = decide (x = y) := by
  rw [Bool.eq_iff_iff, decide_eq_true_iff, decide_eq_true_iff]
  exact ⟨fun h => by injection h, fun h => by rw [h]⟩
theorem ok_value (F : Fun K "is_value" "is_value" sValue f fd) (GR : FnOk P w K mg base CX0 2 fR fdR ["value"] spIsR) (mR : mg "is_rational" = some (.ref fR)) (kR : PySem.W.keepIn K (.ref fR) = true) (bR : Binds K fdR ["value"] [])
    (GW : FnOk P w K mg base CX0 1 fW fdW ["number"] spWithin) (mW : mg "within_limit" = some (.ref fW)) (kW : PySem.W.keepIn K (.ref fW) = true) (bW : Binds K fdW ["number"] [])
    (GN : FnOk P w K mg base CX0 1 fN fdN ["value"] spName) (mN : mg "is_name" = some (.ref fN)) (kN : PySem.W.keepIn K (.ref fN) = true) (bN : Binds K fdN ["value"] []) : FnOk P w K mg base CX0 3 f fd ["value", "kind"] spValue := by
  refine F.ok scValue (fun vs H Q E h => ?_) (fun cdv A outer s H vs Q E hr h => ?_)
  · obtain ⟨v, kd, b, rfl, _⟩ := h
    rfl
  · obtain ⟨v, kd, b, rfl, th, k⟩ := h
    have hr1 : Room 1 _ := hr.mono (by decide)
    refine ⟨_, pss_cons (ps_if (pt_cmpR op_isN (pv 0) pe_non (nomark _)) (pss_one (ps_ret pe_bl)) pss_nil)
      (pss_cons (ps_if (pt_cmpR op_eq (pv 1) pe_str (nomark _)) (pss_one (ps_ret (pe_and (pe_call GR hr (by rfl) mR kR bR .nil pass0 (pa_cons (pv 0) pa_nil)) (pe_one (pe_call GW hr1 (by rfl) mW kW bW .nil pass0 (pa_cons (pv 0) pa_nil)))))) pss_nil)
      (pss_cons (ps_if (pt_cmpR op_eq (pv 1) pe_str (nomark _)) (pss_one (ps_ret (pe_call GN hr1 (by rfl) mN kN bN .nil pass0 (pa_cons (pv 0) pa_nil)))) pss_nil)
      (pss_one (ps_ret (pe_or (pe_cmpR op_isBA (pv 0) pe_bl (nomark _)) (pe_one (pe_cmpR op_isBA (pv 0) pe_bl (nomark _)))))))), ?_⟩
    refine ⟨_, rfl, rfl, _, rfl, ?_⟩
    have k0 := k H (Same.refl H)
    by_cases z : v = .non
    · rw [decide_eq_true z]
      have e : valB kd v b = true := by unfold valB; rw [decide_eq_true z]; rfl
      rw [e] at k0
      exact iteT k0
    · rw [decide_eq_false z]
      have e : valB kd v b = (if kd = "number" then b else if kd = "word" then nameB v else isB v) := by unfold valB; rw [decide_eq_false z]; rfl
      rw [e] at k0 k
      refine iteF ⟨_, rfl, rfl, _, rfl, ?_⟩
      rw [dec_str]
      by_cases n1 : kd = "number"
      · rw [decide_eq_true n1]
        rw [if_pos n1] at k0
        refine iteT ?_
        cases th with
        | other h n l => exact ⟨_, rfl, v, false, rfl, .other h n, _, rfl, iteF k0⟩
        | @len a xs ea n => exact ⟨_, rfl, _, false, rfl, .len ea n, _, rfl, iteF k0⟩
        | @pair a x y tx ty ea hx hy =>
          refine ⟨_, rfl, _, _, rfl, .pair ea hx hy, _, rfl, ?_⟩
          refine ite2 (fun r => ?_) (fun r => ?_)
          · obtain ⟨n, d, rfl, rfl, _, _⟩ := ratB_ints r
            have e2 : numB (.int n) (.int d) = limB (.int n) (.int d) := by unfold numB; rw [r]; rfl
            rw [e2] at k0
            exact ⟨_, rfl, a, n, d, rfl, ea, k0⟩
          · have e2 : numB x y = false := by unfold numB; rw [show ratB x y = false by simpa using r]; rfl
            rw [e2] at k0
            exact k0
      · rw [decide_eq_false n1]
        rw [if_neg n1] at k0 k
        refine iteF ⟨_, rfl, rfl, _, rfl, ?_⟩
        rw [dec_str]
        obtain ⟨t, ht, hl⟩ := th.ty
        by_cases n2 : kd = "word"
        · rw [decide_eq_true n2]
          rw [if_pos n2] at k
          exact iteT ⟨_, rfl, v, t, rfl, ht, hl, k⟩
        · rw [decide_eq_false n2]
          rw [if_neg n2] at k0
          refine iteF ⟨_, rfl, true, rfl, _, rfl, ?_⟩
          by_cases z1 : v = .bl true
          · rw [decide_eq_true z1]
            rw [z1] at k0
            exact iteT k0
          · rw [decide_eq_false z1]
            refine iteF ⟨_, rfl, false, rfl, ?_⟩
            have e3 : decide (v = .bl false) = isB v := by
              cases v with
              | bl b =>
                cases b with
                | true => exact absurd rfl z1
                | false => rfl
              | _ => rfl
            rw [e3]
            exact k0
end
abbrev sHw : Stmt := top 36
abbrev sLk : Stmt := top 37
abbrev sKv : Stmt := top 38
abbrev sRk : Stmt := top 40
/-- which kinds a value fits: its own alone -/
theorem vk_fits {H : Hp} {k : Str} {v : V} {d : PyData} (h : Dh H v d) (g : Vk k d) (nn : d ≠ .none) : ∃ b, Thing H v b ∧ ∀ k', KindS k' → valB k' v b = decide (k' = k) := by
  have nw : ("word" : Str) ≠ "number" := by decide +kernel
  have fn : ("flag" : Str) ≠ "number" := by decide +kernel
  have fw : ("flag" : Str) ≠ "word" := by decide +kernel
  cases g with
  | non k => exact absurd rfl nn
  | flag b =>
    cases h
    refine ⟨false, .other (.bl b) (by decide) nofun, fun k' hk => ?_⟩
    rcases hk with rfl | rfl | rfl
    · simp [valB, Ne.symm fn]
    · simp [valB, nw, nameB, Ne.symm fw]
    · simp [valB, fn, fw, isB]
  | @word x hx hn =>
    cases h
    refine ⟨false, .other (.str x) (by decide) fun y e => ?_, fun k' hk => ?_⟩
    · injection e with e
      rw [← e]
      exact Nat.le_trans (sh_len hx) (by decide)
    · rcases hk with rfl | rfl | rfl
      · simp [valB, Ne.symm nw]
      · simp [valB, nw, hn]
      · simp [valB, fn, fw, isB]
  | @num n d rt h1 h2 =>
    cases h with
    | tup e hs =>
      cases hs with
      | cons a r =>
        cases r with
        | cons b r =>
          cases r
          cases a
          cases b
          refine ⟨_, .pair e (.int n) (.int d), fun k' hk => ?_⟩
          have e1 : ratB (.int n) (.int d) = true := by
            show (decide (0 < d) && decide (gd n d = 1)) = true
            rw [decide_eq_true rt.pos, decide_eq_true rt.cop]
            rfl
          have e2 : limB (.int n) (.int d) = true := by
            show (decide ((if n < 0 then -n else n) ≤ lim) && decide (d ≤ lim)) = true
            rw [decide_eq_true (by unfold lim; split <;> omega), decide_eq_true (by unfold lim; omega)]
            rfl
          rcases hk with rfl | rfl | rfl
          · unfold valB numB
            rw [if_pos rfl, e1, e2]
            simp
          · simp [valB, nw, nameB]
          · simp [valB, fn, fw, isB]
def spHw : Sp := fun vs H Q _ => ∃ (a : Addr) (w : Str) (ys : List V), vs = [.ref a] ∧ H a = some (.tup (.str w :: ys)) ∧ Q (.bl true) H
def spKv : Sp := fun vs H Q _ => ∃ (v : V) (d : PyData) (k : Str), vs = [v] ∧ Dh H v d ∧ Vk k d ∧ KindS k ∧ d ≠ .none ∧ ∀ H', Same H H' → Q (.str k) H'
abbrev ttKv : TT := tTest (tCall spValue [] E0 (tCons (tVar 0) (tCons (tVar 2) tNil)))
section
variable {P : Program} {w : World} {K : PySem.W.Frag} {mg : Str → Option Value} {base : Heap} {f fV k3 : Addr} {fd fdV : FuncData}
theorem scHw : FnScope ["part"] ["part"] (defScope sHw) := ⟨rfl, rfl, rfl, by decide +kernel, rfl, by decide +kernel, by decide +kernel⟩
theorem ok_hw (F : Fun K "has_word" "has_word" sHw f fd) (T : Bt mg) : FnOk P w K mg base CX0 1 f fd ["part"] spHw := by
  refine F.ok scHw (fun vs H Q E h => ?_) (fun cdv A outer s H vs Q E hr h => ?_)
  · obtain ⟨a, w, ys, rfl, _⟩ := h
    rfl
  · obtain ⟨a, w, ys, rfl, ha, k⟩ := h
    refine ⟨_, pss_one (ps_ret (pe_and (pe_callB call_isi (by rfl) T.isi boot_isinstance (pa_cons (pv 0) (pa_cons (pe_bltn (v := .ty "tuple") (by rfl) T.tuple boot_tuple rfl) pa_nil)))
      (pe_and (pe_cmpR op_gt (pe_callB call_len_seq (by rfl) T.len PySem.boot_len (pa_cons (pv 0) pa_nil)) pe_int (nomark _))
      (pe_one (pe_callB call_isi (by rfl) T.isi boot_isinstance (pa_cons (pe_ix ix_tup (pv 0) pe_int (fun _ _ => rfl)) (pa_cons (pe_bltn (v := .ty "str") (by rfl) T.str boot_str rfl) pa_nil))))))), ?_⟩
    have ty : TyN H (.ref a) "tuple" := .tup ha
    have ts : TyN H (.str w) "str" := .str w
    refine ⟨_, rfl, .ref a, .ty "tuple", _, _, _, rfl, .ty "tuple", ty.x, kit_tuple ty.mem, _, rfl, iteT ?_⟩
    refine ⟨_, rfl, a, _, rfl, .inr (SqT.of ha), _, _, rfl, rfl, _, rfl, ?_⟩
    rw [decide_eq_true (by rw [List.length_cons]; omega)]
    refine iteT ⟨_, rfl, a, _, _, .str w, rfl, rfl, SqT.of ha, at_zero, .str w, .ty "str", _, _, _, rfl, .ty "str", ts.x, kit_str ts.mem, k⟩
abbrev nKv : List Str := ["value", "fitting", "kind"]
theorem scKv : FnScope nKv ["value"] (defScope sKv) := ⟨rfl, rfl, rfl, by decide +kernel, rfl, by decide +kernel, by decide +kernel⟩
theorem ok_kv (F : Fun K "kind_of_value" "kind_of_value" sKv f fd) (T : Bt mg) (GV : FnOk P w K mg base CX0 3 fV fdV ["value", "kind"] spValue) (mV : mg "is_value" = some (.ref fV)) (kV : PySem.W.keepIn K (.ref fV) = true) (bV : Binds K fdV ["value", "kind"] [])
    (mK : mg "KINDS" = some (.ref k3)) (hK : ∀ H, SqT K H k3 [.str "number", .str "word", .str "flag"]) : FnOk P w K mg base CX0 4 f fd ["value"] spKv := by
  refine F.ok scKv (fun vs H Q E h => ?_) (fun cdv A outer s H vs Q E hr h => ?_)
  · obtain ⟨v, d, k, rfl, _⟩ := h
    rfl
  · obtain ⟨v, d, kd, rfl, hd, vk, hk, nn, k⟩ := h
    refine ⟨_, pss_cons (ps_if (pt_cmpR op_isN (pv 0) pe_non (nomark _)) (pss_one (ps_ret pe_non)) pss_nil)
      (pss_cons (ps_setLc (i := 1) (own := [("kind", 2)]) (g := gName 2) (tt := ttKv) (te := tVar 2) (by rfl) scKv.nd rfl rfl (sw_true rfl rfl rfl (by decide +kernel)) (pi_tup (pe_glob (v := .ref k3) (by rfl) mK rfl)) (blkOk_by (own := [("kind", 2)]) (N := nKv) (sc := defScope sKv) (by decide +kernel))
          (fun _ _ _ _ _ => pg_name (i := 2) scKv.nd rfl (.inl rfl)) (fun _ _ _ _ _ => pts_one (pt_val (pe_call GV hr (by rfl) mV kV bV .nil pass0 (pa_cons (pv 0) (pa_cons (pv 2) pa_nil))))) (fun _ _ _ _ _ => pv 2))
      (pss_one (ps_ret (pe_ifExp (pt_cmpR op_gt (pe_callB call_len_seq (by rfl) T.len PySem.boot_len (pa_cons (pv 1) pa_nil)) pe_int (nomark _)) (pe_ix ix_list (pv 1) pe_int (fun _ _ => rfl)) pe_non)))), ?_⟩
    have vn : decide (v = .non) = false := decide_eq_false fun e => by subst e; cases hd; exact nn rfl
    refine ⟨_, rfl, rfl, _, rfl, ?_⟩
    rw [vn]
    refine iteF ?_
    obtain ⟨b, th, fit⟩ := vk_fits hd vk nn
    let ks : List Str := ["number", "word", "flag"]
    have kS : ∀ x ∈ ks, KindS x := fun x hx => by
      simp only [ks, List.mem_cons, List.not_mem_nil, or_false] at hx
      exact hx
    have kin : kd ∈ ks := by
      simp only [ks, List.mem_cons, List.not_mem_nil, or_false]
      exact hk
    refine ⟨k3, rfl, ⟨_, hK H⟩, fun D hD => lc_tup (K := K) (a := k3) (xs := ks.map V.str) (fun i H' => H' D = some (.lst (((ks.take i).filter (fun x => decide (x = kd))).map V.str)) ∧ Same H H') ⟨upd_same, Same.upd hD⟩ (fun i H' _ p => hK H') ?_ ?_⟩
    · rintro i x H1 hx ⟨hD1, s1⟩
      rw [List.getElem?_map] at hx
      cases q : ks[i]? with
      | none => rw [q] at hx; cases hx
      | some kk =>
        rw [q] at hx
        cases hx
        have km := kS kk (List.mem_of_getElem? q)
        refine ⟨rfl, ?_⟩
        change ttKv _ _ _
        refine ⟨_, rfl, _, rfl, v, kk, b, rfl, th.same s1, fun H2 s2 => ⟨_, rfl, ?_⟩⟩
        rw [fit kk km]
        have ln : ((ks.take i).filter (fun x => decide (x = kd))).length ≤ 3 := Nat.le_trans (List.length_filter_le _ _) (by rw [List.length_take]; exact Nat.min_le_right _ _)
        refine ite2 (fun z => ?_) (fun z => ?_)
        · refine ⟨_, rfl, _, s2 _ _ hD1, ?_, ?_, fun b o e => by rw [upd_ne (ne_of_none e hD)]; exact s2 b o (s1 b o e)⟩
          · rw [List.length_map]
            exact Nat.lt_of_le_of_lt ln (by decide)
          · rw [upd_same, List.take_add_one, q]
            simp only [Option.toList, List.filter_append, List.map_append]
            rw [List.filter_cons, if_pos z]
            rfl
        · refine ⟨?_, s1.trans s2⟩
          rw [s2 _ _ hD1, List.take_add_one, q]
          simp only [Option.toList, List.filter_append]
          rw [List.filter_cons, if_neg z, List.filter_nil, List.append_nil]
    · rintro H1 ⟨hD1, s1⟩
      rw [List.length_map, List.take_length] at hD1
      have e1 : ks.filter (fun x => decide (x = kd)) = [kd] := by
        simp only [ks, List.mem_cons, List.not_mem_nil, or_false] at kin
        rcases kin with rfl | rfl | rfl <;> decide +kernel
      rw [e1] at hD1
      refine ⟨_, rfl, D, _, rfl, .inl (SqL.of hD1), _, _, rfl, rfl, _, rfl, iteT ⟨_, rfl, D, _, _, .str kd, rfl, rfl, SqL.of hD1, at_zero, k H1 s1⟩⟩
end
end K16
set_option Elab.async false
set_option linter.all false
set_option maxRecDepth 100000
set_option maxHeartbeats 4000000
namespace K16
open PySem PySem.Spec PyProof.Rows L2 Lc
/-- what the dict of kinds holds -/
def KdP (kvs : List (Key × V)) (ps : List (Str × Str)) : Prop := ∀ z k, (z, k) ∈ ps → valV kvs (Sum.inr z : Key) = some (.str k)
def LeafD (ps : List (Str × Str)) (w : Str) (dx : PyData) (k : Str) : Prop := (w = "column" ∧ ∃ z, dx = .str z ∧ (z, k) ∈ ps) ∨ (w = "value" ∧ Vk k dx ∧ dx ≠ .none ∧ KindS k)
def spLk : Sp := fun vs H Q _ => ∃ (g a : Addr) (kvs : List (Key × V)) (ps : List (Str × Str)) (w : Str) (x : V) (dx : PyData) (k : Str), vs = [.ref g, .ref a] ∧ H g = some (.dK kvs) ∧ KdP kvs ps ∧ H a = some (.tup [.str w, x]) ∧ Dh H x dx ∧ LeafD ps w dx k ∧ ∀ H', Same H H' → Q (.str k) H'
section
variable {P : Program} {w : World} {K : PySem.W.Frag} {mg : Str → Option Value} {base : Heap} {f fV aA : Addr} {fd fdV : FuncData}
abbrev nLk : List Str := ["kinds", "part", "word", "held"]
theorem scLk : FnScope nLk ["kinds", "part"] (defScope sLk) := ⟨rfl, rfl, rfl, by decide +kernel, rfl, by decide +kernel, by decide +kernel⟩
theorem ok_lk (F : Fun K "leaf_kind" "leaf_kind" sLk f fd) (T : Bt mg) (GV : FnOk P w K mg base CX0 4 fV fdV ["value"] spKv) (mV : mg "kind_of_value" = some (.ref fV)) (kV : PySem.W.keepIn K (.ref fV) = true) (bV : Binds K fdV ["value"] []) : FnOk P w K mg base CX0 5 f fd ["kinds", "part"] spLk := by
  refine F.ok scLk (fun vs H Q E h => ?_) (fun cdv A outer s H vs Q E hr h => ?_)
  · obtain ⟨g, a, kvs, ps, wd, x, dx, k, rfl, _⟩ := h
    rfl
  · obtain ⟨g, a, kvs, ps, wd, x, dx, kd, rfl, hg, kp, ha, hx, lf, k⟩ := h
    refine ⟨_, pss_cons (ps_if (pt_cmpR op_ne (pe_callB call_len_seq (by rfl) T.len PySem.boot_len (pa_cons (pv 1) pa_nil)) pe_int (nomark _)) (pss_one (ps_ret pe_non)) pss_nil)
      (pss_cons (ps_asg (pv 1) (pg_tup rfl (pgs_cons (pg_name (i := 2) scLk.nd rfl (.inl rfl)) (pgs_cons (pg_name (i := 3) scLk.nd rfl (.inl rfl)) pgs_nil))))
      (pss_cons (ps_if (pt_cmpR op_eq (pv 2) pe_str (nomark _)) (pss_one (ps_ret (pe_ifExp (pt_val (pe_callB call_isi (by rfl) T.isi boot_isinstance (pa_cons (pv 3) (pa_cons (pe_bltn (v := .ty "str") (by rfl) T.str boot_str rfl) pa_nil)))) (pe_dget1 (hu_of hr) (pv 0) (pv 3) ⟨rfl, rfl, rfl, rfl⟩) pe_non))) pss_nil)
      (pss_one (ps_ret (pe_call GV hr (by rfl) mV kV bV .nil pass0 (pa_cons (pv 3) pa_nil)))))), ?_⟩
    refine ⟨_, rfl, a, _, rfl, .inr (SqT.of ha), rfl, _, rfl, iteF ⟨_, rfl, a, _, rfl, SqT.of ha, rfl, _, _, rfl, _, _, rfl, rfl, ?_⟩⟩
    refine ⟨_, rfl, rfl, _, rfl, ?_⟩
    rw [decide_eq_decide.mpr (show V.str wd = V.str "column" ↔ wd = "column" from ⟨fun e => by injection e, fun e => by rw [e]⟩)]
    rcases lf with ⟨rfl, z, rfl, hz⟩ | ⟨rfl, vk, nn, hk⟩
    · rw [decide_eq_true rfl]
      cases hx
      have ts : TyN H (.str z) "str" := .str z
      refine iteT ⟨_, rfl, .str z, .ty "str", _, _, _, rfl, .ty "str", ts.x, kit_str ts.mem, _, rfl, iteT ⟨_, rfl, g, rfl, .inl ⟨_, .inl hg⟩, _, rfl, _, DGet.k (k := Sum.inr z) hg, ?_⟩⟩
      rw [kp z kd hz]
      exact k H (Same.refl H)
    · rw [decide_eq_false (show ("value" : Str) ≠ "column" by decide +kernel)]
      exact iteF ⟨_, rfl, x, dx, kd, rfl, hx, vk, hk, nn, k⟩
end
def resK (w : Str) (ks : List Str) : Str := if w = "if" then ks.getLastD "" else if w = "plus" ∨ w = "minus" ∨ w = "times" ∨ w = "over" then "number" else "flag"
def spRk : Sp := fun vs H Q _ => ∃ (a : Addr) (w k0 : Str) (ks : List Str), vs = [.str w, .ref a] ∧ H a = some (.lst ((ks ++ [k0]).map V.str)) ∧ ∀ H', Same H H' → Q (.str (resK w (ks ++ [k0]))) H'
section
variable {P : Program} {w : World} {K : PySem.W.Frag} {mg : Str → Option Value} {base : Heap} {f aA : Addr} {fd : FuncData}
theorem scRk : FnScope ["word", "found"] ["word", "found"] (defScope sRk) := ⟨rfl, rfl, rfl, by decide +kernel, rfl, by decide +kernel, by decide +kernel⟩
theorem ok_rk (F : Fun K "result_kind" "result_kind" sRk f fd) (mA : mg "ARITHMETIC" = some (.ref aA)) (hA : ∀ H, SqT K H aA [.str "plus", .str "minus", .str "times", .str "over"]) : FnOk P w K mg base CX0 1 f fd ["word", "found"] spRk := by
  refine F.ok scRk (fun vs H Q E h => ?_) (fun cdv A outer s H vs Q E hr h => ?_)
  · obtain ⟨a, wd, k0, ks, rfl, _⟩ := h
    rfl
  · obtain ⟨a, wd, k0, ks, rfl, ha, k⟩ := h
    refine ⟨_, pss_cons (ps_if (pt_cmpR op_eq (pv 0) pe_str (nomark _)) (pss_one (ps_ret (pe_ix ix_list (pv 1) (pe_un un_neg pe_int) (fun _ _ => rfl)))) pss_nil)
      (pss_one (ps_ret (pe_ifExp (pt_cmpR op_in_seq (pv 0) (pe_glob (v := .ref aA) (by rfl) mA rfl) (by rfl)) pe_str pe_str))), ?_⟩
    refine ⟨_, rfl, rfl, _, rfl, ?_⟩
    rw [decide_eq_decide.mpr (show V.str wd = V.str "if" ↔ wd = "if" from ⟨fun e => by injection e, fun e => by rw [e]⟩)]
    have kk := k H (Same.refl H)
    unfold resK at kk
    by_cases w1 : wd = "if"
    · rw [decide_eq_true w1]
      rw [if_pos w1] at kk
      have e : (ks ++ [k0]).getLastD "" = k0 := by simp
      rw [e] at kk
      refine iteT ⟨_, rfl, _, rfl, a, _, _, .str k0, rfl, rfl, SqL.of ha, ?_, kk⟩
      rw [List.map_append]
      exact atI_last _ _
    · rw [decide_eq_false w1]
      rw [if_neg w1] at kk
      refine iteF ⟨_, rfl, aA, _, rfl, .inr (hA H), rfl, rfl, _, rfl, ?_⟩
      rw [show inV (.str wd) [.str "plus", .str "minus", .str "times", .str "over"] = decide (wd ∈ (["plus", "minus", "times", "over"] : List Str)) from in_strs (ss := ["plus", "minus", "times", "over"])]
      by_cases w2 : wd = "plus" ∨ wd = "minus" ∨ wd = "times" ∨ wd = "over"
      · rw [decide_eq_true (by simpa using w2)]
        rw [if_pos w2] at kk
        exact iteT kk
      · rw [decide_eq_false (by simpa using w2)]
        rw [if_neg w2] at kk
        exact iteF kk
end
end K16
set_option Elab.async false
set_option linter.all false
set_option maxRecDepth 100000
set_option maxHeartbeats 4000000
namespace K16
open PySem PySem.Spec PyProof.Rows L2 Lc
abbrev sCk : Stmt := top 39
/-- the operands' kinds that a word wants -/
def opsV (w : Str) : Option (List V) :=
  if w = "plus" ∨ w = "minus" ∨ w = "times" ∨ w = "over" ∨ w = "less" then some [.str "number", .str "number"] else if w = "same" then some [.non, .non] else if w = "both" ∨ w = "either" then some [.str "flag", .str "flag"] else if w = "not" then some [.str "flag"] else if w = "missing" then some [.non] else if w = "if" then some [.str "flag", .non, .non] else none
theorem opsV_all {p : Str → List V → Prop} (h1 : p "plus" [.str "number", .str "number"]) (h2 : p "minus" [.str "number", .str "number"]) (h3 : p "times" [.str "number", .str "number"]) (h4 : p "over" [.str "number", .str "number"]) (h5 : p "less" [.str "number", .str "number"]) (h6 : p "same" [.non, .non]) (h7 : p "both" [.str "flag", .str "flag"]) (h8 : p "either" [.str "flag", .str "flag"]) (h9 : p "not" [.str "flag"]) (h10 : p "missing" [.non]) (h11 : p "if" [.str "flag", .non, .non]) : ∀ x os, opsV x = some os → p x os := by
  intro x os h
  unfold opsV at h
  split at h
  · obtain rfl := Option.some.inj h
    rename_i z
    rcases z with rfl | rfl | rfl | rfl | rfl
    · exact h1
    · exact h2
    · exact h3
    · exact h4
    · exact h5
  split at h
  · obtain rfl := Option.some.inj h
    rename_i z
    subst z
    exact h6
  split at h
  · obtain rfl := Option.some.inj h
    rename_i z
    rcases z with rfl | rfl
    · exact h7
    · exact h8
  split at h
  · obtain rfl := Option.some.inj h
    rename_i z
    subst z
    exact h9
  split at h
  · obtain rfl := Option.some.inj h
    rename_i z
    subst z
    exact h10
  split at h
  · obtain rfl := Option.some.inj h
    rename_i z
    subst z
    exact h11
  cases h
structure OpsA (K : PySem.W.Frag) (w : World) (mg : Str → Option Value) (oA pA : Addr) : Prop where
  g : mg "OPERANDS" = some (.ref oA)
  d : ∃ es n, KDict K w oA es n
  at_ : ∀ x os, opsV x = some os → ∃ a, KDct K w oA x (.ref a) ∧ PySem.W.nsIn K oA x = some (some (.ref a)) ∧ ∀ H, SqT K H a os
  gp : mg "PAIRED" = some (.ref pA)
  ap : ∀ H, SqT K H pA [.str "same", .str "if"]
/-- a word, its operands' kinds, the kind of the whole -/
inductive OpK : Str → List Str → Str → Prop
  | one {w k r : Str} (h : OneW w k r) : OpK w [k] r
  | two {w k r : Str} (h : TwoW w k r) : OpK w [k, k] r
  | iff (k : Str) : OpK "if" ["flag", k, k] k
theorem OpK.ops {w r : Str} {ks : List Str} (h : OpK w ks r) : ∃ os, opsV w = some os ∧ os.length = ks.length ∧ ∀ (i : Nat) (o : V), os[i]? = some o → o = .non ∨ ∃ k, ks[i]? = some k ∧ o = .str k := by
  have fin1 : ∀ {o : V} {k : Str}, (o = .non ∨ o = .str k) → ∀ (i : Nat) (x : V), [o][i]? = some x → x = .non ∨ ∃ k', [k][i]? = some k' ∧ x = .str k' := fun {o k} h i x e => by
    match i, e with
    | 0, e => injection e with e; subst e; rcases h with rfl | rfl; exact .inl rfl; exact .inr ⟨_, rfl, rfl⟩
    | i + 1, e => simp at e
  have fin2 : ∀ {o p : V} {k l : Str}, (o = .non ∨ o = .str k) → (p = .non ∨ p = .str l) → ∀ (i : Nat) (x : V), [o, p][i]? = some x → x = .non ∨ ∃ k', [k, l][i]? = some k' ∧ x = .str k' := fun {o p k l} h g i x e => by
    match i, e with
    | 0, e => injection e with e; subst e; rcases h with rfl | rfl; exact .inl rfl; exact .inr ⟨_, rfl, rfl⟩
    | 1, e => injection e with e; subst e; rcases g with rfl | rfl; exact .inl rfl; exact .inr ⟨_, rfl, rfl⟩
    | i + 2, e => simp at e
  cases h with
  | one h =>
    rcases h with ⟨rfl, rfl, _⟩ | ⟨rfl, _, _⟩
    · exact ⟨[.str "flag"], by decide +kernel, rfl, fin1 (.inr rfl)⟩
    · exact ⟨[.non], by decide +kernel, rfl, fin1 (.inl rfl)⟩
  | two h =>
    rcases h with ⟨rfl | rfl | rfl | rfl, rfl, _⟩ | ⟨rfl, rfl, _⟩ | ⟨rfl, _, _⟩ | ⟨rfl | rfl, rfl, _⟩
    · exact ⟨[.str "number", .str "number"], by decide +kernel, rfl, fin2 (.inr rfl) (.inr rfl)⟩
    · exact ⟨[.str "number", .str "number"], by decide +kernel, rfl, fin2 (.inr rfl) (.inr rfl)⟩
    · exact ⟨[.str "number", .str "number"], by decide +kernel, rfl, fin2 (.inr rfl) (.inr rfl)⟩
    · exact ⟨[.str "number", .str "number"], by decide +kernel, rfl, fin2 (.inr rfl) (.inr rfl)⟩
    · exact ⟨[.str "number", .str "number"], by decide +kernel, rfl, fin2 (.inr rfl) (.inr rfl)⟩
    · exact ⟨[.non, .non], by decide +kernel, rfl, fin2 (.inl rfl) (.inl rfl)⟩
    · exact ⟨[.str "flag", .str "flag"], by decide +kernel, rfl, fin2 (.inr rfl) (.inr rfl)⟩
    · exact ⟨[.str "flag", .str "flag"], by decide +kernel, rfl, fin2 (.inr rfl) (.inr rfl)⟩
  | iff k =>
    refine ⟨[.str "flag", .non, .non], by decide +kernel, rfl, fun i x e => ?_⟩
    match i, e with
    | 0, e => injection e with e; subst e; exact .inr ⟨_, rfl, rfl⟩
    | 1, e => injection e with e; exact .inl e.symm
    | 2, e => injection e with e; exact .inl e.symm
    | i + 3, e => simp at e
theorem OpK.res {w r : Str} {ks : List Str} (h : OpK w ks r) : resK w ks = r := by
  cases h with
  | one h => rcases h with ⟨rfl, rfl, rfl⟩ | ⟨rfl, _, rfl⟩ <;> (unfold resK; rw [if_neg (by decide +kernel), if_neg (by decide +kernel)])
  | two h =>
    rcases h with ⟨rfl | rfl | rfl | rfl, rfl, rfl⟩ | ⟨rfl, rfl, rfl⟩ | ⟨rfl, _, rfl⟩ | ⟨rfl | rfl, rfl, rfl⟩
    · unfold resK; rw [if_neg (by decide +kernel), if_pos (by decide +kernel)]
    · unfold resK; rw [if_neg (by decide +kernel), if_pos (by decide +kernel)]
    · unfold resK; rw [if_neg (by decide +kernel), if_pos (by decide +kernel)]
    · unfold resK; rw [if_neg (by decide +kernel), if_pos (by decide +kernel)]
    · unfold resK; rw [if_neg (by decide +kernel), if_neg (by decide +kernel)]
    · unfold resK; rw [if_neg (by decide +kernel), if_neg (by decide +kernel)]
    · unfold resK; rw [if_neg (by decide +kernel), if_neg (by decide +kernel)]
    · unfold resK; rw [if_neg (by decide +kernel), if_neg (by decide +kernel)]
  | iff k => unfold resK; rw [if_pos rfl]; rfl
/-- where the last two must be alike, they are -/
theorem OpK.pair {w r : Str} {ks : List Str} (h : OpK w ks r) (p : w = "same" ∨ w = "if") : ∃ l k, ks = l ++ [k, k] := by
  cases h with
  | one h => rcases h with ⟨rfl, _⟩ | ⟨rfl, _⟩ <;> (rcases p with e | e <;> exact absurd e (by decide +kernel))
  | two h => exact ⟨[], _, rfl⟩
  | iff => exact ⟨["flag"], _, rfl⟩
def spCk : Sp := fun vs H Q _ => ∃ (a : Addr) (w r : Str) (ks : List Str) (p : V), vs = [.str w, .ref a, p] ∧ H a = some (.lst (ks.map V.str)) ∧ OpK w ks r ∧ ∀ H', Same H H' → Q .non H'
section
variable {P : Program} {w : World} {K : PySem.W.Frag} {mg : Str → Option Value} {base : Heap} {f oA pA : Addr} {fd : FuncData}
abbrev nCk : List Str := ["word", "found", "path", "at", "wanted"]
theorem scCk : FnScope nCk ["word", "found", "path"] (defScope sCk) := ⟨rfl, rfl, rfl, by decide +kernel, rfl, by decide +kernel, by decide +kernel⟩
theorem ok_ck (F : Fun K "check_operands" "check_operands" sCk f fd) (T : Bt mg) (OA : OpsA K w mg oA pA) : FnOk P w K mg base CX0 1 f fd ["word", "found", "path"] spCk := by
  refine F.ok scCk (fun vs H Q E h => ?_) (fun cdv A outer s H vs Q E hr h => ?_)
  · obtain ⟨a, wd, r, ks, p, rfl, _⟩ := h
    rfl
  · obtain ⟨a, wd, r, ks, p, rfl, ha, ok, k⟩ := h
    refine ⟨_, pss_cons (ps_for PassesOwn.never rfl (pi_enT (by rfl) T.enum (pa_cons (pe_ix ix_kdict (pe_glob (v := .ref oA) (by rfl) OA.g rfl) (pv 0) (fun _ _ => rfl)) pa_nil)) (pg_tup rfl (pgs_cons (pg_name (i := 3) scCk.nd rfl (.inl rfl)) (pgs_cons (pg_name (i := 4) scCk.nd rfl (.inl rfl)) pgs_nil)))
        (pss_one (ps_if (PW.pt (pw_and (pt_cmpR op_notN (pv 4) pe_non (nomark _)) (pw_and1 (pt_cmpR op_ne (pe_ix ix_list (pv 1) (pv 3) (fun _ _ => rfl)) (pv 4) (nomark _))))) pss_dead pss_nil)))
      (pss_one (ps_if (PW.pt (pw_and (pt_cmpR op_in_seq (pv 0) (pe_glob (v := .ref pA) (by rfl) OA.gp rfl) (by rfl)) (pw_and1 (pt_cmpR op_ne (pe_ix ix_list (pv 1) (pe_un un_neg pe_int) (fun _ _ => rfl)) (pe_ix ix_list (pv 1) (pe_un un_neg pe_int) (fun _ _ => rfl)) (nomark _))))) pss_dead pss_nil)), ?_⟩
    obtain ⟨os, eo, lo, hos⟩ := ok.ops
    obtain ⟨oa, kd, _, hoa⟩ := OA.at_ wd os eo
    refine ⟨_, rfl, oA, wd, _, rfl, rfl, kd, oa, os, rfl, hoa H, for_it (walk_enT (K := K) (a := oa) (xs := os)) (fun i σ H' => (∃ x3 x4 : Option V, σ = [some (.str wd), some (.ref a), some p, x3, x4]) ∧ Same H H') ⟨⟨_, _, rfl⟩, Same.refl H⟩ (fun i σ H' _ q => hoa H') ?_ ?_⟩
    · rintro i x σ Ha Hb hi ⟨⟨x3, x4, rfl⟩, sa⟩ ⟨q, i', z, rfl, hq, rfl, e1, e2⟩
      obtain rfl : V.int ((i : Nat) : Int) = i' := Option.some.inj e1
      have zq := Same.upd (o := .tup [.int ((i : Nat) : Int), z]) hq
      have sb := sa.trans zq
      refine ⟨q, _, rfl, SqT.of upd_same, rfl, _, _, rfl, _, _, rfl, rfl, _, rfl, rfl, _, rfl, ?_⟩
      rcases hos i z e2 with rfl | ⟨kk, ek, rfl⟩
      · rw [decide_eq_true rfl]
        exact iteF (iteF ⟨⟨_, _, rfl⟩, sb⟩)
      · rw [decide_eq_false (show V.str kk ≠ V.non from nofun)]
        have hm : (ks.map V.str)[i]? = some (.str kk) := by rw [List.getElem?_map, ek]; rfl
        refine iteT ⟨_, rfl, _, rfl, a, _, _, .str kk, rfl, rfl, SqL.of (sb _ _ ha), at_of (j := i) rfl hm, _, rfl, rfl, _, rfl, ?_⟩
        rw [decide_eq_true rfl]
        exact iteF ⟨⟨_, _, rfl⟩, sb⟩
    · rintro σ H1 ⟨⟨x3, x4, rfl⟩, s1⟩
      refine ⟨_, rfl, pA, _, rfl, .inr (OA.ap H1), rfl, rfl, _, rfl, ?_⟩
      rw [show inV (.str wd) [.str "same", .str "if"] = decide (wd ∈ (["same", "if"] : List Str)) from in_strs (ss := ["same", "if"])]
      by_cases pr : wd = "same" ∨ wd = "if"
      · rw [decide_eq_true (by simpa using pr)]
        obtain ⟨l, kk, rfl⟩ := ok.pair pr
        have ha1 := s1 _ _ ha
        have e2 : atI ((l ++ [kk, kk]).map V.str) (-2) = some (.str kk) := by
          unfold atI ixN
          rw [if_neg (by decide), if_pos (by simp; omega)]
          simp
          have : ((-2 : Int) + ((l.length : Int) + 2)).toNat = l.length := by omega
          rw [this]
          simp
        have e1 : atI ((l ++ [kk, kk]).map V.str) (-1) = some (.str kk) := by
          rw [show (l ++ [kk, kk]).map V.str = (l ++ [kk]).map V.str ++ [.str kk] by simp]
          exact atI_last _ _
        refine iteT ⟨_, rfl, _, rfl, a, _, _, .str kk, rfl, rfl, SqL.of ha1, e2, _, rfl, _, rfl, a, _, _, .str kk, rfl, rfl, SqL.of ha1, e1, rfl, _, rfl, ?_⟩
        rw [decide_eq_true rfl]
        exact iteF (k H1 s1)
      · rw [decide_eq_false (by simpa using pr)]
        exact iteF (iteF (k H1 s1))
end
end K16
set_option Elab.async false
set_option linter.all false
set_option maxRecDepth 100000
set_option maxHeartbeats 4000000
namespace K16
open PySem PySem.Spec PyProof.Rows L2 Lc
abbrev sKa : Stmt := top 35
inductive Xps (ps : List (Str × Str)) (n : Nat) : List Str → List PyData → Prop
  | nil : Xps ps n [] []
  | cons {k : Str} {ks : List Str} {o : PyData} {os : List PyData} (h : Xp ps n k o) (r : Xps ps n ks os) : Xps ps n (k :: ks) (o :: os)
theorem Xps.len {ps : List (Str × Str)} {n : Nat} : ∀ {ks : List Str} {os : List PyData}, Xps ps n ks os → ks.length = os.length
  | _, _, .nil => rfl
  | _, _, .cons _ r => by rw [List.length_cons, List.length_cons, r.len]
theorem Xps.get {ps : List (Str × Str)} {n : Nat} : ∀ {ks : List Str} {os : List PyData}, Xps ps n ks os → ∀ (i : Nat) (o : PyData), os[i]? = some o → ∃ k, ks[i]? = some k ∧ Xp ps n k o
  | _, _, .nil, i, o, e => by simp at e
  | _, _, .cons h r, 0, o, e => by injection e with e; subst e; exact ⟨_, rfl, h⟩
  | _, _, .cons h r, i + 1, o, e => r.get i o (by simpa using e)
theorem Vk.kind {k : Str} {d : PyData} (h : Vk k d) (nn : d ≠ .none) : KindS k := by
  cases h with
  | non => exact absurd rfl nn
  | num => exact .inl rfl
  | flag => exact .inr (.inr rfl)
  | word => exact .inr (.inl rfl)
theorem Xp.ops2 {ps : List (Str × Str)} {n : Nat} {k : Str} {d : PyData} (h : Xp ps (n + 1) k d) : (∃ (w : Str) (x : PyData), (w = "column" ∨ w = "value") ∧ d = .tuple [.str w, x] ∧ LeafD ps w x k) ∨ ∃ (w : Str) (os : List PyData) (ks : List Str), ¬ (w = "column" ∨ w = "value") ∧ d = .tuple (.str w :: os) ∧ OpK w ks k ∧ Xps ps n ks os := by
  cases h with
  | col h => exact .inl ⟨_, _, .inl rfl, rfl, .inl ⟨rfl, _, rfl, h⟩⟩
  | val h nn => exact .inl ⟨_, _, .inr rfl, rfl, .inr ⟨rfl, h, nn, h.kind nn⟩⟩
  | one hw ha => exact .inr ⟨_, _, _, hw.no, rfl, .one hw, .cons ha .nil⟩
  | two hw ha hb => exact .inr ⟨_, _, _, hw.no, rfl, .two hw, .cons ha (.cons hb .nil)⟩
  | iff ha hb hc => exact .inr ⟨_, _, _, by decide +kernel, rfl, .iff _, .cons ha (.cons hb (.cons hc .nil))⟩
theorem OpK.ne {w r : Str} {ks : List Str} (h : OpK w ks r) : ∃ l k0, ks = l ++ [k0] ∧ ks.length ≤ 3 := by
  cases h with
  | one _ => exact ⟨[], _, rfl, by simp⟩
  | two _ => exact ⟨[_], _, rfl, by simp⟩
  | iff => exact ⟨[_, _], _, rfl, by simp⟩
def spKa (n : Nat) : Sp := fun vs H Q _ => ∃ (g a q : Addr) (kvs : List (Key × V)) (ps : List (Str × Str)) (zs : List V) (d : PyData) (k : Str), vs = [.ref g, .ref a, .ref q] ∧ H g = some (.dK kvs) ∧ KdP kvs ps ∧ Dh H (.ref a) d ∧ Xp ps n k d ∧ H q = some (.tup zs) ∧ zs.length + n ≤ 8 ∧ ∀ H', Same H H' → Q (.str k) H'
section
variable {P : Program} {w : World} {K : PySem.W.Frag} {mg : Str → Option Value} {base : Heap} {f fH fL fC fR oA pA : Addr} {fd fdH fdL fdC fdR : FuncData} {u1 : Tok}
abbrev nKa : List Str := ["kinds", "part", "path", "word", "kind", "found", "at", "operand"]
abbrev pKa : List Str := ["kinds", "part", "path"]
theorem scKa : FnScope nKa pKa (defScope sKa) := ⟨rfl, rfl, rfl, by decide +kernel, rfl, by decide +kernel, by decide +kernel⟩
abbrev teKa (n : Nat) (K : PySem.W.Frag) : TE := tCall (spKa n) [] E0 (tCons (tVar 0) (tCons (tVar 7) (tCons (tOp (rCatA K) (tVar 2) (tTup (tCons (tVar 6) tNil))) tNil)))
theorem ok_ka1 (n : Nat) (F : Fun K "kind_at" "kind_at" sKa f fd) (T : Bt mg) (OA : OpsA K w mg oA pA) (mP : mg "DEEPEST" = some (.int 8 u1))
    (GH : FnOk P w K mg base CX0 1 fH fdH ["part"] spHw) (mH : mg "has_word" = some (.ref fH)) (kH : PySem.W.keepIn K (.ref fH) = true) (bH : Binds K fdH ["part"] [])
    (GL : FnOk P w K mg base CX0 5 fL fdL ["kinds", "part"] spLk) (mL : mg "leaf_kind" = some (.ref fL)) (kL : PySem.W.keepIn K (.ref fL) = true) (bL : Binds K fdL ["kinds", "part"] [])
    (GC : FnOk P w K mg base CX0 1 fC fdC ["word", "found", "path"] spCk) (mC : mg "check_operands" = some (.ref fC)) (kC : PySem.W.keepIn K (.ref fC) = true) (bC : Binds K fdC ["word", "found", "path"] [])
    (GR : FnOk P w K mg base CX0 1 fR fdR ["word", "found"] spRk) (mR : mg "result_kind" = some (.ref fR)) (kR : PySem.W.keepIn K (.ref fR) = true) (bR : Binds K fdR ["word", "found"] [])
    (GX : FnOk P w K mg base CX0 (5 + n) f fd pKa (spKa n)) (mX : mg "kind_at" = some (.ref f)) (kX : PySem.W.keepIn K (.ref f) = true) (bX : Binds K fd pKa []) : FnOk P w K mg base CX0 (5 + n + 1) f fd pKa (spKa (n + 1)) := by
  refine F.ok scKa (fun vs H Q E h => ?_) (fun cdv A outer s H vs Q E hr h => ?_)
  · obtain ⟨g, a, q, kvs, ps, zs, d, k, rfl, _⟩ := h
    rfl
  · obtain ⟨g, a, q, kvs, ps, zs, d, kd, rfl, hg, kp, hd, xp, hq, l8, k⟩ := h
    have hr1 : Room 1 _ := hr.mono (by omega)
    have hr5 : Room 5 _ := hr.mono (by omega)
    obtain ⟨es, nn, KD⟩ := OA.d
    refine ⟨_, pss_cons (ps_if (PW.pt (pw_or (pt_cmpR op_ge (pe_callB call_len_seq (by rfl) T.len PySem.boot_len (pa_cons (pv 2) pa_nil)) (pe_glob (v := .int 8) (by rfl) mP ⟨_, rfl⟩) (nomark _)) (pw_or1 (pt_not (pt_val (pe_call GH hr1 (by rfl) mH kH bH .nil pass0 (pa_cons (pv 1) pa_nil))))))) pss_dead pss_nil)
      (pss_cons (ps_set (i := 3) scKa.nd rfl (Or.inl rfl) (pe_ix ix_tup (pv 1) pe_int (fun _ _ => rfl)))
      (pss_cons (ps_if (PW.pt (pw_or (pt_cmpR op_eq (pv 3) pe_str (nomark _)) (pw_or1 (pt_cmpR op_eq (pv 3) pe_str (nomark _))))) (pss_cons (ps_set (i := 4) scKa.nd rfl (Or.inl rfl) (pe_call GL hr5 (by rfl) mL kL bL .nil pass0 (pa_cons (pv 0) (pa_cons (pv 1) pa_nil)))) (pss_cons (ps_if (pt_cmpR op_isN (pv 4) pe_non (nomark _)) pss_dead pss_nil) (pss_one (ps_ret (pv 4))))) pss_nil)
      (pss_cons (ps_if (PW.pt (pw_or (pt_cmpR (op_notIn_kd KD) (pv 3) (pe_glob (v := .ref oA) (by rfl) OA.g rfl) (by rfl)) (pw_or1 (pt_cmpR op_ne (pe_callB call_len_seq (by rfl) T.len PySem.boot_len (pa_cons (pv 1) pa_nil)) (pe_op op_add (pe_callB call_len_seq (by rfl) T.len PySem.boot_len (pa_cons (pe_ix ix_kdict (pe_glob (v := .ref oA) (by rfl) OA.g rfl) (pv 3) (fun _ _ => rfl)) pa_nil)) pe_int) (nomark _))))) pss_dead pss_nil)
      (pss_cons (ps_setLc (i := 5) (own := [("at", 6), ("operand", 7)]) (g := gTup K 2 (gCons (gName 6) (gCons (gName 7) gNil))) (tt := tYes) (te := teKa n K) (by rfl) scKa.nd rfl rfl (sw_true rfl rfl rfl (by decide +kernel)) (pi_enT (by rfl) T.enum (pa_cons (pe_slice sl_tup (pv 1) (po_some pe_int) po_none) pa_nil)) (blkOk_by (own := [("at", 6), ("operand", 7)]) (N := nKa) (sc := defScope sKa) (by decide +kernel))
          (fun _ _ _ _ _ => pg_tup rfl (pgs_cons (pg_name (i := 6) scKa.nd rfl (.inl rfl)) (pgs_cons (pg_name (i := 7) scKa.nd rfl (.inl rfl)) pgs_nil))) (fun _ _ _ _ _ => pts_nil) (fun _ _ _ _ _ => pe_call GX hr (by rfl) mX kX bX .nil pass0 (pa_cons (pv 0) (pa_cons (pv 7) (pa_cons (pe_op op_catA (pv 2) (pe_tup (pa_cons (pv 6) pa_nil))) pa_nil)))))
      (pss_cons (ps_expr (pe_call GC hr1 (by rfl) mC kC bC .nil pass0 (pa_cons (pv 3) (pa_cons (pv 5) (pa_cons (pv 2) pa_nil)))))
      (pss_one (ps_ret (pe_call GR hr1 (by rfl) mR kR bR .nil pass0 (pa_cons (pv 3) (pa_cons (pv 5) pa_nil)))))))))), ?_⟩
    obtain ⟨ds0, rfl⟩ : ∃ ds0, d = .tuple ds0 := by rcases xp.ops2 with ⟨_, _, _, e, _⟩ | ⟨_, _, _, _, e, _⟩ <;> exact ⟨_, e⟩
    cases hd with
    | @tup _ ys0 _ ea hs0 =>
    have lq : zs.length < 8 := by omega
    refine ⟨_, rfl, q, _, rfl, .inr (SqT.of hq), _, _, rfl, rfl, _, rfl, ?_⟩
    rw [decide_eq_false (by omega)]
    have sE : ∀ (a b : Str), decide (V.str a = V.str b) = decide (a = b) := fun a b => decide_eq_decide.mpr ⟨fun e => by injection e, fun e => by rw [e]⟩
    rcases xp.ops2 with ⟨wd, x, hw, ed, lf⟩ | ⟨wd, os, ks, hw, ed, ok, xs⟩
    · injection ed with ed
      subst ed
      cases hs0 with
      | cons h1 r1 =>
      cases h1
      cases r1 with
      | cons h2 r2 =>
      cases r2
      refine iteF ⟨_, rfl, a, wd, _, rfl, ea, _, rfl, iteF ?_⟩
      refine ⟨_, rfl, a, _, _, .str wd, rfl, rfl, SqT.of ea, at_zero, ?_⟩
      refine ⟨_, rfl, rfl, _, rfl, ?_⟩
      rw [sE]
      have goal : ∀ {σ : L2.St} {D : Ends}, True := fun {_ _} => trivial
      have fin : spLk [.ref g, .ref a] H (fun v H' => v = .str kd ∧ Same H H') E0 := ⟨g, a, kvs, ps, wd, _, x, kd, rfl, hg, kp, ea, h2, lf, fun H' s' => ⟨rfl, s'⟩⟩
      by_cases w1 : wd = "column"
      · rw [decide_eq_true w1]
        refine iteT (iteT ⟨_, rfl, _, rfl, g, a, kvs, ps, wd, _, x, kd, rfl, hg, kp, ea, h2, lf, fun H' s' => ⟨_, rfl, rfl, _, rfl, ?_⟩⟩)
        rw [decide_eq_false (show V.str kd ≠ V.non from nofun)]
        exact iteF ⟨_, rfl, k H' s'⟩
      · rw [decide_eq_false w1]
        refine iteF ⟨_, rfl, rfl, _, rfl, ?_⟩
        rw [sE, decide_eq_true (hw.resolve_left w1)]
        refine iteT ⟨_, rfl, _, rfl, g, a, kvs, ps, wd, _, x, kd, rfl, hg, kp, ea, h2, lf, fun H' s' => ⟨_, rfl, rfl, _, rfl, ?_⟩⟩
        rw [decide_eq_false (show V.str kd ≠ V.non from nofun)]
        exact iteF ⟨_, rfl, k H' s'⟩
    · injection ed with ed
      subst ed
      cases hs0 with
      | @cons _ ys _ _ h1 r1 =>
      cases h1
      have ly := r1.len
      have lk := xs.len
      obtain ⟨opv, eo, lo, _⟩ := ok.ops
      obtain ⟨oa, kd1, kd2, hoa⟩ := OA.at_ wd opv eo
      obtain ⟨l0, k0, ek, l3⟩ := ok.ne
      refine iteF ⟨_, rfl, a, wd, _, rfl, ea, _, rfl, iteF ?_⟩
      refine ⟨_, rfl, a, _, _, .str wd, rfl, rfl, SqT.of ea, at_zero, ?_⟩
      refine ⟨_, rfl, rfl, _, rfl, ?_⟩
      rw [sE, decide_eq_false (fun z => hw (.inl z))]
      refine iteF ⟨_, rfl, rfl, _, rfl, ?_⟩
      rw [sE, decide_eq_false (fun z => hw (.inr z))]
      refine iteF ⟨_, rfl, wd, _, rfl, rfl, kd2, _, rfl, iteF ⟨_, rfl, a, _, rfl, .inr (SqT.of ea), _, rfl, oA, wd, _, rfl, rfl, kd1, oa, _, rfl, .inr (hoa H), _, _, rfl, rfl, rfl, _, rfl, ?_⟩⟩
      rw [decide_eq_true (by rw [List.length_cons, lo, lk, ← ly]; simp)]
      refine iteF ⟨_, rfl, 1, rfl, a, _, rfl, SqT.of ea, tail_not, fun p hp => ?_⟩
      rw [cut_tail]
      have zp := Same.upd (o := .tup ys) hp
      have hp2 : upd H p (.tup ys) p = some (.tup ys) := upd_same
      generalize upd H p (.tup ys) = H2 at zp hp2 ⊢
      refine ⟨p, ys, rfl, SqT.of hp2, fun D hD => lc_it (walk_enT (K := K) (a := p) (xs := ys)) (fun i H' => H' D = some (.lst ((ks.take i).map V.str)) ∧ Same H2 H') ⟨upd_same, Same.upd hD⟩ (fun i H' _ pr => SqT.of (pr.2 _ _ hp2)) ?_ ?_⟩
      · rintro i x Ha Hb hi ⟨hD1, sa⟩ ⟨q1, i', z, rfl, hq1, rfl, e1, e2⟩
        obtain rfl : V.int ((i : Nat) : Int) = i' := Option.some.inj e1
        have zq := Same.upd (o := .tup [.int ((i : Nat) : Int), z]) hq1
        have sb := sa.trans zq
        have s0 := zp.trans sb
        obtain ⟨o, eo', dh⟩ := r1.get _ _ e2
        obtain ⟨kk, ekk, xo⟩ := xs.get i o eo'
        refine ⟨q1, _, rfl, SqT.of upd_same, rfl, _, _, rfl, _, _, rfl, rfl, rfl, ?_⟩
        change teKa n K _ _ _
        have hD2 := zq _ _ hD1
        have gq := s0 _ _ hq
        have gg := s0 _ _ hg
        have dz := dh.same s0
        have gD : upd Ha q1 (.tup [.int ((i : Nat) : Int), z]) D ≠ none := by rw [hD2]; nofun
        have offD : ∀ b o', H2 b = some o' → b ≠ D := fun b o' eb => ne_of_none eb hD
        obtain ⟨za, rfl⟩ : ∃ za, z = .ref za := by
          obtain ⟨m, rfl⟩ : ∃ m, n = m + 1 := by
            cases n with
            | zero => exact xo.zero.elim
            | succ m => exact ⟨m, rfl⟩
          rcases xo.ops2 with ⟨_, _, _, rfl, _⟩ | ⟨_, _, _, _, rfl, _⟩ <;> (cases dh; exact ⟨_, rfl⟩)
        refine ⟨_, rfl, _, rfl, _, rfl, _, rfl, by show 1 ≤ sizeLine; decide, fun t1 ht1 => ?_⟩
        have zt := Same.upd (o := .tup [.int ((i : Nat) : Int)]) ht1
        have go : ∀ {H3 : Hp} {r : Addr} {us : List V}, Same (upd Ha q1 (.tup [.int ((i : Nat) : Int), .ref za])) H3 → H3 r = some (.tup us) → us.length = zs.length + 1 → spKa n [.ref g, .ref za, .ref r] H3 (fun y H4 => ∃ acc, H4 D = some (.lst acc) ∧ acc.length < sizeLine ∧ upd H4 D (.lst (acc ++ [y])) D = some (.lst ((ks.take (i + 1)).map V.str)) ∧ Same H2 (upd H4 D (.lst (acc ++ [y])))) E0 := fun {H3 r us} s3 hr3 lu =>
          ⟨g, za, r, kvs, ps, us, o, kk, rfl, s3 _ _ gg, kp, dz.same s3, xo, hr3, by omega, fun H4 s4 => ⟨_, s4 _ _ (s3 _ _ hD2), by rw [List.length_map, List.length_take]; exact Nat.lt_of_le_of_lt (show _ ≤ 3 by omega) (by decide), by rw [upd_same, List.take_add_one, ekk]; simp, fun b o' eb => by rw [upd_ne (offD b o' eb)]; exact s4 _ _ (s3 _ _ (sb _ _ eb))⟩⟩
        refine ⟨q, t1, zs, _, rfl, rfl, SqT.of (zt _ _ gq), SqT.of upd_same, by show zs.length + 1 ≤ sizeLine; exact Nat.le_trans (show _ ≤ 8 by omega) (by decide), fun e0 => ?_, fun _ z => absurd z (List.cons_ne_nil _ _), fun _ _ r hr' => ?_⟩
        · exact go zt upd_same (by rw [e0]; rfl)
        · exact go (zt.trans (Same.upd hr')) upd_same (by rw [List.length_append]; rfl)
      · rintro H3 ⟨hD3, s3⟩
        rw [ly, ← lk, List.take_length] at hD3
        have s03 := zp.trans s3
        refine ⟨_, rfl, _, rfl, _, rfl, D, wd, kd, ks, .ref q, rfl, hD3, ok, fun H4 s4 => ?_⟩
        refine ⟨_, rfl, _, rfl, D, wd, k0, l0, rfl, by rw [← ek]; exact s4 _ _ hD3, fun H5 s5 => ?_⟩
        rw [← ek, ok.res]
        exact k H5 ((s03.trans s4).trans s5)
theorem ok_ka (F : Fun K "kind_at" "kind_at" sKa f fd) (T : Bt mg) (OA : OpsA K w mg oA pA) (mP : mg "DEEPEST" = some (.int 8 u1))
    (GH : FnOk P w K mg base CX0 1 fH fdH ["part"] spHw) (mH : mg "has_word" = some (.ref fH)) (kH : PySem.W.keepIn K (.ref fH) = true) (bH : Binds K fdH ["part"] [])
    (GL : FnOk P w K mg base CX0 5 fL fdL ["kinds", "part"] spLk) (mL : mg "leaf_kind" = some (.ref fL)) (kL : PySem.W.keepIn K (.ref fL) = true) (bL : Binds K fdL ["kinds", "part"] [])
    (GC : FnOk P w K mg base CX0 1 fC fdC ["word", "found", "path"] spCk) (mC : mg "check_operands" = some (.ref fC)) (kC : PySem.W.keepIn K (.ref fC) = true) (bC : Binds K fdC ["word", "found", "path"] [])
    (GR : FnOk P w K mg base CX0 1 fR fdR ["word", "found"] spRk) (mR : mg "result_kind" = some (.ref fR)) (kR : PySem.W.keepIn K (.ref fR) = true) (bR : Binds K fdR ["word", "found"] [])
    (mX : mg "kind_at" = some (.ref f)) (kX : PySem.W.keepIn K (.ref f) = true) (bX : Binds K fd pKa []) : ∀ n : Nat, FnOk P w K mg base CX0 (5 + n) f fd pKa (spKa n)
  | 0 => fn_weak (sp' := fun _ _ _ _ => False) (fun _ _ _ _ ⟨_, _, _, _, _, _, _, _, _, _, _, _, xp, _⟩ => xp.zero.elim) fn_none
  | n + 1 => ok_ka1 n F T OA mP GH mH kH bH GL mL kL bL GC mC kC bC GR mR kR bR (ok_ka F T OA mP GH mH kH bH GL mL kL bL GC mC kC bC GR mR kR bR mX kX bX n) mX kX bX
end
end K16
set_option Elab.async false
set_option linter.all false
set_option maxRecDepth 100000
set_option maxHeartbeats 4000000
namespace K16
open PySem PySem.Spec PyProof.Rows L2 Lc
/-! ## drawn expressions, by a list of forms -/
def FmOk (kind w : Str) (ks : List Str) : Prop := (w = "if" ∧ ks = [("flag" : Str), kind, kind]) ∨ (∃ k, ks = [k] ∧ KindS k ∧ OneW w k kind) ∨ ∃ k, ks = [k, k] ∧ KindS k ∧ TwoW w k kind
def FmAt (H : Hp) (kind : Str) (v : V) : Prop := ∃ (p l : Addr) (w : Str) (ks : List Str), v = .ref p ∧ H p = some (.tup [.str w, .ref l]) ∧ H l = some (.lst (vS ks)) ∧ FmOk kind w ks
def Fms (H : Hp) (kind : Str) (fs : List V) : Prop := ∀ v ∈ fs, FmAt H kind v
theorem FmAt.same {H H' : Hp} {kind : Str} {v : V} (h : FmAt H kind v) (s : Same H H') : FmAt H' kind v := by
  obtain ⟨p, l, w, ks, e, h1, h2, ok⟩ := h
  exact ⟨p, l, w, ks, e, s _ _ h1, s _ _ h2, ok⟩
theorem FmAt.b {t : Addr} {H H' : Hp} {kind : Str} {v : V} (h : FmAt H kind v) (T : Tape H t) (s : SameB t H H') : FmAt H' kind v := by
  obtain ⟨p, l, w, ks, e, h1, h2, ok⟩ := h
  exact ⟨p, l, w, ks, e, s _ _ (T.neT h1) h1, s _ _ (ne_tape T h2) h2, ok⟩
theorem fm_tup {H : Hp} {kind w : Str} {ks : List Str} {l p : Addr} (hl : H l = some (.lst (vS ks))) (ok : FmOk kind w ks) (hp : H p = none) : FmAt (upd H p (.tup [.str w, .ref l])) kind (.ref p) := ⟨p, l, w, ks, rfl, upd_same, Same.upd hp _ _ hl, ok⟩
theorem xps_one {ps : List (Str × Str)} {n : Nat} {k : Str} {ds : List PyData} (h : Xps ps n [k] ds) : ∃ a, ds = [a] ∧ Xp ps n k a := by
  cases h with
  | cons h r => cases r; exact ⟨_, rfl, h⟩
theorem xps_two {ps : List (Str × Str)} {n : Nat} {k j : Str} {ds : List PyData} (h : Xps ps n [k, j] ds) : ∃ a b, ds = [a, b] ∧ Xp ps n k a ∧ Xp ps n j b := by
  cases h with
  | cons h r => obtain ⟨b, rfl, h2⟩ := xps_one r; exact ⟨_, _, rfl, h, h2⟩
theorem fm_xp {ps : List (Str × Str)} {n : Nat} {kind w : Str} {ks : List Str} {ds : List PyData} (f : FmOk kind w ks) (h : Xps ps n ks ds) : Xp ps (n + 1) kind (.tuple (.str w :: ds)) := by
  rcases f with ⟨rfl, rfl⟩ | ⟨k, rfl, _, hw⟩ | ⟨k, rfl, _, hw⟩
  · cases h with
    | cons h r => obtain ⟨b, c, rfl, h2, h3⟩ := xps_two r; exact .iff h h2 h3
  · obtain ⟨a, rfl, h1⟩ := xps_one h
    exact .one hw h1
  · obtain ⟨a, b, rfl, h1, h2⟩ := xps_two h
    exact .two hw h1 h2
theorem FmOk.ks {kind w : Str} {ks : List Str} (f : FmOk kind w ks) (hk : KindS kind) : (∀ k ∈ ks, KindS k) ∧ 1 ≤ ks.length ∧ ks.length ≤ 3 := by
  rcases f with ⟨rfl, rfl⟩ | ⟨k, rfl, h, _⟩ | ⟨k, rfl, h, _⟩
  · refine ⟨fun k hm => ?_, by show 1 ≤ 3; decide, Nat.le_refl _⟩
    simp only [List.mem_cons, List.not_mem_nil, or_false] at hm
    rcases hm with rfl | rfl | rfl
    · exact .inr (.inr rfl)
    · exact hk
    · exact hk
  · exact ⟨fun j hm => by rw [List.mem_singleton.mp hm]; exact h, Nat.le_refl _, by show 1 ≤ 3; decide⟩
  · refine ⟨fun j hm => ?_, by show 1 ≤ 2; decide, by show 2 ≤ 3; decide⟩
    simp only [List.mem_cons, List.not_mem_nil, or_false] at hm
    rcases hm with rfl | rfl <;> exact h
theorem Xps.snoc {ps : List (Str × Str)} {n : Nat} {k : Str} {d : PyData} : ∀ {ks : List Str} {ds : List PyData}, Xps ps n ks ds → Xp ps n k d → Xps ps n (ks ++ [k]) (ds ++ [d])
  | _, _, .nil, h => .cons h .nil
  | _, _, .cons h r, g => .cons h (r.snoc g)
theorem Xps.noL {ps : List (Str × Str)} {n : Nat} : ∀ {ks : List Str} {ds : List PyData}, Xps ps n ks ds → ∀ d ∈ ds, noL d = true
  | _, _, .nil => nofun
  | _, _, .cons h r => fun d hd => by
    rcases List.mem_cons.mp hd with rfl | hd
    · exact h.noL
    · exact r.noL d hd
theorem ite_no {a b : Str} {p q : Prop} (h : a ≠ b) (k : q) : if decide (V.str a = V.str b) = true then p else q := by
  rw [decide_eq_false (fun e => h (by injection e))]
  exact k
theorem ite_yes {a : Str} {p q : Prop} (k : p) : if decide (V.str a = V.str a) = true then p else q := by
  rw [decide_eq_true rfl]
  exact k
abbrev teXp (n : Nat) : TE := tCall (spXp n) [] E0 (tCons (tVar 0) (tCons (tVar 1) (tCons (tVar 9) (tCons (tOp (rI0 fun i j => .int (i - j)) (tVar 3) (tC (.int 1))) tNil))))
section
variable {P : Program} {w : World} {K : PySem.W.Frag} {mg : Str → Option Value} {base : Heap} {f : Addr} {fd : FuncData}
abbrev sXp : Stmt := top 134
abbrev nXp : List Str := ["_law_tape_here", "_law_columns_here", "_law_kind", "_law_depth", "_law_some", "_law_two", "_law_forms", "_law_flags_here", "_law_at_here", "_law_part"]
abbrev pXp : List Str := ["_law_tape_here", "_law_columns_here", "_law_kind", "_law_depth"]
theorem scXp : FnScope nXp pXp (defScope sXp) := ⟨rfl, rfl, rfl, by decide +kernel, rfl, by decide +kernel, by decide +kernel⟩
section
variable {fA_ fB_ fC_ : Addr} {fdA_ fdB_ fdC_ : FuncData}
theorem ok_Xp (F : Fun K "_law_expression" "_law_expression" sXp f fd) (T : Bt mg) (n : Nat)
    (GA_ : FnOk P w K mg base CX0 1 fA_ fdA_ ["_law_tape_here", "_law_many"] (spDrawL)) (mA_ : mg "_law_draw" = some (.ref fA_)) (kA_ : PySem.W.keepIn K (.ref fA_) = true) (bA_ : Binds K fdA_ ["_law_tape_here", "_law_many"] [])
    (GB_ : FnOk P w K mg base CX0 3 fB_ fdB_ ["_law_tape_here", "_law_columns_here", "_law_kind"] (spLf)) (mB_ : mg "_law_leaf" = some (.ref fB_)) (kB_ : PySem.W.keepIn K (.ref fB_) = true) (bB_ : Binds K fdB_ ["_law_tape_here", "_law_columns_here", "_law_kind"] [])
    (GC_ : FnOk P w K mg base CX0 (3 + n) fC_ fdC_ ["_law_tape_here", "_law_columns_here", "_law_kind", "_law_depth"] (spXp n)) (mC_ : mg "_law_expression" = some (.ref fC_)) (kC_ : PySem.W.keepIn K (.ref fC_) = true) (bC_ : Binds K fdC_ ["_law_tape_here", "_law_columns_here", "_law_kind", "_law_depth"] []) : FnOk P w K mg base CX0 (3 + n + 1) f fd pXp ((spXp (n + 1))) := by
  refine F.ok scXp (fun vs H Q E h => ?_) (fun cdv A outer s H vs Q E hr h => ?_)
  · obtain ⟨t, c, L, kind, xs, ps, rfl, _⟩ := h
    rfl
  · obtain ⟨t, c, L, kind, xs, ps, rfl, hk, hT, hL, hc, l8, k⟩ := h
    have hrA_ : Room (1) _ := hr.mono (by first | decide | omega)
    have hrB_ : Room (3) _ := hr.mono (by first | decide | omega)
    have hrC_ : Room ((3 + n)) _ := hr.mono (by first | decide | omega)
    refine ⟨_, (pss_cons (ps_set (i := 4) scXp.nd rfl (Or.inl rfl) (pe_ix ix_list (pe_lst (pa_cons pe_str (pa_cons pe_str (pa_cons pe_str pa_nil)))) (pe_call GA_ hrA_ (by rfl) mA_ kA_ bA_ .nil pass0 (pa_cons (pv 0) (pa_cons pe_int pa_nil))) (fun _ _ => rfl)))
      (pss_cons (ps_set (i := 5) scXp.nd rfl (Or.inl rfl) (pe_lst (pa_cons pe_str (pa_cons pe_str pa_nil))))
      (Evl.pss_cut (ps_set (i := 6) scXp.nd rfl (Or.inl rfl) (pe_lst (pa_cons (pe_tup (pa_cons pe_str (pa_cons (pe_lst (pa_cons pe_str (pa_cons (pv 2) (pa_cons (pv 2) pa_nil)))) pa_nil))) pa_nil)))
      (Evl.pss_cut (ps_if (pt_cmpR op_eq (pv 2) pe_str (nomark _)) (pss_one (ps_set (i := 6) scXp.nd rfl (Or.inl rfl) (pe_op op_cat (pv 6) (pe_lst (pa_cons (pe_tup (pa_cons pe_str (pa_cons (pv 5) pa_nil))) (pa_cons (pe_tup (pa_cons pe_str (pa_cons (pv 5) pa_nil))) (pa_cons (pe_tup (pa_cons pe_str (pa_cons (pv 5) pa_nil))) (pa_cons (pe_tup (pa_cons pe_str (pa_cons (pv 5) pa_nil))) pa_nil)))))))) pss_nil)
      (Evl.pss_cut (ps_if (pt_cmpR op_eq (pv 2) pe_str (nomark _)) (pss_cons (ps_set (i := 7) scXp.nd rfl (Or.inl rfl) (pe_lst (pa_cons pe_str (pa_cons pe_str pa_nil))))
      (Evl.pss_cut (ps_set (i := 6) scXp.nd rfl (Or.inl rfl) (pe_op op_cat (pv 6) (pe_lst (pa_cons (pe_tup (pa_cons pe_str (pa_cons (pv 5) pa_nil))) (pa_cons (pe_tup (pa_cons pe_str (pa_cons (pe_lst (pa_cons (pv 4) (pa_cons (pv 4) pa_nil))) pa_nil))) (pa_cons (pe_tup (pa_cons pe_str (pa_cons (pv 7) pa_nil))) (pa_cons (pe_tup (pa_cons pe_str (pa_cons (pv 7) pa_nil))) pa_nil)))))))
      (pss_one (ps_set (i := 6) scXp.nd rfl (Or.inl rfl) (pe_op op_cat (pv 6) (pe_lst (pa_cons (pe_tup (pa_cons pe_str (pa_cons (pe_lst (pa_cons pe_str pa_nil)) pa_nil))) (pa_cons (pe_tup (pa_cons pe_str (pa_cons (pe_lst (pa_cons (pv 4) pa_nil)) pa_nil))) (pa_cons (pe_tup (pa_cons pe_str (pa_cons (pv 5) pa_nil))) pa_nil))))))))) pss_nil)
      (Evl.pss_cut (ps_set (i := 8) scXp.nd rfl (Or.inl rfl) (pe_call GA_ hrA_ (by rfl) mA_ kA_ bA_ .nil pass0 (pa_cons (pv 0) (pa_cons (pe_op op_add (pe_callB call_len_seq (by rfl) T.len PySem.boot_len (pa_cons (pv 6) pa_nil)) pe_int) pa_nil))))
      (pss_cons (ps_if (PW.pt (pw_or (pt_cmpR op_le (pv 3) pe_int (nomark _)) (pw_or1 (pt_cmpR op_ge (pv 8) (pe_callB call_len_seq (by rfl) T.len PySem.boot_len (pa_cons (pv 6) pa_nil)) (nomark _))))) (pss_one (ps_ret (pe_call GB_ hrB_ (by rfl) mB_ kB_ bB_ .nil pass0 (pa_cons (pv 0) (pa_cons (pv 1) (pa_cons (pv 2) pa_nil)))))) pss_nil)
      (pss_one (ps_ret (pe_op op_catA (pe_tup (pa_cons (pe_ix ix_tup (pe_ix ix_list (pv 6) (pv 8) (fun _ _ => rfl)) pe_int (fun _ _ => rfl)) pa_nil)) (pe_callTy call_tuple_of (by rfl) T.tuple boot_tuple (pa_cons (pe_lc (own := [("_law_part", 9)]) (g := (gName 9)) (tt := tYes) (te := teXp n) (by rfl) scXp.nd (pi_list (pe_ix ix_tup (pe_ix ix_list (pv 6) (pv 8) (fun _ _ => rfl)) pe_int (fun _ _ => rfl))) (blkOk_by (own := [("_law_part", 9)]) (N := nXp) (sc := defScope sXp) (by decide +kernel)) (fun _ _ _ _ _ => (pg_name (i := 9) scXp.nd rfl (.inl rfl))) (fun _ _ _ _ _ => pts_nil) (fun _ _ _ _ _ => (pe_call GC_ hrC_ (by rfl) mC_ kC_ bC_ .nil pass0 (pa_cons (pv 0) (pa_cons (pv 1) (pa_cons (pv 9) (pa_cons (pe_op op_sub (pv 3) pe_int) pa_nil))))))) pa_nil)))))))))))), ?_⟩
    have two : 2 ≤ sizeLine := by decide
    have one : 1 ≤ sizeLine := by decide
    have three : 3 ≤ sizeLine := by decide
    have four : 4 ≤ sizeLine := by decide
    have kF : KindS "flag" := .inr (.inr rfl)
    have kN : KindS "number" := .inl rfl
    -- a kind of any
    refine ⟨three, fun Y hY => ?_⟩
    have zY := Same.upd (o := .lst [.str "number", .str "word", .str "flag"]) hY
    have nY := hT.tape.ne hY
    refine ⟨_, rfl, t, c, _, rfl, hT.same zY, by decide, big1000 (by decide) (by decide), fun j H1 j0 j3 T1 S1 => ?_⟩
    obtain ⟨so, eso, hso⟩ : ∃ kk : Str, ([.str "number", .str "word", .str "flag"] : List V)[j.toNat]? = some (.str kk) ∧ KindS kk := by
      have : j.toNat = 0 ∨ j.toNat = 1 ∨ j.toNat = 2 := by omega
      rcases this with e | e | e <;> rw [e]
      · exact ⟨_, rfl, .inl rfl⟩
      · exact ⟨_, rfl, .inr (.inl rfl)⟩
      · exact ⟨_, rfl, .inr (.inr rfl)⟩
    refine ⟨Y, _, _, .str so, rfl, rfl, SqL.of (S1 _ _ nY upd_same), at_of (j := j.toNat) (by omega) eso, two, fun W hW => ?_⟩
    have zW := Same.upd (o := .lst [.str "number", .str "number"]) hW
    have eW : upd H1 W (.lst [.str "number", .str "number"]) W = some (.lst (vS ["number", "number"])) := upd_same
    have T2 := T1.same zW
    have S2 := ((Same.b t zY).trans S1).trans (Same.b t zW)
    show ∃ M : _, _
    generalize upd H1 W (.lst [.str "number", .str "number"]) = H2 at eW T2 S2 ⊢
    clear zW zY nY T1 S1 eso hW hY j0 j3
    let M := fun (m : Nat) (D : Addr) (x7 : Option V) (σ : L2.St) (H' : Hp) => σ = [some (.ref t), some (.ref L), some (.str kind), some (.int ((n : Int) + 1)), some (.str so), some (.ref W), some (.ref D), x7, none, none] ∧ H' W = some (.lst (vS ["number", "number"])) ∧ (∃ fs, H' D = some (.lst fs) ∧ fs.length ≤ m ∧ 1 ≤ fs.length ∧ Fms H' kind fs) ∧ TapeL c H' t ∧ SameB t H H' ∧ D ≠ t
    refine ⟨fun σ H' => ∃ D, M 1 D none σ H', ?_, ?_⟩
    · refine ⟨_, rfl, _, rfl, three, fun A hA => ⟨two, fun B hB => ⟨one, fun D hD => ?_⟩⟩⟩
      have zA := Same.upd (o := .lst (vS ["flag", kind, kind])) hA
      have zB := Same.upd (o := .tup [.str "if", .ref A]) hB
      have zD := Same.upd (o := .lst [.ref B]) hD
      have zall := zA.trans (zB.trans zD)
      refine ⟨D, rfl, zall _ _ eW, ⟨[.ref B], upd_same, Nat.le_refl _, Nat.le_refl _, fun v hv => ?_⟩, T2.same zall, S2.trans (Same.b t zall), (T2.same (zA.trans zB)).tape.ne hD⟩
      rw [List.mem_singleton.mp hv]
      exact (fm_tup (kind := kind) (w := "if") (ks := ["flag", kind, kind]) upd_same (.inl ⟨rfl, rfl⟩) hB).same zD
    clear eW T2 S2
    rintro σ H3 ⟨D, rfl, eW, ⟨fs, eD, lf, l1, hf⟩, T3, S3, nD⟩
    -- numbers
    refine ⟨fun σ H' => ∃ D, M 5 D none σ H', ?_, ?_⟩
    · refine ⟨_, rfl, rfl, _, rfl, ?_⟩
      by_cases k1 : kind = "number"
      · subst k1
        refine ite_yes ⟨_, rfl, _, rfl, two, fun p1 h1 => ⟨_, rfl, two, fun p2 h2 => ⟨_, rfl, two, fun p3 h3 => ⟨_, rfl, two, fun p4 h4 => ⟨four, fun U hU => ?_⟩⟩⟩⟩⟩
        have z1 := Same.upd (o := .tup [.str "plus", .ref W]) h1
        have z2 := Same.upd (o := .tup [.str "minus", .ref W]) h2
        have z3 := Same.upd (o := .tup [.str "times", .ref W]) h3
        have z4 := Same.upd (o := .tup [.str "over", .ref W]) h4
        have zU := Same.upd (o := .lst [.ref p1, .ref p2, .ref p3, .ref p4]) hU
        have ok : ∀ w : Str, (w = "plus" ∨ w = "minus" ∨ w = "times" ∨ w = "over") → FmOk "number" w ["number", "number"] := fun w hw => .inr (.inr ⟨"number", rfl, kN, .inl ⟨hw, rfl, rfl⟩⟩)
        have f1 := fm_tup eW (ok "plus" (.inl rfl)) h1
        have f2 := fm_tup (z1 _ _ eW) (ok "minus" (.inr (.inl rfl))) h2
        have f3 := fm_tup ((z1.trans z2) _ _ eW) (ok "times" (.inr (.inr (.inl rfl)))) h3
        have f4 := fm_tup ((z1.trans (z2.trans z3)) _ _ eW) (ok "over" (.inr (.inr (.inr rfl)))) h4
        have zall := z1.trans (z2.trans (z3.trans (z4.trans zU)))
        refine ⟨D, U, fs, _, rfl, rfl, zall _ _ eD, upd_same, Nat.le_trans (show fs.length + 4 ≤ 30 by omega) (by decide), fun D2 hD2 => ?_⟩
        have zV := Same.upd (o := .lst (fs ++ [.ref p1, .ref p2, .ref p3, .ref p4])) hD2
        refine ⟨D2, rfl, zV _ _ (zall _ _ eW), ⟨_, upd_same, by rw [List.length_append]; show fs.length + 4 ≤ 5; omega, by rw [List.length_append]; omega, fun v hv => ?_⟩, T3.same (zall.trans zV), S3.trans (Same.b t (zall.trans zV)), (T3.same zall).tape.ne hD2⟩
        rcases List.mem_append.mp hv with hv | hv
        · exact (hf v hv).same (zall.trans zV)
        · simp only [List.mem_cons, List.not_mem_nil, or_false] at hv
          rcases hv with rfl | rfl | rfl | rfl
          · exact f1.same (z2.trans (z3.trans (z4.trans (zU.trans zV))))
          · exact f2.same (z3.trans (z4.trans (zU.trans zV)))
          · exact f3.same (z4.trans (zU.trans zV))
          · exact f4.same (zU.trans zV)
      · exact ite_no k1 ⟨D, rfl, eW, ⟨fs, eD, by omega, l1, hf⟩, T3, S3, nD⟩
    clear eW T3 S3 eD lf l1 hf nD D fs
    rintro σ H4 ⟨D, rfl, eW, ⟨fs, eD, lf, l1, hf⟩, T4, S4, nD⟩
    -- flags
    refine ⟨fun σ H' => ∃ D x7, M 12 D x7 σ H', ?_, ?_⟩
    · refine ⟨_, rfl, rfl, _, rfl, ?_⟩
      by_cases k1 : kind = "flag"
      · subst k1
        refine ite_yes ⟨two, fun G hG => ⟨fun σ H' => ∃ D, M 9 D (some (.ref G)) σ H', ?_, ?_⟩⟩
        · refine ⟨_, rfl, _, rfl, two, fun p1 h1 => ⟨_, rfl, _, rfl, two, fun O hO => ⟨two, fun p2 h2 => ⟨_, rfl, two, fun p3 h3 => ⟨_, rfl, two, fun p4 h4 => ⟨four, fun U hU => ?_⟩⟩⟩⟩⟩⟩
          have zG := Same.upd (o := .lst (vS ["flag", "flag"])) hG
          have z1 := Same.upd (o := .tup [.str "less", .ref W]) h1
          have zO := Same.upd (o := .lst (vS [so, so])) hO
          have z2 := Same.upd (o := .tup [.str "same", .ref O]) h2
          have z3 := Same.upd (o := .tup [.str "both", .ref G]) h3
          have z4 := Same.upd (o := .tup [.str "either", .ref G]) h4
          have zU := Same.upd (o := .lst [.ref p1, .ref p2, .ref p3, .ref p4]) hU
          have less : FmOk "flag" "less" ["number", "number"] := .inr (.inr ⟨"number", rfl, kN, .inr (.inl ⟨rfl, rfl, rfl⟩)⟩)
          have f1 := fm_tup (zG _ _ eW) less h1
          have f2 := fm_tup (kind := "flag") (w := "same") (ks := [so, so]) upd_same (.inr (.inr ⟨so, rfl, hso, .inr (.inr (.inl ⟨rfl, hso, rfl⟩))⟩)) h2
          have f3 := fm_tup (kind := "flag") (w := "both") (ks := ["flag", "flag"]) ((z1.trans (zO.trans z2)) _ _ upd_same) (.inr (.inr ⟨"flag", rfl, kF, .inr (.inr (.inr ⟨.inl rfl, rfl, rfl⟩))⟩)) h3
          have f4 := fm_tup (kind := "flag") (w := "either") (ks := ["flag", "flag"]) ((z1.trans (zO.trans (z2.trans z3))) _ _ upd_same) (.inr (.inr ⟨"flag", rfl, kF, .inr (.inr (.inr ⟨.inr rfl, rfl, rfl⟩))⟩)) h4
          have zall := zG.trans (z1.trans (zO.trans (z2.trans (z3.trans (z4.trans zU)))))
          have eW5 := zall _ _ eW
          have eD5 := zall _ _ eD
          have hf5 : Fms _ "flag" (fs ++ [V.ref p1, .ref p2, .ref p3, .ref p4]) := fun v hv => by
            rcases List.mem_append.mp hv with hv | hv
            · exact (hf v hv).same zall
            · simp only [List.mem_cons, List.not_mem_nil, or_false] at hv
              rcases hv with rfl | rfl | rfl | rfl
              · exact f1.same (zO.trans (z2.trans (z3.trans (z4.trans zU))))
              · exact f2.same (z3.trans (z4.trans zU))
              · exact f3.same (z4.trans zU)
              · exact f4.same zU
          have T5 := T4.same zall
          have S5 := S4.trans (Same.b t zall)
          refine ⟨D, U, fs, _, rfl, rfl, eD5, upd_same, Nat.le_trans (show fs.length + 4 ≤ 30 by omega) (by decide), fun D2 hD2 => ?_⟩
          have zV := Same.upd (o := .lst (fs ++ [.ref p1, .ref p2, .ref p3, .ref p4])) hD2
          exact ⟨D2, rfl, zV _ _ eW5, ⟨_, upd_same, by rw [List.length_append]; show fs.length + 4 ≤ 9; omega, by rw [List.length_append]; show 1 ≤ fs.length + 4; omega, fun v hv => (hf5 v hv).same zV⟩, T5.same zV, S5.trans (Same.b t zV), T5.tape.ne hD2⟩
        clear eW T4 S4 eD lf l1 hf nD D fs
        rintro σ H6 ⟨D2, rfl, eW6, ⟨gs, eD6, lf6, l1, hf6⟩, T6, S6, _⟩
        have less : FmOk "flag" "less" ["number", "number"] := .inr (.inr ⟨"number", rfl, kN, .inr (.inl ⟨rfl, rfl, rfl⟩)⟩)
        refine ⟨_, rfl, one, fun N hN => ⟨two, fun q1 h1 => ⟨_, rfl, one, fun O2 hO => ⟨two, fun q2 h2 => ⟨_, rfl, two, fun q3 h3 => ⟨three, fun U2 hU2 => ?_⟩⟩⟩⟩⟩⟩
        have zN := Same.upd (o := .lst (vS ["flag"])) hN
        have z1 := Same.upd (o := .tup [.str "not", .ref N]) h1
        have zO := Same.upd (o := .lst (vS [so])) hO
        have z2 := Same.upd (o := .tup [.str "missing", .ref O2]) h2
        have z3 := Same.upd (o := .tup [.str "less", .ref W]) h3
        have zU2 := Same.upd (o := .lst [.ref q1, .ref q2, .ref q3]) hU2
        have f1 := fm_tup (kind := "flag") (w := "not") (ks := ["flag"]) upd_same (.inr (.inl ⟨"flag", rfl, kF, .inl ⟨rfl, rfl, rfl⟩⟩)) h1
        have f2 := fm_tup (kind := "flag") (w := "missing") (ks := [so]) upd_same (.inr (.inl ⟨so, rfl, hso, .inr ⟨rfl, hso, rfl⟩⟩)) h2
        have f3 := fm_tup ((zN.trans (z1.trans (zO.trans z2))) _ _ eW6) less h3
        have zall := zN.trans (z1.trans (zO.trans (z2.trans (z3.trans zU2))))
        refine ⟨D2, U2, gs, _, rfl, rfl, zall _ _ eD6, upd_same, Nat.le_trans (show gs.length + 3 ≤ 30 by omega) (by decide), fun D3 hD3 => ?_⟩
        have zV := Same.upd (o := .lst (gs ++ [.ref q1, .ref q2, .ref q3])) hD3
        refine ⟨D3, some (.ref G), rfl, zV _ _ (zall _ _ eW6), ⟨_, upd_same, by rw [List.length_append]; show gs.length + 3 ≤ 12; omega, by rw [List.length_append]; show 1 ≤ gs.length + 3; omega, fun v hv => ?_⟩, T6.same (zall.trans zV), S6.trans (Same.b t (zall.trans zV)), (T6.same zall).tape.ne hD3⟩
        rcases List.mem_append.mp hv with hv | hv
        · exact (hf6 v hv).same (zall.trans zV)
        · simp only [List.mem_cons, List.not_mem_nil, or_false] at hv
          rcases hv with rfl | rfl | rfl
          · exact f1.same (zO.trans (z2.trans (z3.trans (zU2.trans zV))))
          · exact f2.same (z3.trans (zU2.trans zV))
          · exact f3.same (zU2.trans zV)
      · exact ite_no k1 ⟨D, none, rfl, eW, ⟨fs, eD, by omega, l1, hf⟩, T4, S4, nD⟩
    clear eW T4 S4 eD lf l1 hf nD D fs
    rintro σ H5 ⟨D, x7, rfl, _, ⟨fs, eD, lf, l1, hf⟩, T5, S5, nD⟩
    -- which
    refine ⟨fun σ H' => ∃ at_ : Int, σ = [some (.ref t), some (.ref L), some (.str kind), some (.int ((n : Int) + 1)), some (.str so), some (.ref W), some (.ref D), x7, some (.int at_), none] ∧ 0 ≤ at_ ∧ H' D = some (.lst fs) ∧ Fms H' kind fs ∧ TapeL c H' t ∧ SameB t H H', ?_, ?_⟩
    · refine ⟨_, rfl, _, rfl, D, fs, rfl, .inl (SqL.of eD), _, _, rfl, rfl, t, c, _, rfl, T5, by omega, big1000 (by omega) (by omega), fun a H6 a0 a1 T6 S6 => ?_⟩
      exact ⟨a, rfl, a0, S6 _ _ nD eD, fun v hv => (hf v hv).b T5.tape S6, T6, S5.trans S6⟩
    clear eD hf T5 S5
    rintro σ H6 ⟨a, rfl, a0, eD, hf, T6, S6⟩
    have leaf : spLf [.ref t, .ref L, .str kind] H6 Q E0 := ⟨t, c, L, kind, xs, ps, rfl, hk, T6, hL.b hT.tape S6, hc.b hT.tape S6, l8, fun v d H2 df xp T2 S2 => k v d H2 (df.t T6.tape) (xp.mono (by omega)) T2 (S6.trans S2)⟩
    refine ⟨_, rfl, _, _, rfl, rfl, _, rfl, ite2 (fun _ => iteT ⟨_, rfl, _, rfl, _, rfl, leaf⟩) (fun nd => ⟨_, rfl, _, rfl, D, fs, rfl, .inl (SqL.of eD), _, _, rfl, rfl, _, rfl, ite2 (fun _ => ⟨_, rfl, _, rfl, _, rfl, leaf⟩) (fun na => ?_)⟩)⟩
    obtain ⟨m, rfl⟩ : ∃ m, n = m + 1 := by
      have : ¬ ((n : Int) + 1 ≤ 1) := fun z => nd (decide_eq_true z)
      exact ⟨n - 1, by omega⟩
    have al : a < (fs.length : Int) := by
      have : ¬ ((fs.length : Int) ≤ a) := fun z => na (decide_eq_true z)
      omega
    obtain ⟨v, ev⟩ : ∃ v, fs[a.toNat]? = some v := ⟨_, List.getElem?_eq_getElem (by omega)⟩
    obtain ⟨p, l, wd, ks, rfl, ep, el, fok⟩ := hf v (List.mem_of_getElem? ev)
    obtain ⟨kk, k1, k3⟩ := fok.ks hk
    have eat : atI fs a = some (.ref p) := at_of (j := a.toNat) (by omega) ev
    refine ⟨_, rfl, _, rfl, D, fs, a, .ref p, rfl, rfl, SqL.of eD, eat, p, _, _, .str wd, rfl, rfl, SqT.of ep, at_of (j := 0) rfl rfl, one, fun q hq => ?_⟩
    have zq := Same.upd (o := .tup [.str wd]) hq
    have eq1 : upd H6 q (.tup [.str wd]) q = some (.tup [.str wd]) := upd_same
    have T7 := T6.same zq
    have S7 := S6.trans (Same.b t zq)
    replace eD := zq _ _ eD
    replace ep := zq _ _ ep
    replace el := zq _ _ el
    generalize upd H6 q (.tup [.str wd]) = H7 at eq1 T7 S7 eD ep el ⊢
    clear zq hq T6 S6 leaf hf nd na
    have nl : l ≠ t := ne_tape T7.tape el
    refine ⟨_, rfl, _, rfl, D, fs, a, .ref p, rfl, rfl, SqL.of eD, eat, p, _, _, .ref l, rfl, rfl, SqT.of ep, at_of (j := 1) rfl rfl, l, rfl, ⟨_, SqL.of el⟩, fun G hG => lc_list (K := K) (a := l) (xs := vS ks) (fun i H' => (∃ ys ds, H' G = some (.lst ys) ∧ DhAll (dl t H') ys ds ∧ Xps ps (m + 1) (ks.take i) ds) ∧ TapeL c H' t ∧ SameB t H7 H') ⟨⟨[], [], upd_same, .nil, .nil⟩, T7.same (Same.upd hG), Same.b t (Same.upd hG)⟩ (fun i H' _ pr => SqL.of (pr.2.2 _ _ nl el)) ?_ ?_⟩
    · rintro i y H8 hi ⟨⟨ys, ds, e8, d8, x8⟩, T8, S8⟩
      rw [List.getElem?_map] at hi
      obtain ⟨g, eg, rfl⟩ := Option.map_eq_some_iff.mp hi
      have nG : G ≠ t := T7.tape.ne hG
      have nGc : G ≠ c := by
        obtain ⟨zs, e⟩ := T7.list
        exact (ne_of_none e hG).symm
      have ly := d8.len
      have lx := x8.len
      rw [List.length_take] at lx
      have S08 := S7.trans S8
      refine ⟨rfl, ?_⟩
      dsimp only [tYes]
      refine iteT ?_
      change teXp (m + 1) _ _ _
      refine ⟨_, rfl, _, rfl, _, rfl, _, rfl, _, _, rfl, rfl, t, c, L, g, xs, ps, ?_, kk g (List.mem_of_getElem? eg), T8, hL.b hT.tape S08, hc.b hT.tape S08, l8, fun v d H9 dv xp T9 S9 => ?_⟩
      · show [V.ref t, V.ref L, V.str g, V.int (((m + 1 : Nat) : Int) + 1 - 1)] = _
        rw [show ((m + 1 : Nat) : Int) + 1 - 1 = (m : Int) + 1 by omega]
      have e9 := S9 _ _ nG e8
      refine ⟨ys, e9, Nat.lt_of_le_of_lt (show ys.length ≤ 3 by omega) (by decide), ⟨ys ++ [v], ds ++ [d], upd_same, ?_, ?_⟩, T9.upd nG nGc, fun b o nb e => by
        by_cases q : b = G
        · subst q
          rw [hG] at e
          cases e
        · rw [upd_ne q]
          exact (S8.trans S9) b o nb e⟩
      · exact DhAll.append (dhtA_upd (dtbA d8 S9) x8.noL e9) (.cons (DhT.upd dv xp.noL e9) .nil)
      · rw [List.take_add_one, eg]
        exact x8.snoc xp
    · rintro H8 ⟨⟨ys, ds, e8, d8, x8⟩, T8, S8⟩
      rw [List.length_map, List.take_length] at x8
      have nq : q ≠ t := T7.tape.neT eq1
      have eq8 := S8 _ _ nq eq1
      have ly := d8.len
      have lx := x8.len
      refine ⟨G, ys, rfl, .inl ⟨SqL.of e8, fun r hr => ?_⟩⟩
      have zr := Same.upd (o := .tup ys) hr
      refine ⟨q, r, [.str wd], ys, rfl, rfl, SqT.of (zr _ _ eq8), SqT.of upd_same, Nat.le_trans (show 1 + ys.length ≤ 30 by omega) (by decide), nofun, fun _ e => ?_, fun _ _ s hs => ?_⟩
      · rw [e] at ly
        change 0 = _ at ly
        omega
      have zs := Same.upd (o := .tup ([.str wd] ++ ys)) hs
      have T9 := T8.same zr
      exact k _ _ _ (dh_tupT T9.tape (.cons (.str _) (dtsA d8 zr)) hs) (fm_xp fok x8) (T9.same zs) ((S7.trans S8).trans (Same.b t (zr.trans zs)))
end
end
end K16
set_option Elab.async false
set_option linter.all false
set_option maxRecDepth 100000
set_option maxHeartbeats 4000000
namespace K16
open PySem PySem.Spec PyProof.Rows L2 Lc
abbrev sChk : Stmt := top 11
abbrev sLow : Stmt := top 12
abbrev sAddR : Stmt := top 13
abbrev sSubR : Stmt := top 14
abbrev sMulR : Stmt := top 15
abbrev sDivR : Stmt := top 16
abbrev sCmpR : Stmt := top 17
def Small (n : Int) : Prop := n.natAbs < 2 ^ 4000
def New2 (H : Hp) (Q : VK) (n d : Int) : Prop := ∀ p, H p = none → Q (.ref p) (upd H p (.tup [.int n, .int d]))
def spLow : Sp := fun vs H Q _ => ∃ n d : Int, vs = [.int n, .int d] ∧ d ≠ 0 ∧ Small d ∧ New2 H Q (lowN (if d < 0 then -n else n) (if d < 0 then -d else d)) (lowD (if d < 0 then -n else n) (if d < 0 then -d else d))
def spChkQ : Sp := fun vs H Q _ => ∃ (v : V), vs = [v] ∧ Rk H v true ∧ Q .non H
def Sm (n : Int) : Prop := n.natAbs < 2 ^ 1000
theorem sm_mul {a b : Int} (ha : Sm a) (hb : Sm b) : (a * b).natAbs < 2 ^ 2000 := by
  unfold Sm at ha hb
  rw [Int.natAbs_mul]
  have e : (2 : Nat) ^ 2000 = 2 ^ 1000 * 2 ^ 1000 := by rw [← Nat.pow_add]
  rw [e]
  exact Nat.mul_lt_mul'' ha hb
theorem mw {a b : Int} (ha : Sm a) (hb : Sm b) : CMulW a b := wide_mul ha hb (by decide) (by decide) (by decide)
theorem small_of {a : Int} (h : a.natAbs < 2 ^ 2000) : Small a := Nat.lt_of_lt_of_le h (Nat.pow_le_pow_right (by decide) (by decide))
abbrev OkQ := Int → Int → Int → Int → Hp → VK → Prop
def spBQ (ok : OkQ) : Sp := fun vs H Q _ => ∃ (p q : Addr) (an ad bn bd : Int), vs = [.ref p, .ref q] ∧ H p = some (.tup [.int an, .int ad]) ∧ H q = some (.tup [.int bn, .int bd]) ∧ Rt an ad ∧ Rt bn bd ∧ Sm an ∧ Sm ad ∧ Sm bn ∧ Sm bd ∧ ok an ad bn bd H Q
def okAdd : OkQ := fun an ad bn bd H Q => New2 H Q (lowN (an * bd + bn * ad) (ad * bd)) (lowD (an * bd + bn * ad) (ad * bd))
def okSub : OkQ := fun an ad bn bd H Q => New2 H Q (lowN (an * bd - bn * ad) (ad * bd)) (lowD (an * bd - bn * ad) (ad * bd))
def okMul : OkQ := fun an ad bn bd H Q => New2 H Q (lowN (an * bn) (ad * bd)) (lowD (an * bn) (ad * bd))
def divN (an ad bn bd : Int) : Int := lowN (if bn < 0 then -(an * bd) else an * bd) (if bn < 0 then -(ad * bn) else ad * bn)
def divD (an ad bn bd : Int) : Int := lowD (if bn < 0 then -(an * bd) else an * bd) (if bn < 0 then -(ad * bn) else ad * bn)
def okDiv : OkQ := fun an ad bn bd H Q => bn ≠ 0 ∧ New2 H Q (divN an ad bn bd) (divD an ad bn bd)
def okCmp : OkQ := fun an ad bn bd H Q => Q (.int (if an * bd < bn * ad then -1 else if bn * ad < an * bd then 1 else 0)) H
section
variable {P : Program} {w : World} {K : PySem.W.Frag} {mg : Str → Option Value} {base : Heap} {f fK fL : Addr} {fd fdK fdL : FuncData}
theorem low_pos {n d : Int} {H : Hp} {Q : VK} (h : 0 < d) (k : New2 H Q (lowN n d) (lowD n d)) : New2 H Q (lowN (if d < 0 then -n else n) (if d < 0 then -d else d)) (lowD (if d < 0 then -n else n) (if d < 0 then -d else d)) := by
  rw [if_neg (by omega : ¬ d < 0), if_neg (by omega : ¬ d < 0)]
  exact k
/-! ## lowest terms -/
theorem log_lt {n : Int} (h : n.natAbs < 2 ^ 4000) : n.natAbs.log2 < 9000 := by
  by_cases z : n.natAbs = 0
  · rw [z]
    decide
  · exact Nat.lt_of_lt_of_le ((Nat.log2_lt z).mpr h) (by decide)
theorem scLow : FnScope ["n", "d", "shared"] ["n", "d"] (defScope sLow) := ⟨rfl, rfl, rfl, by decide +kernel, rfl, by decide +kernel, by decide +kernel⟩
theorem gd_neg2 (a b : Int) : gd (-a) (-b) = gd a b := by unfold gd; rw [Int.neg_gcd, Int.gcd_neg]
theorem ok_low {fC : Addr} {fdC : FuncData} (F : Fun K "lowest_terms" "lowest_terms" sLow f fd) (T : Bt mg) (GC : FnOk P w K mg base CX0 1 fC fdC ["a", "b"] spCd) (mC : mg "common_divisor" = some (.ref fC)) (kC : PySem.W.keepIn K (.ref fC) = true) (bC : Binds K fdC ["a", "b"] []) :
    FnOk P w K mg base CX0 2 f fd ["n", "d"] spLow := by
  refine F.ok scLow (fun vs H Q E h => ?_) (fun cdv A outer s H vs Q E hr h => ?_)
  · obtain ⟨n, d, rfl, _⟩ := h
    rfl
  · obtain ⟨n, d, rfl, hd, hs, k⟩ := h
    refine ⟨_, pss_cons (ps_set (i := 2) scLow.nd rfl (Or.inl rfl) (pe_call GC hr (by rfl) mC kC bC .nil pass0 (pa_cons (pe_callB call_abs (by rfl) T.abs boot_abs (pa_cons (pv 0) pa_nil)) (pa_cons (pe_callB call_abs (by rfl) T.abs boot_abs (pa_cons (pv 1) pa_nil)) pa_nil))))
      (pss_cons (ps_if (pt_cmpR op_lt (pv 1) pe_int (nomark _)) (pss_one (ps_set (i := 2) scLow.nd rfl (Or.inl rfl) (pe_un un_neg (pv 2)))) pss_nil)
      (pss_one (ps_ret (pe_tup (pa_cons (pe_op op_fdivZ (pv 0) (pv 2)) (pa_cons (pe_op op_fdivZ (pv 1) (pv 2)) pa_nil)))))), ?_⟩
    refine ⟨_, rfl, n, rfl, _, rfl, d, rfl, _, _, rfl, by split <;> omega, by split <;> omega, ?_⟩
    rw [gd_abs, gd_abs2]
    have g0 : 0 < gd n d := gd_pos hd
    have gl : (gd n d).natAbs < 2 ^ 4000 := Nat.lt_of_le_of_lt (gd_natAbs_le hd) hs
    refine ⟨_, rfl, _, _, rfl, rfl, _, rfl, ?_⟩
    by_cases z : d < 0
    · rw [decide_eq_true z]
      rw [if_pos z, if_pos z] at k
      refine iteT ⟨_, rfl, _, rfl, ?_⟩
      have l : (-(gd n d)).natAbs.log2 < 9000 := by rw [Int.natAbs_neg]; exact log_lt gl
      refine ⟨_, rfl, _, rfl, _, _, rfl, rfl, ⟨by omega, l⟩, _, rfl, _, rfl, _, _, rfl, rfl, ⟨by omega, l⟩, by show 2 ≤ sizeLine; decide, ?_⟩
      show New2 H Q (n.fdiv (-(gd n d))) (d.fdiv (-(gd n d)))
      rw [fdiv_neg_dvd g0 (gd_dvd1 n d), fdiv_neg_dvd g0 (gd_dvd2 n d)]
      unfold lowN lowD at k
      rw [gd_neg2] at k
      exact k
    · rw [decide_eq_false z]
      rw [if_neg z, if_neg z] at k
      refine iteF ?_
      refine ⟨_, rfl, _, rfl, _, _, rfl, rfl, ⟨by omega, log_lt gl⟩, _, rfl, _, rfl, _, _, rfl, rfl, ⟨by omega, log_lt gl⟩, by show 2 ≤ sizeLine; decide, ?_⟩
      show New2 H Q (n.fdiv (gd n d)) (d.fdiv (gd n d))
      rw [Int.fdiv_eq_ediv_of_nonneg n (gd_nonneg n d), Int.fdiv_eq_ediv_of_nonneg d (gd_nonneg n d)]
      exact k
theorem scChk : FnScope ["value"] ["value"] (defScope sChk) := ⟨rfl, rfl, rfl, by decide +kernel, rfl, by decide +kernel, by decide +kernel⟩
theorem ok_chkQ {fR : Addr} {fdR : FuncData} (F : Fun K "check_rational" "check_rational" sChk f fd) (GR : FnOk P w K mg base CX0 2 fR fdR ["value"] spIsR) (mR : mg "is_rational" = some (.ref fR)) (kR : PySem.W.keepIn K (.ref fR) = true) (bR : Binds K fdR ["value"] []) : FnOk P w K mg base CX0 3 f fd ["value"] spChkQ := by
  refine F.ok scChk (fun vs H Q E h => ?_) (fun cdv A outer s H vs Q E hr h => ?_)
  · obtain ⟨v, rfl, _⟩ := h
    rfl
  · obtain ⟨v, rfl, hk, k⟩ := h
    refine ⟨_, pss_one (ps_if (pt_not (pt_val (pe_call GR hr (by rfl) mR kR bR .nil pass0 (pa_cons (pv 0) pa_nil)))) pss_dead pss_nil), ?_⟩
    exact ⟨_, rfl, v, true, rfl, hk, _, rfl, iteF k⟩
/-- the promises of what they call -/
structure Ar (P : Program) (w : World) (K : PySem.W.Frag) (mg : Str → Option Value) (base : Heap) (fK fL : Addr) (fdK fdL : FuncData) : Prop where
  GK : FnOk P w K mg base CX0 3 fK fdK ["value"] spChkQ
  mK : mg "check_rational" = some (.ref fK)
  kK : PySem.W.keepIn K (.ref fK) = true
  bK : Binds K fdK ["value"] []
  GL : FnOk P w K mg base CX0 2 fL fdL ["n", "d"] spLow
  mL : mg "lowest_terms" = some (.ref fL)
  kL : PySem.W.keepIn K (.ref fL) = true
  bL : Binds K fdL ["n", "d"] []
theorem scAddR : FnScope ["a", "b"] ["a", "b"] (defScope sAddR) := ⟨rfl, rfl, rfl, by decide +kernel, rfl, by decide +kernel, by decide +kernel⟩
theorem ok_add (F : Fun K "add" "add" sAddR f fd) (R : Ar P w K mg base fK fL fdK fdL) : FnOk P w K mg base CX0 4 f fd ["a", "b"] (spBQ okAdd) := by
  refine F.ok scAddR (fun vs H Q E h => ?_) (fun cdv A outer s H vs Q E hr h => ?_)
  · obtain ⟨p, q, an, ad, bn, bd, rfl, _⟩ := h
    rfl
  · obtain ⟨p, q, an, ad, bn, bd, rfl, hp, hq, ra, rb, s1, s2, s3, s4, k⟩ := h
    refine ⟨_, pss_cons (ps_expr (pe_call R.GK hr (by rfl) R.mK R.kK R.bK .nil pass0 (pa_cons (pv 0) pa_nil)))
      (pss_cons (ps_expr (pe_call R.GK hr (by rfl) R.mK R.kK R.bK .nil pass0 (pa_cons (pv 1) pa_nil)))
      (pss_one (ps_ret (pe_call R.GL (hr.mono (by decide)) (by rfl) R.mL R.kL R.bL .nil pass0 (pa_cons (pe_op op_add (pe_op op_mulW (pe_ix ix_tup (pv 0) pe_int (fun _ _ => rfl)) (pe_ix ix_tup (pv 1) pe_int (fun _ _ => rfl))) (pe_op op_mulW (pe_ix ix_tup (pv 1) pe_int (fun _ _ => rfl)) (pe_ix ix_tup (pv 0) pe_int (fun _ _ => rfl))))
        (pa_cons (pe_op op_mulW (pe_ix ix_tup (pv 0) pe_int (fun _ _ => rfl)) (pe_ix ix_tup (pv 1) pe_int (fun _ _ => rfl))) pa_nil)))))), ?_⟩
    · refine ⟨_, rfl, _, rfl, .of hp ra, _, rfl, _, rfl, .of hq rb, ?_⟩
      have dp : 0 < ad * bd := Int.mul_pos ra.pos rb.pos
      refine ⟨_, rfl, p, _, _, _, rfl, rfl, SqT.of hp, rfl, _, rfl, q, _, _, _, rfl, rfl, SqT.of hq, rfl, _, _, rfl, rfl, mw s1 s4, _, rfl, q, _, _, _, rfl, rfl, SqT.of hq, rfl, _, rfl, p, _, _, _, rfl, rfl, SqT.of hp, rfl, _, _, rfl, rfl, mw s3 s2, _, _, rfl, rfl,
        _, rfl, p, _, _, _, rfl, rfl, SqT.of hp, rfl, _, rfl, q, _, _, _, rfl, rfl, SqT.of hq, rfl, _, _, rfl, rfl, mw s2 s4, _, _, rfl, by omega, small_of (sm_mul s2 s4), low_pos dp k⟩
theorem scSubR : FnScope ["a", "b"] ["a", "b"] (defScope sSubR) := ⟨rfl, rfl, rfl, by decide +kernel, rfl, by decide +kernel, by decide +kernel⟩
theorem ok_sub (F : Fun K "subtract" "subtract" sSubR f fd) (R : Ar P w K mg base fK fL fdK fdL) : FnOk P w K mg base CX0 4 f fd ["a", "b"] (spBQ okSub) := by
  refine F.ok scSubR (fun vs H Q E h => ?_) (fun cdv A outer s H vs Q E hr h => ?_)
  · obtain ⟨p, q, an, ad, bn, bd, rfl, _⟩ := h
    rfl
  · obtain ⟨p, q, an, ad, bn, bd, rfl, hp, hq, ra, rb, s1, s2, s3, s4, k⟩ := h
    refine ⟨_, pss_cons (ps_expr (pe_call R.GK hr (by rfl) R.mK R.kK R.bK .nil pass0 (pa_cons (pv 0) pa_nil)))
      (pss_cons (ps_expr (pe_call R.GK hr (by rfl) R.mK R.kK R.bK .nil pass0 (pa_cons (pv 1) pa_nil)))
      (pss_one (ps_ret (pe_call R.GL (hr.mono (by decide)) (by rfl) R.mL R.kL R.bL .nil pass0 (pa_cons (pe_op op_sub (pe_op op_mulW (pe_ix ix_tup (pv 0) pe_int (fun _ _ => rfl)) (pe_ix ix_tup (pv 1) pe_int (fun _ _ => rfl))) (pe_op op_mulW (pe_ix ix_tup (pv 1) pe_int (fun _ _ => rfl)) (pe_ix ix_tup (pv 0) pe_int (fun _ _ => rfl))))
        (pa_cons (pe_op op_mulW (pe_ix ix_tup (pv 0) pe_int (fun _ _ => rfl)) (pe_ix ix_tup (pv 1) pe_int (fun _ _ => rfl))) pa_nil)))))), ?_⟩
    · refine ⟨_, rfl, _, rfl, .of hp ra, _, rfl, _, rfl, .of hq rb, ?_⟩
      have dp : 0 < ad * bd := Int.mul_pos ra.pos rb.pos
      refine ⟨_, rfl, p, _, _, _, rfl, rfl, SqT.of hp, rfl, _, rfl, q, _, _, _, rfl, rfl, SqT.of hq, rfl, _, _, rfl, rfl, mw s1 s4, _, rfl, q, _, _, _, rfl, rfl, SqT.of hq, rfl, _, rfl, p, _, _, _, rfl, rfl, SqT.of hp, rfl, _, _, rfl, rfl, mw s3 s2, _, _, rfl, rfl,
        _, rfl, p, _, _, _, rfl, rfl, SqT.of hp, rfl, _, rfl, q, _, _, _, rfl, rfl, SqT.of hq, rfl, _, _, rfl, rfl, mw s2 s4, _, _, rfl, by omega, small_of (sm_mul s2 s4), low_pos dp k⟩
theorem scMulR : FnScope ["a", "b"] ["a", "b"] (defScope sMulR) := ⟨rfl, rfl, rfl, by decide +kernel, rfl, by decide +kernel, by decide +kernel⟩
theorem ok_mul (F : Fun K "multiply" "multiply" sMulR f fd) (R : Ar P w K mg base fK fL fdK fdL) : FnOk P w K mg base CX0 4 f fd ["a", "b"] (spBQ okMul) := by
  refine F.ok scMulR (fun vs H Q E h => ?_) (fun cdv A outer s H vs Q E hr h => ?_)
  · obtain ⟨p, q, an, ad, bn, bd, rfl, _⟩ := h
    rfl
  · obtain ⟨p, q, an, ad, bn, bd, rfl, hp, hq, ra, rb, s1, s2, s3, s4, k⟩ := h
    refine ⟨_, pss_cons (ps_expr (pe_call R.GK hr (by rfl) R.mK R.kK R.bK .nil pass0 (pa_cons (pv 0) pa_nil)))
      (pss_cons (ps_expr (pe_call R.GK hr (by rfl) R.mK R.kK R.bK .nil pass0 (pa_cons (pv 1) pa_nil)))
      (pss_one (ps_ret (pe_call R.GL (hr.mono (by decide)) (by rfl) R.mL R.kL R.bL .nil pass0 (pa_cons (pe_op op_mulW (pe_ix ix_tup (pv 0) pe_int (fun _ _ => rfl)) (pe_ix ix_tup (pv 1) pe_int (fun _ _ => rfl)))
        (pa_cons (pe_op op_mulW (pe_ix ix_tup (pv 0) pe_int (fun _ _ => rfl)) (pe_ix ix_tup (pv 1) pe_int (fun _ _ => rfl))) pa_nil)))))), ?_⟩
    · refine ⟨_, rfl, _, rfl, .of hp ra, _, rfl, _, rfl, .of hq rb, ?_⟩
      have dp : 0 < ad * bd := Int.mul_pos ra.pos rb.pos
      refine ⟨_, rfl, p, _, _, _, rfl, rfl, SqT.of hp, rfl, _, rfl, q, _, _, _, rfl, rfl, SqT.of hq, rfl, _, _, rfl, rfl, mw s1 s3,
        _, rfl, p, _, _, _, rfl, rfl, SqT.of hp, rfl, _, rfl, q, _, _, _, rfl, rfl, SqT.of hq, rfl, _, _, rfl, rfl, mw s2 s4, _, _, rfl, by omega, small_of (sm_mul s2 s4), low_pos dp k⟩
theorem scDivR : FnScope ["a", "b"] ["a", "b"] (defScope sDivR) := ⟨rfl, rfl, rfl, by decide +kernel, rfl, by decide +kernel, by decide +kernel⟩
theorem ok_div (F : Fun K "divide" "divide" sDivR f fd) (R : Ar P w K mg base fK fL fdK fdL) : FnOk P w K mg base CX0 4 f fd ["a", "b"] (spBQ okDiv) := by
  refine F.ok scDivR (fun vs H Q E h => ?_) (fun cdv A outer s H vs Q E hr h => ?_)
  · obtain ⟨p, q, an, ad, bn, bd, rfl, _⟩ := h
    rfl
  · obtain ⟨p, q, an, ad, bn, bd, rfl, hp, hq, ra, rb, s1, s2, s3, s4, k⟩ := h
    refine ⟨_, pss_cons (ps_expr (pe_call R.GK hr (by rfl) R.mK R.kK R.bK .nil pass0 (pa_cons (pv 0) pa_nil)))
      (pss_cons (ps_expr (pe_call R.GK hr (by rfl) R.mK R.kK R.bK .nil pass0 (pa_cons (pv 1) pa_nil)))
      (pss_cons (ps_if (pt_cmpR op_eq (pe_ix ix_tup (pv 1) pe_int (fun _ _ => rfl)) pe_int (nomark _)) pss_dead pss_nil)
      (pss_one (ps_ret (pe_call R.GL (hr.mono (by decide)) (by rfl) R.mL R.kL R.bL .nil pass0 (pa_cons (pe_op op_mulW (pe_ix ix_tup (pv 0) pe_int (fun _ _ => rfl)) (pe_ix ix_tup (pv 1) pe_int (fun _ _ => rfl)))
        (pa_cons (pe_op op_mulW (pe_ix ix_tup (pv 0) pe_int (fun _ _ => rfl)) (pe_ix ix_tup (pv 1) pe_int (fun _ _ => rfl))) pa_nil))))))), ?_⟩
    · refine ⟨_, rfl, _, rfl, .of hp ra, _, rfl, _, rfl, .of hq rb, ?_⟩
      refine ⟨_, rfl, q, _, _, _, rfl, rfl, SqT.of hq, rfl, rfl, _, rfl, ?_⟩
      obtain ⟨z, k⟩ := k
      · rw [decide_eq_false (show ¬ V.int bn = V.int 0 from fun e => z (by injection e))]
        refine iteF ?_
        unfold divN divD at k
        have az := ra.pos
        have nz : ad * bn ≠ 0 := Int.mul_ne_zero (by omega) z
        have sg : (ad * bn < 0) ↔ (bn < 0) := by
          constructor
          · intro h
            rcases Int.lt_trichotomy bn 0 with g | g | g
            · exact g
            · exact absurd g z
            · have := Int.mul_pos az g
              omega
          · intro h
            exact Int.mul_neg_of_pos_of_neg az h
        refine ⟨_, rfl, p, _, _, _, rfl, rfl, SqT.of hp, rfl, _, rfl, q, _, _, _, rfl, rfl, SqT.of hq, rfl, _, _, rfl, rfl, mw s1 s4,
          _, rfl, p, _, _, _, rfl, rfl, SqT.of hp, rfl, _, rfl, q, _, _, _, rfl, rfl, SqT.of hq, rfl, _, _, rfl, rfl, mw s2 s3, _, _, rfl, nz, small_of (sm_mul s2 s3), ?_⟩
        by_cases ng : bn < 0
        · have ng2 := sg.mpr ng
          rw [if_pos ng, if_pos ng] at k
          rw [if_pos ng2, if_pos ng2]
          exact k
        · have ng2 : ¬ ad * bn < 0 := fun h => ng (sg.mp h)
          rw [if_neg ng, if_neg ng] at k
          rw [if_neg ng2, if_neg ng2]
          exact k
theorem scCmpR : FnScope ["a", "b", "left", "right"] ["a", "b"] (defScope sCmpR) := ⟨rfl, rfl, rfl, by decide +kernel, rfl, by decide +kernel, by decide +kernel⟩
theorem ok_cmp (F : Fun K "compare" "compare" sCmpR f fd) (R : Ar P w K mg base fK fL fdK fdL) : FnOk P w K mg base CX0 4 f fd ["a", "b"] (spBQ okCmp) := by
  refine F.ok scCmpR (fun vs H Q E h => ?_) (fun cdv A outer s H vs Q E hr h => ?_)
  · obtain ⟨p, q, an, ad, bn, bd, rfl, _⟩ := h
    rfl
  · obtain ⟨p, q, an, ad, bn, bd, rfl, hp, hq, ra, rb, s1, s2, s3, s4, k⟩ := h
    refine ⟨_, pss_cons (ps_expr (pe_call R.GK hr (by rfl) R.mK R.kK R.bK .nil pass0 (pa_cons (pv 0) pa_nil)))
      (pss_cons (ps_expr (pe_call R.GK hr (by rfl) R.mK R.kK R.bK .nil pass0 (pa_cons (pv 1) pa_nil)))
      (pss_cons (ps_set (i := 2) scCmpR.nd rfl (Or.inl rfl) (pe_op op_mulW (pe_ix ix_tup (pv 0) pe_int (fun _ _ => rfl)) (pe_ix ix_tup (pv 1) pe_int (fun _ _ => rfl))))
      (pss_cons (ps_set (i := 3) scCmpR.nd rfl (Or.inl rfl) (pe_op op_mulW (pe_ix ix_tup (pv 1) pe_int (fun _ _ => rfl)) (pe_ix ix_tup (pv 0) pe_int (fun _ _ => rfl))))
      (pss_cons (ps_if (pt_cmpR op_lt (pv 2) (pv 3) (nomark _)) (pss_one (ps_ret (pe_un un_neg pe_int))) pss_nil)
      (pss_cons (ps_if (pt_cmpR op_gt (pv 2) (pv 3) (nomark _)) (pss_one (ps_ret pe_int)) pss_nil) (pss_one (ps_ret pe_int))))))), ?_⟩
    · refine ⟨_, rfl, _, rfl, .of hp ra, _, rfl, _, rfl, .of hq rb, ?_⟩
      refine ⟨_, rfl, p, _, _, _, rfl, rfl, SqT.of hp, rfl, _, rfl, q, _, _, _, rfl, rfl, SqT.of hq, rfl, _, _, rfl, rfl, mw s1 s4,
        _, rfl, q, _, _, _, rfl, rfl, SqT.of hq, rfl, _, rfl, p, _, _, _, rfl, rfl, SqT.of hp, rfl, _, _, rfl, rfl, mw s3 s2, _, rfl, _, rfl, _, _, rfl, rfl, _, rfl, ?_⟩
      unfold okCmp at k
      by_cases z : an * bd < bn * ad
      · rw [decide_eq_true z]
        rw [if_pos z] at k
        exact iteT ⟨_, rfl, k⟩
      · rw [decide_eq_false z]
        rw [if_neg z] at k
        refine iteF ⟨_, rfl, _, rfl, _, _, rfl, rfl, _, rfl, ?_⟩
        by_cases z2 : bn * ad < an * bd
        · rw [decide_eq_true z2]
          rw [if_pos z2] at k
          exact iteT k
        · rw [decide_eq_false z2]
          rw [if_neg z2] at k
          exact iteF k
end
end K16
set_option Elab.async false
set_option linter.all false
set_option maxRecDepth 100000
set_option maxHeartbeats 4000000
namespace K16
open PySem PySem.Spec PyProof.Rows L2 Lc
/-! ## what expressions are worth -/
def limD (n d : Int) : PyData := if limB (.int n) (.int d) = true then .tuple [.int n, .int d] else .none
def arD (w : Str) (an ad bn bd : Int) : PyData :=
  if w = "plus" then limD (lowN (an * bd + bn * ad) (ad * bd)) (lowD (an * bd + bn * ad) (ad * bd))
  else if w = "minus" then limD (lowN (an * bd - bn * ad) (ad * bd)) (lowD (an * bd - bn * ad) (ad * bd))
  else if w = "times" then limD (lowN (an * bn) (ad * bd)) (lowD (an * bn) (ad * bd))
  else if w = "over" then (if bn = 0 then .none else limD (divN an ad bn bd) (divD an ad bn bd))
  else .bool (decide (an * bd < bn * ad))
def isN : PyData → Bool
  | .none => true
  | _ => false
def isT : PyData → Bool
  | .bool true => true
  | _ => false
def isF : PyData → Bool
  | .bool false => true
  | _ => false
def bothD (a b : PyData) : PyData := if isF a || isF b then .bool false else if isN a || isN b then .none else .bool true
def eithD (a b : PyData) : PyData := if isT a || isT b then .bool true else if isN a || isN b then .none else .bool false
def numD (w : Str) : PyData → PyData → PyData
  | .tuple [.int an, .int ad], .tuple [.int bn, .int bd] => arD w an ad bn bd
  | _, _ => .none
def twoD (w : Str) (a b : PyData) : PyData :=
  if w = "both" then bothD a b else if w = "either" then eithD a b else if isN a || isN b then .none else if w = "same" then .bool (PyData.eqv a b) else numD w a b
def ifD (a : PyData) : List PyData → PyData
  | [b, c] => if isT a = true then b else c
  | _ => .none
def oneD (w : Str) (a : PyData) (r : List PyData) : PyData := if w = "missing" then .bool (isN a) else if isN a = true then .none else if w = "not" then .bool (isF a) else ifD a r
def opD (w : Str) : List PyData → PyData
  | [a, b] => twoD w a b
  | a :: r => oneD w a r
  | [] => .none
def colOf (row : List (Str × PyData)) : List PyData → PyData
  | [.str z] => (row.lookup z).getD .none
  | _ => .none
def valOf : List PyData → PyData
  | [d] => d
  | _ => .none
mutual
def evD (row : List (Str × PyData)) : PyData → PyData
  | .tuple ds => evW row ds
  | _ => .none
def evW (row : List (Str × PyData)) : List PyData → PyData
  | .str w :: r => if w = ("column" : Str) then colOf row r else if w = ("value" : Str) then valOf r else opD w (evs row r)
  | _ => .none
def evs (row : List (Str × PyData)) : List PyData → List PyData
  | [] => []
  | d :: r => evD row d :: evs row r
end
theorem isN_iff {d : PyData} : isN d = true ↔ d = .none := by cases d <;> simp [isN]
theorem isT_iff {d : PyData} : isT d = true ↔ d = .bool true := by
  cases d with
  | bool b => cases b <;> simp [isT]
  | _ => simp [isT]
theorem isF_iff {d : PyData} : isF d = true ↔ d = .bool false := by
  cases d with
  | bool b => cases b <;> simp [isF]
  | _ => simp [isF]
/-! what a value of a kind is -/
theorem Vk.isnum {k : Str} {d : PyData} (h : Vk k d) (e : k = "number") (nn : d ≠ .none) : ∃ n m : Int, d = .tuple [.int n, .int m] ∧ Rt n m ∧ n.natAbs ≤ 10000000000000000000000000000000000000000 ∧ m.natAbs ≤ 10000000000000000000000000000000000000000 := by
  cases h with
  | non => exact absurd rfl nn
  | num h h1 h2 => exact ⟨_, _, rfl, h, h1, h2⟩
  | flag b => exact absurd e (by decide +kernel)
  | word _ _ => exact absurd e (by decide +kernel)
theorem Vk.isflag {k : Str} {d : PyData} (h : Vk k d) (e : k = "flag") : d = .none ∨ ∃ b, d = .bool b := by
  cases h with
  | non => exact .inl rfl
  | num => exact absurd e (by decide +kernel)
  | flag b => exact .inr ⟨b, rfl⟩
  | word _ _ => exact absurd e (by decide +kernel)
theorem lim_vk {n d : Int} (h : Rt n d) : Vk "number" (limD n d) := by
  unfold limD
  split
  · rename_i z
    have z : (decide ((if n < 0 then -n else n) ≤ lim) && decide (d ≤ lim)) = true := z
    obtain ⟨z1, z2⟩ := Bool.and_eq_true_iff.mp z
    have z1 := of_decide_eq_true z1
    have z2 := of_decide_eq_true z2
    have := h.pos
    unfold lim at z1 z2
    refine .num h ?_ ?_
    · split at z1 <;> omega
    · omega
  · exact .non _
theorem div_rt {an ad bn bd : Int} (ha : Rt an ad) (z : bn ≠ 0) : Rt (divN an ad bn bd) (divD an ad bn bd) := by
  have p := ha.pos
  unfold divN divD
  by_cases g : bn < 0
  · rw [if_pos g, if_pos g]
    have : ad * bn < 0 := Int.mul_neg_of_pos_of_neg p g
    exact low_rt (by omega)
  · rw [if_neg g, if_neg g]
    exact low_rt (Int.mul_pos p (by omega))
theorem ar_vk {w : Str} {an ad bn bd : Int} (ha : Rt an ad) (hb : Rt bn bd) (h : w = "plus" ∨ w = "minus" ∨ w = "times" ∨ w = "over") : Vk "number" (arD w an ad bn bd) := by
  have p : 0 < ad * bd := Int.mul_pos ha.pos hb.pos
  unfold arD
  split
  · exact lim_vk (low_rt p)
  · split
    · exact lim_vk (low_rt p)
    · split
      · exact lim_vk (low_rt p)
      · split
        · split
          · exact .non _
          · rename_i z
            exact lim_vk (div_rt ha z)
        · rename_i n1 n2 n3 n4
          rcases h with h | h | h | h
          · exact absurd h n1
          · exact absurd h n2
          · exact absurd h n3
          · exact absurd h n4
theorem both_vk {a b : PyData} : Vk "flag" (bothD a b) := by
  unfold bothD
  split
  · exact .flag _
  · split
    · exact .non _
    · exact .flag _
theorem eith_vk {a b : PyData} : Vk "flag" (eithD a b) := by
  unfold eithD
  split
  · exact .flag _
  · split
    · exact .non _
    · exact .flag _
theorem two_vk {w k r : Str} {a b : PyData} (h : TwoW w k r) (ha : Vk k a) (hb : Vk k b) : Vk r (twoD w a b) := by
  unfold twoD
  rcases h with ⟨hw, hk, rfl⟩ | ⟨rfl, hk, rfl⟩ | ⟨rfl, hk, rfl⟩ | ⟨hw, hk, rfl⟩
  · have n1 : w ≠ "both" := by rcases hw with rfl | rfl | rfl | rfl <;> decide +kernel
    have n2 : w ≠ "either" := by rcases hw with rfl | rfl | rfl | rfl <;> decide +kernel
    have n3 : w ≠ "same" := by rcases hw with rfl | rfl | rfl | rfl <;> decide +kernel
    rw [if_neg n1, if_neg n2]
    by_cases z : (isN a || isN b) = true
    · rw [if_pos z]
      exact .non _
    · rw [if_neg z, if_neg n3]
      rw [Bool.or_eq_true, isN_iff, isN_iff] at z
      obtain ⟨an, ad, rfl, ra, _⟩ := ha.isnum hk fun e => z (.inl e)
      obtain ⟨bn, bd, rfl, rb, _⟩ := hb.isnum hk fun e => z (.inr e)
      exact ar_vk ra rb hw
  · rw [if_neg (by decide +kernel), if_neg (by decide +kernel)]
    by_cases z : (isN a || isN b) = true
    · rw [if_pos z]
      exact .non _
    · rw [if_neg z, if_neg (by decide +kernel)]
      rw [Bool.or_eq_true, isN_iff, isN_iff] at z
      obtain ⟨an, ad, rfl, ra, _⟩ := ha.isnum hk fun e => z (.inl e)
      obtain ⟨bn, bd, rfl, rb, _⟩ := hb.isnum hk fun e => z (.inr e)
      show Vk "flag" (arD "less" an ad bn bd)
      unfold arD
      rw [if_neg (by decide +kernel), if_neg (by decide +kernel), if_neg (by decide +kernel), if_neg (by decide +kernel)]
      exact .flag _
  · rw [if_neg (by decide +kernel), if_neg (by decide +kernel)]
    by_cases z : (isN a || isN b) = true
    · rw [if_pos z]
      exact .non _
    · rw [if_neg z, if_pos rfl]
      exact .flag _
  · rcases hw with rfl | rfl
    · rw [if_pos rfl]
      exact both_vk
    · rw [if_neg (by decide +kernel), if_pos rfl]
      exact eith_vk
/-- a row's values, by the columns' kinds -/
def RowT (ps : List (Str × Str)) (row : List (Str × PyData)) : Prop := ∀ z k, (z, k) ∈ ps → ∃ d, row.lookup z = some d ∧ Vk k d
theorem ev_col {row : List (Str × PyData)} {z : Str} : evD row (.tuple [.str "column", .str z]) = (row.lookup z).getD .none := by rw [evD, evW, if_pos rfl, colOf]
theorem ev_val {row : List (Str × PyData)} {d : PyData} : evD row (.tuple [.str "value", d]) = d := by rw [evD, evW, if_neg (by decide +kernel), if_pos rfl, valOf]
theorem ev_op {row : List (Str × PyData)} {w : Str} {os : List PyData} (h : ¬ (w = "column" ∨ w = "value")) : evD row (.tuple (.str w :: os)) = opD w (evs row os) := by
  rw [evD, evW, if_neg (fun e => h (.inl e)), if_neg (fun e => h (.inr e))]
theorem evs_get {row : List (Str × PyData)} : ∀ {ds : List PyData} {i : Nat} {d : PyData}, ds[i]? = some d → (evs row ds)[i]? = some (evD row d)
  | [], i, d, e => by simp at e
  | x :: r, 0, d, e => by injection e with e; subst e; rw [evs]; rfl
  | x :: r, i + 1, d, e => by rw [evs]; exact evs_get (ds := r) (i := i) (by simpa using e)
theorem evs_len {row : List (Str × PyData)} : ∀ {ds : List PyData}, (evs row ds).length = ds.length
  | [] => by rw [evs]
  | x :: r => by rw [evs, List.length_cons, List.length_cons, evs_len]
theorem not_two {w k r : Str} (h : OneW w k r) : w = "missing" ∨ w = "not" := by
  rcases h with ⟨h, _⟩ | ⟨h, _⟩
  · exact .inr h
  · exact .inl h
theorem ev_vk {ps : List (Str × Str)} {row : List (Str × PyData)} (R : RowT ps row) {n : Nat} {k : Str} {d : PyData} (h : Xp ps n k d) : Vk k (evD row d) := by
  induction h with
  | col h =>
    obtain ⟨d, e, v⟩ := R _ _ h
    rw [ev_col, e]
    exact v
  | val h _ => rw [ev_val]; exact h
  | @one n w k r a hw ha ia =>
    rw [ev_op hw.no, evs, evs]
    rcases hw with ⟨rfl, rfl, rfl⟩ | ⟨rfl, _, rfl⟩
    · show Vk "flag" (oneD "not" (evD row a) [])
      unfold oneD
      rw [if_neg (by decide +kernel)]
      by_cases z : isN (evD row a) = true
      · rw [if_pos z]; exact .non _
      · rw [if_neg z, if_pos rfl]; exact .flag _
    · show Vk "flag" (oneD "missing" (evD row a) [])
      unfold oneD
      rw [if_pos rfl]
      exact .flag _
  | @two n w k r a b hw ha hb ia ib =>
    rw [ev_op hw.no, evs, evs, evs]
    exact two_vk hw ia ib
  | @iff n k a b c ha hb hc ia ib ic =>
    rw [ev_op (by decide +kernel), evs, evs, evs, evs]
    show Vk k (oneD "if" (evD row a) [evD row b, evD row c])
    unfold oneD
    rw [if_neg (by decide +kernel)]
    by_cases z : isN (evD row a) = true
    · rw [if_pos z]; exact .non _
    · rw [if_neg z, if_neg (by decide +kernel)]
      show Vk k (if isT (evD row a) = true then evD row b else evD row c)
      by_cases y : isT (evD row a) = true
      · rw [if_pos y]; exact ib
      · rw [if_neg y]; exact ic
end K16
set_option Elab.async false
set_option linter.all false
set_option maxRecDepth 100000
set_option maxHeartbeats 4000000
namespace K16
open PySem PySem.Spec PyProof.Rows L2 Lc
abbrev sLim : Stmt := top 41
abbrev sPlus : Stmt := top 42
abbrev sMinus : Stmt := top 43
abbrev sTimes : Stmt := top 44
abbrev sOver : Stmt := top 45
abbrev sLess : Stmt := top 46
abbrev sSame : Stmt := top 47
abbrev sBoth : Stmt := top 48
abbrev sEither : Stmt := top 49
def spLim : Sp := fun vs H Q _ => ∃ (p : Addr) (n d : Int), vs = [.ref p] ∧ H p = some (.tup [.int n, .int d]) ∧ ∀ v H', Same H H' → Dh H' v (limD n d) → Q v H'
def spTwo (w : Str) : Sp := fun vs H Q _ => ∃ (x y : V) (a b : PyData) (k r : Str), vs = [x, y] ∧ Dh H x a ∧ Dh H y b ∧ Vk k a ∧ Vk k b ∧ TwoW w k r ∧ ((w = "both" ∨ w = "either") ∨ (a ≠ .none ∧ b ≠ .none)) ∧ ∀ v H', Same H H' → Dh H' v (twoD w a b) → Q v H'
theorem sm_lim {n : Int} (h : n.natAbs ≤ 10000000000000000000000000000000000000000) : Sm n := Nat.lt_of_le_of_lt h (Nat.lt_of_lt_of_le (show 10000000000000000000000000000000000000000 < 2 ^ 140 by decide) (Nat.pow_le_pow_right (by decide) (by decide)))
theorem dh_pair {H : Hp} {x : V} {n d : Int} (h : Dh H x (.tuple [.int n, .int d])) : ∃ p, x = .ref p ∧ H p = some (.tup [.int n, .int d]) := by
  cases h with
  | tup e hs =>
    cases hs with
    | cons a r =>
      cases r with
      | cons b r =>
        cases r
        cases a
        cases b
        exact ⟨_, rfl, e⟩
theorem twoW_num {w k r : Str} (h : TwoW w k r) (e : w = "plus" ∨ w = "minus" ∨ w = "times" ∨ w = "over" ∨ w = "less") : k = "number" := by
  rcases h with ⟨_, hk, _⟩ | ⟨_, hk, _⟩ | ⟨rfl, _⟩ | ⟨rfl | rfl, _⟩
  · exact hk
  · exact hk
  all_goals exact absurd e (by decide +kernel)
theorem two_num {w : Str} {an ad bn bd : Int} (e : w = "plus" ∨ w = "minus" ∨ w = "times" ∨ w = "over" ∨ w = "less") : twoD w (.tuple [.int an, .int ad]) (.tuple [.int bn, .int bd]) = arD w an ad bn bd := by
  unfold twoD
  have n1 : w ≠ "both" := by rcases e with rfl | rfl | rfl | rfl | rfl <;> decide +kernel
  have n2 : w ≠ "either" := by rcases e with rfl | rfl | rfl | rfl | rfl <;> decide +kernel
  have n3 : w ≠ "same" := by rcases e with rfl | rfl | rfl | rfl | rfl <;> decide +kernel
  rw [if_neg n1, if_neg n2, if_neg (by simp [isN]), if_neg n3]
  rfl
theorem can_str {n : Nat} {x : Str} (h : Sh n x) : (PyData.str x).canLay0 = true := by
  show x.cps.all (· < 0x110000) = true
  rw [Array.all_eq_true]
  intro i hi
  have := h.ok x.cps[i] (by simp)
  simpa using this
theorem Vk.can {k : Str} {d : PyData} (h : Vk k d) : d.canLay0 = true := by
  cases h with
  | non => rfl
  | num => rfl
  | flag => rfl
  | word h _ => exact can_str h
theorem Vk.depth {k : Str} {d : PyData} (h : Vk k d) : d.depth ≤ 1 := by cases h <;> simp [PyData.depth, PyData.depthAll]
theorem Vk.shp {k : Str} {d : PyData} (h : Vk k d) : SeqAt.shaped d = true := Bool.and_eq_true_iff.mpr ⟨h.can, decide_eq_true (Nat.le_trans h.depth (by decide))⟩
theorem Vk.nd {k : Str} {d : PyData} (h : Vk k d) : d.hasDict = false := PyData.hasDict_of_canLay _ (SeqAt.canLay_of_shaped h.shp)
section
variable {P : Program} {w : World} {K : PySem.W.Frag} {mg : Str → Option Value} {base : Heap} {f fW fL fA : Addr} {fd fdW fdL fdA : FuncData}
theorem scLim : FnScope ["number"] ["number"] (defScope sLim) := ⟨rfl, rfl, rfl, by decide +kernel, rfl, by decide +kernel, by decide +kernel⟩
theorem ok_lim (F : Fun K "limited" "limited" sLim f fd) (GW : FnOk P w K mg base CX0 1 fW fdW ["number"] spWithin) (mW : mg "within_limit" = some (.ref fW)) (kW : PySem.W.keepIn K (.ref fW) = true) (bW : Binds K fdW ["number"] []) : FnOk P w K mg base CX0 2 f fd ["number"] spLim := by
  refine F.ok scLim (fun vs H Q E h => ?_) (fun cdv A outer s H vs Q E hr h => ?_)
  · obtain ⟨p, n, d, rfl, _⟩ := h
    rfl
  · obtain ⟨p, n, d, rfl, hp, k⟩ := h
    refine ⟨_, pss_one (ps_ret (pe_ifExp (pt_val (pe_call GW hr (by rfl) mW kW bW .nil pass0 (pa_cons (pv 0) pa_nil))) (pv 0) pe_non)), ?_⟩
    refine ⟨_, rfl, p, n, d, rfl, hp, _, rfl, ?_⟩
    unfold limD at k
    refine ite2 (fun z => ?_) (fun z => ?_)
    · rw [if_pos z] at k
      exact ⟨_, rfl, k _ H (Same.refl H) (.tup hp (.cons (.int n) (.cons (.int d) .nil)))⟩
    · rw [if_neg z] at k
      exact k _ H (Same.refl H) .non
theorem scPlus : FnScope ["a", "b"] ["a", "b"] (defScope sPlus) := ⟨rfl, rfl, rfl, by decide +kernel, rfl, by decide +kernel, by decide +kernel⟩
theorem ok_plus (F : Fun K "plus" "plus" sPlus f fd) (GL : FnOk P w K mg base CX0 2 fL fdL ["number"] spLim) (mL : mg "limited" = some (.ref fL)) (kL : PySem.W.keepIn K (.ref fL) = true) (bL : Binds K fdL ["number"] [])
    (GA : FnOk P w K mg base CX0 4 fA fdA ["a", "b"] (spBQ okAdd)) (mA : mg "add" = some (.ref fA)) (kA : PySem.W.keepIn K (.ref fA) = true) (bA : Binds K fdA ["a", "b"] []) : FnOk P w K mg base CX0 5 f fd ["a", "b"] (spTwo "plus") := by
  refine F.ok scPlus (fun vs H Q E h => ?_) (fun cdv A outer s H vs Q E hr h => ?_)
  · obtain ⟨x, y, a, b, kd, r, rfl, _⟩ := h
    rfl
  · obtain ⟨x, y, a, b, kd, r, rfl, hx, hy, va, vb, tw, nn, k⟩ := h
    refine ⟨_, pss_one (ps_ret (pe_call GL (hr.mono (by decide)) (by rfl) mL kL bL .nil pass0 (pa_cons (pe_call GA hr (by rfl) mA kA bA .nil pass0 (pa_cons (pv 0) (pa_cons (pv 1) pa_nil))) pa_nil))), ?_⟩
    have ek := twoW_num tw (by decide +kernel)
    have nn := nn.resolve_left (by decide +kernel)
    obtain ⟨an, ad, rfl, ra, l1, l2⟩ := va.isnum ek nn.1
    obtain ⟨bn, bd, rfl, rb, l3, l4⟩ := vb.isnum ek nn.2
    obtain ⟨p, rfl, hp⟩ := dh_pair hx
    obtain ⟨q, rfl, hq⟩ := dh_pair hy
    rw [two_num (by decide +kernel)] at k
    refine ⟨_, rfl, _, rfl, p, q, an, ad, bn, bd, rfl, hp, hq, ra, rb, sm_lim l1, sm_lim l2, sm_lim l3, sm_lim l4, fun c hc => ?_⟩
    refine ⟨c, _, _, rfl, upd_same, fun v H' s' hv => k v H' ((Same.upd hc).trans s') ?_⟩
    unfold arD
    rw [if_pos rfl]
    exact hv
theorem scMinus : FnScope ["a", "b"] ["a", "b"] (defScope sMinus) := ⟨rfl, rfl, rfl, by decide +kernel, rfl, by decide +kernel, by decide +kernel⟩
theorem ok_minus (F : Fun K "minus" "minus" sMinus f fd) (GL : FnOk P w K mg base CX0 2 fL fdL ["number"] spLim) (mL : mg "limited" = some (.ref fL)) (kL : PySem.W.keepIn K (.ref fL) = true) (bL : Binds K fdL ["number"] [])
    (GA : FnOk P w K mg base CX0 4 fA fdA ["a", "b"] (spBQ okSub)) (mA : mg "subtract" = some (.ref fA)) (kA : PySem.W.keepIn K (.ref fA) = true) (bA : Binds K fdA ["a", "b"] []) : FnOk P w K mg base CX0 5 f fd ["a", "b"] (spTwo "minus") := by
  refine F.ok scMinus (fun vs H Q E h => ?_) (fun cdv A outer s H vs Q E hr h => ?_)
  · obtain ⟨x, y, a, b, kd, r, rfl, _⟩ := h
    rfl
  · obtain ⟨x, y, a, b, kd, r, rfl, hx, hy, va, vb, tw, nn, k⟩ := h
    refine ⟨_, pss_one (ps_ret (pe_call GL (hr.mono (by decide)) (by rfl) mL kL bL .nil pass0 (pa_cons (pe_call GA hr (by rfl) mA kA bA .nil pass0 (pa_cons (pv 0) (pa_cons (pv 1) pa_nil))) pa_nil))), ?_⟩
    have ek := twoW_num tw (by decide +kernel)
    have nn := nn.resolve_left (by decide +kernel)
    obtain ⟨an, ad, rfl, ra, l1, l2⟩ := va.isnum ek nn.1
    obtain ⟨bn, bd, rfl, rb, l3, l4⟩ := vb.isnum ek nn.2
    obtain ⟨p, rfl, hp⟩ := dh_pair hx
    obtain ⟨q, rfl, hq⟩ := dh_pair hy
    rw [two_num (by decide +kernel)] at k
    refine ⟨_, rfl, _, rfl, p, q, an, ad, bn, bd, rfl, hp, hq, ra, rb, sm_lim l1, sm_lim l2, sm_lim l3, sm_lim l4, fun c hc => ?_⟩
    refine ⟨c, _, _, rfl, upd_same, fun v H' s' hv => k v H' ((Same.upd hc).trans s') ?_⟩
    unfold arD
    rw [if_neg (by decide +kernel), if_pos rfl]
    exact hv
theorem scTimes : FnScope ["a", "b"] ["a", "b"] (defScope sTimes) := ⟨rfl, rfl, rfl, by decide +kernel, rfl, by decide +kernel, by decide +kernel⟩
theorem ok_times (F : Fun K "times" "times" sTimes f fd) (GL : FnOk P w K mg base CX0 2 fL fdL ["number"] spLim) (mL : mg "limited" = some (.ref fL)) (kL : PySem.W.keepIn K (.ref fL) = true) (bL : Binds K fdL ["number"] [])
    (GA : FnOk P w K mg base CX0 4 fA fdA ["a", "b"] (spBQ okMul)) (mA : mg "multiply" = some (.ref fA)) (kA : PySem.W.keepIn K (.ref fA) = true) (bA : Binds K fdA ["a", "b"] []) : FnOk P w K mg base CX0 5 f fd ["a", "b"] (spTwo "times") := by
  refine F.ok scTimes (fun vs H Q E h => ?_) (fun cdv A outer s H vs Q E hr h => ?_)
  · obtain ⟨x, y, a, b, kd, r, rfl, _⟩ := h
    rfl
  · obtain ⟨x, y, a, b, kd, r, rfl, hx, hy, va, vb, tw, nn, k⟩ := h
    refine ⟨_, pss_one (ps_ret (pe_call GL (hr.mono (by decide)) (by rfl) mL kL bL .nil pass0 (pa_cons (pe_call GA hr (by rfl) mA kA bA .nil pass0 (pa_cons (pv 0) (pa_cons (pv 1) pa_nil))) pa_nil))), ?_⟩
    have ek := twoW_num tw (by decide +kernel)
    have nn := nn.resolve_left (by decide +kernel)
    obtain ⟨an, ad, rfl, ra, l1, l2⟩ := va.isnum ek nn.1
    obtain ⟨bn, bd, rfl, rb, l3, l4⟩ := vb.isnum ek nn.2
    obtain ⟨p, rfl, hp⟩ := dh_pair hx
    obtain ⟨q, rfl, hq⟩ := dh_pair hy
    rw [two_num (by decide +kernel)] at k
    refine ⟨_, rfl, _, rfl, p, q, an, ad, bn, bd, rfl, hp, hq, ra, rb, sm_lim l1, sm_lim l2, sm_lim l3, sm_lim l4, fun c hc => ?_⟩
    refine ⟨c, _, _, rfl, upd_same, fun v H' s' hv => k v H' ((Same.upd hc).trans s') ?_⟩
    unfold arD
    rw [if_neg (by decide +kernel), if_neg (by decide +kernel), if_pos rfl]
    exact hv
theorem scOver : FnScope ["a", "b"] ["a", "b"] (defScope sOver) := ⟨rfl, rfl, rfl, by decide +kernel, rfl, by decide +kernel, by decide +kernel⟩
theorem ok_over (F : Fun K "over" "over" sOver f fd) (GL : FnOk P w K mg base CX0 2 fL fdL ["number"] spLim) (mL : mg "limited" = some (.ref fL)) (kL : PySem.W.keepIn K (.ref fL) = true) (bL : Binds K fdL ["number"] [])
    (GA : FnOk P w K mg base CX0 4 fA fdA ["a", "b"] (spBQ okDiv)) (mA : mg "divide" = some (.ref fA)) (kA : PySem.W.keepIn K (.ref fA) = true) (bA : Binds K fdA ["a", "b"] []) : FnOk P w K mg base CX0 5 f fd ["a", "b"] (spTwo "over") := by
  refine F.ok scOver (fun vs H Q E h => ?_) (fun cdv A outer s H vs Q E hr h => ?_)
  · obtain ⟨x, y, a, b, kd, r, rfl, _⟩ := h
    rfl
  · obtain ⟨x, y, a, b, kd, r, rfl, hx, hy, va, vb, tw, nn, k⟩ := h
    refine ⟨_, pss_cons (ps_if (pt_cmpR op_eq (pe_ix ix_tup (pv 1) pe_int (fun _ _ => rfl)) pe_int (nomark _)) (pss_one (ps_ret pe_non)) pss_nil)
      (pss_one (ps_ret (pe_call GL (hr.mono (by decide)) (by rfl) mL kL bL .nil pass0 (pa_cons (pe_call GA hr (by rfl) mA kA bA .nil pass0 (pa_cons (pv 0) (pa_cons (pv 1) pa_nil))) pa_nil)))), ?_⟩
    have ek := twoW_num tw (by decide +kernel)
    have nn := nn.resolve_left (by decide +kernel)
    obtain ⟨an, ad, rfl, ra, l1, l2⟩ := va.isnum ek nn.1
    obtain ⟨bn, bd, rfl, rb, l3, l4⟩ := vb.isnum ek nn.2
    obtain ⟨p, rfl, hp⟩ := dh_pair hx
    obtain ⟨q, rfl, hq⟩ := dh_pair hy
    rw [two_num (by decide +kernel)] at k
    unfold arD at k
    rw [if_neg (by decide +kernel), if_neg (by decide +kernel), if_neg (by decide +kernel), if_pos rfl] at k
    refine ⟨_, rfl, q, _, _, _, rfl, rfl, SqT.of hq, rfl, rfl, _, rfl, ?_⟩
    by_cases z : bn = 0
    · rw [decide_eq_true (show V.int bn = V.int 0 by rw [z])]
      rw [if_pos z] at k
      exact iteT (k _ H (Same.refl H) .non)
    · rw [decide_eq_false (show ¬ V.int bn = V.int 0 from fun e => z (by injection e))]
      rw [if_neg z] at k
      refine iteF ⟨_, rfl, _, rfl, p, q, an, ad, bn, bd, rfl, hp, hq, ra, rb, sm_lim l1, sm_lim l2, sm_lim l3, sm_lim l4, z, fun c hc => ?_⟩
      exact ⟨c, _, _, rfl, upd_same, fun v H' s' hv => k v H' ((Same.upd hc).trans s') hv⟩
theorem scLess : FnScope ["a", "b"] ["a", "b"] (defScope sLess) := ⟨rfl, rfl, rfl, by decide +kernel, rfl, by decide +kernel, by decide +kernel⟩
theorem ok_less (F : Fun K "less" "less" sLess f fd)
    (GA : FnOk P w K mg base CX0 4 fA fdA ["a", "b"] (spBQ okCmp)) (mA : mg "compare" = some (.ref fA)) (kA : PySem.W.keepIn K (.ref fA) = true) (bA : Binds K fdA ["a", "b"] []) : FnOk P w K mg base CX0 5 f fd ["a", "b"] (spTwo "less") := by
  refine F.ok scLess (fun vs H Q E h => ?_) (fun cdv A outer s H vs Q E hr h => ?_)
  · obtain ⟨x, y, a, b, kd, r, rfl, _⟩ := h
    rfl
  · obtain ⟨x, y, a, b, kd, r, rfl, hx, hy, va, vb, tw, nn, k⟩ := h
    refine ⟨_, pss_one (ps_ret (pe_cmpR op_lt (pe_call GA hr (by rfl) mA kA bA .nil pass0 (pa_cons (pv 0) (pa_cons (pv 1) pa_nil))) pe_int (nomark _))), ?_⟩
    have ek := twoW_num tw (by decide +kernel)
    have nn := nn.resolve_left (by decide +kernel)
    obtain ⟨an, ad, rfl, ra, l1, l2⟩ := va.isnum ek nn.1
    obtain ⟨bn, bd, rfl, rb, l3, l4⟩ := vb.isnum ek nn.2
    obtain ⟨p, rfl, hp⟩ := dh_pair hx
    obtain ⟨q, rfl, hq⟩ := dh_pair hy
    rw [two_num (by decide +kernel)] at k
    unfold arD at k
    rw [if_neg (by decide +kernel), if_neg (by decide +kernel), if_neg (by decide +kernel), if_neg (by decide +kernel)] at k
    refine ⟨_, rfl, _, rfl, p, q, an, ad, bn, bd, rfl, hp, hq, ra, rb, sm_lim l1, sm_lim l2, sm_lim l3, sm_lim l4, _, _, rfl, rfl, ?_⟩
    have e : decide ((if an * bd < bn * ad then (-1 : Int) else if bn * ad < an * bd then 1 else 0) < 0) = decide (an * bd < bn * ad) := by
      by_cases z : an * bd < bn * ad
      · rw [if_pos z, decide_eq_true z]; rfl
      · rw [if_neg z, decide_eq_false z]
        split <;> rfl
    show Q (.bl (decide ((if an * bd < bn * ad then (-1 : Int) else if bn * ad < an * bd then 1 else 0) < 0))) H
    rw [e]
    exact k _ H (Same.refl H) (.bl _)
theorem scSame : FnScope ["a", "b"] ["a", "b"] (defScope sSame) := ⟨rfl, rfl, rfl, by decide +kernel, rfl, by decide +kernel, by decide +kernel⟩
theorem ok_same (F : Fun K "same" "same" sSame f fd) : FnOk P w K mg base CX0 5 f fd ["a", "b"] (spTwo "same") := by
  refine F.ok scSame (fun vs H Q E h => ?_) (fun cdv A outer s H vs Q E hr h => ?_)
  · obtain ⟨x, y, a, b, kd, r, rfl, _⟩ := h
    rfl
  · obtain ⟨x, y, a, b, kd, r, rfl, hx, hy, va, vb, tw, nn, k⟩ := h
    refine ⟨_, pss_one (ps_ret (pe_cmpR (op_eqD hr.units) (pv 0) (pv 1) (nomark _))), ?_⟩
    have nn := nn.resolve_left (by decide +kernel)
    have e : twoD "same" a b = .bool (PyData.eqv a b) := by
      unfold twoD
      rw [if_neg (by decide +kernel), if_neg (by decide +kernel), if_neg, if_pos rfl]
      rw [Bool.or_eq_true, isN_iff, isN_iff]
      exact fun z => z.elim nn.1 nn.2
    rw [e] at k
    exact ⟨_, rfl, _, rfl, a, b, hx.dp va.nd, hy.dp vb.nd, va.shp, vb.shp, k _ H (Same.refl H) (.bl _)⟩
theorem dh_isN {H : Hp} {x : V} {a : PyData} (h : Dh H x a) : decide (x = V.non) = isN a := by
  cases h <;> first | rfl | exact decide_eq_false nofun
theorem dh_isB {H : Hp} {x : V} {a : PyData} (h : Dh H x a) : decide (x = V.bl true) = isT a ∧ decide (x = V.bl false) = isF a := by
  cases h with
  | bl b => cases b <;> exact ⟨by decide +kernel, by decide +kernel⟩
  | _ => exact ⟨decide_eq_false nofun, decide_eq_false nofun⟩
theorem scBoth : FnScope ["a", "b"] ["a", "b"] (defScope sBoth) := ⟨rfl, rfl, rfl, by decide +kernel, rfl, by decide +kernel, by decide +kernel⟩
theorem ok_both (F : Fun K "both" "both" sBoth f fd) : FnOk P w K mg base CX0 5 f fd ["a", "b"] (spTwo "both") := by
  refine F.ok scBoth (fun vs H Q E h => ?_) (fun cdv A outer s H vs Q E hr h => ?_)
  · obtain ⟨x, y, a, b, kd, r, rfl, _⟩ := h
    rfl
  · obtain ⟨x, y, a, b, kd, r, rfl, hx, hy, va, vb, tw, nn, k⟩ := h
    refine ⟨_, pss_cons (ps_if (PW.pt (pw_or (pt_cmpR op_isBA (pv 0) pe_bl (nomark _)) (pw_or1 (pt_cmpR op_isBA (pv 1) pe_bl (nomark _))))) (pss_one (ps_ret pe_bl)) pss_nil)
      (pss_one (ps_ret (pe_ifExp (PW.pt (pw_or (pt_cmpR op_isN (pv 0) pe_non (nomark _)) (pw_or1 (pt_cmpR op_isN (pv 1) pe_non (nomark _))))) pe_non pe_bl))), ?_⟩
    have e : twoD "both" a b = bothD a b := by
      unfold twoD
      rw [if_pos rfl]
    rw [e] at k
    unfold bothD at k
    have go : ∀ v H', Same H H' → Dh H' v (if (isF a || isF b) = true then .bool false else if (isN a || isN b) = true then .none else .bool true) → Q v H' := k
    have last : (isF a || isF b) = false → (if (isN a || isN b) = true then Q .non H else Q (.bl true) H) := fun z => by
      rw [z, if_neg (by decide)] at go
      split
      · rename_i y
        rw [if_pos y] at go
        exact go _ H (Same.refl H) .non
      · rename_i y
        rw [if_neg y] at go
        exact go _ H (Same.refl H) (.bl _)
    have fst : (isF a || isF b) = true → Q (.bl false) H := fun z => by
      rw [if_pos z] at go
      exact go _ H (Same.refl H) (.bl _)
    refine ⟨_, rfl, false, rfl, _, rfl, ?_⟩
    rw [(dh_isB hx).2]
    cases q1 : isF a with
    | true => exact iteT (iteT (fst (by rw [q1]; rfl)))
    | false =>
      refine iteF ⟨_, rfl, false, rfl, _, rfl, ?_⟩
      rw [(dh_isB hy).2]
      cases q2 : isF b with
      | true => exact iteT (fst (by rw [q1, q2]; rfl))
      | false =>
        have l := last (by rw [q1, q2]; rfl)
        refine iteF ⟨_, rfl, rfl, _, rfl, ?_⟩
        rw [dh_isN hx]
        cases r1 : isN a with
        | true =>
          rw [r1, Bool.true_or, if_pos rfl] at l
          exact iteT (iteT l)
        | false =>
          refine iteF ⟨_, rfl, rfl, _, rfl, ?_⟩
          rw [dh_isN hy]
          rw [r1, Bool.false_or] at l
          cases r2 : isN b with
          | true =>
            rw [r2, if_pos rfl] at l
            exact iteT l
          | false =>
            rw [r2, if_neg (by decide)] at l
            exact iteF l
theorem scEither : FnScope ["a", "b"] ["a", "b"] (defScope sEither) := ⟨rfl, rfl, rfl, by decide +kernel, rfl, by decide +kernel, by decide +kernel⟩
theorem ok_either (F : Fun K "either" "either" sEither f fd) : FnOk P w K mg base CX0 5 f fd ["a", "b"] (spTwo "either") := by
  refine F.ok scEither (fun vs H Q E h => ?_) (fun cdv A outer s H vs Q E hr h => ?_)
  · obtain ⟨x, y, a, b, kd, r, rfl, _⟩ := h
    rfl
  · obtain ⟨x, y, a, b, kd, r, rfl, hx, hy, va, vb, tw, nn, k⟩ := h
    refine ⟨_, pss_cons (ps_if (PW.pt (pw_or (pt_cmpR op_isBA (pv 0) pe_bl (nomark _)) (pw_or1 (pt_cmpR op_isBA (pv 1) pe_bl (nomark _))))) (pss_one (ps_ret pe_bl)) pss_nil)
      (pss_one (ps_ret (pe_ifExp (PW.pt (pw_or (pt_cmpR op_isN (pv 0) pe_non (nomark _)) (pw_or1 (pt_cmpR op_isN (pv 1) pe_non (nomark _))))) pe_non pe_bl))), ?_⟩
    have e : twoD "either" a b = eithD a b := by
      unfold twoD
      rw [if_neg (by decide +kernel), if_pos rfl]
    rw [e] at k
    unfold eithD at k
    have go : ∀ v H', Same H H' → Dh H' v (if (isT a || isT b) = true then .bool true else if (isN a || isN b) = true then .none else .bool false) → Q v H' := k
    have last : (isT a || isT b) = false → (if (isN a || isN b) = true then Q .non H else Q (.bl false) H) := fun z => by
      rw [z, if_neg (by decide)] at go
      split
      · rename_i y
        rw [if_pos y] at go
        exact go _ H (Same.refl H) .non
      · rename_i y
        rw [if_neg y] at go
        exact go _ H (Same.refl H) (.bl _)
    have fst : (isT a || isT b) = true → Q (.bl true) H := fun z => by
      rw [if_pos z] at go
      exact go _ H (Same.refl H) (.bl _)
    refine ⟨_, rfl, true, rfl, _, rfl, ?_⟩
    rw [(dh_isB hx).1]
    cases q1 : isT a with
    | true => exact iteT (iteT (fst (by rw [q1]; rfl)))
    | false =>
      refine iteF ⟨_, rfl, true, rfl, _, rfl, ?_⟩
      rw [(dh_isB hy).1]
      cases q2 : isT b with
      | true => exact iteT (fst (by rw [q1, q2]; rfl))
      | false =>
        have l := last (by rw [q1, q2]; rfl)
        refine iteF ⟨_, rfl, rfl, _, rfl, ?_⟩
        rw [dh_isN hx]
        cases r1 : isN a with
        | true =>
          rw [r1, Bool.true_or, if_pos rfl] at l
          exact iteT (iteT l)
        | false =>
          refine iteF ⟨_, rfl, rfl, _, rfl, ?_⟩
          rw [dh_isN hy]
          rw [r1, Bool.false_or] at l
          cases r2 : isN b with
          | true =>
            rw [r2, if_pos rfl] at l
            exact iteT l
          | false =>
            rw [r2, if_neg (by decide)] at l
            exact iteF l
end
end K16
set_option Elab.async false
set_option linter.all false
set_option maxRecDepth 100000
set_option maxHeartbeats 4000000
namespace K16
open PySem PySem.Spec PyProof.Rows L2 Lc
abbrev sWt : Stmt := top 54
abbrev sWo : Stmt := top 53
def StrictW (x : Str) : Prop := x = "plus" ∨ x = "minus" ∨ x = "times" ∨ x = "over" ∨ x = "less" ∨ x = "same"
def LenW (x : Str) : Prop := x = "both" ∨ x = "either"
structure TwoA (P : Program) (w : World) (K : PySem.W.Frag) (mg : Str → Option Value) (base : Heap) (sA lA : Addr) : Prop where
  gs : mg "STRICT" = some (.ref sA)
  gl : mg "LENIENT" = some (.ref lA)
  dl : ∃ es n, KDict K w lA es n
  st : ∀ x, StrictW x → PySem.W.nsIn K lA x = some none ∧ ∃ g, KDct K w sA x (.ref g) ∧ Held P w K mg base 5 g (spTwo x)
  le : ∀ x, LenW x → ∃ g, KDct K w lA x (.ref g) ∧ PySem.W.nsIn K lA x = some (some (.ref g)) ∧ Held P w K mg base 5 g (spTwo x)
theorem twoW_or {w k r : Str} (h : TwoW w k r) : LenW w ∨ (StrictW w ∧ ¬ LenW w) := by
  unfold LenW StrictW
  rcases h with ⟨rfl | rfl | rfl | rfl, _⟩ | ⟨rfl, _⟩ | ⟨rfl, _⟩ | ⟨rfl | rfl, _⟩ <;> decide +kernel
def spWt : Sp := fun vs H Q _ => ∃ (wd : Str) (x y : V) (a b : PyData) (k r : Str), vs = [.str wd, x, y] ∧ Dh H x a ∧ Dh H y b ∧ Vk k a ∧ Vk k b ∧ TwoW wd k r ∧ ∀ v H', Same H H' → Dh H' v (twoD wd a b) → Q v H'
section
variable {P : Program} {w : World} {K : PySem.W.Frag} {mg : Str → Option Value} {base : Heap} {f sA lA : Addr} {fd : FuncData}
theorem scWt : FnScope ["word", "a", "b", "weigh", "work"] ["word", "a", "b"] (defScope sWt) := ⟨rfl, rfl, rfl, by decide +kernel, rfl, by decide +kernel, by decide +kernel⟩
theorem ok_wt (F : Fun K "worth_of_two" "worth_of_two" sWt f fd) (A2 : TwoA P w K mg base sA lA) : FnOk P w K mg base CX0 6 f fd ["word", "a", "b"] spWt := by
  refine F.ok scWt (fun vs H Q E h => ?_) (fun cdv A outer s H vs Q E hr h => ?_)
  · obtain ⟨wd, x, y, a, b, kd, r, rfl, _⟩ := h
    rfl
  · obtain ⟨wd, x, y, a, b, kd, r, rfl, hx, hy, va, vb, tw, k⟩ := h
    obtain ⟨es, n, KD⟩ := A2.dl
    obtain ⟨g, hg⟩ : ∃ g, Held P w K mg base 5 g (spTwo wd) ∧ ((LenW wd ∧ KDct K w lA wd (.ref g) ∧ PySem.W.nsIn K lA wd = some (some (.ref g))) ∨ (StrictW wd ∧ ¬ LenW wd ∧ PySem.W.nsIn K lA wd = some none ∧ KDct K w sA wd (.ref g))) := by
      rcases twoW_or tw with l | ⟨l, n⟩
      · obtain ⟨g, h1, h2, h3⟩ := A2.le wd l
        exact ⟨g, h3, .inl ⟨l, h1, h2⟩⟩
      · obtain ⟨h0, g, h1, h3⟩ := A2.st wd l
        exact ⟨g, h3, .inr ⟨l, n, h0, h1⟩⟩
    obtain ⟨hH, hg⟩ := hg
    have AS : ∀ f sp, (fun q => if q = g then some (spTwo wd) else none : Addr → Option Sp) f = some sp → Held P w K mg base 5 f sp := fun f sp e => by
      dsimp only at e
      by_cases z : f = g
      · subst z
        rw [if_pos rfl] at e
        obtain rfl := Option.some.inj e
        exact hH
      · rw [if_neg z] at e
        cases e
    refine ⟨_, pss_cons (ps_if (pt_cmpR (op_in_kd KD) (pv 0) (pe_glob (v := .ref lA) (by rfl) A2.gl rfl) (by rfl)) (pss_cons (ps_set (i := 3) scWt.nd rfl (Or.inl rfl) (pe_ix ix_kdict (pe_glob (v := .ref lA) (by rfl) A2.gl rfl) (pv 0) (fun _ _ => rfl)))
          (pss_one (ps_ret (pe_callA (i := 3) AS hr rfl (Or.inl rfl) (pa_cons (pv 1) (pa_cons (pv 2) pa_nil)))))) pss_nil)
      (pss_cons (ps_if (PW.pt (pw_or (pt_cmpR op_isN (pv 1) pe_non (nomark _)) (pw_or1 (pt_cmpR op_isN (pv 2) pe_non (nomark _))))) (pss_one (ps_ret pe_non)) pss_nil)
      (pss_cons (ps_set (i := 4) scWt.nd rfl (Or.inl rfl) (pe_ix ix_kdict (pe_glob (v := .ref sA) (by rfl) A2.gs rfl) (pv 0) (fun _ _ => rfl)))
      (pss_one (ps_ret (pe_callA (i := 4) AS hr rfl (Or.inl rfl) (pa_cons (pv 1) (pa_cons (pv 2) pa_nil))))))), ?_⟩
    rcases hg with ⟨l, h1, h2⟩ | ⟨l, nl, h2, h1⟩
    · refine ⟨_, rfl, wd, _, rfl, rfl, h2, _, rfl, iteT ⟨_, rfl, lA, wd, _, rfl, rfl, h1, ?_⟩⟩
      exact ⟨g, spTwo wd, rfl, if_pos rfl, _, rfl, _, rfl, x, y, a, b, kd, r, rfl, hx, hy, va, vb, tw, .inl l, k⟩
    · refine ⟨_, rfl, wd, _, rfl, rfl, h2, _, rfl, iteF ?_⟩
      have e : (isN a || isN b) = true → twoD wd a b = .none := fun z => by
        unfold twoD
        rw [if_neg (fun q => nl (.inl q)), if_neg (fun q => nl (.inr q)), if_pos z]
      refine ⟨_, rfl, rfl, _, rfl, ?_⟩
      rw [dh_isN hx]
      cases r1 : isN a with
      | true =>
        rw [e (by rw [r1]; rfl)] at k
        exact iteT (iteT (k _ H (Same.refl H) .non))
      | false =>
        refine iteF ⟨_, rfl, rfl, _, rfl, ?_⟩
        rw [dh_isN hy]
        cases r2 : isN b with
        | true =>
          rw [e (by rw [r1, r2]; rfl)] at k
          exact iteT (k _ H (Same.refl H) .non)
        | false =>
          have n1 : a ≠ .none := fun z => by rw [z] at r1; cases r1
          have n2 : b ≠ .none := fun z => by rw [z] at r2; cases r2
          refine iteF ⟨_, rfl, sA, wd, _, rfl, rfl, h1, ?_⟩
          exact ⟨g, spTwo wd, rfl, if_pos rfl, _, rfl, _, rfl, x, y, a, b, kd, r, rfl, hx, hy, va, vb, tw, .inr ⟨n1, n2⟩, k⟩
end
/-- the dict of a row -/
def RowH (H : Hp) (kvs : List (Key × V)) (row : List (Str × PyData)) : Prop := ∀ z d, row.lookup z = some d → ∃ v, valV kvs (Sum.inr z : Key) = some v ∧ Dh H v d
theorem RowH.same {H H' : Hp} {kvs : List (Key × V)} {row : List (Str × PyData)} (h : RowH H kvs row) (s : Same H H') : RowH H' kvs row := fun z d e => by
  obtain ⟨v, h1, h2⟩ := h z d e
  exact ⟨v, h1, h2.same s⟩
def spWo (n : Nat) : Sp := fun vs H Q _ => ∃ (g : Addr) (x : V) (kvs : List (Key × V)) (row : List (Str × PyData)) (ps : List (Str × Str)) (d : PyData) (k : Str), vs = [.ref g, x] ∧ H g = some (.dK kvs) ∧ RowH H kvs row ∧ RowT ps row ∧ Dh H x d ∧ Xp ps n k d ∧ ∀ v H', Same H H' → Dh H' v (evD row d) → Q v H'
theorem opk_evs {ps : List (Str × Str)} {row : List (Str × PyData)} (R : RowT ps row) {n : Nat} {ks : List Str} {os : List PyData} (h : Xps ps n ks os) : ∀ (i : Nat) (k : Str), ks[i]? = some k → ∃ d, (evs row os)[i]? = some d ∧ Vk k d := by
  induction h with
  | nil => intro i k e; simp at e
  | cons h r ih =>
    intro i k e
    rw [evs]
    match i, e with
    | 0, e => injection e with e; subst e; exact ⟨_, rfl, ev_vk R h⟩
    | i + 1, e => exact ih i k (by simpa using e)
section
variable {P : Program} {w : World} {K : PySem.W.Frag} {mg : Str → Option Value} {base : Heap} {f fT : Addr} {fd fdT : FuncData}
abbrev nWo : List Str := ["row", "part", "word", "operands", "operand"]
theorem scWo : FnScope nWo ["row", "part"] (defScope sWo) := ⟨rfl, rfl, rfl, by decide +kernel, rfl, by decide +kernel, by decide +kernel⟩
abbrev teWo (n : Nat) : TE := tCall (spWo n) [] E0 (tCons (tVar 0) (tCons (tVar 4) tNil))
theorem ok_wo1 (n : Nat) (F : Fun K "worth" "worth" sWo f fd) (T : Bt mg)
    (GT : FnOk P w K mg base CX0 6 fT fdT ["word", "a", "b"] spWt) (mT : mg "worth_of_two" = some (.ref fT)) (kT : PySem.W.keepIn K (.ref fT) = true) (bT : Binds K fdT ["word", "a", "b"] [])
    (GX : FnOk P w K mg base CX0 (6 + n) f fd ["row", "part"] (spWo n)) (mX : mg "worth" = some (.ref f)) (kX : PySem.W.keepIn K (.ref f) = true) (bX : Binds K fd ["row", "part"] []) : FnOk P w K mg base CX0 (6 + n + 1) f fd ["row", "part"] (spWo (n + 1)) := by
  refine F.ok scWo (fun vs H Q E h => ?_) (fun cdv A outer s H vs Q E hr h => ?_)
  · obtain ⟨g, x, kvs, row, ps, d, k, rfl, _⟩ := h
    rfl
  · obtain ⟨g, x, kvs, row, ps, d, kd, rfl, hg, rh, rt, hd, xp, k⟩ := h
    have hr6 : Room 6 _ := hr.mono (by omega)
    refine ⟨_, pss_cons (ps_set (i := 2) scWo.nd rfl (Or.inl rfl) (pe_ix ix_tup (pv 1) pe_int (fun _ _ => rfl)))
      (pss_cons (ps_if (pt_cmpR op_eq (pv 2) pe_str (nomark _)) (pss_one (ps_ret (pe_dget (hu_of hr) (pv 0) (pe_ix ix_tup (pv 1) pe_int (fun _ _ => rfl)) (fun _ _ => rfl)))) pss_nil)
      (pss_cons (ps_if (pt_cmpR op_eq (pv 2) pe_str (nomark _)) (pss_one (ps_ret (pe_ix ix_tup (pv 1) pe_int (fun _ _ => rfl)))) pss_nil)
      (pss_cons (ps_setLc (i := 3) (own := [("operand", 4)]) (g := gName 4) (tt := tYes) (te := teWo n) (by rfl) scWo.nd rfl rfl (sw_true rfl rfl rfl (by decide +kernel)) (pi_tup (pe_slice sl_tup (pv 1) (po_some pe_int) po_none)) (blkOk_by (own := [("operand", 4)]) (N := nWo) (sc := defScope sWo) (by decide +kernel))
          (fun _ _ _ _ _ => pg_name (i := 4) scWo.nd rfl (.inl rfl)) (fun _ _ _ _ _ => pts_nil) (fun _ _ _ _ _ => pe_call GX hr (by rfl) mX kX bX .nil pass0 (pa_cons (pv 0) (pa_cons (pv 4) pa_nil))))
      (pss_cons (ps_if (pt_cmpR op_eq (pe_callB call_len_seq (by rfl) T.len PySem.boot_len (pa_cons (pv 3) pa_nil)) pe_int (nomark _)) (pss_one (ps_ret (pe_call GT hr6 (by rfl) mT kT bT .nil pass0 (pa_cons (pv 2) (pa_cons (pe_ix ix_list (pv 3) pe_int (fun _ _ => rfl)) (pa_cons (pe_ix ix_list (pv 3) pe_int (fun _ _ => rfl)) pa_nil)))))) pss_nil)
      (pss_cons (ps_if (pt_cmpR op_eq (pv 2) pe_str (nomark _)) (pss_one (ps_ret (pe_cmpR op_isN (pe_ix ix_list (pv 3) pe_int (fun _ _ => rfl)) pe_non (nomark _)))) pss_nil)
      (pss_cons (ps_if (pt_cmpR op_isN (pe_ix ix_list (pv 3) pe_int (fun _ _ => rfl)) pe_non (nomark _)) (pss_one (ps_ret pe_non)) pss_nil)
      (pss_cons (ps_if (pt_cmpR op_eq (pv 2) pe_str (nomark _)) (pss_one (ps_ret (pe_cmpR op_isBA (pe_ix ix_list (pv 3) pe_int (fun _ _ => rfl)) pe_bl (nomark _)))) pss_nil)
      (pss_one (ps_ret (pe_ifExp (pt_cmpR op_isBA (pe_ix ix_list (pv 3) pe_int (fun _ _ => rfl)) pe_bl (nomark _)) (pe_ix ix_list (pv 3) pe_int (fun _ _ => rfl)) (pe_ix ix_list (pv 3) pe_int (fun _ _ => rfl)))))))))))), ?_⟩
    have sE : ∀ (a b : Str), decide (V.str a = V.str b) = decide (a = b) := fun a b => decide_eq_decide.mpr ⟨fun e => by injection e, fun e => by rw [e]⟩
    obtain ⟨ds0, rfl⟩ : ∃ ds0, d = .tuple ds0 := by rcases xp.ops2 with ⟨_, _, _, e, _⟩ | ⟨_, _, _, _, e, _⟩ <;> exact ⟨_, e⟩
    cases hd with
    | @tup a ys0 _ ea hs0 =>
    rcases xp.ops2 with ⟨wd, x, hw, ed, lf⟩ | ⟨wd, os, ks, hw, ed, ok, xs⟩
    · injection ed with ed
      subst ed
      cases hs0 with
      | cons h1 r1 =>
      cases h1
      cases r1 with
      | @cons v2 _ _ _ h2 r2 =>
      cases r2
      refine ⟨_, rfl, a, _, _, .str wd, rfl, rfl, SqT.of ea, at_zero, ?_⟩
      refine ⟨_, rfl, rfl, _, rfl, ?_⟩
      rw [sE]
      rcases lf with ⟨rfl, z, rfl, hz⟩ | ⟨rfl, _, _, _⟩
      · rw [decide_eq_true rfl]
        cases h2
        obtain ⟨dv, e1, _⟩ := rt z kd hz
        obtain ⟨vv, e2, e3⟩ := rh z dv e1
        refine iteT ⟨_, rfl, _, rfl, a, _, _, .str z, rfl, rfl, SqT.of ea, rfl, g, vv, rfl, ?_, ?_⟩
        · have q := DGet.k (k := (Sum.inr z : Key)) hg
          rw [e2] at q
          exact q
        · rw [ev_col, e1] at k
          exact k vv H (Same.refl H) e3
      · rw [decide_eq_false (show ("value" : Str) ≠ "column" by decide +kernel)]
        refine iteF ⟨_, rfl, rfl, _, rfl, ?_⟩
        rw [decide_eq_true rfl]
        rw [ev_val] at k
        exact iteT ⟨_, rfl, a, _, _, v2, rfl, rfl, SqT.of ea, rfl, k v2 H (Same.refl H) h2⟩
    · injection ed with ed
      subst ed
      cases hs0 with
      | @cons _ ys _ _ h1 r1 =>
      cases h1
      have ly := r1.len
      have lk := xs.len
      rw [ev_op hw] at k
      refine ⟨_, rfl, a, _, _, .str wd, rfl, rfl, SqT.of ea, at_zero, ?_⟩
      refine ⟨_, rfl, rfl, _, rfl, ?_⟩
      rw [sE, decide_eq_false (fun z => hw (.inl z))]
      refine iteF ⟨_, rfl, rfl, _, rfl, ?_⟩
      rw [sE, decide_eq_false (fun z => hw (.inr z))]
      refine iteF ⟨_, rfl, 1, rfl, a, _, rfl, SqT.of ea, tail_not, fun p hp => ?_⟩
      rw [cut_tail]
      have zp := Same.upd (o := .tup ys) hp
      have hp2 : upd H p (.tup ys) p = some (.tup ys) := upd_same
      generalize upd H p (.tup ys) = H2 at zp hp2 ⊢
      have l3 : os.length ≤ 3 := by obtain ⟨_, _, _, l3⟩ := ok.ne; omega
      refine ⟨p, rfl, ⟨_, SqT.of hp2⟩, fun D hD => lc_tup (K := K) (a := p) (xs := ys) (fun i H' => ∃ us : List V, H' D = some (.lst us) ∧ DhAll H' us ((evs row os).take i) ∧ Same H2 H') ⟨[], upd_same, by rw [List.take_zero]; exact .nil, Same.upd hD⟩ (fun i H' _ pr => by obtain ⟨_, _, _, s⟩ := pr; exact SqT.of (s _ _ hp2)) ?_ ?_⟩
      · rintro i x H3 hx ⟨us, hD3, hu3, s3⟩
        obtain ⟨o, eo, dh⟩ := r1.get _ _ hx
        obtain ⟨kk, ekk, xo⟩ := xs.get i o eo
        have s03 := zp.trans s3
        refine ⟨rfl, ?_⟩
        change teWo n _ _ _
        refine ⟨_, rfl, _, rfl, g, x, kvs, row, ps, o, kk, rfl, s03 _ _ hg, rh.same s03, rt, dh.same s03, xo, fun v H4 s4 hv => ⟨us, s4 _ _ hD3, ?_, us ++ [v], upd_same, ?_, fun b o' eb => by rw [upd_ne (ne_of_none eb hD)]; exact s4 b o' (s3 b o' eb)⟩⟩
        · have := hu3.len
          rw [List.length_take] at this
          exact Nat.lt_of_le_of_lt (show _ ≤ 3 by rw [this, evs_len]; omega) (by decide)
        · have nl : ∀ {H5 : Hp} {v : V} {d : PyData} {kq : Str}, Dh H5 v d → Vk kq d → ∀ {o : HO}, H5 D = some (.lst us) → Dh (upd H5 D o) v d := fun {H5 v d kq} h5 vk {o} e5 => h5.t (SameT.lst e5) vk.noL
          have hu4 := DhAll.same s4 hu3
          have ee := evs_get (row := row) eo
          rw [List.take_add_one, ee]
          refine DhAll.append ?_ (.cons (nl hv (ev_vk rt xo) (s4 _ _ hD3)) .nil)
          refine DhAll.t (SameT.lst (s4 _ _ hD3)) hu4 (noLs_all.mpr fun d hd => ?_)
          obtain ⟨j, hj⟩ := List.mem_iff_getElem?.mp (List.mem_of_mem_take hd)
          have hlt : j < os.length := by
            have := (List.getElem?_eq_some_iff.mp hj).1
            rwa [evs_len] at this
          obtain ⟨kj, ej, xj⟩ := xs.get j _ (List.getElem?_eq_getElem hlt)
          have e2 := evs_get (row := row) (List.getElem?_eq_getElem hlt)
          rw [hj] at e2
          rw [Option.some.inj e2]
          exact (ev_vk rt xj).noL
      · rintro H3 ⟨us, hD3, hu3, s3⟩
        rw [ly, ← evs_len (row := row) (ds := os), List.take_length] at hu3
        have s03 := zp.trans s3
        have vks := opk_evs rt xs
        cases ok with
        | @two wd' kq rq hw2 =>
          cases xs with
          | @cons _ _ o1 _ _ xr =>
          cases xr with
          | @cons _ _ o2 _ _ xr =>
          cases xr
          rw [evs, evs, evs] at hu3 vks k
          cases hu3 with
          | @cons u1 _ _ _ g1 q1 =>
          cases q1 with
          | @cons u2 _ _ _ g2 q2 =>
          cases q2
          obtain ⟨d1, e1, w1⟩ := vks 0 _ rfl
          obtain ⟨d2, e2, w2⟩ := vks 1 _ rfl
          obtain rfl := Option.some.inj e1
          obtain rfl := Option.some.inj e2
          refine ⟨_, rfl, D, _, rfl, .inl (SqL.of hD3), rfl, _, rfl, iteT ?_⟩
          exact ⟨_, rfl, _, rfl, D, _, _, u1, rfl, rfl, SqL.of hD3, rfl, _, rfl, D, _, _, u2, rfl, rfl, SqL.of hD3, rfl, wd, u1, u2, _, _, _, _, rfl, g1, g2, w1, w2, hw2, fun v H4 s4 hv => k v H4 (s03.trans s4) hv⟩
        | @one wd' kq rq hw1 =>
          cases xs with
          | @cons _ _ o1 _ _ xr =>
          cases xr
          rw [evs, evs] at hu3 vks k
          cases hu3 with
          | @cons u1 _ _ _ g1 q1 =>
          cases q1
          have kk : ∀ v H', Same H H' → Dh H' v (if wd = "missing" then .bool (isN (evD row o1)) else if isN (evD row o1) = true then .none else if wd = "not" then .bool (isF (evD row o1)) else .none) → Q v H' := k
          refine ⟨_, rfl, D, _, rfl, .inl (SqL.of hD3), rfl, _, rfl, iteF ?_⟩
          refine ⟨_, rfl, rfl, _, rfl, ?_⟩
          rw [sE]
          by_cases m : wd = "missing"
          · rw [decide_eq_true m]
            rw [if_pos m] at kk
            refine iteT ⟨_, rfl, D, _, _, u1, rfl, rfl, SqL.of hD3, rfl, rfl, ?_⟩
            rw [dh_isN g1]
            exact kk _ H3 s03 (.bl _)
          · rw [decide_eq_false m]
            rw [if_neg m] at kk
            have nt : wd = "not" := (not_two hw1).resolve_left m
            rw [if_pos nt] at kk
            refine iteF ⟨_, rfl, D, _, _, u1, rfl, rfl, SqL.of hD3, rfl, rfl, _, rfl, ?_⟩
            rw [dh_isN g1]
            refine ite2 (fun z => ?_) (fun z => ?_)
            · rw [if_pos z] at kk
              exact kk _ H3 s03 .non
            · rw [if_neg z] at kk
              refine ⟨_, rfl, rfl, _, rfl, ?_⟩
              rw [sE, decide_eq_true nt]
              refine iteT ⟨_, rfl, D, _, _, u1, rfl, rfl, SqL.of hD3, rfl, false, rfl, ?_⟩
              rw [(dh_isB g1).2]
              exact kk _ H3 s03 (.bl _)
        | iff =>
          cases xs with
          | @cons _ _ o1 _ _ xr =>
          cases xr with
          | @cons _ _ o2 _ _ xr =>
          cases xr with
          | @cons _ _ o3 _ _ xr =>
          cases xr
          rw [evs, evs, evs, evs] at hu3 vks k
          cases hu3 with
          | @cons u1 _ _ _ g1 q1 =>
          cases q1 with
          | @cons u2 _ _ _ g2 q2 =>
          cases q2 with
          | @cons u3 _ _ _ g3 q3 =>
          cases q3
          have kk : ∀ v H', Same H H' → Dh H' v (if ("if" : Str) = "missing" then .bool (isN (evD row o1)) else if isN (evD row o1) = true then .none else if ("if" : Str) = "not" then .bool (isF (evD row o1)) else if isT (evD row o1) = true then evD row o2 else evD row o3) → Q v H' := k
          rw [if_neg (by decide +kernel), if_neg (show ¬ ("if" : Str) = "not" by decide +kernel)] at kk
          refine ⟨_, rfl, D, _, rfl, .inl (SqL.of hD3), rfl, _, rfl, iteF ?_⟩
          refine ⟨_, rfl, rfl, _, rfl, ?_⟩
          rw [sE, decide_eq_false (by decide +kernel)]
          refine iteF ⟨_, rfl, D, _, _, u1, rfl, rfl, SqL.of hD3, rfl, rfl, _, rfl, ?_⟩
          rw [dh_isN g1]
          refine ite2 (fun z => ?_) (fun z => ?_)
          · rw [if_pos z] at kk
            exact kk _ H3 s03 .non
          · rw [if_neg z] at kk
            refine ⟨_, rfl, rfl, _, rfl, ?_⟩
            rw [sE, decide_eq_false (by decide +kernel)]
            refine iteF ⟨_, rfl, D, _, _, u1, rfl, rfl, SqL.of hD3, rfl, true, rfl, _, rfl, ?_⟩
            rw [(dh_isB g1).1]
            refine ite2 (fun z => ?_) (fun z => ?_)
            · rw [if_pos z] at kk
              exact ⟨_, rfl, D, _, _, u2, rfl, rfl, SqL.of hD3, rfl, kk _ H3 s03 g2⟩
            · rw [if_neg z] at kk
              exact ⟨_, rfl, D, _, _, u3, rfl, rfl, SqL.of hD3, rfl, kk _ H3 s03 g3⟩
theorem ok_wo (F : Fun K "worth" "worth" sWo f fd) (T : Bt mg)
    (GT : FnOk P w K mg base CX0 6 fT fdT ["word", "a", "b"] spWt) (mT : mg "worth_of_two" = some (.ref fT)) (kT : PySem.W.keepIn K (.ref fT) = true) (bT : Binds K fdT ["word", "a", "b"] [])
    (mX : mg "worth" = some (.ref f)) (kX : PySem.W.keepIn K (.ref f) = true) (bX : Binds K fd ["row", "part"] []) : ∀ n : Nat, FnOk P w K mg base CX0 (6 + n) f fd ["row", "part"] (spWo n)
  | 0 => fn_weak (sp' := fun _ _ _ _ => False) (fun _ _ _ _ ⟨_, _, _, _, _, _, _, _, _, _, _, _, xp, _⟩ => xp.zero.elim) fn_none
  | n + 1 => ok_wo1 n F T GT mT kT bT (ok_wo F T GT mT kT bT mX kX bX n) mX kX bX
end
end K16
set_option Elab.async false
set_option linter.all false
set_option maxRecDepth 100000
set_option maxHeartbeats 4000000
namespace K16
open PySem PySem.Spec PyProof.Rows L2 Lc
abbrev sKo : Stmt := top 33
abbrev sEv : Stmt := top 52
theorem take_new : ∀ {ps : List (Str × Str)} {i : Nat} {p : Str × Str}, (ps.map (·.1)).Nodup → ps[i]? = some p → ∀ q ∈ ps.take i, q.1 ≠ p.1
  | [], i, p, _, e => by simp at e
  | a :: r, 0, p, _, _ => by simp
  | a :: r, i + 1, p, nd, e => by
    have e' : r[i]? = some p := by simpa using e
    rw [List.map_cons, List.nodup_cons] at nd
    intro q hq
    rw [List.take_succ_cons] at hq
    rcases List.mem_cons.mp hq with rfl | hq
    · exact fun z => nd.1 (List.mem_map.mpr ⟨p, List.mem_of_getElem? e', z.symm⟩)
    · exact take_new nd.2 e' q hq
theorem kdp_put {kvs : List (Key × V)} {ps : List (Str × Str)} {i : Nat} {z k : Str} (nd : (ps.map (·.1)).Nodup) (e : ps[i]? = some (z, k)) (h : KdP kvs (ps.take i)) : KdP (putK kvs (Sum.inr z : Key) (.str k)) (ps.take (i + 1)) := by
  intro z' k' hm
  rw [List.take_add_one, e] at hm
  rw [valV_put]
  rcases List.mem_append.mp hm with hm | hm
  · have ne := take_new nd e _ hm
    rw [if_neg (fun q => ne (by injection q))]
    exact h z' k' hm
  · have q : (z', k') = (z, k) := by simpa using hm
    injection q with q1 q2
    subst q1 q2
    rw [if_pos rfl]
theorem Vks.noL : ∀ {ks : List Str} {ds : List PyData}, Vks ks ds → ∀ d ∈ ds, noL d = true
  | _, _, .nil => nofun
  | _, _, .cons h r => fun d hd => by
    rcases List.mem_cons.mp hd with rfl | hd
    · exact h.noL
    · exact r.noL d hd
def rowOf (ps : List (Str × Str)) (ds : List PyData) : List (Str × PyData) := (ps.map (·.1)).zip ds
theorem look_new {row : List (Str × PyData)} {z : Str} (h : ∀ q ∈ row, q.1 ≠ z) : row.lookup z = none := by
  induction row with
  | nil => rfl
  | cons a r ih =>
    obtain ⟨a1, a2⟩ := a
    have n : (z == a1) = false := by
      rw [beq_eq_false_iff_ne]
      exact fun e => h _ List.mem_cons_self e.symm
    rw [List.lookup_cons, n]
    exact ih fun q hq => h q (List.mem_cons_of_mem _ hq)
theorem rowH_put {H : Hp} {kvs : List (Key × V)} {row : List (Str × PyData)} {z : Str} {v : V} {d : PyData} (new : ∀ q ∈ row, q.1 ≠ z) (h : RowH H kvs row) (hv : Dh H v d) : RowH H (putK kvs (Sum.inr z : Key) v) (row ++ [(z, d)]) := by
  intro z' d' e
  rw [List.lookup_append] at e
  rw [valV_put]
  by_cases q : z' = z
  · subst q
    rw [look_new new] at e
    have e : ([(z', d)] : List (Str × PyData)).lookup z' = some d' := e
    rw [List.lookup_cons, beq_self_eq_true] at e
    obtain rfl := Option.some.inj e
    exact ⟨v, if_pos rfl, hv⟩
  · rw [if_neg (fun y => q (by injection y))]
    cases l : row.lookup z' with
    | some d0 =>
      rw [l] at e
      obtain rfl : d0 = d' := Option.some.inj e
      exact h z' _ l
    | none =>
      rw [l] at e
      have e : ([(z, d)] : List (Str × PyData)).lookup z' = some d' := e
      rw [List.lookup_cons, beq_eq_false_iff_ne.mpr q] at e
      cases e
theorem rowT_of : ∀ {ps : List (Str × Str)} {ds : List PyData}, (ps.map (·.1)).Nodup → Vks (ps.map (·.2)) ds → RowT ps (rowOf ps ds)
  | [], _, _, _ => nofun
  | (z, k) :: r, ds, nd, h => by
    rw [List.map_cons] at h nd
    rw [List.nodup_cons] at nd
    cases h with
    | @cons _ d _ ds' hd hr =>
    intro z' k' hm
    show ∃ d', ((z, d) :: rowOf r ds').lookup z' = some d' ∧ Vk k' d'
    rw [List.lookup_cons]
    rcases List.mem_cons.mp hm with e | hm
    · injection e with e1 e2
      subst e1 e2
      rw [beq_self_eq_true]
      exact ⟨d, rfl, hd⟩
    · have ne : z' ≠ z := fun e => nd.1 (List.mem_map.mpr ⟨_, hm, e⟩)
      rw [beq_eq_false_iff_ne.mpr ne]
      exact rowT_of nd.2 hr z' k' hm
theorem row_take {ps : List (Str × Str)} {ds : List PyData} {i : Nat} {z k : Str} {d : PyData} (e1 : ps[i]? = some (z, k)) (e2 : ds[i]? = some d) : (rowOf ps ds).take (i + 1) = (rowOf ps ds).take i ++ [(z, d)] := by
  have e : (rowOf ps ds)[i]? = some (z, d) := by
    unfold rowOf
    rw [List.getElem?_zip_eq_some]
    exact ⟨by rw [List.getElem?_map, e1]; rfl, e2⟩
  rw [List.take_add_one, e]
  rfl
theorem row_new {ps : List (Str × Str)} {ds : List PyData} {i : Nat} {z k : Str} (nd : (ps.map (·.1)).Nodup) (e : ps[i]? = some (z, k)) : ∀ q ∈ (rowOf ps ds).take i, q.1 ≠ z := by
  intro q hq
  unfold rowOf at hq
  have hm : q.1 ∈ (ps.take i).map (·.1) := by
    obtain ⟨j, hj⟩ := List.mem_iff_getElem?.mp hq
    rw [List.getElem?_take] at hj
    rw [List.map_take]
    by_cases lt : j < i
    · rw [if_pos lt] at hj
      obtain ⟨a, b⟩ := q
      have h1 := (List.getElem?_zip_eq_some.mp hj).1
      exact List.mem_iff_getElem?.mpr ⟨j, by rw [List.getElem?_take, if_pos lt]; exact h1⟩
    · rw [if_neg lt] at hj
      cases hj
  obtain ⟨p, hp, ep⟩ := List.mem_map.mp hm
  rw [← ep]
  exact take_new nd e p hp
def spKo : Sp := fun vs H Q _ => ∃ (L a : Addr) (xs : List V) (ps : List (Str × Str)) (d : PyData) (k : Str), vs = [.ref L, .ref a] ∧ Rd H L (.tup xs) ∧ Cols H xs ps ∧ (ps.map (·.1)).Nodup ∧ ps.length ≤ 8 ∧ Dh H (.ref a) d ∧ Xp ps 8 k d ∧ ∀ H', Same H H' → Q (.str k) H'
def spEv : Sp := fun vs H Q _ => ∃ (L M : Addr) (x : V) (xs ys : List V) (ps : List (Str × Str)) (ds : List PyData) (d : PyData) (k : Str), vs = [.ref L, .ref M, x] ∧ Rd H L (.tup xs) ∧ H M = some (.tup ys) ∧ Cols H xs ps ∧ (ps.map (·.1)).Nodup ∧ ps.length ≤ 8 ∧ DhAll H ys ds ∧ Vks (ps.map (·.2)) ds ∧ Dh H x d ∧ Xp ps 8 k d ∧ ∀ v H', Same H H' → Dh H' v (evD (rowOf ps ds) d) → Q v H'
section
variable {P : Program} {w : World} {K : PySem.W.Frag} {mg : Str → Option Value} {base : Heap} {f fK fW : Addr} {fd fdK fdW : FuncData}
abbrev nKo : List Str := ["columns", "expression", "kinds", "name", "kind"]
theorem scKo : FnScope nKo ["columns", "expression"] (defScope sKo) := ⟨rfl, rfl, rfl, by decide +kernel, rfl, by decide +kernel, by decide +kernel⟩
theorem ok_ko (F : Fun K "kind_of" "kind_of" sKo f fd) (GK : FnOk P w K mg base CX0 13 fK fdK pKa (spKa 8)) (mK : mg "kind_at" = some (.ref fK)) (kK : PySem.W.keepIn K (.ref fK) = true) (bK : Binds K fdK pKa []) : FnOk P w K mg base CX0 14 f fd ["columns", "expression"] spKo := by
  refine F.ok scKo (fun vs H Q E h => ?_) (fun cdv A outer s H vs Q E hr h => ?_)
  · obtain ⟨L, a, xs, ps, d, k, rfl, _⟩ := h
    rfl
  · obtain ⟨L, a, xs, ps, d, kd, rfl, hL, hc, nd, l8, hd, xp, k⟩ := h
    refine ⟨_, pss_cons (ps_setDc (i := 2) (own := [("name", 3), ("kind", 4)]) (g := gTup K 2 (gCons (gName 3) (gCons (gName 4) gNil))) (tt := tYes) (tk := tVar 3) (tv := tVar 4) (by rfl) scKo.nd rfl rfl (sw_dict rfl rfl rfl (by decide +kernel)) (pi_tup (pv 0)) (blkOk_by (own := [("name", 3), ("kind", 4)]) (N := nKo) (sc := defScope sKo) (by decide +kernel))
        (fun _ _ _ _ _ => pg_tup rfl (pgs_cons (pg_name (i := 3) scKo.nd rfl (.inl rfl)) (pgs_cons (pg_name (i := 4) scKo.nd rfl (.inl rfl)) pgs_nil))) (fun _ _ _ _ _ => pts_nil) (fun _ _ _ _ _ => pv 3) (fun _ _ _ _ _ => pv 4))
      (pss_one (ps_ret (pe_call GK hr (by rfl) mK kK bK .nil pass0 (pa_cons (pv 2) (pa_cons (pv 1) (pa_cons (pe_tup pa_nil) pa_nil)))))), ?_⟩
    refine ⟨_, rfl, L, rfl, ⟨_, hL.sq⟩, fun D hD => dc_tup (K := K) (a := L) (xs := xs) (fun i H' => ∃ kvs, H' D = some (.dK kvs) ∧ kvs.length ≤ i ∧ KdP kvs (ps.take i) ∧ Same H H') ⟨[], upd_same, Nat.le_refl _, fun _ _ hm => by simp at hm, Same.upd hD⟩ (fun i H' _ p => by obtain ⟨_, _, _, _, s'⟩ := p; exact (hL.same s').sq) ?_ ?_⟩
    · rintro i x H1 hx ⟨kvs, hD1, ln, kp, s1⟩
      obtain ⟨q, z, kk, rfl, ea, ep⟩ := hc.get _ _ hx
      have hi : i < xs.length := (List.getElem?_eq_some_iff.mp hx).1
      have lx := hc.len
      refine ⟨q, _, rfl, SqT.of (s1 _ _ ea), rfl, _, _, rfl, _, _, rfl, rfl, rfl, ?_⟩
      dsimp only [tYes]
      refine iteT ⟨_, rfl, _, rfl, kvs, Sum.inr z, rfl, hD1, Nat.lt_of_le_of_lt (show _ ≤ 8 by omega) (by decide), _, upd_same, Nat.le_trans (length_putK _ _ _) (by omega), kdp_put nd ep kp, fun b o e => by rw [upd_ne (ne_of_none e hD)]; exact s1 b o e⟩
    · rintro H1 ⟨kvs, hD1, ln, kp, s1⟩
      rw [hc.len, List.take_length] at kp
      refine ⟨_, rfl, _, rfl, by show 0 ≤ sizeLine; decide, fun t ht => ?_⟩
      have zt := Same.upd (o := .tup []) ht
      exact ⟨D, a, t, kvs, ps, [], d, kd, rfl, zt _ _ hD1, kp, hd.same (s1.trans zt), xp, upd_same, Nat.le_refl _, fun H' s' => k H' ((s1.trans zt).trans s')⟩
abbrev nEv : List Str := ["columns", "values", "expression", "row", "name", "kind", "value"]
theorem scEv : FnScope nEv ["columns", "values", "expression"] (defScope sEv) := ⟨rfl, rfl, rfl, by decide +kernel, rfl, by decide +kernel, by decide +kernel⟩
theorem ok_ev (F : Fun K "evaluate" "evaluate" sEv f fd) (mZ : mg "zip" = none) (GW : FnOk P w K mg base CX0 14 fW fdW ["row", "part"] (spWo 8)) (mW : mg "worth" = some (.ref fW)) (kW : PySem.W.keepIn K (.ref fW) = true) (bW : Binds K fdW ["row", "part"] []) : FnOk P w K mg base CX0 15 f fd ["columns", "values", "expression"] spEv := by
  refine F.ok scEv (fun vs H Q E h => ?_) (fun cdv A outer s H vs Q E hr h => ?_)
  · obtain ⟨L, M, x, xs, ys, ps, ds, d, k, rfl, _⟩ := h
    rfl
  · obtain ⟨L, M, x, xs, ys, ps, ds, d, kd, rfl, hL, hM, hc, nd, l8, hy, hv, hd, xp, k⟩ := h
    refine ⟨_, pss_cons (ps_setDc (i := 3) (own := [("name", 4), ("kind", 5), ("value", 6)]) (g := gTup K 2 (gCons (gTup K 2 (gCons (gName 4) (gCons (gName 5) gNil))) (gCons (gName 6) gNil))) (tt := tYes) (tk := tVar 4) (tv := tVar 6) (by rfl) scEv.nd rfl rfl (sw_dict rfl rfl rfl (by decide +kernel)) (RZ.pi_zipA (by rfl) mZ (pa_cons (pv 0) (pa_cons (pv 1) pa_nil))) (blkOk_by (own := [("name", 4), ("kind", 5), ("value", 6)]) (N := nEv) (sc := defScope sEv) (by decide +kernel))
        (fun _ _ _ _ _ => pg_tup rfl (pgs_cons (pg_tup rfl (pgs_cons (pg_name (i := 4) scEv.nd rfl (.inl rfl)) (pgs_cons (pg_name (i := 5) scEv.nd rfl (.inl rfl)) pgs_nil))) (pgs_cons (pg_name (i := 6) scEv.nd rfl (.inl rfl)) pgs_nil))) (fun _ _ _ _ _ => pts_nil) (fun _ _ _ _ _ => pv 4) (fun _ _ _ _ _ => pv 6))
      (pss_one (ps_ret (pe_call GW hr (by rfl) mW kW bW .nil pass0 (pa_cons (pv 3) (pa_cons (pv 2) pa_nil))))), ?_⟩
    have lx := hc.len
    have ly := hy.len
    have lv := hv.len
    rw [List.length_map] at lv
    have lr : (rowOf ps ds).length = xs.length := by unfold rowOf; rw [List.length_zip, List.length_map]; omega
    refine ⟨_, rfl, _, rfl, L, M, xs, ys, rfl, .inr ⟨hL.sq, SqT.of hM, fun D hD => dc_zip (K := K) (a := L) (b := M) (xs := xs) (ys := ys) (by omega) (fun i H' => ∃ kvs, H' D = some (.dK kvs) ∧ kvs.length ≤ i ∧ RowH H' kvs ((rowOf ps ds).take i) ∧ Same H H') ⟨[], upd_same, Nat.le_refl _, fun _ _ e => by simp at e, Same.upd hD⟩ (fun i H' p => by obtain ⟨_, _, _, _, s'⟩ := p; exact ⟨(hL.same s').sq, SqT.of (s' _ _ hM)⟩) ?_ ?_⟩⟩
    · rintro i x1 y1 T1 H1 hx hy1 ⟨kvs, hD1, ln, rh, s1⟩ hT1
      obtain ⟨q, z, kk, rfl, ea, ep⟩ := hc.get _ _ hx
      obtain ⟨dy, edy, dhy⟩ := hy.get _ _ hy1
      have hi : i < xs.length := (List.getElem?_eq_some_iff.mp hx).1
      have zT := Same.upd (o := .tup [.ref q, y1]) hT1
      have sT := s1.trans zT
      refine ⟨T1, _, rfl, SqT.of upd_same, rfl, _, _, rfl, ⟨q, _, rfl, SqT.of (sT _ _ ea), rfl, _, _, rfl, _, _, rfl, rfl, _, _, rfl, rfl, rfl, ?_⟩⟩
      dsimp only [tYes]
      have hD2 := zT _ _ hD1
      have kd2 : SameT (upd H1 T1 (.tup [.ref q, y1])) (upd (upd H1 T1 (.tup [.ref q, y1])) D (.dK (putK kvs (Sum.inr z) y1))) := fun b us e => by
        rw [upd_ne (ne_of e hD2 nofun)]
        exact e
      refine iteT ⟨_, rfl, _, rfl, kvs, Sum.inr z, rfl, hD2, Nat.lt_of_le_of_lt (show _ ≤ 8 by omega) (by decide), _, upd_same, Nat.le_trans (length_putK _ _ _) (by omega), ?_, fun b o e => by rw [upd_ne (ne_of_none e hD)]; exact sT b o e⟩
      rw [row_take ep edy]
      refine rowH_put (row_new nd ep) (fun z' d' e' => ?_) ?_
      · obtain ⟨v', h1, h2⟩ := rh z' d' e'
        have hm : d' ∈ ds := by
          have hmem : (z', d') ∈ (rowOf ps ds).take i := by
            clear h1 h2
            generalize (rowOf ps ds).take i = l at e'
            induction l with
            | nil => cases e'
            | cons c l ih =>
              obtain ⟨c1, c2⟩ := c
              rw [List.lookup_cons] at e'
              split at e'
              · rename_i hb
                obtain rfl := Option.some.inj e'
                rw [eq_of_beq hb]
                exact List.mem_cons_self
              · exact List.mem_cons_of_mem _ (ih e')
          exact (List.of_mem_zip (List.mem_of_mem_take hmem)).2
        exact ⟨v', h1, (h2.same zT).t kd2 (hv.noL d' hm)⟩
      · exact (dhy.same sT).t kd2 (hv.noL dy (List.mem_of_getElem? edy))
    · rintro H1 ⟨kvs, hD1, ln, rh, s1⟩
      rw [← lr, List.take_length] at rh
      exact ⟨_, rfl, _, rfl, D, x, kvs, rowOf ps ds, ps, d, kd, rfl, hD1, rh, rowT_of nd hv, hd.same s1, xp, fun v H' s' hv' => k v H' (s1.trans s') hv'⟩
end
end K16
set_option Elab.async false
set_option linter.all false
set_option maxRecDepth 100000
set_option maxHeartbeats 4000000
namespace K16
open PySem PySem.Spec PyProof.Rows L2 Lc
/-! ## how long expressions are when they are shown -/
theorem tm_int {i : Int} (h : i.natAbs ≤ 10000000000000000000000000000000000000000) : Tm 0 2000 (.int i) := by
  have b : i.natAbs < 2 ^ 1000 := Nat.lt_of_le_of_lt h (Nat.lt_of_lt_of_le (show 10000000000000000000000000000000000000000 < 2 ^ 140 by decide) (Nat.pow_le_pow_right (by decide) (by decide)))
  obtain ⟨h1, h2⟩ := num_len b
  exact ⟨h1, rfl, Nat.le_refl _, Nat.le_trans h2 (by decide)⟩
theorem tm_txt {x : Str} (h : Sh 100 x) : Tm 0 2000 (.str x) := by
  refine ⟨rfl, rfl, Nat.le_refl _, ?_⟩
  show (reprText x).length ≤ 2000
  have := StrLaws.reprText_len x (fun c hc => Nat.lt_trans (h.ok c hc) (by decide))
  have e := lenL x
  have := h.len
  omega
theorem tm_nonB : Tm 0 2000 .none ∧ ∀ b : Bool, Tm 0 2000 (.bool b) := ⟨⟨rfl, rfl, Nat.le_refl _, by decide +kernel⟩, fun b => ⟨rfl, rfl, Nat.le_refl _, by cases b <;> decide +kernel⟩⟩
theorem Vk.tm {k : Str} {d : PyData} (h : Vk k d) : Tm 1 4100 d := by
  cases h with
  | non => exact tm_nonB.1.mono (by decide) (by decide)
  | flag b => exact (tm_nonB.2 b).mono (by decide) (by decide)
  | word h _ => exact (tm_txt (h.mono (by decide))).mono (by decide) (by decide)
  | @num n d _ h1 h2 =>
    exact (tm_tup (k := 0) (n := 2000) (fun x hx => by simp at hx; rcases hx with rfl | rfl; exact tm_int h1; exact tm_int h2)).mono (by decide) (by show 2000 * 2 + 2 * 2 + 4 ≤ 4100; decide)
/-- by the sum of the parts -/
theorem tm_tupS {k n : Nat} {ds : List PyData} (h : ∀ d ∈ ds, ∃ m, Tm k m d) (s : ((PyData.shownAll ds).map (·.length)).sum ≤ n) : Tm (k + 1) (n + 2 * ds.length + 4) (.tuple ds) := by
  have key : PyData.showableAll ds = true ∧ PyData.hasDictAll ds = false ∧ PyData.depthAll ds ≤ k ∧ (PyData.shownAll ds).length = ds.length := by
    clear s
    induction ds with
    | nil => exact ⟨rfl, rfl, Nat.zero_le _, rfl⟩
    | cons d ds ih =>
      obtain ⟨h1, h2, h3, h4⟩ := ih fun x hx => h x (List.mem_cons_of_mem _ hx)
      obtain ⟨m, hd⟩ := h d List.mem_cons_self
      refine ⟨by simp [PyData.showableAll, hd.sh, h1], by simp [PyData.hasDictAll, hd.nd, h2], ?_, by simp [PyData.shownAll, h4]⟩
      simp only [PyData.depthAll]
      have := hd.dz
      omega
  obtain ⟨h1, h2, h3, h4⟩ := key
  refine ⟨by simpa [PyData.showable] using h1, by simpa [PyData.hasDict] using h2, ?_, ?_⟩
  · simp only [PyData.depth]
    omega
  · have := tupleText_len_le (PyData.shownAll ds)
    simp only [PyData.shown]
    omega
theorem tm_word {w : Str} {os : List PyData} {k m : Nat} (hw : (PyData.str w).shown.length ≤ 20) (ho : ∀ o ∈ os, Tm k m o) : Tm (k + 1) (m * os.length + 2 * os.length + 26) (.tuple (.str w :: os)) := by
  have tw : Tm 0 20 (.str w) := ⟨rfl, rfl, Nat.le_refl _, hw⟩
  have a := (tm_all ho).2.2.2.1
  refine (tm_tupS (k := k) (n := 20 + m * os.length) (fun d hd => ?_) ?_).mono (Nat.le_refl _) (by rw [List.length_cons]; omega)
  · rcases List.mem_cons.mp hd with rfl | hd
    · exact ⟨20, tw.mono (Nat.zero_le _) (Nat.le_refl _)⟩
    · exact ⟨m, ho d hd⟩
  · simp only [PyData.shownAll, List.map_cons, List.sum_cons]
    have := tw.ln
    omega
def szX : Nat → Nat
  | 0 => 0
  | n + 1 => 3 * szX n + 4200
theorem oneW_len {w k r : Str} (h : OneW w k r) : (PyData.str w).shown.length ≤ 20 := by
  rcases h with ⟨rfl, _⟩ | ⟨rfl, _⟩ <;> decide +kernel
theorem twoW_len {w k r : Str} (h : TwoW w k r) : (PyData.str w).shown.length ≤ 20 := by
  rcases h with ⟨rfl | rfl | rfl | rfl, _⟩ | ⟨rfl, _⟩ | ⟨rfl, _⟩ | ⟨rfl | rfl, _⟩ <;> decide +kernel
theorem xp_tm {ps : List (Str × Str)} (hp : ∀ p ∈ ps, Sh 12 p.1) {n : Nat} {k : Str} {d : PyData} (h : Xp ps n k d) : Tm (n + 1) (szX n) d := by
  induction h with
  | @col n z k h =>
    have t := (tm_txt ((hp _ h).mono (show 12 ≤ 100 by decide))).mono (show 0 ≤ 1 by decide) (show 2000 ≤ 4100 by decide)
    refine (tm_word (w := "column") (k := 1) (m := 4100) (by decide +kernel) (fun o ho => by rw [List.mem_singleton.mp ho]; exact t)).mono (by omega) ?_
    show 4100 * 1 + 2 * 1 + 26 ≤ 3 * szX n + 4200
    omega
  | @val n k d h _ =>
    refine (tm_word (w := "value") (k := 1) (m := 4100) (by decide +kernel) (fun o ho => by rw [List.mem_singleton.mp ho]; exact h.tm)).mono (by omega) ?_
    show 4100 * 1 + 2 * 1 + 26 ≤ 3 * szX n + 4200
    omega
  | @one n w k r a hw ha ia =>
    refine (tm_word (k := n + 1) (m := szX n) (oneW_len hw) (fun o ho => by rw [List.mem_singleton.mp ho]; exact ia)).mono (by omega) ?_
    show szX n * 1 + 2 * 1 + 26 ≤ 3 * szX n + 4200
    omega
  | @two n w k r a b hw ha hb ia ib =>
    refine (tm_word (k := n + 1) (m := szX n) (twoW_len hw) (fun o ho => by simp only [List.mem_cons, List.not_mem_nil, or_false] at ho; rcases ho with rfl | rfl; exact ia; exact ib)).mono (by omega) ?_
    show szX n * 2 + 2 * 2 + 26 ≤ 3 * szX n + 4200
    omega
  | @iff n k a b c ha hb hc ia ib ic =>
    refine (tm_word (w := "if") (k := n + 1) (m := szX n) (by decide +kernel) (fun o ho => by simp only [List.mem_cons, List.not_mem_nil, or_false] at ho; rcases ho with rfl | rfl | rfl; exact ia; exact ib; exact ic)).mono (by omega) ?_
    show szX n * 3 + 2 * 3 + 26 ≤ 3 * szX n + 4200
    omega
def ColsOk (ps : List (Str × Str)) : Prop := ∀ p ∈ ps, Sh 12 p.1 ∧ nameB (.str p.1) = true ∧ KindS p.2
theorem cols_tm {ps : List (Str × Str)} (h : ColsOk ps) (l8 : ps.length ≤ 8) : Tm 2 40000 (.tuple (ps.map colP)) := by
  refine (tm_tup (k := 1) (n := 4100) (fun d hd => ?_)).mono (by decide) (by rw [List.length_map]; omega)
  obtain ⟨p, hp, rfl⟩ := List.mem_map.mp hd
  obtain ⟨h1, _, h3⟩ := h p hp
  exact (tm_tup (k := 0) (n := 2000) (fun x hx => by simp at hx; rcases hx with rfl | rfl; exact tm_txt (h1.mono (by decide)); exact tm_txt h3.sh)).mono (by decide) (by show 2000 * 2 + 2 * 2 + 4 ≤ 4100; decide)
/-- [columns, expression] is shown -/
theorem shw_both {K : PySem.W.Frag} {H : Hp} {q : Addr} {x y : V} {ps : List (Str × Str)} {k : Str} {d : PyData} (hq : H q = some (.lst [x, y])) (hx : Dh H x (.tuple (ps.map colP))) (hy : Dh H y d) (hp : ColsOk ps) (l8 : ps.length ≤ 8) (xp : Xp ps 8 k d) : Shw K H (.ref q) (PyData.list [.tuple (ps.map colP), d]).shown := by
  have t1 := cols_tm hp l8
  have t2 := xp_tm (fun p h => (hp p h).1) xp
  have e : szX 8 = 13776000 := by decide +kernel
  rw [e] at t2
  have dh : Dh H (.ref q) (.list [.tuple (ps.map colP), d]) := .lst hq (.cons hx (.cons hy .nil))
  refine dh.shw ?_ ?_ ?_ ?_
  · simp [PyData.showable, PyData.showableAll, t1.sh, t2.sh, show PyData.showableAll (ps.map colP) = true from by simpa [PyData.showable] using t1.sh]
  · simp [PyData.hasDict, PyData.hasDictAll, t2.nd, show PyData.hasDictAll (ps.map colP) = false from by simpa [PyData.hasDict] using t1.nd]
  · have a := t1.dz
    have b := t2.dz
    rw [PyData.depth, PyData.depthAll, PyData.depthAll, PyData.depthAll]
    omega
  · have a := t1.ln
    have b := t2.ln
    have := listText_len_le (PyData.shownAll [.tuple (ps.map colP), d])
    simp only [PyData.shownAll, List.map_cons, List.map_nil, List.sum_cons, List.sum_nil, List.length_cons, List.length_nil] at this
    rw [PyData.shown]
    simp only [PyData.shownAll]
    refine Nat.le_trans (show _ ≤ 14000000 by omega) (by decide)
end K16
set_option Elab.async false
set_option linter.all false
set_option maxRecDepth 100000
set_option maxHeartbeats 4000000
namespace K16
open PySem PySem.Spec PyProof.Rows L2 Lc
/-! ## rows and lineages -/
abbrev Lin : Type := List (Str × Int)
def partD (p : Str × Int) : PyData := .tuple [.str p.1, .int p.2]
def linD (l : Lin) : PyData := .tuple (l.map partD)
structure RowD where
  vals : List PyData
  lin : Lin
def RowD.d (r : RowD) : PyData := .tuple [.tuple r.vals, linD r.lin]
def PartOk (p : Str × Int) : Prop := Sh 12 p.1 ∧ 0 ≤ p.2 ∧ p.2 < 400
def LinOk (l : Lin) : Prop := l.length ≤ 4 ∧ ∀ p ∈ l, PartOk p
/-- where the sum of a lineage stands behind some of its parts -/
def sumL (seed : Int) (l : Lin) : Int := l.foldl (fun h p => (h * 48271 + p.2 * 69621 + 11) % 2147483647) (seed + 1)
def numL (seed : Int) (l : Lin) (whole : Int) : Int := sumL seed l % whole
theorem sumL_snoc (seed : Int) (l : Lin) (p : Str × Int) : sumL seed (l ++ [p]) = (sumL seed l * 48271 + p.2 * 69621 + 11) % 2147483647 := by
  unfold sumL
  rw [List.foldl_append]
  rfl
theorem sumL_lt {seed : Int} (h0 : 0 ≤ seed) (h1 : seed ≤ 1000000000) (l : Lin) : 0 ≤ sumL seed l ∧ sumL seed l < 2147483647 := by
  rcases List.eq_nil_or_concat l with rfl | ⟨l, p, rfl⟩
  · show 0 ≤ seed + 1 ∧ seed + 1 < 2147483647
    omega
  · rw [List.concat_eq_append, sumL_snoc]
    exact ⟨Int.emod_nonneg _ (by decide), Int.emod_lt_of_pos _ (by decide)⟩
theorem lin_get {H : Hp} {xs : List V} {l : Lin} {i : Nat} {x : V} (h : DhAll H xs (l.map partD)) (e : xs[i]? = some x) : ∃ p a, l[i]? = some p ∧ x = .ref a ∧ H a = some (.tup [.str p.1, .int p.2]) := by
  obtain ⟨d, e1, e2⟩ := h.get i x e
  rw [List.getElem?_map] at e1
  cases q : l[i]? with
  | none => rw [q] at e1; cases e1
  | some p =>
    rw [q] at e1
    cases e1
    cases e2 with
    | tup ea hs =>
      cases hs with
      | cons h1 r1 =>
        cases r1 with
        | cons h2 r2 =>
          cases r2
          cases h1
          cases h2
          exact ⟨p, _, rfl, rfl, ea⟩
def spNum : Sp := fun vs H Q _ => ∃ (seed whole : Int) (v : V) (l : Lin), vs = [.int seed, v, .int whole] ∧ Dh H v (linD l) ∧ LinOk l ∧ 0 ≤ seed ∧ seed ≤ 1000000000 ∧ 0 < whole ∧ Q (.int (numL seed l whole)) H
/-- data of parts -/
theorem parts_of : ∀ {es : List PyData}, (∀ e ∈ es, ∃ p, PartOk p ∧ e = partD p) → ∃ l : Lin, es = l.map partD ∧ ∀ p ∈ l, PartOk p
  | [], _ => ⟨[], rfl, nofun⟩
  | e :: es, h => by
    obtain ⟨l, e1, e2⟩ := parts_of (es := es) fun x hx => h x (List.mem_cons_of_mem _ hx)
    obtain ⟨p, h1, h2⟩ := h e List.mem_cons_self
    exact ⟨p :: l, by rw [List.map_cons, e1, h2], fun q hq => by
      rcases List.mem_cons.mp hq with rfl | hq
      · exact h1
      · exact e2 q hq⟩
theorem part_tm {p : Str × Int} (h : PartOk p) : Tm 1 40100 (partD p) := by
  have h1 : Tm 0 20000 (.str p.1) := tm_fl (v := .str p.1) (fl_str h.1 (by decide))
  have h2 : Tm 0 20000 (.int p.2) := tm_fl (v := .int p.2) (fl_int (by
    have := h.2
    exact Nat.lt_of_lt_of_le (show p.2.natAbs < 2 ^ 10 by omega) (Nat.pow_le_pow_right (by decide) (by decide))))
  have := tm_tup (k := 0) (n := 20000) (ds := [.str p.1, .int p.2]) fun d hd => by
    simp only [List.mem_cons, List.not_mem_nil, or_false] at hd
    rcases hd with rfl | rfl
    · exact h1
    · exact h2
  exact this.mono (Nat.le_refl _) (by show 20000 * 2 + 2 * 2 + 4 ≤ 40100; decide)
theorem hu65 {A : Around} {k : Nat} (hr : Room k A) : A.units + 65 < cLine := by
  have := hr.un
  omega
theorem can_strL {x : Str} (h : ∀ c ∈ x.cps.toList, c < 1114112) : (PyData.str x).canLay0 = true := by
  unfold PyData.canLay0
  show x.cps.all (· < 1114112) = true
  rw [← Array.all_toList, List.all_eq_true]
  intro c hc
  exact decide_eq_true (h c hc)
theorem part_lay {p : Str × Int} (h : PartOk p) : (partD p).canLay0 = true ∧ (partD p).depth = 1 := by
  have c := can_strL h.1.ok
  unfold partD
  refine ⟨?_, by simp [PyData.depth, PyData.depthAll]⟩
  rw [PyData.canLay0, PyData.canLayAll0, c, PyData.canLayAll0, PyData.canLayAll0]
  rfl
theorem parts_lay {l : Lin} (h : ∀ p ∈ l, PartOk p) : PyData.canLayAll0 (l.map partD) = true ∧ PyData.depthAll (l.map partD) ≤ 1 := by
  induction l with
  | nil => exact ⟨rfl, by decide⟩
  | cons p l ih =>
    have ih := ih fun q hq => h q (List.mem_cons_of_mem _ hq)
    have hp := part_lay (h p List.mem_cons_self)
    refine ⟨?_, ?_⟩
    · rw [List.map_cons, PyData.canLayAll0, hp.1, ih.1]
      rfl
    · rw [List.map_cons, PyData.depthAll, hp.2]
      omega
theorem parts_shp {l : Lin} (h : ∀ p ∈ l, PartOk p) : SeqAt.shaped (.list (l.map partD)) = true := by
  unfold SeqAt.shaped
  rw [PyData.canLay0, (parts_lay h).1, Bool.true_and]
  refine decide_eq_true ?_
  rw [PyData.depth]
  have := (parts_lay h).2
  omega
theorem part_shp {p : Str × Int} (h : PartOk p) : SeqAt.shaped (partD p) = true := by
  unfold SeqAt.shaped
  rw [(part_lay h).1, (part_lay h).2]
  rfl
theorem parts_dh {H : Hp} {xs : List V} {l : Lin} (h : DhAll H xs (l.map partD)) : ∀ x ∈ xs, ∃ b, x = V.ref b := fun x hx => by
  obtain ⟨i, hi⟩ := List.getElem?_of_mem hx
  obtain ⟨p, a, _, e, _⟩ := lin_get h hi
  exact ⟨a, e⟩
theorem parts_alike (l : Lin) : PySem.W.AllAlike (l.map partD) ∧ PySem.W.Sortable (l.map partD) ∧ ∀ d ∈ l.map partD, d.hasDict = false ∧ d.depth ≤ 50 := by
  refine ⟨fun d hd e he => ?_, .inl fun d hd => ?_, fun d hd => ?_⟩
  · obtain ⟨p, _, rfl⟩ := List.mem_map.mp hd
    obtain ⟨q, _, rfl⟩ := List.mem_map.mp he
    rfl
  · obtain ⟨p, _, rfl⟩ := List.mem_map.mp hd
    exact ⟨_, _, rfl⟩
  · obtain ⟨p, _, rfl⟩ := List.mem_map.mp hd
    exact ⟨by simp [partD, PyData.hasDict, PyData.hasDictAll], by simp [partD, PyData.depth, PyData.depthAll]⟩
/-- a drawn lineage -/
def spFar : Sp := fun vs H Q _ => ∃ (t c : Addr), vs = [.ref t] ∧ TapeL c H t ∧ ∀ (v : V) (l : Lin) (H' : Hp), Dh H' v (linD l) → LinOk l → TapeL c H' t → SameB t H H' → Q v H'
section
variable {P : Program} {w : World} {K : PySem.W.Frag} {mg : Str → Option Value} {base : Heap} {f : Addr} {fd : FuncData}
abbrev sDrw : Stmt := top 103
abbrev nDrw : List Str := ["seed", "lineage", "whole", "h", "origin", "number"]
abbrev pDrw : List Str := ["seed", "lineage", "whole"]
theorem scDrw : FnScope nDrw pDrw (defScope sDrw) := ⟨rfl, rfl, rfl, by decide +kernel, rfl, by decide +kernel, by decide +kernel⟩
section
theorem ok_Drw (F : Fun K "draw" "draw" sDrw f fd) (T : Bt mg) : FnOk P w K mg base CX0 1 f fd pDrw (spNum) := by
  refine F.ok scDrw (fun vs H Q E h => ?_) (fun cdv A outer s H vs Q E hr h => ?_)
  · obtain ⟨seed, whole, v, l, rfl, _⟩ := h
    rfl
  · obtain ⟨seed, whole, v, l, rfl, hv, hl, h0, h1, hw, k⟩ := h
    refine ⟨_, (pss_cons (ps_set (i := 3) scDrw.nd rfl (Or.inl rfl) (pe_op op_add (pv 0) pe_int))
      (pss_cons (ps_for PassesOwn.never rfl (pi_tup (pv 1)) (pg_tup rfl (pgs_cons (pg_name (i := 4) scDrw.nd rfl (.inl rfl)) (pgs_cons (pg_name (i := 5) scDrw.nd rfl (.inl rfl)) pgs_nil))) (pss_one (ps_set (i := 3) scDrw.nd rfl (Or.inl rfl) (pe_op op_mod (pe_op op_add (pe_op op_add (pe_op op_mul (pv 3) pe_int) (pe_op op_mul (pv 5) pe_int)) pe_int) pe_int))))
      (pss_one (ps_ret (pe_op op_mod (pv 3) (pv 2)))))), ?_⟩
    cases hv with
    | @tup a xs _ ea hs =>
    have ls := hs.len
    rw [List.length_map] at ls
    have b64 : (-(2 ^ 64) : Int) < 2147483647 ∧ (2147483647 : Int) < 2 ^ 64 := by decide
    refine ⟨_, rfl, _, _, rfl, rfl, ?_⟩
    refine ⟨_, rfl, a, rfl, ⟨_, SqT.of ea⟩, for_tup (K := K) (a := a) (xs := xs) (fun i σ H' => (∃ x4 x5 : Option V, σ = [some (.int seed), some (.ref a), some (.int whole), some (.int (sumL seed (l.take i))), x4, x5]) ∧ H' = H) ⟨⟨_, _, rfl⟩, rfl⟩ (fun i σ H' _ p => by rw [p.2]; exact SqT.of ea) ?_ ?_⟩
    · rintro i x σ H' hx ⟨⟨x4, x5, rfl⟩, rfl⟩
      obtain ⟨p, b, e1, rfl, e2⟩ := lin_get hs hx
      have hp := hl.2 p (List.mem_of_getElem? e1)
      have hn := hp.2
      have hb := sumL_lt h0 h1 (l.take i)
      rw [show l.take (i + 1) = l.take i ++ [p] by rw [List.take_add_one, e1]; rfl, sumL_snoc]
      refine ⟨b, _, rfl, SqT.of e2, rfl, _, _, rfl, _, _, rfl, rfl, ?_⟩
      dsimp only [gNil]
      refine ⟨_, rfl, _, _, rfl, rfl, .inl ⟨by omega, by omega⟩, _, rfl, _, _, rfl, rfl, .inl ⟨by omega, by omega⟩, _, _, rfl, rfl, _, _, rfl, rfl, _, _, rfl, rfl, (by decide : (0 : Int) < 2147483647), ⟨⟨_, _, rfl⟩, rfl⟩⟩
    · rintro σ H' ⟨⟨x4, x5, rfl⟩, rfl⟩
      rw [ls, List.take_length]
      exact ⟨_, rfl, _, rfl, _, _, rfl, rfl, hw, k⟩
end
abbrev sFar : Stmt := top 140
abbrev nFar : List Str := ["_law_tape_here", "_law_found", "_law_k", "_law_part"]
abbrev pFar : List Str := ["_law_tape_here"]
theorem scFar : FnScope nFar pFar (defScope sFar) := ⟨rfl, rfl, rfl, by decide +kernel, rfl, by decide +kernel, by decide +kernel⟩
section
variable {fA_ : Addr} {fdA_ : FuncData}
theorem ok_Far (F : Fun K "_law_lineage" "_law_lineage" sFar f fd) (T : Bt mg) (mS : mg "sorted" = none)
    (GA_ : FnOk P w K mg base CX0 1 fA_ fdA_ ["_law_tape_here", "_law_many"] (spDrawL)) (mA_ : mg "_law_draw" = some (.ref fA_)) (kA_ : PySem.W.keepIn K (.ref fA_) = true) (bA_ : Binds K fdA_ ["_law_tape_here", "_law_many"] []) : FnOk P w K mg base CX0 2 f fd pFar (spFar) := by
  refine F.ok scFar (fun vs H Q E h => ?_) (fun cdv A outer s H vs Q E hr h => ?_)
  · obtain ⟨t, c, rfl, _⟩ := h
    rfl
  · obtain ⟨t, c, rfl, hT, k⟩ := h
    have hrA_ : Room (1) _ := hr.mono (by first | decide | omega)
    refine ⟨_, (pss_cons (ps_set (i := 1) scFar.nd rfl (Or.inl rfl) (pe_lst pa_nil))
      (pss_cons (ps_for PassesOwn.never rfl (pi_range1 (by rfl) T.range (pa_cons (pe_call GA_ hrA_ (by rfl) mA_ kA_ bA_ .nil pass0 (pa_cons (pv 0) (pa_cons pe_int pa_nil))) pa_nil)) (pg_name (i := 2) scFar.nd rfl (.inl rfl)) (pss_cons (ps_set (i := 3) scFar.nd rfl (Or.inl rfl) (pe_tup (pa_cons (pe_ix ix_list (pe_lst (pa_cons pe_str (pa_cons pe_str (pa_cons pe_str (pa_cons pe_str pa_nil))))) (pe_call GA_ hrA_ (by rfl) mA_ kA_ bA_ .nil pass0 (pa_cons (pv 0) (pa_cons pe_int pa_nil))) (fun _ _ => rfl)) (pa_cons (pe_call GA_ hrA_ (by rfl) mA_ kA_ bA_ .nil pass0 (pa_cons (pv 0) (pa_cons pe_int pa_nil))) pa_nil))))
      (pss_one (ps_if (pt_cmpR (op_notInD (hu65 hr)) (pv 3) (pv 1) (by rfl)) (pss_one (ps_expr (pe_bm PySem.F.plainAttrs_list PySem.F.slot_list_append PySem.F.type_list_append mt_append (pv 1) (pa_cons (pv 3) pa_nil)))) pss_nil))))
      (pss_one (ps_ret (pe_callTy call_tuple_of (by rfl) T.tuple boot_tuple (pa_cons (pe_callB (call_sortedDt hr.units) (by rfl) mS (by decide +kernel) (pa_cons (pv 1) pa_nil)) pa_nil)))))), ?_⟩
    have two : 2 ≤ sizeLine := by decide
    have four : 4 ≤ sizeLine := by decide
    refine ⟨by show 0 ≤ sizeLine; decide, fun L hL => ?_⟩
    have zL := Same.upd (o := .lst []) hL
    have eL : upd H L (.lst []) L = some (.lst []) := upd_same
    have nt : L ≠ t := hT.tape.ne hL
    have nc : L ≠ c := by
      obtain ⟨xs, e⟩ := hT.list
      exact (ne_of_none e hL).symm
    have T1 := hT.same zL
    generalize upd H L (.lst []) = H1 at zL eL T1 ⊢
    refine ⟨_, rfl, t, c, _, rfl, T1, by decide, big1000 (by decide) (by decide), fun m H2 m0 m5 T2 S2 => ⟨m, rfl, by omega, by omega, for_range (n := m.toNat) (fun i σ H' => (∃ x2 x3 : Option V, σ = [some (.ref t), some (.ref L), x2, x3]) ∧ (∃ (xs : List V) (l : Lin), H' L = some (.lst xs) ∧ DhAll H' xs (l.map partD) ∧ l.length ≤ i ∧ ∀ p ∈ l, PartOk p) ∧ TapeL c H' t ∧ SameB t H H') ⟨⟨_, _, rfl⟩, ⟨[], [], S2 _ _ nt eL, .nil, Nat.le_refl _, nofun⟩, T2, (Same.b t zL).trans S2⟩ ?_ ?_⟩⟩
    · rintro i σ H3 hi ⟨⟨x2, x3, rfl⟩, ⟨xs, l, e3, d3, ll, ok⟩, T3, S3⟩
      refine ⟨four, fun Y hY => ?_⟩
      have zY := Same.upd (o := .lst [.str "a", .str "b", .str "aa", .str "z9"]) hY
      have nY := T3.tape.ne hY
      refine ⟨_, rfl, t, c, _, rfl, T3.same zY, by decide, big1000 (by decide) (by decide), fun j H4 j0 j4 T4 S4 => ?_⟩
      have all : ∀ v ∈ ([.str "a", .str "b", .str "aa", .str "z9"] : List V), ∃ z : Str, v = .str z ∧ Sh 12 z := by
        intro v hv
        simp only [List.mem_cons, List.not_mem_nil, or_false] at hv
        rcases hv with rfl | rfl | rfl | rfl <;> exact ⟨_, rfl, ⟨by decide +kernel, by decide +kernel⟩⟩
      have hj : j.toNat < ([.str "a", .str "b", .str "aa", .str "z9"] : List V).length := by show j.toNat < 4; omega
      obtain ⟨z, ez, sz⟩ := all _ (List.getElem_mem hj)
      refine ⟨Y, _, _, _, rfl, rfl, SqL.of (S4 _ _ nY upd_same), at_of (j := j.toNat) (by omega) ((List.getElem?_eq_getElem hj).trans (congrArg some ez)), ?_⟩
      refine ⟨_, rfl, t, c, _, rfl, T4, by decide, big1000 (by decide) (by decide), fun q H5 q0 q4 T5 S5 => ⟨two, fun p hp => ?_⟩⟩
      have S35 : SameB t H3 H5 := ((Same.b t zY).trans S4).trans S5
      have zp := Same.upd (o := .tup [.str z, .int q]) hp
      have ep : upd H5 p (.tup [.str z, .int q]) p = some (.tup [.str z, .int q]) := upd_same
      have e6 := zp _ _ (S35 _ _ nt e3)
      have T6 := T5.same zp
      have S6 : SameB t H3 (upd H5 p (.tup [.str z, .int q])) := S35.trans (Same.b t zp)
      have nl : ∀ l : Lin, noLs (l.map partD) = true := fun l => noLs_all.mpr fun d hd => by
        obtain ⟨_, _, rfl⟩ := List.mem_map.mp hd
        rfl
      have d6 := DhAll.t (SameT.b T3.tape S6) d3 (nl l)
      have hp0 : H p = none := S3.free T3.tape (S35.free T5.tape hp)
      generalize upd H5 p (.tup [.str z, .int q]) = H6 at ep e6 T6 S6 d6 ⊢
      have pok : PartOk (z, q) := ⟨sz, q0, by show q < 400; omega⟩
      have dp : Dh H6 (.ref p) (partD (z, q)) := .tup ep (.cons (.str _) (.cons (.int _) .nil))
      have nd1 : (partD (z, q)).hasDict = false := PyData.hasDict_of_canLay _ (part_lay pok).1
      have nd2 : (PyData.list (l.map partD)).hasDict = false := PyData.hasDict_of_canLay _ (SeqAt.canLay_of_shaped (parts_shp ok))
      refine ⟨_, rfl, _, rfl, partD (z, q), l.map partD, dp.dp nd1, (Dh.lst e6 d6).dp nd2, part_shp pok, parts_shp ok, _, rfl, ite2 (fun _ => ?_) (fun _ => ⟨⟨_, _, rfl⟩, ⟨xs, l, e6, d6, by omega, ok⟩, T6, S3.trans S6⟩)⟩
      have lx := d6.len
      rw [List.length_map] at lx
      refine ⟨_, rfl, .inl ⟨rfl, _, SqL.of e6⟩, _, rfl, L, _, _, rfl, rfl, e6, Nat.lt_of_le_of_lt (show xs.length ≤ 5 by omega) (by decide), ⟨⟨_, _, rfl⟩, ⟨xs ++ [.ref p], l ++ [(z, q)], upd_same, ?_, by rw [List.length_append]; show l.length + 1 ≤ i + 1; omega, fun r hr => ?_⟩, T6.upd nt nc, fun b o n e => by rw [upd_ne (ne_of_none e hL)]; exact (S3.trans S6) b o n e⟩⟩
      · rw [List.map_append]
        exact DhAll.append (DhAll.t (SameT.lst e6) d6 (nl l)) (.cons (dp.t (SameT.lst e6) rfl) .nil)
      · rcases List.mem_append.mp hr with hr | hr
        · exact ok r hr
        · rw [List.mem_singleton.mp hr]
          exact pok
    · rintro σ H3 ⟨⟨x2, x3, rfl⟩, ⟨xs, l, e3, d3, ll, ok⟩, T3, S3⟩
      obtain ⟨al, so, dp⟩ := parts_alike l
      refine ⟨_, rfl, L, xs, l.map partD, rfl, SqL.of e3, parts_dh d3, d3, al, so, dp, fun ys p pm dy hp => ?_⟩
      have zp := Same.upd (o := .lst ys) hp
      refine ⟨p, ys, rfl, .inl ⟨SqL.of upd_same, fun r hr => ?_⟩⟩
      have zr := Same.upd (o := .tup ys) hr
      have pm2 := List.mergeSort_perm (l.map partD) dLe
      obtain ⟨l', e', ok'⟩ := parts_of (es := (l.map partD).mergeSort dLe) fun e he => by
        obtain ⟨q, hq, rfl⟩ := List.mem_map.mp (pm2.mem_iff.mp he)
        exact ⟨q, ok q hq, rfl⟩
      have l4 : l'.length ≤ 4 := by
        have := pm2.length_eq
        rw [e', List.length_map, List.length_map] at this
        omega
      exact k _ l' _ (.tup upd_same (by rw [← e']; exact (DhAll.same (zp.trans zr) dy))) ⟨l4, ok'⟩ (T3.same (zp.trans zr)) (S3.trans (Same.b t (zp.trans zr)))
end
end
end K16
set_option Elab.async false
set_option linter.all false
set_option maxRecDepth 100000
set_option maxHeartbeats 4000000
namespace K16
open PySem PySem.Spec PyProof.Rows L2 Lc
/-! ## tables -/
abbrev sTI : Stmt := inClass (top 58) 0
abbrev sTC : Stmt := inClass (top 58) 1
abbrev sTR : Stmt := inClass (top 58) 2
structure TbF (K : PySem.W.Frag) (mg : Str → Option Value) (C fI : Addr) : Prop where
  mkC : Mk K C fI
  cls : Cls K C
  a1 : NoAttr K C "shape"
  a2 : NoAttr K C "body"
  gC : mg "Table" = some (.ref C)
abbrev RowsL : Type := List (V × RowD)
def fsT (cv bv : Addr) : List (Str × V) := [("shape", .ref cv), ("body", .ref bv)]
def RowsAt (H : Hp) (rs : RowsL) : Prop := ∀ r ∈ rs, Dh H r.1 r.2.d
def RowsOk (rs : RowsL) : Prop := ∀ r ∈ rs, noLs r.2.vals = true ∧ LinOk r.2.lin
def IsTb (C : Addr) (H : Hp) (a cv : Addr) (rs : RowsL) : Prop := ∃ dx bv, H a = some (.ins C dx (fsT cv bv)) ∧ H bv = some (.tup (rs.map (·.1))) ∧ RowsAt H rs
theorem lin_noL (l : Lin) : noL (linD l) = true := by
  unfold linD
  rw [noL]
  refine noLs_all.mpr fun d hd => ?_
  obtain ⟨p, _, rfl⟩ := List.mem_map.mp hd
  rfl
theorem row_noL {r : RowD} (h : noLs r.vals = true) : noL r.d = true := by
  unfold RowD.d
  rw [noL, noLs, noL, h, noLs, lin_noL, noLs]
  rfl
theorem RowsAt.t {H H' : Hp} {rs : RowsL} (h : RowsAt H rs) (s : SameT H H') (o : RowsOk rs) : RowsAt H' rs := fun r hr => (h r hr).t s (row_noL (o r hr).1)
theorem RowsAt.same {H H' : Hp} {rs : RowsL} (h : RowsAt H rs) (s : Same H H') : RowsAt H' rs := fun r hr => (h r hr).same s
theorem IsTb.same {C : Addr} {H H' : Hp} {a cv : Addr} {rs : RowsL} (h : IsTb C H a cv rs) (s : Same H H') : IsTb C H' a cv rs := by
  obtain ⟨dx, bv, h1, h2, h3⟩ := h
  exact ⟨dx, bv, s _ _ h1, s _ _ h2, h3.same s⟩
/-- the tape alone changes -/
theorem IsTb.b {C t : Addr} {H H' : Hp} {a cv : Addr} {rs : RowsL} (h : IsTb C H a cv rs) (T : Tape H t) (s : SameB t H H') (o : RowsOk rs) : IsTb C H' a cv rs := by
  obtain ⟨dx, bv, h1, h2, h3⟩ := h
  obtain ⟨_, _, _, _, _, q, _⟩ := id T
  exact ⟨dx, bv, s _ _ (ne_of h1 q nofun) h1, SameT.b T s _ _ h2, h3.t (SameT.b T s) o⟩
theorem IsTb.upd {C : Addr} {H : Hp} {a cv b : Addr} {rs : RowsL} {u o : HO} (h : IsTb C H a cv rs) (hb : H b = some u) (nu : (∀ xs, u ≠ .tup xs) ∧ ∀ c d f, u ≠ .ins c d f) (ok : RowsOk rs) : IsTb C (upd H b o) a cv rs := by
  obtain ⟨dx, bv, h1, h2, h3⟩ := h
  have st : SameT H (L2.upd H b o) := fun x xs e => by rw [upd_ne (ne_of e hb fun z => nu.1 _ z.symm)]; exact e
  exact ⟨dx, bv, by rw [upd_ne (ne_of h1 hb fun z => nu.2 _ _ _ z.symm)]; exact h1, st _ _ h2, h3.t st ok⟩
def spTI (C : Addr) : Sp := fun vs H Q _ => ∃ (a dx cv R : Addr) (rs : RowsL), vs = [.ref a, .ref cv, .ref R] ∧ H a = some (.ins C dx []) ∧ (H R = some (.lst (rs.map (·.1))) ∨ H R = some (.tup (rs.map (·.1)))) ∧ RowsAt H rs ∧ RowsOk rs ∧
  ∀ H', SameB a H H' → IsTb C H' a cv rs → Q .non H'
def spTC (C : Addr) : Sp := fun vs H Q _ => ∃ (a cv : Addr) (rs : RowsL), vs = [.ref a] ∧ IsTb C H a cv rs ∧ Q (.ref cv) H
def spTR (C : Addr) : Sp := fun vs H Q _ => ∃ (a cv : Addr) (rs : RowsL), vs = [.ref a] ∧ IsTb C H a cv rs ∧ ∀ l, H l = none → Q (.ref l) (upd H l (.lst (rs.map (·.1))))
structure TbM (P : Program) (w : World) (K : PySem.W.Frag) (mg : Str → Option Value) (base : Heap) (C : Addr) : Prop where
  i : ∃ fI fdI, TbF K mg C fI ∧ FnOk P w K mg base CX0 1 fI fdI ["self", "columns", "rows"] (spTI C) ∧ Binds K fdI ["self", "columns", "rows"] []
  c : ∃ fC fdC, Meth K C "columns" fC ∧ FnOk P w K mg base CX0 1 fC fdC ["self"] (spTC C) ∧ Binds K fdC ["self"] []
  r : ∃ fR fdR, Meth K C "rows" fR ∧ FnOk P w K mg base CX0 1 fR fdR ["self"] (spTR C) ∧ Binds K fdR ["self"] []
theorem mk_tb {C cv R : Addr} {rs : RowsL} {H : Hp} {Q : Addr → Hp → Prop} {E : XK} (hR : H R = some (.lst (rs.map (·.1))) ∨ H R = some (.tup (rs.map (·.1)))) (ha : RowsAt H rs) (o : RowsOk rs)
    (k : ∀ (a : Addr) (H' : Hp), Same H H' → H a = none → IsTb C H' a cv rs → Q a H') :
    ∀ x dx, H x = none → H dx = none → dx ≠ x → spTI C [.ref x, .ref cv, .ref R] (L2.upd (L2.upd H dx (.own x)) x (.ins C dx [])) (fun v H2 => v = .non ∧ Q x H2) E := by
  intro x ex hx hex hne
  have s1 : Same H (L2.upd (L2.upd H ex (.own x)) x (.ins C ex [])) := fun b o' e => by
    rw [upd_ne (ne_of_none e hx), upd_ne (ne_of_none e hex)]
    exact e
  exact ⟨x, ex, cv, R, rs, rfl, upd_same, hR.imp (s1 _ _) (s1 _ _), ha.same s1, o, fun H1 b1 hI1 => ⟨rfl, k x H1 (fun b o' e => b1 b o' (ne_of_none e hx) (s1 b o' e)) hx hI1⟩⟩
section
variable {P : Program} {w : World} {K : PySem.W.Frag} {mg : Str → Option Value} {base : Heap} {f C fI : Addr} {fd : FuncData}
theorem scTI : FnScope ["self", "columns", "rows"] ["self", "columns", "rows"] (defScope sTI) := ⟨rfl, rfl, rfl, by decide +kernel, rfl, by decide +kernel, by decide +kernel⟩
theorem ok_ti (F : Fun K "__init__" "Table.__init__" sTI f fd) (T : Bt mg) (G : TbF K mg C fI) : FnOk P w K mg base CX0 1 f fd ["self", "columns", "rows"] (spTI C) := by
  refine F.ok scTI (fun vs H Q E h => ?_) (fun cdv A outer s H vs Q E hr h => ?_)
  · obtain ⟨a, dx, cv, R, rs, rfl, _⟩ := h
    rfl
  · obtain ⟨a, dx, cv, R, rs, rfl, ha, hR, hrs, o, k⟩ := h
    refine ⟨_, pss_cons (ps_fld (pv 0) (pv 1) (by rfl)) (pss_one (ps_fld (pv 0) (pe_callTy call_tuple_of (by rfl) T.tuple boot_tuple (pa_cons (pv 2) pa_nil)) (by rfl))), ?_⟩
    refine ⟨_, rfl, _, rfl, a, C, dx, _, rfl, ha, G.cls, G.a1, by decide, ?_⟩
    have nR : R ≠ a := by rcases hR with e | e <;> exact ne_of e ha nofun
    have b1 : SameB a H (L2.upd H a (.ins C dx (putF "shape" (.ref cv) []))) := SameB.upd
    have e1 : L2.upd H a (.ins C dx (putF "shape" (.ref cv) [])) a = some (.ins C dx [("shape", .ref cv)]) := upd_same
    have st1 : SameT H (L2.upd H a (.ins C dx (putF "shape" (.ref cv) []))) := SameT.at ha (fun xs => nofun) b1
    dsimp only
    generalize L2.upd H a (.ins C dx (putF "shape" (.ref cv) [])) = H1 at b1 e1 st1 ⊢
    have fin : ∀ (bv : Addr) (H2 : Hp), SameB a H H2 → H2 a = some (.ins C dx [("shape", .ref cv)]) → H2 bv = some (.tup (rs.map (·.1))) → RowsAt H2 rs → ∃ a' C' dx' fs, V.ref a = V.ref a' ∧ H2 a' = some (.ins C' dx' fs) ∧ Cls K C' ∧ NoAttr K C' "body" ∧ fs.length < 1000 ∧ Q .non (L2.upd H2 a' (.ins C' dx' (putF "body" (.ref bv) fs))) := fun bv H2 b2 e2 e3 r2 => by
      refine ⟨a, C, dx, _, rfl, e2, G.cls, G.a2, by show 1 < 1000; decide, ?_⟩
      have b3 : SameB a H2 (L2.upd H2 a (.ins C dx (fsT cv bv))) := SameB.upd
      have st3 : SameT H2 (L2.upd H2 a (.ins C dx (fsT cv bv))) := SameT.at e2 (fun xs => nofun) b3
      exact k _ (b2.trans b3) ⟨dx, bv, upd_same, st3 _ _ e3, r2.t st3 o⟩
    rcases hR with hR | hR
    · refine ⟨_, rfl, R, _, rfl, .inl ⟨SqL.of (b1 _ _ nR hR), fun l hl => ⟨_, rfl, ?_⟩⟩⟩
      have zl := Same.upd (o := .tup (rs.map (·.1))) hl
      exact fin l _ (b1.trans (Same.b a zl)) (zl _ _ e1) upd_same ((hrs.t st1 o).same zl)
    · exact ⟨_, rfl, R, _, rfl, .inr ⟨SqT.of (b1 _ _ nR hR), ⟨_, rfl, fin R _ b1 e1 (b1 _ _ nR hR) (hrs.t st1 o)⟩⟩⟩
theorem scTC : FnScope ["self"] ["self"] (defScope sTC) := ⟨rfl, rfl, rfl, by decide +kernel, rfl, by decide +kernel, by decide +kernel⟩
theorem ok_tc (F : Fun K "columns" "Table.columns" sTC f fd) (G : TbF K mg C fI) : FnOk P w K mg base CX0 1 f fd ["self"] (spTC C) := by
  refine F.ok scTC (fun vs H Q E h => ?_) (fun cdv A outer s H vs Q E hr h => ?_)
  · obtain ⟨a, cv, rs, rfl, _⟩ := h
    rfl
  · obtain ⟨a, cv, rs, rfl, ⟨dx, bv, h1, h2, h3⟩, k⟩ := h
    exact ⟨_, pss_one (ps_ret (pe_fld (pv 0) (by rfl))), ⟨_, rfl, a, C, dx, _, _, rfl, h1, G.cls, G.a1, rfl, k⟩⟩
theorem scTR : FnScope ["self"] ["self"] (defScope sTR) := ⟨rfl, rfl, rfl, by decide +kernel, rfl, by decide +kernel, by decide +kernel⟩
theorem ok_tr (F : Fun K "rows" "Table.rows" sTR f fd) (T : Bt mg) (G : TbF K mg C fI) : FnOk P w K mg base CX0 1 f fd ["self"] (spTR C) := by
  refine F.ok scTR (fun vs H Q E h => ?_) (fun cdv A outer s H vs Q E hr h => ?_)
  · obtain ⟨a, cv, rs, rfl, _⟩ := h
    rfl
  · obtain ⟨a, cv, rs, rfl, ⟨dx, bv, h1, h2, h3⟩, k⟩ := h
    exact ⟨_, pss_one (ps_ret (pe_callTy call_list_of (by rfl) T.list boot_list (pa_cons (pe_fld (pv 0) (by rfl)) pa_nil))), ⟨_, rfl, a, C, dx, _, _, rfl, h1, G.cls, G.a2, rfl, bv, _, rfl, .inr (SqT.of h2), fun l hl => k l hl⟩⟩
end
end K16
set_option Elab.async false
set_option linter.all false
set_option maxRecDepth 100000
set_option maxHeartbeats 4000000
namespace K16
open PySem PySem.Spec PyProof.Rows L2 Lc
/-! ## the columns behind a step -/
def spBt : Sp := fun vs H Q _ => ∃ n lo hi : Int, vs = [.int n, .int lo, .int hi] ∧ Q (.bl (decide (lo ≤ n) && decide (n ≤ hi))) H
def spWd : Sp := fun vs H Q _ => ∃ (p : Addr) (z : Str) (xs : List V), vs = [.ref p] ∧ H p = some (.tup (.str z :: xs)) ∧ xs.length < 1000 ∧ Q (.str z) H
def spTo : Sp := fun vs H Q _ => ∃ (p : Addr) (xs : List V) (lo hi : Int), vs = [.ref p, .int lo, .int hi] ∧ H p = some (.tup xs) ∧ Q (.bl (decide (lo ≤ (xs.length : Int)) && decide ((xs.length : Int) ≤ hi))) H
def kdV (ps : CsL) (x : Str) : V := if x ∈ nms ps then .str (kdOf ps x) else .non
theorem kdV_in {ps : CsL} {x : Str} (h : x ∈ nms ps) : kdV ps x = .str (kdOf ps x) := if_pos h
theorem kdV_no {ps : CsL} {x : Str} (h : x ∉ nms ps) : kdV ps x = .non := if_neg h
def spKi : Sp := fun vs H Q _ => ∃ (L : Addr) (ps : CsL) (x : Str), vs = [.ref L, .str x] ∧ CA H L ps ∧ (nms ps).Nodup ∧ Q (kdV ps x) H
def spAc : Sp := fun vs H Q _ => ∃ (L p : Addr) (ps : CsL) (ns : List Str), vs = [.ref L, .ref p] ∧ CA H L ps ∧ ColP ps ∧ H p = some (.tup (vS ns)) ∧ (∀ n ∈ ns, n ∈ nms ps) ∧ ns.Nodup ∧ ns.length ≤ 8 ∧ ∀ H', Same H H' → Q (.bl true) H'
def spBd : Sp := fun vs H Q _ => ∃ (L : Addr) (ps : CsL), vs = [.ref L] ∧ CA H L ps ∧ ps.length ≤ 8 ∧ Q (.ref L) H
/-- what a step of the word w leads to -/
def spBeh (wd : Str) : Sp := fun vs H Q _ => ∃ (tb : V) (cv p : Addr) (ps qs : CsL) (st : Ps), vs = [tb, .ref cv, .ref p] ∧ CA H cv ps ∧ ColP ps ∧ Dh H (.ref p) st.d ∧ Lead ps st qs ∧ st.w = wd ∧ ∀ (cv' : Addr) (H' : Hp), Same H H' → CA H' cv' qs → Q (.ref cv') H'
theorem take_nodup {ns : List Str} {i : Nat} {g : Str} (nd : ns.Nodup) (e : ns[i]? = some g) : g ∉ ns.take i := fun h => by
  have e2 : ns = ns.take i ++ ns.drop i := (List.take_append_drop i ns).symm
  rw [e2, List.nodup_append] at nd
  have hd : g ∈ ns.drop i := by
    obtain ⟨l, rfl⟩ := List.getElem?_eq_some_iff.mp e
    exact List.mem_iff_getElem?.mpr ⟨0, by rw [List.getElem?_drop]; simpa using List.getElem?_eq_getElem l⟩
  exact nd.2.2 g h g hd rfl
section
variable {P : Program} {w : World} {K : PySem.W.Frag} {mg : Str → Option Value} {base : Heap} {f : Addr} {fd : FuncData}
abbrev sBt : Stmt := top 78
abbrev nBt : List Str := ["value", "low", "high"]
abbrev pBt : List Str := ["value", "low", "high"]
theorem scBt : FnScope nBt pBt (defScope sBt) := ⟨rfl, rfl, rfl, by decide +kernel, rfl, by decide +kernel, by decide +kernel⟩
section
variable {fA_ : Addr} {fdA_ : FuncData}
theorem ok_Bt (F : Fun K "is_between" "is_between" sBt f fd) (T : Bt mg)
    (GA_ : FnOk P w K mg base CX0 1 fA_ fdA_ ["value"] (spWhole)) (mA_ : mg "is_whole" = some (.ref fA_)) (kA_ : PySem.W.keepIn K (.ref fA_) = true) (bA_ : Binds K fdA_ ["value"] []) : FnOk P w K mg base CX0 2 f fd pBt (spBt) := by
  refine F.ok scBt (fun vs H Q E h => ?_) (fun cdv A outer s H vs Q E hr h => ?_)
  · obtain ⟨n, lo, hi, rfl, _⟩ := h
    rfl
  · obtain ⟨n, lo, hi, rfl, k⟩ := h
    have hrA_ : Room (1) _ := hr.mono (by first | decide | omega)
    refine ⟨_, (pss_one (ps_ret (pe_and (pe_call GA_ hrA_ (by rfl) mA_ kA_ bA_ .nil pass0 (pa_cons (pv 0) pa_nil)) (pe_one (pe_chain op_le op_le (pv 1) (pv 0) (pv 2)))))), ?_⟩
    refine ⟨_, rfl, .int n, "int", rfl, .int n, _, rfl, iteT ⟨_, rfl, _, rfl, _, _, rfl, rfl, _, rfl, ite2 (fun q => ?_) (fun q => ?_)⟩⟩
    · refine ⟨_, rfl, _, _, rfl, rfl, ?_⟩
      rw [q, Bool.true_and] at k
      exact k
    · have q : decide (lo ≤ n) = false := by simpa using q
      rw [q, Bool.false_and] at k
      exact k
end
abbrev sWd : Stmt := top 97
abbrev nWd : List Str := ["step"]
abbrev pWd : List Str := ["step"]
theorem scWd : FnScope nWd pWd (defScope sWd) := ⟨rfl, rfl, rfl, by decide +kernel, rfl, by decide +kernel, by decide +kernel⟩
section
theorem ok_Wd (F : Fun K "word_of" "word_of" sWd f fd) (T : Bt mg) : FnOk P w K mg base CX0 1 f fd pWd (spWd) := by
  refine F.ok scWd (fun vs H Q E h => ?_) (fun cdv A outer s H vs Q E hr h => ?_)
  · obtain ⟨p, z, xs, rfl, _⟩ := h
    rfl
  · obtain ⟨p, z, xs, rfl, hp, lx, k⟩ := h
    refine ⟨_, (pss_cons (ps_if (PW.pt (pw_and (pt_val (pe_callB call_isi (by rfl) T.isi boot_isinstance (pa_cons (pv 0) (pa_cons (pe_bltn (v := .ty "tuple") (by rfl) T.tuple boot_tuple rfl) pa_nil)))) (pw_and (pt_cmpR op_gt (pe_callB call_len_seq (by rfl) T.len PySem.boot_len (pa_cons (pv 0) pa_nil)) pe_int (nomark _)) (pw_and1 (pt_val (pe_callB call_isi (by rfl) T.isi boot_isinstance (pa_cons (pe_ix ix_tup (pv 0) pe_int (fun _ _ => rfl)) (pa_cons (pe_bltn (v := .ty "str") (by rfl) T.str boot_str rfl) pa_nil)))))))) (pss_one (ps_ret (pe_ix ix_tup (pv 0) pe_int (fun _ _ => rfl)))) pss_nil)
      (pss_one (ps_ret pe_non))), ?_⟩
    have at0 : ∀ (p : Addr), ∃ q, q = p := fun p => ⟨p, rfl⟩
    refine ⟨_, rfl, .ref p, .ty "tuple", _, _, _, rfl, .ty "tuple", (TyN.tup hp).x, kit_tuple (TyN.tup hp).mem, _, rfl, iteT ?_⟩
    refine ⟨_, rfl, p, _, rfl, .inr (SqT.of hp), _, _, rfl, rfl, _, rfl, ?_⟩
    rw [decide_eq_true (show (0 : Int) < ((V.str z :: xs).length : Int) by rw [List.length_cons]; omega)]
    refine iteT ⟨_, rfl, p, _, _, .str z, rfl, rfl, SqT.of hp, at_of (j := 0) rfl rfl, .str z, .ty "str", _, _, _, rfl, .ty "str", (TyN.str z).x, kit_str (TyN.str (H := H) z).mem, _, rfl, iteT ?_⟩
    exact ⟨_, rfl, p, _, _, .str z, rfl, rfl, SqT.of hp, at_of (j := 0) rfl rfl, k⟩
end
abbrev sTo : Stmt := top 79
abbrev nTo : List Str := ["value", "low", "high"]
abbrev pTo : List Str := ["value", "low", "high"]
theorem scTo : FnScope nTo pTo (defScope sTo) := ⟨rfl, rfl, rfl, by decide +kernel, rfl, by decide +kernel, by decide +kernel⟩
section
theorem ok_To (F : Fun K "is_tuple_of" "is_tuple_of" sTo f fd) (T : Bt mg) : FnOk P w K mg base CX0 1 f fd pTo (spTo) := by
  refine F.ok scTo (fun vs H Q E h => ?_) (fun cdv A outer s H vs Q E hr h => ?_)
  · obtain ⟨p, xs, lo, hi, rfl, _⟩ := h
    rfl
  · obtain ⟨p, xs, lo, hi, rfl, hp, k⟩ := h
    refine ⟨_, (pss_one (ps_ret (pe_and (pe_callB call_isi (by rfl) T.isi boot_isinstance (pa_cons (pv 0) (pa_cons (pe_bltn (v := .ty "tuple") (by rfl) T.tuple boot_tuple rfl) pa_nil))) (pe_one (pe_chain op_le op_le (pv 1) (pe_callB call_len_seq (by rfl) T.len PySem.boot_len (pa_cons (pv 0) pa_nil)) (pv 2)))))), ?_⟩
    refine ⟨_, rfl, .ref p, .ty "tuple", _, _, _, rfl, .ty "tuple", (TyN.tup hp).x, kit_tuple (TyN.tup hp).mem, _, rfl, iteT ⟨_, rfl, _, rfl, p, _, rfl, .inr (SqT.of hp), _, _, rfl, rfl, _, rfl, ite2 (fun q => ?_) (fun q => ?_)⟩⟩
    · refine ⟨_, rfl, _, _, rfl, rfl, ?_⟩
      rw [q, Bool.true_and] at k
      exact k
    · have q : decide (lo ≤ (xs.length : Int)) = false := by simpa using q
      rw [q, Bool.false_and] at k
      exact k
end
abbrev sKi : Stmt := top 80
abbrev nKi : List Str := ["columns", "name", "called", "kind"]
abbrev pKi : List Str := ["columns", "name"]
theorem scKi : FnScope nKi pKi (defScope sKi) := ⟨rfl, rfl, rfl, by decide +kernel, rfl, by decide +kernel, by decide +kernel⟩
section
theorem ok_Ki (F : Fun K "kind_in" "kind_in" sKi f fd) (T : Bt mg) : FnOk P w K mg base CX0 1 f fd pKi (spKi) := by
  refine F.ok scKi (fun vs H Q E h => ?_) (fun cdv A outer s H vs Q E hr h => ?_)
  · obtain ⟨L, ps, x, rfl, _⟩ := h
    rfl
  · obtain ⟨L, ps, x, rfl, hL, cp, k⟩ := h
    refine ⟨_, (pss_cons (ps_for PassesOwn.never rfl (pi_tup (pv 0)) (pg_tup rfl (pgs_cons (pg_name (i := 2) scKi.nd rfl (.inl rfl)) (pgs_cons (pg_name (i := 3) scKi.nd rfl (.inl rfl)) pgs_nil))) (pss_one (ps_if (pt_cmpR op_eq (pv 2) (pv 1) (nomark _)) (pss_one (ps_ret (pv 3))) pss_nil)))
      (pss_one (ps_ret pe_non))), ?_⟩
    obtain ⟨xs, zL, cc⟩ := hL
    refine ⟨_, rfl, L, rfl, ⟨_, zL.sq⟩, for_tup (K := K) (a := L) (xs := xs) (fun i σ H' => (∃ x2 x3 : Option V, σ = [some (.ref L), some (.str x), x2, x3]) ∧ H' = H ∧ ∀ p ∈ ps.take i, p.1 ≠ x) ⟨⟨none, none, rfl⟩, rfl, fun p hp => by simp at hp⟩ (fun i σ H' _ pr => by rw [pr.2.1]; exact zL.sq) ?_ ?_⟩
    · rintro i y σ H2 hy ⟨⟨x2, x3, rfl⟩, rfl, hno⟩
      obtain ⟨a, z, kk, rfl, ea, ep⟩ := cc.get _ _ hy
      refine ⟨a, _, rfl, SqT.of ea, rfl, _, _, rfl, _, _, rfl, rfl, ?_⟩
      dsimp only [gNil]
      refine ⟨_, rfl, _, rfl, rfl, _, rfl, ?_⟩
      by_cases q : z = x
      · rw [show decide (V.str z = V.str x) = true by rw [q]; exact decide_eq_true rfl]
        refine iteT ⟨_, rfl, ?_⟩
        have hm := List.mem_of_getElem? ep
        have hx : x ∈ nms ps := by rw [← q]; exact List.mem_map_of_mem hm
        rw [kdV_in hx, ← q, kdOf_mem cp hm] at k
        exact k
      · rw [show decide (V.str z = V.str x) = false from decide_eq_false (fun h => q (by injection h))]
        refine iteF ⟨⟨_, _, rfl⟩, rfl, fun p hp => ?_⟩
        rw [List.take_add_one, ep] at hp
        rcases List.mem_append.mp hp with hp | hp
        · exact hno p hp
        · rw [Option.toList_some, List.mem_singleton] at hp
          rw [hp]
          exact q
    · rintro σ H2 ⟨⟨x2, x3, rfl⟩, rfl, hno⟩
      rw [cc.len, List.take_length] at hno
      have hx : x ∉ nms ps := fun h => by
        obtain ⟨p, hp, e⟩ := List.mem_map.mp h
        exact hno p hp e
      rw [kdV_no hx] at k
      exact k
end
abbrev sAc : Stmt := top 81
abbrev nAc : List Str := ["columns", "names", "seen", "name"]
abbrev pAc : List Str := ["columns", "names"]
theorem scAc : FnScope nAc pAc (defScope sAc) := ⟨rfl, rfl, rfl, by decide +kernel, rfl, by decide +kernel, by decide +kernel⟩
section
variable {fA_ : Addr} {fdA_ : FuncData}
theorem ok_Ac (F : Fun K "are_columns" "are_columns" sAc f fd) (T : Bt mg)
    (GA_ : FnOk P w K mg base CX0 1 fA_ fdA_ ["columns", "name"] (spKi)) (mA_ : mg "kind_in" = some (.ref fA_)) (kA_ : PySem.W.keepIn K (.ref fA_) = true) (bA_ : Binds K fdA_ ["columns", "name"] []) : FnOk P w K mg base CX0 2 f fd pAc (spAc) := by
  refine F.ok scAc (fun vs H Q E h => ?_) (fun cdv A outer s H vs Q E hr h => ?_)
  · obtain ⟨L, p, ps, ns, rfl, _⟩ := h
    rfl
  · obtain ⟨L, p, ps, ns, rfl, hL, cp, hp, hn, nd, k⟩ := h
    have hrA_ : Room (1) _ := hr.mono (by first | decide | omega)
    refine ⟨_, (pss_cons (ps_set (i := 2) scAc.nd rfl (Or.inl rfl) (pe_lst pa_nil))
      (pss_cons (ps_for PassesOwn.never rfl (pi_tup (pv 1)) (pg_name (i := 3) scAc.nd rfl (.inl rfl)) (pss_cons (ps_if (PW.pt (pw_or (pt_cmpR op_in_seq (pv 3) (pv 2) (by rfl)) (pw_or1 (pt_cmpR op_isN (pe_call GA_ hrA_ (by rfl) mA_ kA_ bA_ .nil pass0 (pa_cons (pv 0) (pa_cons (pv 3) pa_nil))) pe_non (nomark _))))) (pss_one (ps_ret pe_bl)) pss_nil)
      (pss_one (ps_expr (pe_bm PySem.F.plainAttrs_list PySem.F.slot_list_append PySem.F.type_list_append mt_append (pv 2) (pa_cons (pv 3) pa_nil))))))
      (pss_one (ps_ret pe_bl)))), ?_⟩
    obtain ⟨n8, k⟩ := k
    refine ⟨Nat.zero_le _, fun S hS => ?_⟩
    have zS := Same.upd (o := .lst []) hS
    refine ⟨_, rfl, p, rfl, ⟨_, SqT.of (zS _ _ hp)⟩, for_tup (K := K) (a := p) (xs := vS ns) (fun i σ H' => (∃ x3 : Option V, σ = [some (.ref L), some (.ref p), some (.ref S), x3]) ∧ H' S = some (.lst (vS (ns.take i))) ∧ Same H H') ⟨⟨none, rfl⟩, upd_same, zS⟩ (fun i σ H' _ pr => SqT.of (pr.2.2 _ _ hp)) ?_ ?_⟩
    · rintro i y σ H2 hy ⟨⟨x3, rfl⟩, eS, s2⟩
      rw [List.getElem?_map] at hy
      obtain ⟨g, eg, rfl⟩ := Option.map_eq_some_iff.mp hy
      have gm := hn g (List.mem_of_getElem? eg)
      have fl : (vS (ns.take i)).all flatV = true := List.all_eq_true.mpr fun v hv => by
        obtain ⟨x, _, rfl⟩ := List.mem_map.mp hv
        rfl
      refine ⟨_, rfl, _, rfl, S, _, rfl, .inl (SqL.of eS), rfl, fl, _, rfl, ?_⟩
      rw [in_strs, decide_eq_false (take_nodup nd eg)]
      refine iteF ⟨_, rfl, _, rfl, L, ps, g, rfl, hL.same s2, cp.nd, ?_⟩
      rw [kdV_in gm]
      refine ⟨rfl, _, rfl, iteF ⟨_, rfl, .inl ⟨rfl, _, SqL.of eS⟩, _, rfl, S, _, _, rfl, rfl, eS, lt_size (by rw [List.length_map, List.length_take]; omega), ⟨⟨_, rfl⟩, ?_, fun b o e => by rw [upd_ne (ne_of_none e hS)]; exact s2 b o e⟩⟩⟩
      rw [upd_same, List.take_add_one, eg]
      unfold vS
      rw [List.map_append]
      rfl
    · rintro σ H2 ⟨⟨x3, rfl⟩, eS, s2⟩
      exact k H2 s2
end
abbrev sBd : Stmt := top 82
abbrev nBd : List Str := ["columns"]
abbrev pBd : List Str := ["columns"]
theorem scBd : FnScope nBd pBd (defScope sBd) := ⟨rfl, rfl, rfl, by decide +kernel, rfl, by decide +kernel, by decide +kernel⟩
section
theorem ok_Bd (F : Fun K "bounded" "bounded" sBd f fd) (T : Bt mg) {u8 : Tok} (m8 : mg "MOST_COLUMNS" = some (.int 8 u8)) : FnOk P w K mg base CX0 1 f fd pBd (spBd) := by
  refine F.ok scBd (fun vs H Q E h => ?_) (fun cdv A outer s H vs Q E hr h => ?_)
  · obtain ⟨L, ps, rfl, _⟩ := h
    rfl
  · obtain ⟨L, ps, rfl, hL, l8, k⟩ := h
    refine ⟨_, (pss_one (ps_ret (pe_ifExp (pt_cmpR op_le (pe_callB call_len_seq (by rfl) T.len PySem.boot_len (pa_cons (pv 0) pa_nil)) (pe_glob (v := .int 8) (by rfl) m8 ⟨_, rfl⟩) (nomark _)) (pv 0) pe_non))), ?_⟩
    obtain ⟨xs, zL, cc⟩ := hL
    have lx := cc.len
    refine ⟨_, rfl, L, _, rfl, .inr zL.sq, _, _, rfl, rfl, _, rfl, ?_⟩
    rw [decide_eq_true (show (xs.length : Int) ≤ 8 by omega)]
    exact iteT ⟨_, rfl, k⟩
end
abbrev sKn : Stmt := top 34
abbrev nKn : List Str := ["columns", "expression"]
abbrev pKn : List Str := ["columns", "expression"]
theorem scKn : FnScope nKn pKn (defScope sKn) := ⟨rfl, rfl, rfl, by decide +kernel, rfl, by decide +kernel, by decide +kernel⟩
section
variable {fA_ C : Addr} {fdA_ : FuncData}
theorem ok_Kn (F : Fun K "kind_or_none" "kind_or_none" sKn f fd) (T : Bt mg) (gC : mg "BadExpression" = some (.ref C))
    (GA_ : FnOk P w K mg base CX0 14 fA_ fdA_ ["columns", "expression"] (spKo)) (mA_ : mg "kind_of" = some (.ref fA_)) (kA_ : PySem.W.keepIn K (.ref fA_) = true) (bA_ : Binds K fdA_ ["columns", "expression"] []) : FnOk P w K mg base CX0 15 f fd pKn (spKo) := by
  refine F.ok scKn (fun vs H Q E h => ?_) (fun cdv A outer s H vs Q E hr h => ?_)
  · obtain ⟨L, a, xs, ps, d, kd, rfl, _⟩ := h
    rfl
  · have h0 := h
    obtain ⟨L, a, xs, ps, d, kd, rfl, _⟩ := h
    have hrA_ : Room (14) _ := hr.mono (by first | decide | omega)
    refine ⟨_, pss_one (ps_tryL (Wout := fun _ _ _ _ => False) (tb := fun W => tRet (tCall spKo [] E0 (tCons (tVar 0) (tCons (tVar 1) tNil)))) (l := [⟨.ref C, none, fun _ _ _ => tRet (tC .non)⟩]) rfl rfl takes0
        (fun W pn xe tk _ => pss_one (ps_ret (pe_call GA_ hrA_ (by rfl) mA_ kA_ bA_ .nil pass0 (pa_cons (pv 0) (pa_cons (pv 1) pa_nil)))))
        (.bare ⟨rfl, by decide, Or.inl gC⟩ rfl (fun a ob cls d pn hz hf => pss_one (ps_ret pe_non)) .nil)), ?_⟩
    exact ⟨_, rfl, _, rfl, h0⟩
end
/-! the parts of a step -/
theorem dh2 {H : Hp} {p : Addr} {a : Str} {b : PyData} (h : Dh H (.ref p) (.tuple [.str a, b])) : ∃ v, H p = some (.tup [.str a, v]) ∧ Dh H v b := by
  cases h with
  | tup e hs => cases hs with
    | cons h1 r1 => cases r1 with
      | cons h2 r2 => cases r2; cases h1; exact ⟨_, e, h2⟩
theorem dh3 {H : Hp} {p : Addr} {a b : Str} {c : PyData} (h : Dh H (.ref p) (.tuple [.str a, .str b, c])) : ∃ v, H p = some (.tup [.str a, .str b, v]) ∧ Dh H v c := by
  cases h with
  | tup e hs => cases hs with
    | cons h1 r1 => cases r1 with
      | cons h2 r2 => cases r2 with
        | cons h3 r3 => cases r3; cases h1; cases h2; exact ⟨_, e, h3⟩
theorem dh4 {H : Hp} {p : Addr} {a : Str} {b c d : Int} (h : Dh H (.ref p) (.tuple [.str a, .int b, .int c, .int d])) : H p = some (.tup [.str a, .int b, .int c, .int d]) := by
  cases h with
  | tup e hs => cases hs with
    | cons h1 r1 => cases r1 with
      | cons h2 r2 => cases r2 with
        | cons h3 r3 => cases r3 with
          | cons h4 r4 => cases r4; cases h1; cases h2; cases h3; cases h4; exact e
theorem dhs_strs {H : Hp} : ∀ {ns : List Str} {vs : List V}, DhAll H vs (ns.map PyData.str) → vs = vS ns
  | [], _, .nil => rfl
  | n :: ns, _, .cons h r => by cases h; rw [dhs_strs r]; rfl
theorem dh_strs {H : Hp} {v : V} {ns : List Str} (h : Dh H v (strT ns)) : ∃ a, v = .ref a ∧ H a = some (.tup (vS ns)) := by
  cases h with
  | tup e hs => rw [dhs_strs hs] at e; exact ⟨_, rfl, e⟩
theorem xp_ref {H : Hp} {ps : CsL} {n : Nat} {k : Str} {d : PyData} {v : V} (h : Dh H v d) (x : Xp ps n k d) : ∃ a, v = .ref a := by
  cases x <;> cases h <;> exact ⟨_, rfl⟩
def Ps.len : Ps → Nat
  | .keep _ => 2
  | .set _ _ => 3
  | .select _ => 2
  | .rename _ _ => 3
  | .sort _ _ => 3
  | .sample _ _ _ => 4
def Ps.Pl : Ps → Prop
  | .sort _ _ => False
  | .sample n w _ => n = w
  | _ => True
theorem ps_at {H : Hp} {p : Addr} {st : Ps} (h : Dh H (.ref p) st.d) : ∃ xs : List V, H p = some (.tup (.str st.w :: xs)) ∧ xs.length + 1 = st.len := by
  cases st with
  | keep e => obtain ⟨v, e, _⟩ := dh2 h; exact ⟨_, e, rfl⟩
  | set x e => obtain ⟨v, e, _⟩ := dh3 h; exact ⟨_, e, rfl⟩
  | select ns => obtain ⟨v, e, _⟩ := dh2 h; exact ⟨_, e, rfl⟩
  | rename a b => obtain ⟨v, e, _⟩ := dh3 h; exact ⟨_, e, rfl⟩
  | sort a u => obtain ⟨v, e, _⟩ := dh3 h; exact ⟨_, e, rfl⟩
  | sample n w s => exact ⟨_, dh4 h, rfl⟩
theorem nm_len {x : Str} (h : Sh 12 x) : ∀ y, V.str x = V.str y → y.length ≤ sizeLine := fun y e => by
  injection e with e
  rw [← e]
  exact Nat.le_trans h.len (by decide)
abbrev teBe (K : PySem.W.Frag) : TE := tIf (tTest (tOp rEq (tOp (rIxT K) (tVar 7) (tC (.int 0))) (tVar 4))) (tTup (tCons (tVar 4) (tCons (tVar 6) tNil))) (tVar 7)
abbrev teBl : TE := tTup (tCons (tVar 4) (tCons (tCall spKi [] E0 (tCons (tVar 1) (tCons (tVar 4) tNil))) tNil))
abbrev teBr : TE := tIf (tTest (tOp rEq (tVar 6) (tVar 4))) (tTup (tCons (tVar 5) (tCons (tVar 7) tNil))) (tTup (tCons (tVar 6) (tCons (tVar 7) tNil)))
/-- a column put at the end of the new ones -/
theorem col_put {H H1 H2 : Hp} {D p : Addr} {ys : List V} {qs : CsL} {z k : Str} (hD : H D = none) (e1 : H1 D = some (.lst ys)) (c1 : Cols H1 ys qs) (l : ys.length ≤ 100) (s1 : Same H H1) (s2 : Same H1 H2) (hp : H2 p = some (.tup [.str z, .str k])) :
    ∃ acc, H2 D = some (.lst acc) ∧ acc.length < sizeLine ∧ ((∃ ys', upd H2 D (.lst (acc ++ [.ref p])) D = some (.lst ys') ∧ Cols (upd H2 D (.lst (acc ++ [.ref p]))) ys' (qs ++ [(z, k)])) ∧ Same H (upd H2 D (.lst (acc ++ [.ref p])))) := by
  have e3 := s2 _ _ e1
  refine ⟨ys, e3, lt_size (by omega), ⟨ys ++ [.ref p], upd_same, ?_⟩, fun b o e => by rw [upd_ne (ne_of_none e hD)]; exact s2 _ _ (s1 _ _ e)⟩
  exact ((c1.t (SameT.of s2)).app (.cons hp .nil)).t (SameT.lst e3)
abbrev sBk : Stmt := top 83
abbrev nBk : List Str := ["tables", "columns", "step"]
abbrev pBk : List Str := ["tables", "columns", "step"]
theorem scBk : FnScope nBk pBk (defScope sBk) := ⟨rfl, rfl, rfl, by decide +kernel, rfl, by decide +kernel, by decide +kernel⟩
section
variable {fA_ : Addr} {fdA_ : FuncData}
theorem ok_Bk (F : Fun K "behind_keep" "behind_keep" sBk f fd) (T : Bt mg)
    (GA_ : FnOk P w K mg base CX0 15 fA_ fdA_ ["columns", "expression"] (spKo)) (mA_ : mg "kind_or_none" = some (.ref fA_)) (kA_ : PySem.W.keepIn K (.ref fA_) = true) (bA_ : Binds K fdA_ ["columns", "expression"] []) : FnOk P w K mg base CX0 16 f fd pBk ((spBeh "keep")) := by
  refine F.ok scBk (fun vs H Q E h => ?_) (fun cdv A outer s H vs Q E hr h => ?_)
  · obtain ⟨tb, cv, p, ps, qs, st, rfl, _⟩ := h
    rfl
  · obtain ⟨tb, cv, p, ps, qs, st, rfl, hL, cp, hd, ld, hw, k⟩ := h
    have hrA_ : Room (15) _ := hr.mono (by first | decide | omega)
    refine ⟨_, (pss_one (ps_ret (pe_ifExp (pt_cmpR op_eq (pe_call GA_ hrA_ (by rfl) mA_ kA_ bA_ .nil pass0 (pa_cons (pv 1) (pa_cons (pe_ix ix_tup (pv 2) pe_int (fun _ _ => rfl)) pa_nil))) pe_str (nomark _)) (pv 1) pe_non))), ?_⟩
    cases st with
    | set x e => exact absurd hw (by show ¬ ("set" : Str) = "keep"; decide +kernel)
    | select ns => exact absurd hw (by show ¬ ("select" : Str) = "keep"; decide +kernel)
    | rename a b => exact absurd hw (by show ¬ ("rename" : Str) = "keep"; decide +kernel)
    | sort a u => exact absurd hw (by show ¬ ("sort" : Str) = "keep"; decide +kernel)
    | sample a b c => exact absurd hw (by show ¬ ("sample" : Str) = "keep"; decide +kernel)
    | keep e =>
    cases ld with
    | keep xp =>
    obtain ⟨v, e1, dv⟩ := dh2 hd
    obtain ⟨a, rfl⟩ := xp_ref dv xp
    obtain ⟨xs, zL, cc⟩ := id hL
    exact ⟨_, rfl, _, rfl, p, _, _, .ref a, rfl, rfl, SqT.of e1, at_of (j := 1) rfl rfl, cv, a, xs, ps, e, "flag", rfl, zL.rd, cc, cp.nd, cp.l8, dv, xp.mono (by decide), fun H1 s1 => ⟨rfl, _, rfl, iteT ⟨_, rfl, k cv H1 s1 (hL.same s1)⟩⟩⟩
end
abbrev sBe : Stmt := top 84
abbrev nBe : List Str := ["tables", "columns", "step", "word", "name", "expression", "kind", "column"]
abbrev pBe : List Str := ["tables", "columns", "step"]
theorem scBe : FnScope nBe pBe (defScope sBe) := ⟨rfl, rfl, rfl, by decide +kernel, rfl, by decide +kernel, by decide +kernel⟩
section
variable {fA_ fB_ fC_ fD_ : Addr} {fdA_ fdB_ fdC_ fdD_ : FuncData}
theorem ok_Be (F : Fun K "behind_set" "behind_set" sBe f fd) (T : Bt mg)
    (GA_ : FnOk P w K mg base CX0 15 fA_ fdA_ ["columns", "expression"] (spKo)) (mA_ : mg "kind_or_none" = some (.ref fA_)) (kA_ : PySem.W.keepIn K (.ref fA_) = true) (bA_ : Binds K fdA_ ["columns", "expression"] [])
    (GB_ : FnOk P w K mg base CX0 1 fB_ fdB_ ["value"] (spName)) (mB_ : mg "is_name" = some (.ref fB_)) (kB_ : PySem.W.keepIn K (.ref fB_) = true) (bB_ : Binds K fdB_ ["value"] [])
    (GC_ : FnOk P w K mg base CX0 1 fC_ fdC_ ["columns", "name"] (spKi)) (mC_ : mg "kind_in" = some (.ref fC_)) (kC_ : PySem.W.keepIn K (.ref fC_) = true) (bC_ : Binds K fdC_ ["columns", "name"] [])
    (GD_ : FnOk P w K mg base CX0 1 fD_ fdD_ ["columns"] (spBd)) (mD_ : mg "bounded" = some (.ref fD_)) (kD_ : PySem.W.keepIn K (.ref fD_) = true) (bD_ : Binds K fdD_ ["columns"] []) : FnOk P w K mg base CX0 16 f fd pBe ((spBeh "set")) := by
  refine F.ok scBe (fun vs H Q E h => ?_) (fun cdv A outer s H vs Q E hr h => ?_)
  · obtain ⟨tb, cv, p, ps, qs, st, rfl, _⟩ := h
    rfl
  · obtain ⟨tb, cv, p, ps, qs, st, rfl, hL, cp, hd, ld, hw, k⟩ := h
    have hrA_ : Room (15) _ := hr.mono (by first | decide | omega)
    have hrB_ : Room (1) _ := hr.mono (by first | decide | omega)
    have hrC_ : Room (1) _ := hr.mono (by first | decide | omega)
    have hrD_ : Room (1) _ := hr.mono (by first | decide | omega)
    refine ⟨_, (pss_cons (ps_asg (pv 2) (pg_tup rfl (pgs_cons (pg_name (i := 3) scBe.nd rfl (.inl rfl)) (pgs_cons (pg_name (i := 4) scBe.nd rfl (.inr rfl)) (pgs_cons (pg_name (i := 5) scBe.nd rfl (.inl rfl)) pgs_nil)))))
      (pss_cons (ps_set (i := 6) scBe.nd rfl (Or.inr rfl) (pe_call GA_ hrA_ (by rfl) mA_ kA_ bA_ .nil pass0 (pa_cons (pv 1) (pa_cons (pv 5) pa_nil))))
      (pss_cons (ps_if (PW.pt (pw_or (pt_not (pt_val (pe_call GB_ hrB_ (by rfl) mB_ kB_ bB_ .nil pass0 (pa_cons (pv 4) pa_nil)))) (pw_or1 (pt_cmpR op_isN (pv 6) pe_non (nomark _))))) (pss_one (ps_ret pe_non)) pss_nil)
      (pss_cons (ps_if (pt_cmpR op_isN (pe_call GC_ hrC_ (by rfl) mC_ kC_ bC_ .nil pass0 (pa_cons (pv 1) (pa_cons (pv 4) pa_nil))) pe_non (nomark _)) (pss_one (ps_ret (pe_call GD_ hrD_ (by rfl) mD_ kD_ bD_ .nil pass0 (pa_cons (pe_op op_catZ (pv 1) (pe_tup (pa_cons (pe_tup (pa_cons (pv 4) (pa_cons (pv 6) pa_nil))) pa_nil))) pa_nil)))) pss_nil)
      (pss_one (ps_ret (pe_callTy call_tupleZ (by rfl) T.tuple boot_tuple (pa_cons (pe_lc (own := [("column", 7)]) (g := (gName 7)) (tt := tYes) (te := teBe K) (by rfl) scBe.nd (pi_tup (pv 1)) (blkOk_by (own := [("column", 7)]) (N := nBe) (sc := defScope sBe) (by decide +kernel)) (fun _ _ _ _ _ => (pg_name (i := 7) scBe.nd rfl (.inl rfl))) (fun _ _ _ _ _ => pts_nil) (fun _ _ _ _ _ => (pe_ifExp (pt_cmpR op_eq (pe_ix ix_tup (pv 7) pe_int (fun _ _ => rfl)) (pv 4) (nomark _)) (pe_tup (pa_cons (pv 4) (pa_cons (pv 6) pa_nil))) (pv 7)))) pa_nil)))))))), ?_⟩
    have two : 2 ≤ sizeLine := by decide
    have one : 1 ≤ sizeLine := by decide
    cases st with
    | keep e => exact absurd hw (by show ¬ ("keep" : Str) = "set"; decide +kernel)
    | select ns => exact absurd hw (by show ¬ ("select" : Str) = "set"; decide +kernel)
    | rename a b => exact absurd hw (by show ¬ ("rename" : Str) = "set"; decide +kernel)
    | sort a u => exact absurd hw (by show ¬ ("sort" : Str) = "set"; decide +kernel)
    | sample a b c => exact absurd hw (by show ¬ ("sample" : Str) = "set"; decide +kernel)
    | set x e =>
    obtain ⟨v, e1, dv⟩ := dh3 hd
    obtain ⟨kd, xp, nx, hcase⟩ : ∃ kd, Xp ps 3 kd e ∧ (Sh 12 x ∧ nmS x) ∧ ((x ∈ nms ps ∧ qs = ps.map fun p => (p.1, if p.1 = x then kd else p.2)) ∨ (x ∉ nms ps ∧ ps.length < 8 ∧ qs = ps ++ [(x, kd)])) := by
      cases ld with
      | setO hx hk h => exact ⟨_, h, cp.nm hx, .inl ⟨hx, rfl⟩⟩
      | setN hx nx hk h l => exact ⟨_, h, nx, .inr ⟨hx, l, rfl⟩⟩
    obtain ⟨a, rfl⟩ := xp_ref dv xp
    obtain ⟨xs, zL, cc⟩ := id hL
    have lx := cc.len
    have l8 := cp.l8
    have l1 := cp.l1
    refine ⟨_, rfl, p, _, rfl, SqT.of e1, rfl, _, _, rfl, _, _, rfl, _, _, rfl, rfl, ?_⟩
    dsimp only [gNil]
    refine ⟨_, rfl, _, rfl, cv, a, xs, ps, e, kd, rfl, zL.rd, cc, cp.nd, cp.l8, dv, xp.mono (by decide), fun H1 s1 => ?_⟩
    refine ⟨_, rfl, .str x, "str", rfl, .str x, nm_len nx.1, fun H2 s2 => ⟨_, rfl, ?_⟩⟩
    rw [nx.2]
    refine iteF ⟨_, rfl, rfl, _, rfl, iteF ?_⟩
    have s12 := s1.trans s2
    have hL2 := hL.same s12
    have z2 := zL.same s12
    have c2 := cc.t (SameT.of s12)
    refine ⟨_, rfl, _, rfl, cv, ps, x, rfl, hL2, cp.nd, rfl, _, rfl, ?_⟩
    rcases hcase with ⟨hx, rfl⟩ | ⟨hx, l7, rfl⟩
    · rw [kdV_in hx]
      refine iteF ⟨_, rfl, cv, rfl, ⟨_, z2.sq⟩, fun D hD => lc_tup (K := K) (a := cv) (xs := xs) (fun i H' => (∃ ys, H' D = some (.lst ys) ∧ Cols H' ys ((ps.take i).map fun p => (p.1, if p.1 = x then kd else p.2))) ∧ Same H2 H') ⟨⟨[], upd_same, .nil⟩, Same.upd hD⟩ (fun i H' _ pr => (z2.same pr.2).sq) ?_ ?_⟩
      · rintro i y H3 hy ⟨⟨ys, e3, c3⟩, s3⟩
        obtain ⟨b, z, kk, rfl, ea, ep⟩ := c2.get _ _ hy
        have l3 := c3.len
        rw [List.length_map, List.length_take] at l3
        refine ⟨rfl, ?_⟩
        dsimp only [tYes]
        refine iteT ?_
        change teBe K _ _ _
        have ea3 := s3 _ _ ea
        refine ⟨_, rfl, b, _, _, .str z, rfl, rfl, SqT.of ea3, at_of (j := 0) rfl rfl, _, rfl, rfl, _, rfl, ?_⟩
        rw [List.take_add_one, ep, List.map_append]
        by_cases q : z = x
        · rw [show decide (V.str z = V.str x) = true by rw [q]; exact decide_eq_true rfl]
          refine iteT ⟨_, rfl, _, rfl, two, fun r hr' => ?_⟩
          have g := col_turn (z := x) (k := kd) hD e3 c3 (by omega) s3 (Same.refl _) hr'
          show ∃ acc, _
          simp only [Option.toList_some, List.map_cons, List.map_nil, if_pos q]
          rw [q]
          exact g
        · rw [show decide (V.str z = V.str x) = false from decide_eq_false (fun h => q (by injection h))]
          refine iteF ⟨_, rfl, ?_⟩
          have g := col_put (z := z) (k := kk) hD e3 c3 (by omega) s3 (Same.refl _) ea3
          show ∃ acc, _
          simp only [Option.toList_some, List.map_cons, List.map_nil, if_neg q]
          exact g
      rintro H3 ⟨⟨ys, e3, c3⟩, s3⟩
      rw [lx, List.take_length] at c3
      refine ⟨D, ys, rfl, SqL.of e3, fun r ob hr' d1 d2 => ?_⟩
      have zr := Same.upd (o := .frz ob (.tup ys)) hr'
      exact k r _ (s12.trans (s3.trans zr)) ⟨ys, ⟨ob, d1, d2, upd_same⟩, c3.t (SameT.of zr)⟩
    · rw [kdV_no hx]
      refine iteT ⟨_, rfl, _, rfl, _, rfl, two, fun p1 hp1 => ⟨one, fun q hq => ?_⟩⟩
      have zp := Same.upd (o := .tup [.str x, .str kd]) hp1
      have zq := Same.upd (o := .tup [.ref p1]) hq
      have zpq := zp.trans zq
      refine ⟨cv, q, xs, [.ref p1], rfl, rfl, (z2.same zpq).sq, SqT.of upd_same, fun z => by rw [z] at lx; change 0 = _ at lx; omega, Nat.le_trans (show _ + 1 ≤ 9 by omega) (by decide), nofun, fun _ r ob hr' d1 d2 => ?_⟩
      have zr := Same.upd (o := .frz ob (.tup (xs ++ [.ref p1]))) hr'
      have ca : CA _ r (ps ++ [(x, kd)]) := ⟨xs ++ [.ref p1], ⟨ob, d1, d2, upd_same⟩, (c2.t (SameT.of (zpq.trans zr))).app (.cons (zr _ _ (zq _ _ upd_same)) .nil)⟩
      exact ⟨r, _, rfl, ca, by rw [List.length_append]; show ps.length + 1 ≤ 8; omega, k r _ (s12.trans (zpq.trans zr)) ca⟩
end
abbrev sBl : Stmt := top 85
abbrev nBl : List Str := ["tables", "columns", "step", "names", "name"]
abbrev pBl : List Str := ["tables", "columns", "step"]
theorem scBl : FnScope nBl pBl (defScope sBl) := ⟨rfl, rfl, rfl, by decide +kernel, rfl, by decide +kernel, by decide +kernel⟩
section
variable {fA_ fB_ fC_ : Addr} {fdA_ fdB_ fdC_ : FuncData}
theorem ok_Bl (F : Fun K "behind_select" "behind_select" sBl f fd) (T : Bt mg) {u8 : Tok} (m8 : mg "MOST_COLUMNS" = some (.int 8 u8))
    (GA_ : FnOk P w K mg base CX0 1 fA_ fdA_ ["value", "low", "high"] (spTo)) (mA_ : mg "is_tuple_of" = some (.ref fA_)) (kA_ : PySem.W.keepIn K (.ref fA_) = true) (bA_ : Binds K fdA_ ["value", "low", "high"] [])
    (GB_ : FnOk P w K mg base CX0 2 fB_ fdB_ ["columns", "names"] (spAc)) (mB_ : mg "are_columns" = some (.ref fB_)) (kB_ : PySem.W.keepIn K (.ref fB_) = true) (bB_ : Binds K fdB_ ["columns", "names"] [])
    (GC_ : FnOk P w K mg base CX0 1 fC_ fdC_ ["columns", "name"] (spKi)) (mC_ : mg "kind_in" = some (.ref fC_)) (kC_ : PySem.W.keepIn K (.ref fC_) = true) (bC_ : Binds K fdC_ ["columns", "name"] []) : FnOk P w K mg base CX0 3 f fd pBl ((spBeh "select")) := by
  refine F.ok scBl (fun vs H Q E h => ?_) (fun cdv A outer s H vs Q E hr h => ?_)
  · obtain ⟨tb, cv, p, ps, qs, st, rfl, _⟩ := h
    rfl
  · obtain ⟨tb, cv, p, ps, qs, st, rfl, hL, cp, hd, ld, hw, k⟩ := h
    have hrA_ : Room (1) _ := hr.mono (by first | decide | omega)
    have hrB_ : Room (2) _ := hr.mono (by first | decide | omega)
    have hrC_ : Room (1) _ := hr.mono (by first | decide | omega)
    refine ⟨_, (pss_cons (ps_set (i := 3) scBl.nd rfl (Or.inl rfl) (pe_ix ix_tup (pv 2) pe_int (fun _ _ => rfl)))
      (pss_cons (ps_if (PW.pt (pw_or (pt_not (pt_val (pe_call GA_ hrA_ (by rfl) mA_ kA_ bA_ .nil pass0 (pa_cons (pv 3) (pa_cons pe_int (pa_cons (pe_glob (v := .int 8) (by rfl) m8 ⟨_, rfl⟩) pa_nil)))))) (pw_or1 (pt_not (pt_val (pe_call GB_ hrB_ (by rfl) mB_ kB_ bB_ .nil pass0 (pa_cons (pv 1) (pa_cons (pv 3) pa_nil)))))))) (pss_one (ps_ret pe_non)) pss_nil)
      (pss_one (ps_ret (pe_callTy call_tupleZ (by rfl) T.tuple boot_tuple (pa_cons (pe_lc (own := [("name", 4)]) (g := (gName 4)) (tt := tYes) (te := teBl) (by rfl) scBl.nd (pi_tup (pv 3)) (blkOk_by (own := [("name", 4)]) (N := nBl) (sc := defScope sBl) (by decide +kernel)) (fun _ _ _ _ _ => (pg_name (i := 4) scBl.nd rfl (.inl rfl))) (fun _ _ _ _ _ => pts_nil) (fun _ _ _ _ _ => (pe_tup (pa_cons (pv 4) (pa_cons (pe_call GC_ hrC_ (by rfl) mC_ kC_ bC_ .nil pass0 (pa_cons (pv 1) (pa_cons (pv 4) pa_nil))) pa_nil))))) pa_nil)))))), ?_⟩
    have two : 2 ≤ sizeLine := by decide
    cases st with
    | keep e => exact absurd hw (by show ¬ ("keep" : Str) = "select"; decide +kernel)
    | set x e => exact absurd hw (by show ¬ ("set" : Str) = "select"; decide +kernel)
    | rename a b => exact absurd hw (by show ¬ ("rename" : Str) = "select"; decide +kernel)
    | sort a u => exact absurd hw (by show ¬ ("sort" : Str) = "select"; decide +kernel)
    | sample a b c => exact absurd hw (by show ¬ ("sample" : Str) = "select"; decide +kernel)
    | select ns =>
    cases ld with
    | select h nd l1 l8 =>
    obtain ⟨v, e1, dv⟩ := dh2 hd
    obtain ⟨a, rfl, ea⟩ := dh_strs dv
    refine ⟨_, rfl, p, _, _, .ref a, rfl, rfl, SqT.of e1, at_of (j := 1) rfl rfl, ?_⟩
    refine ⟨_, rfl, a, vS ns, 1, 8, rfl, ea, _, rfl, ?_⟩
    rw [List.length_map, decide_eq_true (show (1 : Int) ≤ (ns.length : Int) by omega), decide_eq_true (show (ns.length : Int) ≤ 8 by omega)]
    refine iteF ⟨_, rfl, _, rfl, cv, a, ps, ns, rfl, hL, cp, ea, h, nd, l8, fun H1 s1 => ⟨_, rfl, iteF ?_⟩⟩
    refine ⟨_, rfl, a, rfl, ⟨_, SqT.of (s1 _ _ ea)⟩, fun D hD => lc_tup (K := K) (a := a) (xs := vS ns) (fun i H' => (∃ ys, H' D = some (.lst ys) ∧ Cols H' ys ((ns.take i).map fun n => (n, kdOf ps n))) ∧ Same H1 H') ⟨⟨[], upd_same, .nil⟩, Same.upd hD⟩ (fun i H' _ pr => SqT.of (pr.2 _ _ (s1 _ _ ea))) ?_ ?_⟩
    · rintro i y H3 hy ⟨⟨ys, e3, c3⟩, s3⟩
      rw [List.getElem?_map] at hy
      obtain ⟨g, eg, rfl⟩ := Option.map_eq_some_iff.mp hy
      have l3 := c3.len
      rw [List.length_map, List.length_take] at l3
      refine ⟨rfl, ?_⟩
      dsimp only [tYes]
      refine iteT ?_
      change teBl _ _ _
      refine ⟨_, rfl, _, rfl, _, rfl, cv, ps, g, rfl, hL.same (s1.trans s3), cp.nd, ?_⟩
      rw [kdV_in (h g (List.mem_of_getElem? eg))]
      refine ⟨two, fun q hq => ?_⟩
      rw [List.take_add_one, eg, List.map_append]
      exact col_turn hD e3 c3 (by omega) s3 (Same.refl _) hq
    rintro H3 ⟨⟨ys, e3, c3⟩, s3⟩
    rw [List.length_map, List.take_length] at c3
    refine ⟨D, ys, rfl, SqL.of e3, fun r ob hr' d1 d2 => ?_⟩
    have zr := Same.upd (o := .frz ob (.tup ys)) hr'
    exact k r _ (s1.trans (s3.trans zr)) ⟨ys, ⟨ob, d1, d2, upd_same⟩, c3.t (SameT.of zr)⟩
end
abbrev sBr : Stmt := top 86
abbrev nBr : List Str := ["tables", "columns", "step", "word", "old", "new", "name", "kind"]
abbrev pBr : List Str := ["tables", "columns", "step"]
theorem scBr : FnScope nBr pBr (defScope sBr) := ⟨rfl, rfl, rfl, by decide +kernel, rfl, by decide +kernel, by decide +kernel⟩
section
variable {fA_ fB_ : Addr} {fdA_ fdB_ : FuncData}
theorem ok_Br (F : Fun K "behind_rename" "behind_rename" sBr f fd) (T : Bt mg)
    (GA_ : FnOk P w K mg base CX0 1 fA_ fdA_ ["columns", "name"] (spKi)) (mA_ : mg "kind_in" = some (.ref fA_)) (kA_ : PySem.W.keepIn K (.ref fA_) = true) (bA_ : Binds K fdA_ ["columns", "name"] [])
    (GB_ : FnOk P w K mg base CX0 1 fB_ fdB_ ["value"] (spName)) (mB_ : mg "is_name" = some (.ref fB_)) (kB_ : PySem.W.keepIn K (.ref fB_) = true) (bB_ : Binds K fdB_ ["value"] []) : FnOk P w K mg base CX0 2 f fd pBr ((spBeh "rename")) := by
  refine F.ok scBr (fun vs H Q E h => ?_) (fun cdv A outer s H vs Q E hr h => ?_)
  · obtain ⟨tb, cv, p, ps, qs, st, rfl, _⟩ := h
    rfl
  · obtain ⟨tb, cv, p, ps, qs, st, rfl, hL, cp, hd, ld, hw, k⟩ := h
    have hrA_ : Room (1) _ := hr.mono (by first | decide | omega)
    have hrB_ : Room (1) _ := hr.mono (by first | decide | omega)
    refine ⟨_, (pss_cons (ps_asg (pv 2) (pg_tup rfl (pgs_cons (pg_name (i := 3) scBr.nd rfl (.inl rfl)) (pgs_cons (pg_name (i := 4) scBr.nd rfl (.inr rfl)) (pgs_cons (pg_name (i := 5) scBr.nd rfl (.inr rfl)) pgs_nil)))))
      (pss_cons (ps_if (PW.pt (pw_or (pt_cmpR op_isN (pe_call GA_ hrA_ (by rfl) mA_ kA_ bA_ .nil pass0 (pa_cons (pv 1) (pa_cons (pv 4) pa_nil))) pe_non (nomark _)) (pw_or1 (pt_not (pt_val (pe_call GB_ hrB_ (by rfl) mB_ kB_ bB_ .nil pass0 (pa_cons (pv 5) pa_nil))))))) (pss_one (ps_ret pe_non)) pss_nil)
      (pss_cons (ps_if (PW.pt (pw_and (pt_cmpR op_ne (pv 5) (pv 4) (nomark _)) (pw_and1 (pt_cmpR op_notN (pe_call GA_ hrA_ (by rfl) mA_ kA_ bA_ .nil pass0 (pa_cons (pv 1) (pa_cons (pv 5) pa_nil))) pe_non (nomark _))))) (pss_one (ps_ret pe_non)) pss_nil)
      (pss_one (ps_ret (pe_callTy call_tupleZ (by rfl) T.tuple boot_tuple (pa_cons (pe_lc (own := [("name", 6), ("kind", 7)]) (g := (gTup K 2 (gCons (gName 6) (gCons (gName 7) gNil)))) (tt := tYes) (te := teBr) (by rfl) scBr.nd (pi_tup (pv 1)) (blkOk_by (own := [("name", 6), ("kind", 7)]) (N := nBr) (sc := defScope sBr) (by decide +kernel)) (fun _ _ _ _ _ => (pg_tup rfl (pgs_cons (pg_name (i := 6) scBr.nd rfl (.inl rfl)) (pgs_cons (pg_name (i := 7) scBr.nd rfl (.inl rfl)) pgs_nil)))) (fun _ _ _ _ _ => pts_nil) (fun _ _ _ _ _ => (pe_ifExp (pt_cmpR op_eq (pv 6) (pv 4) (nomark _)) (pe_tup (pa_cons (pv 5) (pa_cons (pv 7) pa_nil))) (pe_tup (pa_cons (pv 6) (pa_cons (pv 7) pa_nil)))))) pa_nil))))))), ?_⟩
    have two : 2 ≤ sizeLine := by decide
    cases st with
    | keep e => exact absurd hw (by show ¬ ("keep" : Str) = "rename"; decide +kernel)
    | set x e => exact absurd hw (by show ¬ ("set" : Str) = "rename"; decide +kernel)
    | select ns => exact absurd hw (by show ¬ ("select" : Str) = "rename"; decide +kernel)
    | sort a u => exact absurd hw (by show ¬ ("sort" : Str) = "rename"; decide +kernel)
    | sample a b c => exact absurd hw (by show ¬ ("sample" : Str) = "rename"; decide +kernel)
    | rename old new =>
    cases ld with
    | rename ha nb hb =>
    obtain ⟨v, e1, dv⟩ := dh3 hd
    cases dv
    obtain ⟨xs, zL, cc⟩ := id hL
    have lx := cc.len
    have l8 := cp.l8
    refine ⟨_, rfl, p, _, rfl, SqT.of e1, rfl, _, _, rfl, _, _, rfl, _, _, rfl, rfl, ?_⟩
    dsimp only [gNil]
    refine ⟨_, rfl, _, rfl, cv, ps, old, rfl, hL, cp.nd, ?_⟩
    rw [kdV_in ha]
    refine ⟨rfl, _, rfl, iteF ⟨_, rfl, .str new, "str", rfl, .str new, nm_len nb.1, fun H1 s1 => ⟨_, rfl, ?_⟩⟩⟩
    rw [nb.2]
    refine iteF ?_
    have hL1 := hL.same s1
    have z1 := zL.same s1
    have c1 := cc.t (SameT.of s1)
    have last : ∀ {D : Addr} {H3 : Hp} {ys : List V}, H3 D = some (.lst ys) → Cols H3 ys (ps.map fun p => (if p.1 = old then new else p.1, p.2)) → Same H1 H3 → ∀ (r : Addr) (ob : Obj), H3 r = none → ob.cls = .type "tuple" → ob.dict = none → Q (.ref r) (upd H3 r (.frz ob (.tup ys))) := fun {D H3 ys} e3 c3 s3 r ob hr' d1 d2 => by
      have zr := Same.upd (o := .frz ob (.tup ys)) hr'
      exact k r _ (s1.trans (s3.trans zr)) ⟨ys, ⟨ob, d1, d2, upd_same⟩, c3.t (SameT.of zr)⟩
    have walk : ∀ (D : Addr) (hD : H1 D = none) (i : Nat) (y : V) (H3 : Hp), xs[i]? = some y → (∃ ys, H3 D = some (.lst ys) ∧ Cols H3 ys ((ps.take i).map fun p => (if p.1 = old then new else p.1, p.2))) → Same H1 H3 → ∃ a z kk, y = .ref a ∧ H3 a = some (.tup [.str z, .str kk]) ∧ ∀ q, H3 q = none → ∃ acc, upd H3 q (.tup [.str (if z = old then new else z), .str kk]) D = some (.lst acc) ∧ acc.length < sizeLine ∧ ((∃ ys, upd (upd H3 q (.tup [.str (if z = old then new else z), .str kk])) D (.lst (acc ++ [.ref q])) D = some (.lst ys) ∧ Cols (upd (upd H3 q (.tup [.str (if z = old then new else z), .str kk])) D (.lst (acc ++ [.ref q]))) ys ((ps.take (i + 1)).map fun p => (if p.1 = old then new else p.1, p.2))) ∧ Same H1 (upd (upd H3 q (.tup [.str (if z = old then new else z), .str kk])) D (.lst (acc ++ [.ref q])))) := fun D hD i y H3 hy ⟨ys, e3, c3⟩ s3 => by
      obtain ⟨b, z, kk, rfl, ea, ep⟩ := c1.get _ _ hy
      have l3 := c3.len
      rw [List.length_map, List.length_take] at l3
      refine ⟨b, z, kk, rfl, s3 _ _ ea, fun q hq => ?_⟩
      rw [List.take_add_one, ep, List.map_append]
      exact col_turn hD e3 c3 (by omega) s3 (Same.refl _) hq
    refine ⟨_, rfl, _, rfl, rfl, _, rfl, ?_⟩
    by_cases qn : new = old
    · rw [show (!decide (V.str new = V.str old)) = false by rw [qn]; simp]
      refine iteF (iteF ?_)
      refine ⟨_, rfl, cv, rfl, ⟨_, z1.sq⟩, fun D hD => lc_tup (K := K) (a := cv) (xs := xs) (fun i H' => (∃ ys, H' D = some (.lst ys) ∧ Cols H' ys ((ps.take i).map fun p => (if p.1 = old then new else p.1, p.2))) ∧ Same H1 H') ⟨⟨[], upd_same, .nil⟩, Same.upd hD⟩ (fun i H' _ pr => (z1.same pr.2).sq) ?_ ?_⟩
      · rintro i y H3 hy ⟨g3, s3⟩
        obtain ⟨b, z, kk, rfl, ea, go⟩ := walk D hD i y H3 hy g3 s3
        refine ⟨b, _, rfl, SqT.of ea, rfl, _, _, rfl, _, _, rfl, rfl, rfl, ?_⟩
        dsimp only [tYes]
        refine iteT ?_
        change teBr _ _ _
        refine ⟨_, rfl, _, rfl, rfl, _, rfl, ?_⟩
        by_cases q : z = old
        · rw [show decide (V.str z = V.str old) = true by rw [q]; exact decide_eq_true rfl]
          rw [if_pos q] at go
          exact iteT ⟨_, rfl, _, rfl, two, go⟩
        · rw [show decide (V.str z = V.str old) = false from decide_eq_false (fun h => q (by injection h))]
          rw [if_neg q] at go
          exact iteF ⟨_, rfl, _, rfl, two, go⟩
      rintro H3 ⟨⟨ys, e3, c3⟩, s3⟩
      rw [lx, List.take_length] at c3
      exact ⟨D, ys, rfl, SqL.of e3, last e3 c3 s3⟩
    · rw [show (!decide (V.str new = V.str old)) = true by rw [decide_eq_false (fun h => qn (by injection h))]; rfl]
      have nn : new ∉ nms ps := fun h => by
        by_cases z : new = old
        · exact qn z
        · exact hb new h z rfl
      refine iteT ⟨_, rfl, _, rfl, cv, ps, new, rfl, hL1, cp.nd, ?_⟩
      rw [kdV_no nn]
      refine ⟨rfl, _, rfl, iteF ?_⟩
      refine ⟨_, rfl, cv, rfl, ⟨_, z1.sq⟩, fun D hD => lc_tup (K := K) (a := cv) (xs := xs) (fun i H' => (∃ ys, H' D = some (.lst ys) ∧ Cols H' ys ((ps.take i).map fun p => (if p.1 = old then new else p.1, p.2))) ∧ Same H1 H') ⟨⟨[], upd_same, .nil⟩, Same.upd hD⟩ (fun i H' _ pr => (z1.same pr.2).sq) ?_ ?_⟩
      · rintro i y H3 hy ⟨g3, s3⟩
        obtain ⟨b, z, kk, rfl, ea, go⟩ := walk D hD i y H3 hy g3 s3
        refine ⟨b, _, rfl, SqT.of ea, rfl, _, _, rfl, _, _, rfl, rfl, rfl, ?_⟩
        dsimp only [tYes]
        refine iteT ?_
        change teBr _ _ _
        refine ⟨_, rfl, _, rfl, rfl, _, rfl, ?_⟩
        by_cases q : z = old
        · rw [show decide (V.str z = V.str old) = true by rw [q]; exact decide_eq_true rfl]
          rw [if_pos q] at go
          exact iteT ⟨_, rfl, _, rfl, two, go⟩
        · rw [show decide (V.str z = V.str old) = false from decide_eq_false (fun h => q (by injection h))]
          rw [if_neg q] at go
          exact iteF ⟨_, rfl, _, rfl, two, go⟩
      rintro H3 ⟨⟨ys, e3, c3⟩, s3⟩
      rw [lx, List.take_length] at c3
      exact ⟨D, ys, rfl, SqL.of e3, last e3 c3 s3⟩
end
end
end K16
set_option Elab.async false
set_option linter.all false
set_option maxRecDepth 100000
set_option maxHeartbeats 4000000
namespace K16
open PySem PySem.Spec PyProof.Rows L2 Lc
def spCb : Sp := fun vs H Q _ => ∃ (tb : V) (cv p : Addr) (ps qs : CsL) (st : Ps), vs = [tb, .ref cv, .ref p] ∧ CA H cv ps ∧ ColP ps ∧ Dh H (.ref p) st.d ∧ Lead ps st qs ∧ st.Pl ∧ ∀ (cv' : Addr) (H' : Hp), Same H H' → CA H' cv' qs → Q (.ref cv') H'
structure CbA (P : Program) (w : World) (K : PySem.W.Frag) (mg : Str → Option Value) (base : Heap) (lA bA : Addr) : Prop where
  gl : mg "LENGTHS" = some (.ref lA)
  gb : mg "BEHIND" = some (.ref bA)
  dl : ∃ es n, KDict K w lA es n
  le : ∀ st : Ps, st.Pl → KDct K w lA st.w (.int st.len) ∧ ∃ u, PySem.W.nsIn K lA st.w = some (some u)
  be : ∀ st : Ps, st.Pl → ∃ g, KDct K w bA st.w (.ref g) ∧ Held P w K mg base 16 g (spBeh st.w)
section
variable {P : Program} {w : World} {K : PySem.W.Frag} {mg : Str → Option Value} {base : Heap} {f : Addr} {fd : FuncData}
abbrev sBs : Stmt := top 89
abbrev nBs : List Str := ["tables", "columns", "step", "word", "part", "whole", "seed"]
abbrev pBs : List Str := ["tables", "columns", "step"]
theorem scBs : FnScope nBs pBs (defScope sBs) := ⟨rfl, rfl, rfl, by decide +kernel, rfl, by decide +kernel, by decide +kernel⟩
section
variable {fA_ : Addr} {fdA_ : FuncData}
theorem ok_Bs (F : Fun K "behind_sample" "behind_sample" sBs f fd) (T : Bt mg) {uw us_ : Tok} (mw : mg "MOST_WHOLE" = some (.int 1000 uw)) (ms : mg "MOST_SEED" = some (.int 1000000000 us_))
    (GA_ : FnOk P w K mg base CX0 2 fA_ fdA_ ["value", "low", "high"] (spBt)) (mA_ : mg "is_between" = some (.ref fA_)) (kA_ : PySem.W.keepIn K (.ref fA_) = true) (bA_ : Binds K fdA_ ["value", "low", "high"] []) : FnOk P w K mg base CX0 3 f fd pBs ((spBeh "sample")) := by
  refine F.ok scBs (fun vs H Q E h => ?_) (fun cdv A outer s H vs Q E hr h => ?_)
  · obtain ⟨tb, cv, p, ps, qs, st, rfl, _⟩ := h
    rfl
  · obtain ⟨tb, cv, p, ps, qs, st, rfl, hL, cp, hd, ld, hw, k⟩ := h
    have hrA_ : Room (2) _ := hr.mono (by first | decide | omega)
    refine ⟨_, (pss_cons (ps_asg (pv 2) (pg_tup rfl (pgs_cons (pg_name (i := 3) scBs.nd rfl (.inl rfl)) (pgs_cons (pg_name (i := 4) scBs.nd rfl (.inl rfl)) (pgs_cons (pg_name (i := 5) scBs.nd rfl (.inl rfl)) (pgs_cons (pg_name (i := 6) scBs.nd rfl (.inl rfl)) pgs_nil))))))
      (pss_cons (ps_if (PW.pt (pw_or (pt_not (pt_val (pe_call GA_ hrA_ (by rfl) mA_ kA_ bA_ .nil pass0 (pa_cons (pv 5) (pa_cons pe_int (pa_cons (pe_glob (v := .int 1000) (by rfl) mw ⟨_, rfl⟩) pa_nil)))))) (pw_or1 (pt_not (pt_val (pe_call GA_ hrA_ (by rfl) mA_ kA_ bA_ .nil pass0 (pa_cons (pv 4) (pa_cons pe_int (pa_cons (pv 5) pa_nil))))))))) (pss_one (ps_ret pe_non)) pss_nil)
      (pss_one (ps_ret (pe_ifExp (pt_val (pe_call GA_ hrA_ (by rfl) mA_ kA_ bA_ .nil pass0 (pa_cons (pv 6) (pa_cons pe_int (pa_cons (pe_glob (v := .int 1000000000) (by rfl) ms ⟨_, rfl⟩) pa_nil))))) (pv 1) pe_non))))), ?_⟩
    cases st with
    | keep e => exact absurd hw (by show ¬ ("keep" : Str) = "sample"; decide +kernel)
    | set x e => exact absurd hw (by show ¬ ("set" : Str) = "sample"; decide +kernel)
    | select ns => exact absurd hw (by show ¬ ("select" : Str) = "sample"; decide +kernel)
    | rename a b => exact absurd hw (by show ¬ ("rename" : Str) = "sample"; decide +kernel)
    | sort a u => exact absurd hw (by show ¬ ("sort" : Str) = "sample"; decide +kernel)
    | sample a b c =>
    cases ld with
    | sample o1 o2 o3 o4 =>
    have e := dh4 hd
    refine ⟨_, rfl, p, _, rfl, SqT.of e, rfl, _, _, rfl, _, _, rfl, _, _, rfl, _, _, rfl, rfl, ?_⟩
    dsimp only [gNil]
    refine ⟨_, rfl, b, 1, 1000, rfl, _, rfl, ?_⟩
    rw [decide_eq_true (show (1 : Int) ≤ (b : Int) by omega), decide_eq_true (show (b : Int) ≤ 1000 by omega)]
    refine iteF ⟨_, rfl, _, rfl, a, 0, b, rfl, _, rfl, ?_⟩
    rw [decide_eq_true (show (0 : Int) ≤ (a : Int) by omega), decide_eq_true (show (a : Int) ≤ (b : Int) by omega)]
    refine iteF ⟨_, rfl, c, 0, 1000000000, rfl, _, rfl, ?_⟩
    rw [decide_eq_true (show (0 : Int) ≤ (c : Int) by omega), decide_eq_true (show (c : Int) ≤ 1000000000 by omega)]
    exact iteT ⟨_, rfl, k cv H (Same.refl _) hL⟩
end
abbrev sCb : Stmt := top 98
abbrev nCb : List Str := ["tables", "columns", "step", "word", "follow"]
abbrev pCb : List Str := ["tables", "columns", "step"]
theorem scCb : FnScope nCb pCb (defScope sCb) := ⟨rfl, rfl, rfl, by decide +kernel, rfl, by decide +kernel, by decide +kernel⟩
section
variable {fA_ : Addr} {fdA_ : FuncData}
theorem ok_Cb (F : Fun K "columns_behind" "columns_behind" sCb f fd) (T : Bt mg) {lA bA : Addr} (A2 : CbA P w K mg base lA bA)
    (GA_ : FnOk P w K mg base CX0 1 fA_ fdA_ ["step"] (spWd)) (mA_ : mg "word_of" = some (.ref fA_)) (kA_ : PySem.W.keepIn K (.ref fA_) = true) (bA_ : Binds K fdA_ ["step"] []) : FnOk P w K mg base CX0 17 f fd pCb (spCb) := by
  refine F.ok scCb (fun vs H Q E h => ?_) (fun cdv A outer s H vs Q E hr h => ?_)
  · obtain ⟨tb, cv, p, ps, qs, st, rfl, _⟩ := h
    rfl
  · obtain ⟨tb, cv, p, ps, qs, st, rfl, hL, cp, hd, ld, pl, k⟩ := h
    have hrA_ : Room (1) _ := hr.mono (by first | decide | omega)
    obtain ⟨es, n0, KD⟩ := A2.dl
    obtain ⟨g, g1, hH⟩ := A2.be st pl
    obtain ⟨l1, u0, l2⟩ := A2.le st pl
    have hr3 : Room 16 _ := hr.mono (by decide)
    have AS : ∀ f sp, (fun q => if q = g then some (spBeh st.w) else none : Addr → Option Sp) f = some sp → Held P w K mg base 16 f sp := fun f sp e => by
      dsimp only at e
      by_cases z : f = g
      · subst z
        rw [if_pos rfl] at e
        obtain rfl := Option.some.inj e
        exact hH
      · rw [if_neg z] at e
        cases e
    refine ⟨_, (pss_cons (ps_set (i := 3) scCb.nd rfl (Or.inl rfl) (pe_call GA_ hrA_ (by rfl) mA_ kA_ bA_ .nil pass0 (pa_cons (pv 2) pa_nil)))
      (pss_cons (ps_if (PW.pt (pw_or (pt_cmpR op_isN (pv 3) pe_non (nomark _)) (pw_or (pt_cmpR (op_notIn_kd KD) (pv 3) (pe_glob (v := .ref lA) (by rfl) A2.gl rfl) (by rfl)) (pw_or1 (pt_cmpR op_ne (pe_callB call_len_seq (by rfl) T.len PySem.boot_len (pa_cons (pv 2) pa_nil)) (pe_ix ix_kdict (pe_glob (v := .ref lA) (by rfl) A2.gl rfl) (pv 3) (fun _ _ => rfl)) (nomark _)))))) (pss_one (ps_ret pe_non)) pss_nil)
      (pss_cons (ps_set (i := 4) scCb.nd rfl (Or.inl rfl) (pe_ix ix_kdict (pe_glob (v := .ref bA) (by rfl) A2.gb rfl) (pv 3) (fun _ _ => rfl)))
      (pss_one (ps_ret (pe_callA (i := 4) AS hr3 rfl (Or.inl rfl) (pa_cons (pv 0) (pa_cons (pv 1) (pa_cons (pv 2) pa_nil))))))))), ?_⟩
    obtain ⟨xs, e, lx⟩ := ps_at hd
    have l4 : st.len ≤ 4 := by cases st <;> simp [Ps.len]
    refine ⟨_, rfl, p, st.w, xs, rfl, e, by omega, ?_⟩
    refine ⟨_, rfl, rfl, _, rfl, iteF ⟨_, rfl, st.w, _, rfl, rfl, l2, _, rfl, iteF ⟨_, rfl, p, _, rfl, .inr (SqT.of e), _, rfl, lA, st.w, _, rfl, rfl, l1, rfl, _, rfl, ?_⟩⟩⟩
    rw [List.length_cons, lx, decide_eq_true rfl]
    refine iteF ⟨_, rfl, bA, st.w, _, rfl, rfl, g1, ?_⟩
    exact ⟨g, spBeh st.w, rfl, if_pos rfl, _, rfl, _, rfl, _, rfl, tb, cv, p, ps, qs, st, rfl, hL, cp, hd, ld, rfl, k⟩
end
end
end K16
set_option Elab.async false
set_option linter.all false
set_option maxRecDepth 100000
set_option maxHeartbeats 4000000
namespace K16
open PySem PySem.Spec PyProof.Rows L2 Lc
theorem row_at {H : Hp} {v : V} {r : RowD} (h : Dh H v r.d) : ∃ ra va la, v = .ref ra ∧ H ra = some (.tup [.ref va, .ref la]) ∧ Dh H (.ref va) (.tuple r.vals) ∧ Dh H (.ref la) (linD r.lin) := by
  cases h with
  | tup e hs => cases hs with
    | cons h1 r1 => cases r1 with
      | cons h2 r2 =>
        cases r2
        have h1' := h1
        have h2' := h2
        cases h1 with
        | tup e1 _ => cases h2 with
          | tup e2 _ => exact ⟨_, _, _, rfl, e, h1', h2'⟩
/-! ## rows behind a step -/
def setA (n : Nat) (vs : List PyData) (d : PyData) : List PyData := vs.take n ++ [d] ++ vs.drop (n + 1)
def stepD (ps : CsL) : Ps → List RowD → List RowD
  | .keep e, ds => ds.filter fun r => isT (evD (rowOf ps r.vals) e)
  | .set x e, ds => ds.map fun r => ⟨setA ((nms ps).idxOf x) r.vals (evD (rowOf ps r.vals) e), r.lin⟩
  | .select ns, ds => ds.map fun r => ⟨ns.map fun n => r.vals.getD ((nms ps).idxOf n) .none, r.lin⟩
  | _, ds => ds
def RowW (ps : CsL) (ds : List RowD) : Prop := ∀ r ∈ ds, Vks (ps.map (·.2)) r.vals ∧ LinOk r.lin
theorem RowW.ok {ps : CsL} {rs : RowsL} (h : RowW ps (rs.map (·.2))) : RowsOk rs := fun r hr => by
  obtain ⟨h1, h2⟩ := h r.2 (List.mem_map_of_mem hr)
  exact ⟨noLs_all.mpr h1.noL, h2⟩
def spNo : Sp := fun vs H Q _ => ∃ (L : Addr) (ps : CsL), vs = [.ref L] ∧ CA H L ps ∧ ps.length ≤ 8 ∧ ∀ (D : Addr) (H' : Hp), Same H H' → H D = none → H' D = some (.lst (vS (nms ps))) → Q (.ref D) H'
def jsV (js : List Nat) : List V := js.map fun j => V.int (j : Nat)
def spPo : Sp := fun vs H Q _ => ∃ (L p : Addr) (ps : CsL) (ns : List Str), vs = [.ref L, .ref p] ∧ CA H L ps ∧ ColP ps ∧ H p = some (.tup (vS ns)) ∧ (∀ n ∈ ns, n ∈ nms ps) ∧ ns.length ≤ 8 ∧ ∀ (D : Addr) (H' : Hp), Same H H' → H' D = some (.lst (jsV (ns.map fun n => (nms ps).idxOf n))) → Q (.ref D) H'
def spPc : Sp := fun vs H Q _ => ∃ (p q : Addr) (us : List V) (ds : List PyData) (js : List Nat), vs = [.ref p, .ref q] ∧ H p = some (.tup us) ∧ DhAll H us ds ∧ (∀ d ∈ ds, noL d = true) ∧ H q = some (.lst (jsV js)) ∧ (∀ j ∈ js, j < ds.length) ∧ js.length ≤ 8 ∧ ∀ (r : Addr) (H' : Hp), Same H H' → Dh H' (.ref r) (.tuple (js.map fun j => ds.getD j .none)) → Q (.ref r) H'
def spRb (C : Addr) (wd : Str) : Sp := fun vs H Q _ => ∃ (tb : V) (a cv p : Addr) (ps qs : CsL) (st : Ps) (rs : RowsL), vs = [tb, .ref a, .ref p] ∧ IsTb C H a cv rs ∧ CA H cv ps ∧ ColP ps ∧ RowW ps (rs.map (·.2)) ∧ rs.length ≤ 1000 ∧ Dh H (.ref p) st.d ∧ Lead ps st qs ∧ st.w = wd ∧ st.Pl ∧
  ∀ (l : Addr) (H' : Hp) (rs' : RowsL), Same H H' → H' l = some (.lst (rs'.map (·.1))) → RowsAt H' rs' → rs'.map (·.2) = stepD ps st (rs.map (·.2)) → Q (.ref l) H'
theorem idx_at {ss : List Str} {x : Str} (h : x ∈ ss) : ss[ss.idxOf x]? = some x := by
  rw [List.getElem?_eq_getElem (List.idxOf_lt_length_of_mem h)]
  exact congrArg some (List.getElem_idxOf _)
theorem idx_no {x z : Str} : ∀ {ss : List Str} {m : Nat}, m < ss.idxOf x → ss[m]? = some z → z ≠ x
  | [], m, h, e => by simp at e
  | a :: r, m, h, e => by
    rw [List.idxOf_cons] at h
    by_cases q : a = x
    · rw [beq_iff_eq.mpr q] at h
      exact absurd h (Nat.not_lt_zero m)
    · rw [beq_eq_false_iff_ne.mpr q] at h
      match m, h, e with
      | 0, h, e => injection e with e; rw [← e]; exact q
      | m + 1, h, e => exact idx_no (ss := r) (m := m) (Nat.lt_of_succ_lt_succ h) (by simpa using e)
theorem dh_isT {H : Hp} {v : V} {d : PyData} (h : Dh H v d) : decide (v = V.bl true) = isT d := by
  cases h with
  | bl b => cases b <;> rfl
  | non => rfl
  | int i => rfl
  | str x => rfl
  | tup e h => rfl
  | lst e h => rfl
  | dct e => rfl
def cutD (ds : List PyData) (lo hi : Option Int) : List PyData := (ds.drop (HT.sIx ds.length 0 lo)).take (HT.sIx ds.length ds.length hi - HT.sIx ds.length 0 lo)
theorem dh_drop {H : Hp} : ∀ {xs : List V} {ds : List PyData} (i : Nat), DhAll H xs ds → DhAll H (xs.drop i) (ds.drop i)
  | _, _, 0, h => h
  | _, _, i + 1, .nil => .nil
  | _, _, i + 1, .cons _ r => dh_drop i r
theorem dh_take {H : Hp} : ∀ {xs : List V} {ds : List PyData} (i : Nat), DhAll H xs ds → DhAll H (xs.take i) (ds.take i)
  | _, _, 0, _ => .nil
  | _, _, i + 1, .nil => .nil
  | _, _, i + 1, .cons h r => .cons h (dh_take i r)
theorem dh_cut {H : Hp} {xs : List V} {ds : List PyData} {lo hi : Option Int} (h : DhAll H xs ds) : DhAll H (cutV xs lo hi) (cutD ds lo hi) := by
  unfold cutV cutD
  rw [h.len]
  exact dh_take _ (dh_drop _ h)
theorem cutD_to {ds : List PyData} {v : Nat} (h : v ≤ ds.length) : cutD ds none (some (v : Int)) = ds.take v := by
  have e1 : HT.sIx ds.length 0 none = 0 := rfl
  have e2 : HT.sIx ds.length ds.length (some (v : Int)) = v := by
    rw [HT.sIx_nat]
    omega
  unfold cutD
  rw [e1, e2]
  simp
theorem cutD_from (ds : List PyData) (v : Nat) : cutD ds (some (v : Int)) none = ds.drop v := by
  have e1 : HT.sIx ds.length ds.length none = ds.length := rfl
  have e2 : HT.sIx ds.length 0 (some (v : Int)) = min v ds.length := HT.sIx_nat _ _ _
  unfold cutD
  rw [e1, e2]
  rcases Nat.le_total v ds.length with q | q
  · rw [Nat.min_eq_left q]
    exact List.take_of_length_le (by rw [List.length_drop]; omega)
  · rw [Nat.min_eq_right q, List.drop_length, List.drop_eq_nil_of_le q]
    simp
theorem slH {K : PySem.W.Frag} {H : Hp} {Q : VK} {v : V} {ds : List PyData} {lo hi : Option Int} (h : Dh H v (.tuple ds)) (k : ∀ r H', Dh H' r (.tuple (cutD ds lo hi)) → Same H H' → Q r H') : rSlA K v lo hi H Q := by
  cases h with
  | @tup a xs _ e hs =>
  refine ⟨a, xs, rfl, SqT.of e, fun z => ?_, fun _ p hp => ?_⟩
  · refine k _ _ ?_ (Same.refl H)
    have : cutD ds lo hi = ds := by
      rw [hs.len] at z
      unfold cutD
      rw [z.1, z.2]
      simp
    rw [this]
    exact .tup e hs
  · have zp := Same.upd (o := .tup (cutV xs lo hi)) hp
    exact k _ _ (.tup upd_same ((dh_cut hs).same zp)) zp
theorem catH {K : PySem.W.Frag} {H : Hp} {Q : VK} {v u : V} {ds es : List PyData} (h : Dh H v (.tuple ds)) (g : Dh H u (.tuple es)) (l : ds.length + es.length ≤ 1000) (k : ∀ r H', Dh H' r (.tuple (ds ++ es)) → Same H H' → Q r H') : rCatA K v u H Q := by
  have h0 := h
  have g0 := g
  cases h with
  | @tup a xs _ e hs =>
  cases g with
  | @tup b ys _ e' gs =>
  refine ⟨a, b, xs, ys, rfl, rfl, SqT.of e, SqT.of e', by rw [hs.len, gs.len]; exact Nat.le_trans l (by decide), fun z => ?_, fun _ z => ?_, fun _ _ p hp => ?_⟩
  · subst z
    cases hs
    exact k _ _ g0 (Same.refl H)
  · subst z
    cases gs
    rw [List.append_nil] at k
    exact k _ _ h0 (Same.refl H)
  · have zp := Same.upd (o := .tup (xs ++ ys)) hp
    exact k _ _ (.tup upd_same ((hs.append gs).same zp)) zp
abbrev ttKr (K : PySem.W.Frag) : TT := tTest (tOp rIsBA (tCall spEv [] E0 (tCons (tVar 3) (tCons (tOp (rIxT K) (tVar 4) (tC (.int 0))) (tCons (tOp (rIxT K) (tVar 2) (tC (.int 1))) tNil)))) (tC (.bl true)))
abbrev ttSr (K : PySem.W.Frag) : TT := tTest (tOp (rI0 fun i j => V.bl (decide (i < j))) (tCall spNum [] E0 (tCons (tVar 6) (tCons (tOp (rIxT K) (tVar 7) (tC (.int 1))) (tCons (tVar 5) tNil)))) (tVar 4))
abbrev tePo (K : PySem.W.Frag) : TE := tBM K "list" (rIndex K) (tVar 2) (tCons (tVar 3) tNil)
abbrev tePc (K : PySem.W.Frag) : TE := tOp (rIxT K) (tVar 0) (tVar 2)
abbrev teEr : TE := tTup (tCons (tCall spPc [] E0 (tCons (tVar 4) (tCons (tVar 3) tNil))) (tCons (tVar 5) tNil))
section
variable {P : Program} {w : World} {K : PySem.W.Frag} {mg : Str → Option Value} {base : Heap} {f : Addr} {fd : FuncData}
abbrev sNo : Stmt := top 57
abbrev nNo : List Str := ["columns", "name", "kind"]
abbrev pNo : List Str := ["columns"]
theorem scNo : FnScope nNo pNo (defScope sNo) := ⟨rfl, rfl, rfl, by decide +kernel, rfl, by decide +kernel, by decide +kernel⟩
section
theorem ok_No (F : Fun K "names_of" "names_of" sNo f fd) (T : Bt mg) : FnOk P w K mg base CX0 1 f fd pNo (spNo) := by
  refine F.ok scNo (fun vs H Q E h => ?_) (fun cdv A outer s H vs Q E hr h => ?_)
  · obtain ⟨L, ps, rfl, _⟩ := h
    rfl
  · obtain ⟨L, ps, rfl, hL, l8, k⟩ := h
    refine ⟨_, (pss_one (ps_ret (pe_lc (own := [("name", 1), ("kind", 2)]) (g := (gTup K 2 (gCons (gName 1) (gCons (gName 2) gNil)))) (tt := tYes) (te := tVar 1) (by rfl) scNo.nd (pi_tup (pv 0)) (blkOk_by (own := [("name", 1), ("kind", 2)]) (N := nNo) (sc := defScope sNo) (by decide +kernel)) (fun _ _ _ _ _ => (pg_tup rfl (pgs_cons (pg_name (i := 1) scNo.nd rfl (.inl rfl)) (pgs_cons (pg_name (i := 2) scNo.nd rfl (.inl rfl)) pgs_nil)))) (fun _ _ _ _ _ => pts_nil) (fun _ _ _ _ _ => (pv 1))))), ?_⟩
    obtain ⟨xs, zL, cc⟩ := hL
    refine ⟨_, rfl, L, rfl, ⟨_, zL.sq⟩, fun W hW => lc_tup (K := K) (a := L) (xs := xs) (fun i H' => H' W = some (.lst (vS ((nms ps).take i))) ∧ Same H H') ⟨upd_same, Same.upd hW⟩ (fun i H' _ pr => (zL.same pr.2).sq) ?_ ?_⟩
    · rintro i x H1 hx ⟨hW1, s1⟩
      obtain ⟨a, z, kk, rfl, ea, ep⟩ := cc.get _ _ hx
      refine ⟨a, _, rfl, SqT.of (s1 _ _ ea), rfl, _, _, rfl, _, _, rfl, rfl, rfl, ?_⟩
      dsimp only [tYes]
      exact iteT ⟨_, rfl, nm_turn hW hW1 ep l8 s1⟩
    rintro H1 ⟨hW1, s1⟩
    rw [show xs.length = (nms ps).length by rw [cc.len, List.length_map], List.take_length] at hW1
    exact k W H1 s1 hW hW1
end
abbrev sKr : Stmt := top 106
abbrev nKr : List Str := ["tables", "table", "step", "columns", "row"]
abbrev pKr : List Str := ["tables", "table", "step"]
theorem scKr : FnScope nKr pKr (defScope sKr) := ⟨rfl, rfl, rfl, by decide +kernel, rfl, by decide +kernel, by decide +kernel⟩
section
variable {fA_ : Addr} {fdA_ : FuncData}
theorem ok_Kr (F : Fun K "kept_rows" "kept_rows" sKr f fd) (T : Bt mg) {C : Addr} (M : TbM P w K mg base C)
    (GA_ : FnOk P w K mg base CX0 15 fA_ fdA_ ["columns", "values", "expression"] (spEv)) (mA_ : mg "evaluate" = some (.ref fA_)) (kA_ : PySem.W.keepIn K (.ref fA_) = true) (bA_ : Binds K fdA_ ["columns", "values", "expression"] []) : FnOk P w K mg base CX0 16 f fd pKr ((spRb C "keep")) := by
  refine F.ok scKr (fun vs H Q E h => ?_) (fun cdv A outer s H vs Q E hr h => ?_)
  · obtain ⟨tb, a, cv, p, ps, qs, st, rs, rfl, _⟩ := h
    rfl
  · obtain ⟨tb, a, cv, p, ps, qs, st, rs, rfl, hI, hL, cp, rw, ln, hd, ld, hw, pl, k⟩ := h
    have hrA_ : Room (15) _ := hr.mono (by first | decide | omega)
    obtain ⟨fI, fdI, GI, FI, bI⟩ := M.i
    obtain ⟨fC, fdC, hC, FC, bC⟩ := M.c
    obtain ⟨fR, fdR, hR, FR, bR⟩ := M.r
    have hr1 : Room 1 _ := hr.mono (by omega)
    refine ⟨_, (pss_cons (ps_set (i := 3) scKr.nd rfl (Or.inr rfl) (pe_meth0 (pv 1) GI.cls hC FC hr1 bC .nil pass0))
      (pss_one (ps_ret (pe_lc (own := [("row", 4)]) (g := (gName 4)) (tt := ttKr K) (te := tVar 4) (by rfl) scKr.nd (pi_list (pe_meth0 (pv 1) GI.cls hR FR hr1 bR .nil pass0)) (blkOk_by (own := [("row", 4)]) (N := nKr) (sc := defScope sKr) (by decide +kernel)) (fun _ _ _ _ _ => (pg_name (i := 4) scKr.nd rfl (.inl rfl))) (fun _ _ _ _ _ => (pts_one (pt_cmpR op_isBA (pe_call GA_ hrA_ (by rfl) mA_ kA_ bA_ .nil pass0 (pa_cons (pv 3) (pa_cons (pe_ix ix_tup (pv 4) pe_int (fun _ _ => rfl)) (pa_cons (pe_ix ix_tup (pv 2) pe_int (fun _ _ => rfl)) pa_nil)))) pe_bl (nomark _)))) (fun _ _ _ _ _ => (pv 4)))))), ?_⟩
    cases st with
    | set x e => exact absurd hw (by show ¬ ("set" : Str) = "keep"; decide +kernel)
    | select ns => exact absurd hw (by show ¬ ("select" : Str) = "keep"; decide +kernel)
    | rename a b => exact absurd hw (by show ¬ ("rename" : Str) = "keep"; decide +kernel)
    | sort a u => exact absurd hw (by show ¬ ("sort" : Str) = "keep"; decide +kernel)
    | sample a b c => exact absurd hw (by show ¬ ("sample" : Str) = "keep"; decide +kernel)
    | keep e =>
    cases ld with
    | keep xp =>
    obtain ⟨v, e1, dv⟩ := dh2 hd
    obtain ⟨xs, zL, cc⟩ := id hL
    obtain ⟨dx, bv, h1, h2, h3⟩ := id hI
    have ok := rw.ok
    refine ⟨_, rfl, a, dx, _, rfl, h1, rfl, a, cv, rs, rfl, hI, ?_⟩
    refine ⟨_, rfl, a, dx, _, rfl, h1, rfl, a, cv, rs, rfl, hI, fun l hl => ?_⟩
    have zl := Same.upd (o := .lst (rs.map (·.1))) hl
    have el : L2.upd H l (.lst (rs.map (·.1))) l = some (.lst (rs.map (·.1))) := upd_same
    have r1 := (show RowsAt H rs from h3).same zl
    generalize L2.upd H l (.lst (rs.map (·.1))) = H1 at zl el r1 ⊢
    let go : V × RowD → Bool := fun r => isT (evD (rowOf ps r.2.vals) e)
    refine ⟨l, rfl, ⟨_, SqL.of el⟩, fun D hD => lc_list (K := K) (a := l) (xs := rs.map (·.1)) (fun i H' => H' D = some (.lst (((rs.take i).filter go).map (·.1))) ∧ Same H1 H') ⟨upd_same, Same.upd hD⟩ (fun i H' _ pr => SqL.of (pr.2 _ _ el)) ?_ ?_⟩
    · rintro i x H2 hx ⟨hD2, s2⟩
      rw [List.getElem?_map] at hx
      obtain ⟨r, er, rfl⟩ := Option.map_eq_some_iff.mp hx
      have rm := List.mem_of_getElem? er
      have li := (List.getElem?_eq_some_iff.mp er).1
      obtain ⟨ra, va, la, ev, e2, dvals, _⟩ := row_at ((r1 r rm).same s2)
      have et : rs.take (i + 1) = rs.take i ++ [r] := by rw [List.take_add_one, er]; rfl
      rw [et, List.filter_append, List.map_append]
      obtain ⟨vk, _⟩ := rw r.2 (List.mem_map_of_mem rm)
      cases dvals with
      | tup eu hu =>
      refine ⟨rfl, ?_⟩
      change ttKr K _ _ _
      have s02 := zl.trans s2
      refine ⟨_, rfl, _, rfl, ra, _, _, .ref va, ev, rfl, SqT.of e2, at_of (j := 0) rfl rfl, _, rfl, p, _, _, v, rfl, rfl, SqT.of (s02 _ _ e1), at_of (j := 1) rfl rfl, cv, va, v, xs, _, ps, _, e, "flag", rfl, (zL.same s02).rd, eu, cc.t (SameT.of s02), cp.nd, cp.l8, hu, vk, dv.same s02, xp.mono (by decide), fun y H3 s3 dy => ⟨true, rfl, _, rfl, ?_⟩⟩
      rw [dh_isT dy]
      have s23 := s2.trans s3
      refine ite2 (fun q => ?_) (fun q => ?_)
      · refine ⟨_, rfl, _, s3 _ _ hD2, lt_size ?_, ?_, fun b o e => by rw [upd_ne (ne_of_none e hD)]; exact s23 b o e⟩
        · rw [List.length_map]
          exact Nat.le_trans (List.length_filter_le _ _) (by rw [List.length_take]; omega)
        · rw [upd_same, List.filter_cons, if_pos (show go r = true from q)]
          rfl
      · rw [List.filter_cons, if_neg (show ¬ go r = true from q)]
        exact ⟨by rw [s3 _ _ hD2]; simp, s23⟩
    · rintro H2 ⟨hD2, s2⟩
      rw [List.length_map, List.take_length] at hD2
      refine k D H2 (rs.filter go) (zl.trans s2) hD2 (fun r hr => (r1 r (List.mem_filter.mp hr).1).same s2) ?_
      show _ = (rs.map (·.2)).filter _
      rw [List.filter_map]
      rfl
end
abbrev sPo : Stmt := top 104
abbrev nPo : List Str := ["columns", "names", "called", "name"]
abbrev pPo : List Str := ["columns", "names"]
theorem scPo : FnScope nPo pPo (defScope sPo) := ⟨rfl, rfl, rfl, by decide +kernel, rfl, by decide +kernel, by decide +kernel⟩
section
variable {fA_ : Addr} {fdA_ : FuncData}
theorem ok_Po (F : Fun K "places_of" "places_of" sPo f fd) (T : Bt mg)
    (GA_ : FnOk P w K mg base CX0 1 fA_ fdA_ ["columns"] (spNo)) (mA_ : mg "names_of" = some (.ref fA_)) (kA_ : PySem.W.keepIn K (.ref fA_) = true) (bA_ : Binds K fdA_ ["columns"] []) : FnOk P w K mg base CX0 2 f fd pPo (spPo) := by
  refine F.ok scPo (fun vs H Q E h => ?_) (fun cdv A outer s H vs Q E hr h => ?_)
  · obtain ⟨L, p, ps, ns, rfl, _⟩ := h
    rfl
  · obtain ⟨L, p, ps, ns, rfl, hL, cp, hp, hn, l8, k⟩ := h
    have hrA_ : Room (1) _ := hr.mono (by first | decide | omega)
    refine ⟨_, (pss_cons (ps_set (i := 2) scPo.nd rfl (Or.inr rfl) (pe_call GA_ hrA_ (by rfl) mA_ kA_ bA_ .nil pass0 (pa_cons (pv 0) pa_nil)))
      (pss_one (ps_ret (pe_lc (own := [("name", 3)]) (g := (gName 3)) (tt := tYes) (te := tePo K) (by rfl) scPo.nd (pi_tup (pv 1)) (blkOk_by (own := [("name", 3)]) (N := nPo) (sc := defScope sPo) (by decide +kernel)) (fun _ _ _ _ _ => (pg_name (i := 3) scPo.nd rfl (.inl rfl))) (fun _ _ _ _ _ => pts_nil) (fun _ _ _ _ _ => (pe_bm PySem.F.plainAttrs_list PySem.F.slot_list_index PySem.F.type_list_index mt_index (pv 2) (pa_cons (pv 3) pa_nil))))))), ?_⟩
    refine ⟨_, rfl, L, ps, rfl, hL, cp.l8, fun W H1 s1 _ eW => ?_⟩
    have fl : (vS (nms ps)).all flatV = true := List.all_eq_true.mpr fun v hv => by
      obtain ⟨x, _, rfl⟩ := List.mem_map.mp hv
      rfl
    refine ⟨_, rfl, p, rfl, ⟨_, SqT.of (s1 _ _ hp)⟩, fun D hD => lc_tup (K := K) (a := p) (xs := vS ns) (fun i H' => H' D = some (.lst (jsV ((ns.take i).map fun n => (nms ps).idxOf n))) ∧ Same H1 H') ⟨upd_same, Same.upd hD⟩ (fun i H' _ pr => SqT.of (pr.2 _ _ (s1 _ _ hp))) ?_ ?_⟩
    · rintro i y H2 hy ⟨eD, s2⟩
      rw [List.getElem?_map] at hy
      obtain ⟨g, eg, rfl⟩ := Option.map_eq_some_iff.mp hy
      have gm := hn g (List.mem_of_getElem? eg)
      have eW2 := s2 _ _ eW
      refine ⟨rfl, ?_⟩
      dsimp only [tYes]
      refine iteT ?_
      change tePo K _ _ _
      refine ⟨_, rfl, .inl ⟨rfl, _, SqL.of eW2⟩, _, rfl, W, vS (nms ps), .str g, (nms ps).idxOf g, .str g, rfl, rfl, SqL.of eW2, rfl, fl, by rw [List.getElem?_map, idx_at gm]; rfl, by simp [eqV], fun m z' lt ez => ?_, _, eD, ?_, ?_, fun b o e => by rw [upd_ne (ne_of_none e hD)]; exact s2 b o e⟩
      · rw [List.getElem?_map] at ez
        obtain ⟨z, ez2, rfl⟩ := Option.map_eq_some_iff.mp ez
        have := idx_no lt ez2
        simp [eqV, this]
      · unfold jsV
        rw [List.length_map, List.length_map, List.length_take]
        exact lt_size (by omega)
      · rw [upd_same, List.take_add_one, eg]
        unfold jsV
        rw [List.map_append, List.map_append]
        rfl
    rintro H2 ⟨eD, s2⟩
    rw [List.length_map, List.take_length] at eD
    exact k D H2 (s1.trans s2) eD
end
abbrev sPc : Stmt := top 105
abbrev nPc : List Str := ["values", "places", "at"]
abbrev pPc : List Str := ["values", "places"]
theorem scPc : FnScope nPc pPc (defScope sPc) := ⟨rfl, rfl, rfl, by decide +kernel, rfl, by decide +kernel, by decide +kernel⟩
section
theorem ok_Pc (F : Fun K "picked" "picked" sPc f fd) (T : Bt mg) : FnOk P w K mg base CX0 1 f fd pPc (spPc) := by
  refine F.ok scPc (fun vs H Q E h => ?_) (fun cdv A outer s H vs Q E hr h => ?_)
  · obtain ⟨p, q, us, ds, js, rfl, _⟩ := h
    rfl
  · obtain ⟨p, q, us, ds, js, rfl, hp, hd, hn, hq, hj, l8, k⟩ := h
    refine ⟨_, (pss_one (ps_ret (pe_callTy call_tuple_of (by rfl) T.tuple boot_tuple (pa_cons (pe_lc (own := [("at", 2)]) (g := (gName 2)) (tt := tYes) (te := tePc K) (by rfl) scPc.nd (pi_list (pv 1)) (blkOk_by (own := [("at", 2)]) (N := nPc) (sc := defScope sPc) (by decide +kernel)) (fun _ _ _ _ _ => (pg_name (i := 2) scPc.nd rfl (.inl rfl))) (fun _ _ _ _ _ => pts_nil) (fun _ _ _ _ _ => (pe_ix ix_tup (pv 0) (pv 2) (fun _ _ => rfl)))) pa_nil)))), ?_⟩
    have lu := hd.len
    refine ⟨_, rfl, q, rfl, ⟨_, SqL.of hq⟩, fun D hD => lc_list (K := K) (a := q) (xs := jsV js) (fun i H' => (∃ ys, H' D = some (.lst ys) ∧ DhAll H' ys ((js.take i).map fun j => ds.getD j .none)) ∧ Same H H') ⟨⟨[], upd_same, .nil⟩, Same.upd hD⟩ (fun i H' _ pr => SqL.of (pr.2 _ _ hq)) ?_ ?_⟩
    · rintro i y H2 hy ⟨⟨ys, eD, dys⟩, s2⟩
      unfold jsV at hy
      rw [List.getElem?_map] at hy
      obtain ⟨j, ej, rfl⟩ := Option.map_eq_some_iff.mp hy
      have lj := hj j (List.mem_of_getElem? ej)
      obtain ⟨d, ed⟩ : ∃ d, ds[j]? = some d := ⟨_, List.getElem?_eq_getElem lj⟩
      obtain ⟨u, eu⟩ : ∃ u, us[j]? = some u := ⟨_, List.getElem?_eq_getElem (by omega)⟩
      obtain ⟨d', ed', du⟩ := hd.get j u eu
      rw [ed] at ed'
      obtain rfl := Option.some.inj ed'
      have ly := dys.len
      rw [List.length_map, List.length_take] at ly
      refine ⟨rfl, ?_⟩
      dsimp only [tYes]
      refine iteT ?_
      change tePc K _ _ _
      refine ⟨_, rfl, _, rfl, p, us, (j : Int), u, rfl, rfl, SqT.of (s2 _ _ hp), at_of (j := j) (by omega) eu, ys, eD, lt_size (by omega), ⟨ys ++ [u], upd_same, ?_⟩, fun b o e => by rw [upd_ne (ne_of_none e hD)]; exact s2 b o e⟩
      have nn : ∀ l : List Nat, (∀ j ∈ l, j < ds.length) → noLs (l.map fun j => ds.getD j .none) = true := fun l hl => noLs_all.mpr fun x hx => by
        obtain ⟨j, h1, rfl⟩ := List.mem_map.mp hx
        refine hn _ ?_
        rw [List.getD_eq_getElem?_getD, List.getElem?_eq_getElem (hl j h1)]
        exact List.getElem_mem _
      rw [List.take_add_one, ej, List.map_append]
      refine DhAll.append (DhAll.t (SameT.lst eD) dys (nn _ fun j h => hj j (List.mem_of_mem_take h))) ?_
      show DhAll _ [u] [ds.getD j .none]
      rw [List.getD_eq_getElem?_getD, ed]
      exact .cons ((du.same s2).t (SameT.lst eD) (hn d (List.mem_of_getElem? ed))) .nil
    rintro H2 ⟨⟨ys, eD, dys⟩, s2⟩
    rw [show (jsV js).length = js.length from List.length_map _, List.take_length] at dys
    refine ⟨D, ys, rfl, .inl ⟨SqL.of eD, fun r hr' => ?_⟩⟩
    have zr := Same.upd (o := .tup ys) hr'
    exact k r _ (s2.trans zr) (.tup upd_same (dys.same zr))
end
abbrev sAr : Stmt := top 109
abbrev nAr : List Str := ["tables", "table", "step"]
abbrev pAr : List Str := ["tables", "table", "step"]
theorem scAr : FnScope nAr pAr (defScope sAr) := ⟨rfl, rfl, rfl, by decide +kernel, rfl, by decide +kernel, by decide +kernel⟩
section
theorem ok_Ar (F : Fun K "all_rows" "all_rows" sAr f fd) (T : Bt mg) {C : Addr} (M : TbM P w K mg base C) : FnOk P w K mg base CX0 3 f fd pAr ((spRb C "rename")) := by
  refine F.ok scAr (fun vs H Q E h => ?_) (fun cdv A outer s H vs Q E hr h => ?_)
  · obtain ⟨tb, a, cv, p, ps, qs, st, rs, rfl, _⟩ := h
    rfl
  · obtain ⟨tb, a, cv, p, ps, qs, st, rs, rfl, hI, hL, cp, rw, ln, hd, ld, hw, pl, k⟩ := h
    obtain ⟨fI, fdI, GI, FI, bI⟩ := M.i
    obtain ⟨fC, fdC, hC, FC, bC⟩ := M.c
    obtain ⟨fR, fdR, hR, FR, bR⟩ := M.r
    have hr1 : Room 1 _ := hr.mono (by omega)
    refine ⟨_, (pss_one (ps_ret (pe_meth0 (pv 1) GI.cls hR FR hr1 bR .nil pass0))), ?_⟩
    cases st with
    | keep e => exact absurd hw (by show ¬ ("keep" : Str) = "rename"; decide +kernel)
    | set x e => exact absurd hw (by show ¬ ("set" : Str) = "rename"; decide +kernel)
    | select ns => exact absurd hw (by show ¬ ("select" : Str) = "rename"; decide +kernel)
    | sort a u => exact absurd hw (by show ¬ ("sort" : Str) = "rename"; decide +kernel)
    | sample a b c => exact absurd hw (by show ¬ ("sample" : Str) = "rename"; decide +kernel)
    | rename x y =>
    obtain ⟨dx, bv, h1, h2, h3⟩ := id hI
    refine ⟨_, rfl, a, dx, _, rfl, h1, rfl, a, cv, rs, rfl, hI, fun l hl => ?_⟩
    have zl := Same.upd (o := .lst (rs.map (·.1))) hl
    exact k l _ rs zl upd_same ((show RowsAt H rs from h3).same zl) rfl
end
end
end K16
set_option Elab.async false
set_option linter.all false
set_option maxRecDepth 100000
set_option maxHeartbeats 4000000
namespace K16
open PySem PySem.Spec PyProof.Rows L2 Lc
section
variable {P : Program} {w : World} {K : PySem.W.Frag} {mg : Str → Option Value} {base : Heap} {f : Addr} {fd : FuncData}
abbrev sEr : Stmt := top 108
abbrev nEr : List Str := ["tables", "table", "step", "places", "values", "lineage"]
abbrev pEr : List Str := ["tables", "table", "step"]
theorem scEr : FnScope nEr pEr (defScope sEr) := ⟨rfl, rfl, rfl, by decide +kernel, rfl, by decide +kernel, by decide +kernel⟩
section
variable {fA_ fB_ : Addr} {fdA_ fdB_ : FuncData}
theorem ok_Er (F : Fun K "selected_rows" "selected_rows" sEr f fd) (T : Bt mg) {C : Addr} (M : TbM P w K mg base C)
    (GA_ : FnOk P w K mg base CX0 2 fA_ fdA_ ["columns", "names"] (spPo)) (mA_ : mg "places_of" = some (.ref fA_)) (kA_ : PySem.W.keepIn K (.ref fA_) = true) (bA_ : Binds K fdA_ ["columns", "names"] [])
    (GB_ : FnOk P w K mg base CX0 1 fB_ fdB_ ["values", "places"] (spPc)) (mB_ : mg "picked" = some (.ref fB_)) (kB_ : PySem.W.keepIn K (.ref fB_) = true) (bB_ : Binds K fdB_ ["values", "places"] []) : FnOk P w K mg base CX0 3 f fd pEr ((spRb C "select")) := by
  refine F.ok scEr (fun vs H Q E h => ?_) (fun cdv A outer s H vs Q E hr h => ?_)
  · obtain ⟨tb, a, cv, p, ps, qs, st, rs, rfl, _⟩ := h
    rfl
  · obtain ⟨tb, a, cv, p, ps, qs, st, rs, rfl, hI, hL, cp, rw, ln, hd, ld, hw, pl, k⟩ := h
    have hrA_ : Room (2) _ := hr.mono (by first | decide | omega)
    have hrB_ : Room (1) _ := hr.mono (by first | decide | omega)
    obtain ⟨fI, fdI, GI, FI, bI⟩ := M.i
    obtain ⟨fC, fdC, hC, FC, bC⟩ := M.c
    obtain ⟨fR, fdR, hR, FR, bR⟩ := M.r
    have hr1 : Room 1 _ := hr.mono (by omega)
    refine ⟨_, (pss_cons (ps_set (i := 3) scEr.nd rfl (Or.inr rfl) (pe_call GA_ hrA_ (by rfl) mA_ kA_ bA_ .nil pass0 (pa_cons (pe_meth0 (pv 1) GI.cls hC FC hr1 bC .nil pass0) (pa_cons (pe_ix ix_tup (pv 2) pe_int (fun _ _ => rfl)) pa_nil))))
      (pss_one (ps_ret (pe_lc (own := [("values", 4), ("lineage", 5)]) (g := (gTup K 2 (gCons (gName 4) (gCons (gName 5) gNil)))) (tt := tYes) (te := teEr) (by rfl) scEr.nd (pi_list (pe_meth0 (pv 1) GI.cls hR FR hr1 bR .nil pass0)) (blkOk_by (own := [("values", 4), ("lineage", 5)]) (N := nEr) (sc := defScope sEr) (by decide +kernel)) (fun _ _ _ _ _ => (pg_tup rfl (pgs_cons (pg_name (i := 4) scEr.nd rfl (.inl rfl)) (pgs_cons (pg_name (i := 5) scEr.nd rfl (.inl rfl)) pgs_nil)))) (fun _ _ _ _ _ => pts_nil) (fun _ _ _ _ _ => (pe_tup (pa_cons (pe_call GB_ hrB_ (by rfl) mB_ kB_ bB_ .nil pass0 (pa_cons (pv 4) (pa_cons (pv 3) pa_nil))) (pa_cons (pv 5) pa_nil)))))))), ?_⟩
    have two : 2 ≤ sizeLine := by decide
    cases st with
    | keep e => exact absurd hw (by show ¬ ("keep" : Str) = "select"; decide +kernel)
    | set x e => exact absurd hw (by show ¬ ("set" : Str) = "select"; decide +kernel)
    | rename a b => exact absurd hw (by show ¬ ("rename" : Str) = "select"; decide +kernel)
    | sort a u => exact absurd hw (by show ¬ ("sort" : Str) = "select"; decide +kernel)
    | sample a b c => exact absurd hw (by show ¬ ("sample" : Str) = "select"; decide +kernel)
    | select ns =>
    cases ld with
    | select hn nd l1 l8 =>
    obtain ⟨v, e1, dv⟩ := dh2 hd
    obtain ⟨b, rfl, eb⟩ := dh_strs dv
    obtain ⟨xs, zL, cc⟩ := id hL
    obtain ⟨dx, bv, h1, h2, h3⟩ := id hI
    have ok := rw.ok
    refine ⟨_, rfl, a, dx, _, rfl, h1, rfl, a, cv, rs, rfl, hI, _, rfl, p, _, _, .ref b, rfl, rfl, SqT.of e1, at_of (j := 1) rfl rfl, cv, b, ps, ns, rfl, hL, cp, eb, hn, l8, fun G H0 s0 eG => ?_⟩
    refine ⟨_, rfl, a, dx, _, rfl, s0 _ _ h1, rfl, a, cv, rs, rfl, hI.same s0, fun l hl => ?_⟩
    have zl := s0.trans (Same.upd (o := .lst (rs.map (·.1))) hl)
    have el : L2.upd H0 l (.lst (rs.map (·.1))) l = some (.lst (rs.map (·.1))) := upd_same
    have eG1 := Same.upd (o := .lst (rs.map (·.1))) hl _ _ eG
    have r1 := (show RowsAt H rs from h3).same zl
    generalize L2.upd H0 l (.lst (rs.map (·.1))) = H1 at zl el r1 eG1 ⊢
    let go : RowD → RowD := fun r => ⟨ns.map fun n => r.vals.getD ((nms ps).idxOf n) .none, r.lin⟩
    refine ⟨l, rfl, ⟨_, SqL.of el⟩, fun D hD => lc_list (K := K) (a := l) (xs := rs.map (·.1)) (fun i H' => (∃ rs' : RowsL, H' D = some (.lst (rs'.map (·.1))) ∧ RowsAt H' rs' ∧ RowsOk rs' ∧ rs'.map (·.2) = (rs.take i).map fun r => go r.2) ∧ Same H1 H') ⟨⟨[], upd_same, nofun, nofun, rfl⟩, Same.upd hD⟩ (fun i H' _ pr => SqL.of (pr.2 _ _ el)) ?_ ?_⟩
    · rintro i x H2 hx ⟨⟨rs', eD, ra', ok', em⟩, s2⟩
      rw [List.getElem?_map] at hx
      obtain ⟨r, er, rfl⟩ := Option.map_eq_some_iff.mp hx
      have rm := List.mem_of_getElem? er
      have li := (List.getElem?_eq_some_iff.mp er).1
      obtain ⟨ra, va, la, ev, e2, dvals, dlin⟩ := row_at ((r1 r rm).same s2)
      obtain ⟨vk, lo⟩ := rw r.2 (List.mem_map_of_mem rm)
      have lv := vk.len
      rw [List.length_map] at lv
      cases dvals with
      | tup eu hu =>
      have l' : rs'.length ≤ i := by
        have := congrArg List.length em
        rw [List.length_map, List.length_map, List.length_take] at this
        omega
      refine ⟨ra, _, ev, SqT.of e2, rfl, _, _, rfl, _, _, rfl, rfl, rfl, ?_⟩
      dsimp only [tYes]
      refine iteT ?_
      change teEr _ _ _
      refine ⟨_, rfl, _, rfl, va, G, _, _, _, rfl, eu, hu, vk.noL, s2 _ _ eG1, fun j hj => ?_, by rw [List.length_map]; exact l8, fun q H3 s3 dq => ⟨_, rfl, two, fun t ht => ?_⟩⟩
      · obtain ⟨n, h4, rfl⟩ := List.mem_map.mp hj
        rw [← lv]
        have := List.idxOf_lt_length_of_mem (hn n h4)
        rwa [List.length_map] at this
      have zt := Same.upd (o := .tup [.ref q, .ref la]) ht
      have eD3 := zt _ _ (s3 _ _ eD)
      have s3t := s3.trans zt
      have newd : Dh (L2.upd H3 t (.tup [.ref q, .ref la])) (.ref t) (go r.2).d := .tup upd_same (.cons (by
        have := dq.same zt
        rw [List.map_map] at this
        exact this) (.cons (dlin.same s3t) .nil))
      have nol : noLs (go r.2).vals = true := noLs_all.mpr fun d hd' => by
        obtain ⟨n, h4, rfl⟩ := List.mem_map.mp hd'
        have l3 : (nms ps).idxOf n < r.2.vals.length := by
          have := List.idxOf_lt_length_of_mem (hn n h4)
          rw [List.length_map] at this
          omega
        refine vk.noL _ ?_
        rw [List.getD_eq_getElem?_getD, List.getElem?_eq_getElem l3]
        exact List.getElem_mem _
      refine ⟨_, eD3, lt_size (by rw [List.length_map]; omega), ⟨rs' ++ [(.ref t, go r.2)], by rw [upd_same, List.map_append]; rfl, fun y hy => ?_, fun y hy => ?_, by rw [List.map_append, em, List.take_add_one, er, List.map_append]; rfl⟩, fun b' o e => by rw [upd_ne (ne_of_none e hD)]; exact (s2.trans s3t) b' o e⟩
      · rcases List.mem_append.mp hy with hy | hy
        · exact ((ra' y hy).same s3t).t (SameT.lst eD3) (row_noL (ok' y hy).1)
        · rw [List.mem_singleton.mp hy]
          exact newd.t (SameT.lst eD3) (row_noL nol)
      · rcases List.mem_append.mp hy with hy | hy
        · exact ok' y hy
        · rw [List.mem_singleton.mp hy]
          exact ⟨nol, lo⟩
    rintro H2 ⟨⟨rs', eD, ra', ok', em⟩, s2⟩
    rw [List.length_map, List.take_length] at em
    refine k D H2 rs' (zl.trans s2) eD ra' ?_
    rw [em]
    show _ = (rs.map (·.2)).map _
    rw [List.map_map]
    rfl
end
abbrev sTr : Stmt := top 107
abbrev nTr : List Str := ["tables", "table", "step", "word", "name", "expression", "columns", "names", "at", "rows", "values", "lineage", "found"]
abbrev pTr : List Str := ["tables", "table", "step"]
theorem scTr : FnScope nTr pTr (defScope sTr) := ⟨rfl, rfl, rfl, by decide +kernel, rfl, by decide +kernel, by decide +kernel⟩
section
variable {fA_ fB_ : Addr} {fdA_ fdB_ : FuncData}
theorem ok_Tr (F : Fun K "set_rows" "set_rows" sTr f fd) (T : Bt mg) {C : Addr} (M : TbM P w K mg base C)
    (GA_ : FnOk P w K mg base CX0 15 fA_ fdA_ ["columns", "values", "expression"] (spEv)) (mA_ : mg "evaluate" = some (.ref fA_)) (kA_ : PySem.W.keepIn K (.ref fA_) = true) (bA_ : Binds K fdA_ ["columns", "values", "expression"] [])
    (GB_ : FnOk P w K mg base CX0 1 fB_ fdB_ ["columns"] (spNo)) (mB_ : mg "names_of" = some (.ref fB_)) (kB_ : PySem.W.keepIn K (.ref fB_) = true) (bB_ : Binds K fdB_ ["columns"] []) : FnOk P w K mg base CX0 16 f fd pTr ((spRb C "set")) := by
  refine F.ok scTr (fun vs H Q E h => ?_) (fun cdv A outer s H vs Q E hr h => ?_)
  · obtain ⟨tb, a, cv, p, ps, qs, st, rs, rfl, _⟩ := h
    rfl
  · obtain ⟨tb, a, cv, p, ps, qs, st, rs, rfl, hI, hL, cp, rw, ln, hd, ld, hw, pl, k⟩ := h
    have hrA_ : Room (15) _ := hr.mono (by first | decide | omega)
    have hrB_ : Room (1) _ := hr.mono (by first | decide | omega)
    obtain ⟨fI, fdI, GI, FI, bI⟩ := M.i
    obtain ⟨fC, fdC, hC, FC, bC⟩ := M.c
    obtain ⟨fR, fdR, hR, FR, bR⟩ := M.r
    have hr1 : Room 1 _ := hr.mono (by omega)
    refine ⟨_, (pss_cons (ps_asg (pv 2) (pg_tup rfl (pgs_cons (pg_name (i := 3) scTr.nd rfl (.inl rfl)) (pgs_cons (pg_name (i := 4) scTr.nd rfl (.inl rfl)) (pgs_cons (pg_name (i := 5) scTr.nd rfl (.inl rfl)) pgs_nil)))))
      (pss_cons (ps_set (i := 6) scTr.nd rfl (Or.inl rfl) (pe_meth0 (pv 1) GI.cls hC FC hr1 bC .nil pass0))
      (pss_cons (ps_set (i := 7) scTr.nd rfl (Or.inl rfl) (pe_call GB_ hrB_ (by rfl) mB_ kB_ bB_ .nil pass0 (pa_cons (pv 6) pa_nil)))
      (Evl.pss_cut (ps_set (i := 8) scTr.nd rfl (Or.inl rfl) (pe_ifExp (pt_cmpR op_in_seq (pv 4) (pv 7) (by rfl)) (pe_bm PySem.F.plainAttrs_list PySem.F.slot_list_index PySem.F.type_list_index mt_index (pv 7) (pa_cons (pv 4) pa_nil)) (pe_callB call_len_seq (by rfl) T.len PySem.boot_len (pa_cons (pv 7) pa_nil))))
      (pss_cons (ps_set (i := 9) scTr.nd rfl (Or.inl rfl) (pe_lst pa_nil))
      (pss_cons (ps_for PassesOwn.never rfl (pi_list (pe_meth0 (pv 1) GI.cls hR FR hr1 bR .nil pass0)) (pg_tup rfl (pgs_cons (pg_name (i := 10) scTr.nd rfl (.inl rfl)) (pgs_cons (pg_name (i := 11) scTr.nd rfl (.inl rfl)) pgs_nil))) (pss_cons (ps_set (i := 12) scTr.nd rfl (Or.inl rfl) (pe_call GA_ hrA_ (by rfl) mA_ kA_ bA_ .nil pass0 (pa_cons (pv 6) (pa_cons (pv 10) (pa_cons (pv 5) pa_nil)))))
      (pss_one (ps_expr (pe_bm PySem.F.plainAttrs_list PySem.F.slot_list_append PySem.F.type_list_append mt_append (pv 9) (pa_cons (pe_tup (pa_cons (pe_op op_catA (pe_op op_catA (pe_slice sl_tupA (pv 10) po_none (po_some (pv 8))) (pe_tup (pa_cons (pv 12) pa_nil))) (pe_slice sl_tupA (pv 10) (po_some (pe_op op_add (pv 8) pe_int)) po_none)) (pa_cons (pv 11) pa_nil))) pa_nil))))))
      (pss_one (ps_ret (pv 9))))))))), ?_⟩
    have two : 2 ≤ sizeLine := by decide
    have one : 1 ≤ sizeLine := by decide
    cases st with
    | keep e => exact absurd hw (by show ¬ ("keep" : Str) = "set"; decide +kernel)
    | select ns => exact absurd hw (by show ¬ ("select" : Str) = "set"; decide +kernel)
    | rename a b => exact absurd hw (by show ¬ ("rename" : Str) = "set"; decide +kernel)
    | sort a u => exact absurd hw (by show ¬ ("sort" : Str) = "set"; decide +kernel)
    | sample a b c => exact absurd hw (by show ¬ ("sample" : Str) = "set"; decide +kernel)
    | set x e =>
    obtain ⟨v, e1, dv⟩ := dh3 hd
    obtain ⟨kd, xp⟩ : ∃ kd, Xp ps 3 kd e := by
      cases ld with
      | setO hx hk h => exact ⟨_, h⟩
      | setN hx nx hk h l => exact ⟨_, h⟩
    obtain ⟨xs, zL, cc⟩ := id hL
    obtain ⟨dx, bv, h1, h2, h3⟩ := id hI
    have ok := rw.ok
    have fl : (vS (nms ps)).all flatV = true := List.all_eq_true.mpr fun v hv => by
      obtain ⟨x, _, rfl⟩ := List.mem_map.mp hv
      rfl
    have l8 := cp.l8
    have lnm : (nms ps).length = ps.length := List.length_map _
    refine ⟨_, rfl, p, _, rfl, SqT.of e1, rfl, _, _, rfl, _, _, rfl, _, _, rfl, rfl, ?_⟩
    dsimp only [gNil]
    refine ⟨_, rfl, a, dx, _, rfl, h1, rfl, a, cv, rs, rfl, hI, ?_⟩
    refine ⟨_, rfl, cv, ps, rfl, hL, cp.l8, fun W H1 s1 _ eW => ?_⟩
    -- the place
    refine ⟨fun σ H' => σ = [some tb, some (.ref a), some (.ref p), some (.str "set"), some (.str x), some v, some (.ref cv), some (.ref W), some (.int ((nms ps).idxOf x : Nat)), none, none, none, none] ∧ H' = H1, ?_, ?_⟩
    · refine ⟨_, rfl, _, rfl, W, _, rfl, .inl (SqL.of eW), rfl, fl, _, rfl, ?_⟩
      rw [in_strs]
      by_cases hx : x ∈ nms ps
      · rw [decide_eq_true hx]
        refine iteT ⟨_, rfl, .inl ⟨rfl, _, SqL.of eW⟩, _, rfl, W, vS (nms ps), .str x, (nms ps).idxOf x, .str x, rfl, rfl, SqL.of eW, rfl, fl, by rw [List.getElem?_map, idx_at hx]; rfl, by simp [eqV], fun m z' lt ez => ?_, rfl, rfl⟩
        rw [List.getElem?_map] at ez
        obtain ⟨z, ez2, rfl⟩ := Option.map_eq_some_iff.mp ez
        have := idx_no lt ez2
        simp [eqV, this]
      · rw [decide_eq_false hx]
        refine iteF ⟨_, rfl, W, _, rfl, .inl (SqL.of eW), ?_, rfl⟩
        rw [List.length_map, List.idxOf_eq_length hx]
        rfl
    rintro σ H2 ⟨rfl, rfl⟩
    generalize hn : (nms ps).idxOf x = n at *
    have n8 : n ≤ ps.length := by rw [← hn, ← lnm]; exact List.idxOf_le_length
    refine ⟨Nat.zero_le _, fun R hR => ?_⟩
    have zR := Same.upd (o := .lst []) hR
    have eR0 : L2.upd H2 R (.lst []) R = some (.lst []) := upd_same
    generalize L2.upd H2 R (.lst []) = H3 at zR eR0 ⊢
    have s03 := s1.trans zR
    refine ⟨_, rfl, a, dx, _, rfl, s03 _ _ h1, rfl, a, cv, rs, rfl, hI.same s03, fun l hl => ?_⟩
    have zl := Same.upd (o := .lst (rs.map (·.1))) hl
    have el : L2.upd H3 l (.lst (rs.map (·.1))) l = some (.lst (rs.map (·.1))) := upd_same
    have eR1 := zl _ _ eR0
    have nRl : R ≠ l := ne_of_none eR0 hl
    have s04 := s03.trans zl
    have s24 := zR.trans zl
    have r1 := (show RowsAt H rs from h3).same s04
    generalize L2.upd H3 l (.lst (rs.map (·.1))) = H4 at zl el eR1 s04 s24 r1 ⊢
    let go : RowD → RowD := fun r => ⟨setA n r.vals (evD (rowOf ps r.vals) e), r.lin⟩
    refine ⟨l, rfl, ⟨_, SqL.of el⟩, for_list (K := K) (a := l) (xs := rs.map (·.1)) (fun i σ H' => (∃ x10 x11 x12 : Option V, σ = [some tb, some (.ref a), some (.ref p), some (.str "set"), some (.str x), some v, some (.ref cv), some (.ref W), some (.int (n : Nat)), some (.ref R), x10, x11, x12]) ∧ (∃ rs' : RowsL, H' R = some (.lst (rs'.map (·.1))) ∧ RowsAt H' rs' ∧ RowsOk rs' ∧ rs'.map (·.2) = (rs.take i).map fun r => go r.2) ∧ H' l = some (.lst (rs.map (·.1))) ∧ Same H2 H' ∧ ∀ b o, b ≠ R → H4 b = some o → H' b = some o) ⟨⟨_, _, _, rfl⟩, ⟨[], eR1, nofun, nofun, rfl⟩, el, s24, fun b o _ e => e⟩ (fun i σ H' _ pr => SqL.of pr.2.2.1) ?_ ?_⟩
    · rintro i y σ H5 hy ⟨⟨x10, x11, x12, rfl⟩, ⟨rs', eR, ra', ok', em⟩, el5, s25, k45⟩
      rw [List.getElem?_map] at hy
      obtain ⟨r, er, rfl⟩ := Option.map_eq_some_iff.mp hy
      have rm := List.mem_of_getElem? er
      have li := (List.getElem?_eq_some_iff.mp er).1
      have s05 := s1.trans s25
      obtain ⟨ra, va, la, ev, e2, dvals, dlin⟩ := row_at (((show RowsAt H rs from h3) r rm).same s05)
      obtain ⟨vk, lo⟩ := rw r.2 (List.mem_map_of_mem rm)
      have lv := vk.len
      rw [List.length_map] at lv
      have dv0 := dvals
      cases dvals with
      | tup eu hu =>
      have l' : rs'.length ≤ i := by
        have := congrArg List.length em
        rw [List.length_map, List.length_map, List.length_take] at this
        omega
      refine ⟨ra, _, ev, SqT.of e2, rfl, _, _, rfl, _, _, rfl, rfl, ?_⟩
      dsimp only [gNil]
      refine ⟨_, rfl, _, rfl, _, rfl, cv, va, v, xs, _, ps, _, e, kd, rfl, (zL.same s05).rd, eu, cc.t (SameT.of s05), cp.nd, cp.l8, hu, vk, dv.same s05, xp.mono (by decide), fun u H6 s6 du => ?_⟩
      refine ⟨_, rfl, .inl ⟨rfl, _, SqL.of (s6 _ _ eR)⟩, _, rfl, _, rfl, _, rfl, slH (dv0.same s6) fun r7 H7 d7 s7 => ⟨_, rfl, one, fun q hq => ?_⟩⟩
      rw [cutD_to (show n ≤ r.2.vals.length by omega)] at d7
      have zq := Same.upd (o := .tup [u]) hq
      have dq : Dh (L2.upd H7 q (.tup [u])) (.ref q) (.tuple [evD (rowOf ps r.2.vals) e]) := .tup upd_same (.cons ((du.same s7).same zq) .nil)
      refine catH (d7.same zq) dq (by rw [List.length_take]; show _ + 1 ≤ 1000; omega) fun r8 H8 d8 s8 => ?_
      refine ⟨_, rfl, _, rfl, _, _, rfl, rfl, _, rfl, ?_⟩
      have s68 := s6.trans (s7.trans (zq.trans s8))
      dsimp only [tNoPart]
      rw [show ((n : Nat) : Int) + 1 = ((n + 1 : Nat) : Int) by omega]
      refine slH (dv0.same s68) fun r9 H9 d9 s9 => ?_
      rw [cutD_from] at d9
      refine catH (d8.same s9) d9 (by rw [List.length_append, List.length_take, List.length_drop]; show _ + 1 + _ ≤ 1000; omega) fun r10 H10 d10 s10 => ⟨_, rfl, two, fun t ht => ?_⟩
      have zt := Same.upd (o := .tup [r10, .ref la]) ht
      have s5t := s68.trans (s9.trans (s10.trans zt))
      have eR' := s5t _ _ eR
      have newd : Dh (L2.upd H10 t (.tup [r10, .ref la])) (.ref t) (go r.2).d := .tup upd_same (.cons (d10.same zt) (.cons (dlin.same s5t) .nil))
      have nol : noLs (go r.2).vals = true := noLs_all.mpr fun d hd' => by
        rcases List.mem_append.mp hd' with hd' | hd'
        · rcases List.mem_append.mp hd' with hd' | hd'
          · exact vk.noL d (List.mem_of_mem_take hd')
          · rw [List.mem_singleton.mp hd']
            exact (ev_vk (rowT_of cp.nd vk) (xp.mono (show 3 ≤ 8 by decide))).noL
        · exact vk.noL d (List.mem_of_mem_drop hd')
      refine ⟨R, _, _, rfl, rfl, eR', lt_size (by rw [List.length_map]; omega), ⟨_, _, _, rfl⟩, ⟨rs' ++ [(.ref t, go r.2)], by rw [upd_same, List.map_append]; rfl, fun y hy => ?_, fun y hy => ?_, by rw [List.map_append, em, List.take_add_one, er, List.map_append]; rfl⟩, by rw [upd_ne (Ne.symm nRl)]; exact s5t _ _ el5, fun b' o e => ?_, fun b' o nb e => by rw [upd_ne nb]; exact s5t _ _ (k45 b' o nb e)⟩
      · rcases List.mem_append.mp hy with hy | hy
        · exact ((ra' y hy).same s5t).t (SameT.lst eR') (row_noL (ok' y hy).1)
        · rw [List.mem_singleton.mp hy]
          exact newd.t (SameT.lst eR') (row_noL nol)
      · rcases List.mem_append.mp hy with hy | hy
        · exact ok' y hy
        · rw [List.mem_singleton.mp hy]
          exact ⟨nol, lo⟩
      · rw [upd_ne (ne_of_none e hR)]
        exact s5t _ _ (s25 b' o e)
    · rintro σ H5 ⟨⟨x10, x11, x12, rfl⟩, ⟨rs', eR, ra', ok', em⟩, el5, s25, k45⟩
      rw [List.length_map, List.take_length] at em
      refine ⟨_, rfl, k R H5 rs' (s1.trans s25) eR ra' ?_⟩
      rw [em]
      show _ = (rs.map (·.2)).map _
      rw [List.map_map, hn]
      rfl
end
abbrev sSr : Stmt := top 113
abbrev nSr : List Str := ["tables", "table", "step", "word", "part", "whole", "seed", "row"]
abbrev pSr : List Str := ["tables", "table", "step"]
theorem scSr : FnScope nSr pSr (defScope sSr) := ⟨rfl, rfl, rfl, by decide +kernel, rfl, by decide +kernel, by decide +kernel⟩
section
variable {fA_ : Addr} {fdA_ : FuncData}
theorem ok_Sr (F : Fun K "sampled_rows" "sampled_rows" sSr f fd) (T : Bt mg) {C : Addr} (M : TbM P w K mg base C)
    (GA_ : FnOk P w K mg base CX0 1 fA_ fdA_ ["seed", "lineage", "whole"] (spNum)) (mA_ : mg "draw" = some (.ref fA_)) (kA_ : PySem.W.keepIn K (.ref fA_) = true) (bA_ : Binds K fdA_ ["seed", "lineage", "whole"] []) : FnOk P w K mg base CX0 3 f fd pSr ((spRb C "sample")) := by
  refine F.ok scSr (fun vs H Q E h => ?_) (fun cdv A outer s H vs Q E hr h => ?_)
  · obtain ⟨tb, a, cv, p, ps, qs, st, rs, rfl, _⟩ := h
    rfl
  · obtain ⟨tb, a, cv, p, ps, qs, st, rs, rfl, hI, hL, cp, rw, ln, hd, ld, hw, pl, k⟩ := h
    have hrA_ : Room (1) _ := hr.mono (by first | decide | omega)
    obtain ⟨fI, fdI, GI, FI, bI⟩ := M.i
    obtain ⟨fC, fdC, hC, FC, bC⟩ := M.c
    obtain ⟨fR, fdR, hR, FR, bR⟩ := M.r
    have hr1 : Room 1 _ := hr.mono (by omega)
    refine ⟨_, (pss_cons (ps_asg (pv 2) (pg_tup rfl (pgs_cons (pg_name (i := 3) scSr.nd rfl (.inl rfl)) (pgs_cons (pg_name (i := 4) scSr.nd rfl (.inr rfl)) (pgs_cons (pg_name (i := 5) scSr.nd rfl (.inr rfl)) (pgs_cons (pg_name (i := 6) scSr.nd rfl (.inr rfl)) pgs_nil))))))
      (pss_one (ps_ret (pe_lc (own := [("row", 7)]) (g := (gName 7)) (tt := (ttSr K)) (te := (tVar 7)) (by rfl) scSr.nd (pi_list (pe_meth0 (pv 1) GI.cls hR FR hr1 bR .nil pass0)) (blkOk_by (own := [("row", 7)]) (N := nSr) (sc := defScope sSr) (by decide +kernel)) (fun _ _ _ _ _ => (pg_name (i := 7) scSr.nd rfl (.inl rfl))) (fun _ _ _ _ _ => (pts_one (pt_cmpR op_lt (pe_call GA_ hrA_ (by rfl) mA_ kA_ bA_ .nil pass0 (pa_cons (pv 6) (pa_cons (pe_ix ix_tup (pv 7) pe_int (fun _ _ => rfl)) (pa_cons (pv 5) pa_nil)))) (pv 4) (nomark _)))) (fun _ _ _ _ _ => (pv 7)))))), ?_⟩
    cases st with
    | keep e => exact absurd hw (by show ¬ ("keep" : Str) = "sample"; decide +kernel)
    | set x e => exact absurd hw (by show ¬ ("set" : Str) = "sample"; decide +kernel)
    | select ns => exact absurd hw (by show ¬ ("select" : Str) = "sample"; decide +kernel)
    | rename a b => exact absurd hw (by show ¬ ("rename" : Str) = "sample"; decide +kernel)
    | sort a u => exact absurd hw (by show ¬ ("sort" : Str) = "sample"; decide +kernel)
    | sample pp ww ss =>
    cases ld with
    | sample o1 o2 o3 o4 =>
    have e := dh4 hd
    obtain ⟨xs, zL, cc⟩ := id hL
    obtain ⟨dx, bv, h1, h2, h3⟩ := id hI
    have ok := rw.ok
    refine ⟨_, rfl, p, _, rfl, SqT.of e, rfl, _, _, rfl, _, _, rfl, _, _, rfl, _, _, rfl, rfl, ?_⟩
    dsimp only [gNil]
    refine ⟨_, rfl, a, dx, _, rfl, h1, rfl, a, cv, rs, rfl, hI, fun l hl => ?_⟩
    have zl := Same.upd (o := .lst (rs.map (·.1))) hl
    have el : L2.upd H l (.lst (rs.map (·.1))) l = some (.lst (rs.map (·.1))) := upd_same
    have r1 := (show RowsAt H rs from h3).same zl
    generalize L2.upd H l (.lst (rs.map (·.1))) = H1 at zl el r1 ⊢
    refine ⟨l, rfl, ⟨_, SqL.of el⟩, fun D hD => lc_list (K := K) (a := l) (xs := rs.map (·.1)) (fun i H' => H' D = some (.lst ((rs.take i).map (·.1))) ∧ Same H1 H') ⟨upd_same, Same.upd hD⟩ (fun i H' _ pr => SqL.of (pr.2 _ _ el)) ?_ ?_⟩
    · rintro i x H2 hx ⟨hD2, s2⟩
      rw [List.getElem?_map] at hx
      obtain ⟨r, er, rfl⟩ := Option.map_eq_some_iff.mp hx
      have rm := List.mem_of_getElem? er
      have li := (List.getElem?_eq_some_iff.mp er).1
      obtain ⟨ra, va, la, ev, e2, _, d2⟩ := row_at ((r1 r rm).same s2)
      have lo := (rw r.2 (List.mem_map_of_mem rm)).2
      refine ⟨rfl, ?_⟩
      change ttSr K _ _ _
      refine ⟨_, rfl, _, rfl, ra, _, _, .ref la, ev, rfl, SqT.of e2, at_of (j := 1) rfl rfl, _, rfl, ss, ww, .ref la, r.2.lin, rfl, d2, lo, by omega, by omega, by omega, _, rfl, _, _, rfl, rfl, _, rfl, ?_⟩
      have lt : numL ss r.2.lin ww < (pp : Int) := by
        have := Int.emod_lt_of_pos (sumL ss r.2.lin) (show (0 : Int) < (ww : Int) by omega)
        show sumL ss r.2.lin % (ww : Int) < _
        have e3 : (pp : Int) = ww := by rw [show pp = ww from pl]
        omega
      rw [decide_eq_true lt]
      refine iteT ⟨_, rfl, _, hD2, lt_size (by rw [List.length_map, List.length_take]; omega), ?_, fun b o e => by rw [upd_ne (ne_of_none e hD)]; exact s2 b o e⟩
      rw [upd_same, List.take_add_one, er, List.map_append]
      rfl
    rintro H2 ⟨hD2, s2⟩
    rw [List.length_map, List.take_length] at hD2
    exact k D H2 rs (zl.trans s2) hD2 (fun r hr => (r1 r hr).same s2) rfl
end
end
end K16
set_option Elab.async false
set_option linter.all false
set_option maxRecDepth 100000
set_option maxHeartbeats 4000000
namespace K16
open PySem PySem.Spec PyProof.Rows L2 Lc
/-! ## rows stay of their columns' kinds -/
theorem vks_get : ∀ {ks : List Str} {ds : List PyData}, Vks ks ds → ∀ {i : Nat} {k : Str}, ks[i]? = some k → ∃ d, ds[i]? = some d ∧ Vk k d
  | _, _, .nil, i, k, e => by simp at e
  | _, _, .cons h r, 0, k, e => by
    obtain rfl := Option.some.inj e
    exact ⟨_, rfl, h⟩
  | _, _, .cons h r, i + 1, k, e => vks_get r (i := i) (by simpa using e)
theorem vks_of : ∀ {ks : List Str} {ds : List PyData}, ds.length = ks.length → (∀ (i : Nat) (k : Str), ks[i]? = some k → ∃ d, ds[i]? = some d ∧ Vk k d) → Vks ks ds
  | [], [], _, _ => .nil
  | [], _ :: _, l, _ => by simp at l
  | k :: ks, [], l, _ => by simp at l
  | k :: ks, d :: ds, l, h => by
    obtain ⟨d', e, v⟩ := h 0 k rfl
    obtain rfl := Option.some.inj e
    refine .cons v (vks_of (by simpa using l) fun i k' e => ?_)
    obtain ⟨d', e', v'⟩ := h (i + 1) k' (by simpa using e)
    exact ⟨d', by simpa using e', v'⟩
theorem setA_len {n : Nat} {vs : List PyData} {d : PyData} (h : n < vs.length) : (setA n vs d).length = vs.length := by
  unfold setA
  rw [List.length_append, List.length_append, List.length_take, List.length_drop]
  show min n vs.length + 1 + _ = _
  omega
theorem setA_get {n i : Nat} {vs : List PyData} {d : PyData} (h : n < vs.length) : (setA n vs d)[i]? = if i = n then some d else vs[i]? := by
  unfold setA
  rw [List.append_assoc, List.getElem?_append, List.length_take, Nat.min_eq_left (Nat.le_of_lt h)]
  by_cases a : i < n
  · rw [if_pos a, if_neg (by omega), List.getElem?_take, if_pos a]
  · rw [if_neg a]
    by_cases b : i = n
    · rw [if_pos b, b, Nat.sub_self]
      rfl
    · rw [if_neg b]
      obtain ⟨j, rfl⟩ : ∃ j, i = n + 1 + j := ⟨i - (n + 1), by omega⟩
      rw [show n + 1 + j - n = j + 1 by omega]
      show (vs.drop (n + 1))[j]? = _
      rw [List.getElem?_drop]
theorem nodup_ix {ss : List Str} (nd : ss.Nodup) {i : Nat} {x : Str} (e : ss[i]? = some x) : ss.idxOf x = i := by
  obtain ⟨l, rfl⟩ := List.getElem?_eq_some_iff.mp e
  exact nd.idxOf_getElem i l
theorem Lead.rows {ps qs : CsL} {st : Ps} {ds : List RowD} (h : Lead ps st qs) (c : ColP ps) (w : RowW ps ds) : RowW qs (stepD ps st ds) := by
  have lnm : (nms ps).length = ps.length := List.length_map _
  cases h with
  | keep h => exact fun r hr => w r (List.mem_filter.mp hr).1
  | sort h => exact w
  | sample a b d e => exact w
  | @rename a b ha nb hb =>
    intro r hr
    obtain ⟨h1, h2⟩ := w r hr
    refine ⟨?_, h2⟩
    rw [List.map_map]
    exact h1
  | @setO x k e hx hk h =>
    intro r hr
    obtain ⟨r, hr0, rfl⟩ := List.mem_map.mp hr
    obtain ⟨h1, h2⟩ := w r hr0
    refine ⟨?_, h2⟩
    have lv := h1.len
    rw [List.length_map] at lv
    have li : (nms ps).idxOf x < r.vals.length := by
      have := List.idxOf_lt_length_of_mem hx
      omega
    refine vks_of (by rw [setA_len li, ← lv, List.length_map, List.length_map]) fun i k' e' => ?_
    rw [List.map_map, List.getElem?_map] at e'
    obtain ⟨p, ep, rfl⟩ := Option.map_eq_some_iff.mp e'
    have en : (nms ps)[i]? = some p.1 := by rw [List.getElem?_map, ep]; rfl
    show ∃ d, (setA _ _ _)[i]? = some d ∧ Vk (if p.1 = x then k else p.2) d
    rw [setA_get li]
    by_cases q : p.1 = x
    · rw [q] at en
      rw [if_pos q, if_pos (nodup_ix c.nd en).symm]
      exact ⟨_, rfl, ev_vk (rowT_of c.nd h1) h⟩
    · rw [if_neg q, if_neg (fun z => q (by rw [z, idx_at hx] at en; exact (Option.some.inj en).symm))]
      exact vks_get h1 (by rw [List.getElem?_map, ep]; rfl)
  | @setN x k e hx nx hk h l =>
    intro r hr
    obtain ⟨r, hr0, rfl⟩ := List.mem_map.mp hr
    obtain ⟨h1, h2⟩ := w r hr0
    refine ⟨?_, h2⟩
    have lv := h1.len
    rw [List.length_map] at lv
    have e1 : setA ((nms ps).idxOf x) r.vals (evD (rowOf ps r.vals) e) = r.vals ++ [evD (rowOf ps r.vals) e] := by
      unfold setA
      rw [List.idxOf_eq_length hx, lnm, lv, List.take_length, List.drop_eq_nil_of_le (Nat.le_succ _), List.append_nil]
    show Vks _ (setA _ _ _)
    rw [e1, List.map_append]
    exact Vks.app (ev_vk (rowT_of c.nd h1) h) h1
  | @select ns h nd l1 l8 =>
    intro r hr
    obtain ⟨r, hr0, rfl⟩ := List.mem_map.mp hr
    obtain ⟨h1, h2⟩ := w r hr0
    refine ⟨?_, h2⟩
    refine vks_of (by rw [List.length_map, List.length_map, List.length_map]) fun i k' e' => ?_
    rw [List.map_map, List.getElem?_map] at e'
    obtain ⟨n, en, rfl⟩ := Option.map_eq_some_iff.mp e'
    have hn := h n (List.mem_of_getElem? en)
    have ei := idx_at hn
    rw [List.getElem?_map] at ei
    obtain ⟨p, ep, e3⟩ := Option.map_eq_some_iff.mp ei
    obtain ⟨d, ed, vd⟩ := vks_get h1 (i := (nms ps).idxOf n) (k := p.2) (by rw [List.getElem?_map, ep]; rfl)
    refine ⟨d, ?_, ?_⟩
    · rw [List.getElem?_map, en]
      show some (r.vals.getD _ _) = _
      rw [List.getD_eq_getElem?_getD, ed]
      rfl
    · show Vk (kdOf ps n) d
      rw [← e3, kdOf_mem c.nd (List.mem_of_getElem? ep)]
      exact vd
theorem stepD_len {ps : CsL} {st : Ps} {ds : List RowD} : (stepD ps st ds).length ≤ ds.length := by
  cases st <;> unfold stepD
  · exact List.length_filter_le _ _
  · rw [List.length_map]; exact Nat.le_refl _
  · rw [List.length_map]; exact Nat.le_refl _
  · exact Nat.le_refl _
  · exact Nat.le_refl _
  · exact Nat.le_refl _
/-- steps one behind the other -/
inductive Runs : CsL → List RowD → List Ps → CsL → List RowD → Prop
  | nil {ps : CsL} {ds : List RowD} : Runs ps ds [] ps ds
  | cons {ps qs rs : CsL} {ds es : List RowD} {st : Ps} {sts : List Ps} (h : Lead ps st qs) (p : st.Pl) (r : Runs qs (stepD ps st ds) sts rs es) : Runs ps ds (st :: sts) rs es
theorem Runs.snoc {ps qs rs : CsL} {ds es : List RowD} {sts : List Ps} {st : Ps} (h : Runs ps ds sts qs es) (l : Lead qs st rs) (p : st.Pl) : Runs ps ds (sts ++ [st]) rs (stepD qs st es) := by
  induction h with
  | nil => exact .cons l p .nil
  | cons a b r ih => exact .cons a b (ih l)
end K16
set_option Elab.async false
set_option linter.all false
set_option maxRecDepth 100000
set_option maxHeartbeats 4000000
namespace K16
open PySem PySem.Spec PyProof.Rows L2 Lc
/-! ## run -/
/-- a dict comprehension over a dict's keys -/
theorem dc_keys {d : Addr} {o : Obj} {kvs0 : List (Key × V)} {g : TG} {tt : TT} {tk tv : TE} {vs : List Nat} {σ : L2.St} {H1 : Hp} {D : Addr} {Qd : Hp → Prop} (Pv : Nat → Hp → Prop) (h0 : Pv 0 (L2.upd H1 D (.dK []))) (hl : ∀ i H, i ≤ kvs0.length → Pv i H → H d = some (.frz o (.dK kvs0)))
    (hs : ∀ i k0 v0 H, kvs0[i]? = some (k0, v0) → Pv i H → g (kV k0) (wipe σ vs) H fun σ2 H2 => wipe σ2 vs = wipe σ vs ∧ tt σ2 H2 fun b H3 =>
      if b = true then tk σ2 H3 fun y H4 => tv σ2 H4 fun z H5 => ∃ kvs k, y = kV k ∧ H5 D = some (.dK kvs) ∧ kvs.length < sizeLine ∧ Pv (i + 1) (L2.upd H5 D (.dK (putK kvs k z))) else Pv (i + 1) H3) (hd : ∀ H, Pv kvs0.length H → Qd H) :
    ∃ W : Nat → Nat → Hp → Prop, (∃ m, W 0 m (L2.upd H1 D (.dK []))) ∧ ∀ i m H, W i m H →
      ((Itk d o kvs0).stop i H ∧ Qd H) ∨ ((Itk d o kvs0).go i H ∧ ∃ Nx : Hp → Prop, (∀ H', Nx H' → ∃ m', m' < m ∧ W (i + 1) m' H') ∧ ∀ x H', (Itk d o kvs0).yld i H x H' → g x (wipe σ vs) H' fun σ2 H2 => wipe σ2 vs = wipe σ vs ∧ tt σ2 H2 fun b H3 =>
        if b = true then tk σ2 H3 fun y H4 => tv σ2 H4 fun z H5 => ∃ kvs k, y = kV k ∧ H5 D = some (.dK kvs) ∧ kvs.length < sizeLine ∧ Nx (L2.upd H5 D (.dK (putK kvs k z))) else Nx H3) := by
  refine ⟨fun i m H => m = kvs0.length - i ∧ i ≤ kvs0.length ∧ Pv i H, ⟨kvs0.length, by simp, Nat.zero_le _, h0⟩, ?_⟩
  rintro i m H ⟨rfl, hi, p⟩
  have q := hl i H hi p
  by_cases hlt : i < kvs0.length
  · refine .inr ⟨⟨q, hlt⟩, Pv (i + 1), fun H' p' => ⟨kvs0.length - (i + 1), by omega, rfl, hlt, p'⟩, fun x H' y => ?_⟩
    obtain ⟨e, k0, v0, e2, e3⟩ := y
    subst e
    subst e3
    exact hs i k0 v0 _ e2 p
  · have e : i = kvs0.length := by omega
    subst e
    exact .inl ⟨⟨q, Nat.le_refl _⟩, hd H p⟩
/-! ## resolved, and run -/
inductive StepsAt (H : Hp) : List V → List Ps → Prop
  | nil : StepsAt H [] []
  | cons {a : Addr} {ys : List V} {st : Ps} {sts : List Ps} (h : Dh H (.ref a) st.d) (r : StepsAt H ys sts) : StepsAt H (.ref a :: ys) (st :: sts)
theorem StepsAt.same {H H' : Hp} (s : Same H H') : ∀ {ys : List V} {sts : List Ps}, StepsAt H ys sts → StepsAt H' ys sts
  | _, _, .nil => .nil
  | _, _, .cons h r => .cons (h.same s) (r.same s)
theorem StepsAt.len {H : Hp} : ∀ {ys : List V} {sts : List Ps}, StepsAt H ys sts → ys.length = sts.length
  | _, _, .nil => rfl
  | _, _, .cons h r => by rw [List.length_cons, List.length_cons, r.len]
theorem StepsAt.get {H : Hp} : ∀ {ys : List V} {sts : List Ps}, StepsAt H ys sts → ∀ {i : Nat} {y : V}, ys[i]? = some y → ∃ a st, sts[i]? = some st ∧ y = .ref a ∧ Dh H (.ref a) st.d
  | _, _, .nil, i, y, e => by simp at e
  | _, _, .cons h r, 0, y, e => by
    cases e
    exact ⟨_, _, rfl, rfl, h⟩
  | _, _, .cons h r, i + 1, y, e => by
    obtain ⟨a, st, e1, e2⟩ := r.get (i := i) (by simpa using e)
    exact ⟨a, st, by simpa using e1, e2⟩
theorem StepsAt.snoc {H : Hp} {a : Addr} {st : Ps} : ∀ {ys : List V} {sts : List Ps}, StepsAt H ys sts → Dh H (.ref a) st.d → StepsAt H (ys ++ [.ref a]) (sts ++ [st])
  | _, _, .nil, g => .cons g .nil
  | _, _, .cons h r, g => .cons h (r.snoc g)
def spRes : Sp := fun vs H Q _ => ∃ (p sv : Addr) (S : V) (src : Str) (ys : List V) (sts : List Ps), vs = [.ref p, S] ∧ H p = some (.tup [.str src, .ref sv]) ∧ H sv = some (.tup ys) ∧ StepsAt H ys sts ∧ ys.length ≤ 10 ∧
  ∀ (q tv : Addr) (H' : Hp), Same H H' → H' q = some (.tup [.str src, .ref tv]) → H' tv = some (.tup ys) → Q (.ref q) H'
def rbW : List Str := ["keep", "set", "select", "rename", "sample"]
theorem not_choose : ∀ st : Ps, st.w ≠ "choose"
  | .keep _ => by show ("keep" : Str) ≠ "choose"; decide +kernel
  | .set _ _ => by show ("set" : Str) ≠ "choose"; decide +kernel
  | .select _ => by show ("select" : Str) ≠ "choose"; decide +kernel
  | .rename _ _ => by show ("rename" : Str) ≠ "choose"; decide +kernel
  | .sort _ _ => by show ("sort" : Str) ≠ "choose"; decide +kernel
  | .sample _ _ _ => by show ("sample" : Str) ≠ "choose"; decide +kernel
theorem pl_w {st : Ps} (h : st.Pl) : st.w ∈ rbW := by
  cases st with
  | keep e => exact .head _
  | set x e => exact .tail _ (.head _)
  | select ns => exact .tail _ (.tail _ (.head _))
  | rename a b => exact .tail _ (.tail _ (.tail _ (.head _)))
  | sort a u => exact h.elim
  | sample n w s => exact .tail _ (.tail _ (.tail _ (.tail _ (.head _))))
structure RbA (P : Program) (w : World) (K : PySem.W.Frag) (mg : Str → Option Value) (base : Heap) (C rA : Addr) (g : Str → Addr) : Prop where
  gr : mg "ROWS_BEHIND" = some (.ref rA)
  d : ∀ x ∈ rbW, KDct K w rA x (.ref (g x))
  h : ∀ x ∈ rbW, Held P w K mg base 16 (g x) (spRb C x)
  inj : ∀ a ∈ rbW, ∀ b ∈ rbW, g a = g b → a = b
def spOf (C : Addr) (g : Str → Addr) (q : Addr) : Option Sp := (rbW.find? fun a => decide (g a = q)).map (spRb C)
theorem spOf_at {P : Program} {w : World} {K : PySem.W.Frag} {mg : Str → Option Value} {base : Heap} {C rA : Addr} {g : Str → Addr} (A : RbA P w K mg base C rA g) {x : Str} (h : x ∈ rbW) : spOf C g (g x) = some (spRb C x) := by
  unfold spOf
  cases e : rbW.find? fun a => decide (g a = g x) with
  | none => exact absurd (List.find?_eq_none.mp e x h) (by simp)
  | some a =>
    have h1 := List.find?_some e
    have h2 := List.mem_of_find?_eq_some e
    rw [A.inj a h2 x h (by simpa using h1)]
    rfl
def TabsAt (C : Addr) (H : Hp) (kvs : List (Key × V)) : Prop := ∀ kv ∈ kvs, ∃ (z : Str) (a cv : Addr) (rs : RowsL), kv = ((Sum.inr z : Key), .ref a) ∧ IsTb C H a cv rs ∧ RowsOk rs ∧ valV kvs (Sum.inr z : Key) = some (.ref a)
def spRun (C : Addr) : Sp := fun vs H Q _ => ∃ (D a cv p sv : Addr) (src : Str) (kvs : List (Key × V)) (rs : RowsL) (ps qs : CsL) (es : List RowD) (ys : List V) (sts : List Ps), vs = [.ref D, .ref p, .non] ∧ H D = some (.dK kvs) ∧ TabsAt C H kvs ∧ kvs.length ≤ 4 ∧ valV kvs (Sum.inr src : Key) = some (.ref a) ∧ IsTb C H a cv rs ∧ CA H cv ps ∧ ColP ps ∧ RowW ps (rs.map (·.2)) ∧ rs.length ≤ 1000 ∧ H p = some (.tup [.str src, .ref sv]) ∧ H sv = some (.tup ys) ∧ StepsAt H ys sts ∧ Runs ps (rs.map (·.2)) sts qs es ∧ ys.length ≤ 10 ∧
  ∀ (a' cv' : Addr) (rs' : RowsL) (H' : Hp), Same H H' → IsTb C H' a' cv' rs' → CA H' cv' qs → ColP qs → RowW qs es → rs'.map (·.2) = es → Q (.ref a') H'
section
variable {P : Program} {w : World} {K : PySem.W.Frag} {mg : Str → Option Value} {base : Heap} {f : Addr} {fd : FuncData}
abbrev sRes : Stmt := top 100
abbrev nRes : List Str := ["pipeline", "setting", "source", "steps", "plain", "step", "index"]
abbrev pRes : List Str := ["pipeline", "setting"]
theorem scRes : FnScope nRes pRes (defScope sRes) := ⟨rfl, rfl, rfl, by decide +kernel, rfl, by decide +kernel, by decide +kernel⟩
section
theorem ok_Res (F : Fun K "resolved" "resolved" sRes f fd) (T : Bt mg) : FnOk P w K mg base CX0 1 f fd pRes (spRes) := by
  refine F.ok scRes (fun vs H Q E h => ?_) (fun cdv A outer s H vs Q E hr h => ?_)
  · obtain ⟨p, sv, S, src, ys, sts, rfl, _⟩ := h
    rfl
  · obtain ⟨p, sv, S, src, ys, sts, rfl, hp, hs, ha, l10, k⟩ := h
    refine ⟨_, (pss_cons (ps_asg (pv 0) (pg_tup rfl (pgs_cons (pg_name (i := 2) scRes.nd rfl (.inl rfl)) (pgs_cons (pg_name (i := 3) scRes.nd rfl (.inl rfl)) pgs_nil))))
      (pss_cons (ps_set (i := 4) scRes.nd rfl (Or.inl rfl) (pe_lst pa_nil))
      (pss_cons (ps_for PassesOwn.never rfl (pi_tup (pv 3)) (pg_name (i := 5) scRes.nd rfl (.inl rfl)) (pss_one (ps_if (pt_cmpR op_eq (pe_ix ix_tup (pv 5) pe_int (fun _ _ => rfl)) pe_str (nomark _)) pss_dead (pss_one (ps_expr (pe_bm PySem.F.plainAttrs_list PySem.F.slot_list_append PySem.F.type_list_append mt_append (pv 4) (pa_cons (pv 5) pa_nil)))))))
      (pss_one (ps_ret (pe_tup (pa_cons (pv 2) (pa_cons (pe_callTy call_tuple_of (by rfl) T.tuple boot_tuple (pa_cons (pv 4) pa_nil)) pa_nil)))))))), ?_⟩
    refine ⟨_, rfl, p, _, rfl, SqT.of hp, rfl, _, _, rfl, _, _, rfl, rfl, ?_⟩
    dsimp only [gNil]
    refine ⟨by show 0 ≤ sizeLine; decide, fun L hL => ?_⟩
    have zL := Same.upd (o := .lst []) hL
    have eL : upd H L (.lst []) L = some (.lst []) := upd_same
    generalize upd H L (.lst []) = H1 at zL eL ⊢
    refine ⟨_, rfl, sv, rfl, ⟨_, SqT.of (zL _ _ hs)⟩, for_tup (K := K) (a := sv) (xs := ys) (fun i σ H' => (∃ x5 x6 : Option V, σ = [some (.ref p), some S, some (.str src), some (.ref sv), some (.ref L), x5, x6]) ∧ H' L = some (.lst (ys.take i)) ∧ Same H H') ⟨⟨_, _, rfl⟩, eL, zL⟩ (fun i σ H' _ pr => SqT.of (pr.2.2 _ _ hs)) ?_ ?_⟩
    · rintro i y σ H2 hy ⟨⟨x5, x6, rfl⟩, e2, s2⟩
      obtain ⟨a, st, e3, rfl, d3⟩ := ha.get hy
      obtain ⟨xs, e4, lx⟩ := ps_at d3
      have nc : ¬ (V.str st.w = V.str "choose") := fun h => not_choose st (by injection h)
      refine ⟨_, rfl, a, _, _, .str st.w, rfl, rfl, SqT.of (s2 _ _ e4), at_of (j := 0) rfl rfl, rfl, _, rfl, ?_⟩
      rw [decide_eq_false nc]
      have li := (List.getElem?_eq_some_iff.mp hy).1
      refine iteF ⟨_, rfl, .inl ⟨rfl, _, SqL.of e2⟩, _, rfl, L, _, _, rfl, rfl, e2, Nat.lt_of_le_of_lt (show (ys.take i).length ≤ 10 by rw [List.length_take]; omega) (by decide), ⟨⟨_, _, rfl⟩, ?_, fun b o e => by rw [upd_ne (ne_of_none e hL)]; exact s2 b o e⟩⟩
      rw [upd_same, List.take_add_one, hy]
      rfl
    · rintro σ H2 ⟨⟨x5, x6, rfl⟩, e2, s2⟩
      rw [List.take_length] at e2
      refine ⟨_, rfl, _, rfl, L, ys, rfl, .inl ⟨SqL.of e2, fun tv htv => ⟨by show 2 ≤ sizeLine; decide, fun q hq => ?_⟩⟩⟩
      have z1 := Same.upd (o := .tup ys) htv
      have z2 := Same.upd (o := .tup [.str src, .ref tv]) hq
      exact k q tv _ ((s2.trans z1).trans z2) upd_same (z2 _ _ upd_same)
end
abbrev sRun : Stmt := top 122
abbrev nRun : List Str := ["tables", "pipeline", "setting", "source", "steps", "shapes", "name", "table", "step", "follow", "rows"]
abbrev pRun : List Str := ["tables", "pipeline", "setting"]
theorem scRun : FnScope nRun pRun (defScope sRun) := ⟨rfl, rfl, rfl, by decide +kernel, rfl, by decide +kernel, by decide +kernel⟩
section
variable {fA_ fB_ : Addr} {fdA_ fdB_ : FuncData}
theorem ok_Run (F : Fun K "run" "run" sRun f fd) (T : Bt mg) {C : Addr} (M : TbM P w K mg base C) {rA : Addr} {g : Str → Addr} (A3 : RbA P w K mg base C rA g)
    (GA_ : FnOk P w K mg base CX0 1 fA_ fdA_ ["pipeline", "setting"] (spRes)) (mA_ : mg "resolved" = some (.ref fA_)) (kA_ : PySem.W.keepIn K (.ref fA_) = true) (bA_ : Binds K fdA_ ["pipeline", "setting"] [])
    (GB_ : FnOk P w K mg base CX0 17 fB_ fdB_ ["tables", "columns", "step"] (spCb)) (mB_ : mg "columns_behind" = some (.ref fB_)) (kB_ : PySem.W.keepIn K (.ref fB_) = true) (bB_ : Binds K fdB_ ["tables", "columns", "step"] []) : FnOk P w K mg base CX0 18 f fd pRun ((spRun C)) := by
  refine F.ok scRun (fun vs H Q E h => ?_) (fun cdv A outer s H vs Q E hr h => ?_)
  · obtain ⟨D, a, cv, p, sv, src, kvs0, rs, ps, qs, es, ys, sts, rfl, _⟩ := h
    rfl
  · obtain ⟨D, a, cv, p, sv, src, kvs0, rs, ps, qs, es, ys, sts, rfl, hD, hT, l4, hv, hI, hL, cp, rw_, ln, hp, hs, ha, so, l10, k⟩ := h
    have ok := rw_.ok
    have hrA_ : Room (1) _ := hr.mono (by first | decide | omega)
    have hrB_ : Room (17) _ := hr.mono (by first | decide | omega)
    obtain ⟨fI, fdI, GI, FI, bI⟩ := M.i
    obtain ⟨fC, fdC, hC, FC, bC⟩ := M.c
    have hr1 : Room 1 _ := hr.mono (by decide)
    have hr2 : Room (1 + 1) _ := hr.mono (by decide)
    have hr3 : Room 16 _ := hr.mono (by decide)
    have AS : ∀ f sp, spOf C g f = some sp → Held P w K mg base 16 f sp := fun f sp e => by
      unfold spOf at e
      obtain ⟨x, e1, rfl⟩ := Option.map_eq_some_iff.mp e
      have h1 := List.find?_some e1
      have h2 := List.mem_of_find?_eq_some e1
      rw [← show g x = f by simpa using h1]
      exact A3.h x h2
    refine ⟨_, (pss_cons (ps_asg (pe_call GA_ hrA_ (by rfl) mA_ kA_ bA_ .nil pass0 (pa_cons (pv 1) (pa_cons (pe_ifExp (pt_cmpR op_isN (pv 2) pe_non (nomark _)) pe_dnewK (pv 2)) pa_nil))) (pg_tup rfl (pgs_cons (pg_name (i := 3) scRun.nd rfl (.inl rfl)) (pgs_cons (pg_name (i := 4) scRun.nd rfl (.inl rfl)) pgs_nil))))
      (pss_cons (ps_lock (ps_setDc (i := 5) (own := [("name", 6)]) (g := (gName 6)) (tt := tYes) (tk := (tVar 6)) (tv := (tMeth C "columns" (spTC C) [] E0 (tDGet (tVar 0) (tVar 6)) tNil)) (by rfl) scRun.nd rfl rfl (sw_dict rfl rfl rfl (by decide +kernel)) (pi_keys (pv 0)) (blkOk_by (own := [("name", 6)]) (N := nRun) (sc := defScope sRun) (by decide +kernel)) (fun _ _ _ _ _ => (pg_name (i := 6) scRun.nd rfl (.inl rfl))) (fun _ _ _ _ _ => pts_nil) (fun _ _ _ _ _ => (pv 6)) (fun _ _ _ _ _ => (pe_meth0 (pe_dget (hu_of hr) (pv 0) (pv 6) (fun _ _ => rfl)) GI.cls hC FC hr1 bC .nil pass0))))
      (pss_cons (ps_set (i := 7) scRun.nd rfl (Or.inl rfl) (pe_dget (hu_of hr) (pv 0) (pv 3) (fun _ _ => rfl)))
      (pss_cons (ps_for PassesOwn.never rfl (pi_tup (pv 4)) (pg_name (i := 8) scRun.nd rfl (.inl rfl)) (pss_cons (ps_set (i := 9) scRun.nd rfl (Or.inl rfl) (pe_ix ix_kdict (pe_glob (v := .ref rA) (by rfl) A3.gr rfl) (pe_ix ix_tup (pv 8) pe_int (fun _ _ => rfl)) (fun _ _ => rfl)))
      (pss_cons (ps_set (i := 10) scRun.nd rfl (Or.inl rfl) (pe_callA (i := 9) AS hr3 rfl (Or.inl rfl) (pa_cons (pv 0) (pa_cons (pv 7) (pa_cons (pv 8) pa_nil)))))
      (pss_one (ps_set (i := 7) scRun.nd rfl (Or.inl rfl) (pe_make GI.mkC FI hr2 (by rfl) GI.gC bI .nil pass0 (pa_cons (pe_call GB_ hrB_ (by rfl) mB_ kB_ bB_ .nil pass0 (pa_cons (pv 5) (pa_cons (pe_meth0 (pv 7) GI.cls hC FC hr1 bC .nil pass0) (pa_cons (pv 8) pa_nil)))) (pa_cons (pv 10) pa_nil))))))))
      (pss_one (ps_ret (pv 7))))))), ?_⟩
    refine ⟨_, rfl, _, rfl, rfl, _, rfl, ?_⟩
    rw [show decide (V.non = V.non) = true from rfl]
    refine iteT ?_
    intro S0 hS0
    have z0 := Same.upd (o := .dK []) hS0
    refine ⟨p, sv, _, src, ys, sts, rfl, z0 _ _ hp, z0 _ _ hs, ha.same z0, l10, fun q tv H1 s1 eq etv => ?_⟩
    refine ⟨q, _, rfl, SqT.of eq, rfl, _, _, rfl, _, _, rfl, rfl, ?_⟩
    dsimp only [gNil]
    have s01 := z0.trans s1
    have hD1 := s01 _ _ hD
    refine ⟨D, _, hD1, trivial, fun od => ?_⟩
    have eD : L2.upd H1 D (.frz od (.dK kvs0)) D = some (.frz od (.dK kvs0)) := upd_same
    have hT2 : TabsAt C (L2.upd H1 D (.frz od (.dK kvs0))) kvs0 := fun kv hk => by
      obtain ⟨z, a, cv, rs, e, h, o, e2⟩ := hT kv hk
      exact ⟨z, a, cv, rs, e, (h.same s01).upd hD1 ⟨nofun, nofun⟩ o, o, e2⟩
    have oD : ∀ b o, b ≠ D → H1 b = some o → L2.upd H1 D (.frz od (.dK kvs0)) b = some o := fun b o n e => by rw [upd_ne n]; exact e
    generalize L2.upd H1 D (.frz od (.dK kvs0)) = H2 at eD hT2 oD ⊢
    refine ⟨_, rfl, D, od, rfl, .inl ⟨_, eD, fun S hS => dc_keys (d := D) (o := od) (kvs0 := kvs0) (fun i H' => (∃ kvs : List (Key × V), H' S = some (.dK kvs) ∧ kvs.length ≤ i) ∧ Same H2 H') ⟨⟨[], upd_same, Nat.le_refl _⟩, Same.upd hS⟩ (fun i H' _ pr => pr.2 _ _ eD) ?_ ?_⟩⟩
    · rintro i k0 v0 H3 hk ⟨⟨kvs, eS, lk⟩, s3⟩
      obtain ⟨z, a0, cv0, rs0, e0, h0, _, ev⟩ := hT2 _ (List.mem_of_getElem? hk)
      cases e0
      have li := (List.getElem?_eq_some_iff.mp hk).1
      refine ⟨rfl, ?_⟩
      dsimp only [tYes]
      refine iteT ?_
      have h3 := h0.same s3
      obtain ⟨dx, bv, h1, h2, _⟩ := id h3
      refine ⟨_, rfl, _, rfl, _, rfl, D, .ref a0, rfl, .inl ⟨_, Sum.inr z, .inr ⟨od, s3 _ _ eD⟩, rfl, ev.symm⟩, a0, dx, _, rfl, h1, rfl, a0, cv0, rs0, rfl, h3, kvs, Sum.inr z, rfl, eS, lt_size (by omega), ⟨_, upd_same, Nat.le_trans (length_putK _ _ _) (by omega)⟩, fun b o e => by rw [upd_ne (ne_of_none e hS)]; exact s3 b o e⟩
    rintro H3 ⟨⟨kvs, eS, _⟩, s3⟩
    refine ⟨s3 _ _ eD, ?_⟩
    have s14 : Same H1 (L2.upd H3 D (.dK kvs0)) := fun b o e => by
      by_cases hb : b = D
      · subst hb
        rw [upd_same]
        rw [hD1] at e
        exact e
      · rw [upd_ne hb]
        exact s3 _ _ (oD b o hb e)
    dsimp only
    generalize L2.upd H3 D (.dK kvs0) = H4 at s14 ⊢
    have s04 := s01.trans s14
    have hI4 := hI.same s04
    refine ⟨_, rfl, _, rfl, D, .ref a, rfl, ?_, ?_⟩
    · have q := DGet.k (k := (Sum.inr src : Key)) (s04 _ _ hD)
      rw [hv] at q
      exact q
    clear hT2 oD eD s3 eS
    refine ⟨_, rfl, tv, rfl, ⟨_, SqT.of (s14 _ _ etv)⟩, for_tup (K := K) (a := tv) (xs := ys) (fun i σ H' => (∃ (ai cvi : Addr) (rsi : RowsL) (qi : CsL) (x6 x8 x9 x10 : Option V), σ = [some (.ref D), some (.ref p), some .non, some (.str src), some (.ref tv), some (.ref S), x6, some (.ref ai), x8, x9, x10] ∧ IsTb C H' ai cvi rsi ∧ CA H' cvi qi ∧ ColP qi ∧ RowW qi (rsi.map (·.2)) ∧ rsi.length ≤ rs.length ∧ Runs qi (rsi.map (·.2)) (sts.drop i) qs es) ∧ Same H4 H') ⟨⟨a, cv, rs, ps, _, _, _, _, rfl, hI4, hL.same s04, cp, rw_, Nat.le_refl _, so⟩, Same.refl _⟩ (fun i σ H' _ pr => SqT.of (pr.2 _ _ (s14 _ _ etv))) ?_ ?_⟩
    · rintro i y σ H5 hy ⟨⟨ai, cvi, rsi, qi, x6, x8, x9, x10, rfl, hI5, hL5, cp5, rw5, ln5, so5⟩, s5⟩
      obtain ⟨b, st, e3, rfl, d3⟩ := (ha.same (s04.trans s5)).get hy
      obtain ⟨xs, e4, lx⟩ := ps_at d3
      have li := (List.getElem?_eq_some_iff.mp e3).1
      rw [show sts.drop i = st :: sts.drop (i + 1) by rw [List.drop_eq_getElem_cons li]; obtain ⟨_, q⟩ := List.getElem?_eq_some_iff.mp e3; rw [q]] at so5
      cases so5 with
      | @cons _ q2 _ _ _ _ _ ld pl so6 =>
      have gk := A3.d _ (pl_w pl)
      refine ⟨_, rfl, b, _, _, .str st.w, rfl, rfl, SqT.of e4, at_of (j := 0) rfl rfl, rA, st.w, _, rfl, rfl, gk, ?_⟩
      refine ⟨g st.w, spRb C st.w, rfl, spOf_at A3 (pl_w pl), _, rfl, _, rfl, _, rfl, _, ai, cvi, b, qi, q2, st, rsi, rfl, hI5, hL5, cp5, rw5, by omega, d3, ld, rfl, pl, fun l H6 rs6 s6 e6 ra6 em6 => ?_⟩
      have hI6 := hI5.same s6
      obtain ⟨dx, bv, h1, h2, h3⟩ := id hI6
      refine ⟨_, rfl, _, rfl, ai, dx, _, rfl, h1, rfl, ai, cvi, _, rfl, hI6, _, rfl, _, cvi, b, qi, q2, st, rfl, hL5.same s6, cp5, d3.same s6, ld, pl, fun cv7 H7 s7 hL7 => ⟨_, rfl, ?_⟩⟩
      dsimp only [tNil]
      have rw6 : RowW q2 (rs6.map (·.2)) := by rw [em6]; exact ld.rows cp5 rw5
      refine mk_tb (.inl (s7 _ _ e6)) (ra6.same s7) rw6.ok fun a2 H8 s8 _ hI8 => ?_
      have l6 : rs6.length ≤ rsi.length := by
        have h1 := congrArg List.length em6
        have h2 := stepD_len (ps := qi) (st := st) (ds := rsi.map (·.2))
        rw [List.length_map] at h1 h2
        omega
      exact ⟨⟨a2, cv7, rs6, q2, _, _, _, _, rfl, hI8, hL7.same s8, ld.go cp5, rw6, by omega, by rw [em6]; exact so6⟩, s5.trans (s6.trans (s7.trans s8))⟩
    · rintro σ H5 ⟨⟨ai, cvi, rsi, qi, x6, x8, x9, x10, rfl, hI5, hL5, cp5, rw5, ln5, so5⟩, s5⟩
      rw [ha.len, List.drop_length] at so5
      have fin : ∀ {ps qs : CsL} {ds es : List RowD} {l : List Ps}, Runs ps ds l qs es → l = [] → ps = qs ∧ ds = es := fun h e => by
        cases h with
        | nil => exact ⟨rfl, rfl⟩
        | cons _ _ _ => cases e
      obtain ⟨rfl, e2⟩ := fin so5 rfl
      subst e2
      exact ⟨_, rfl, k ai cvi rsi H5 (s04.trans s5) hI5 hL5 cp5 rw5 rfl⟩
end
end
end K16
set_option Elab.async false
set_option linter.all false
set_option maxRecDepth 100000
set_option maxHeartbeats 4000000
namespace K16
open PySem PySem.Spec PyProof.Rows L2 Lc
def spAri : Sp := fun vs H Q _ => ∃ (wd : Str) (p q : Addr) (an ad bn bd : Int), vs = [.str wd, .ref p, .ref q] ∧ H p = some (.tup [.int an, .int ad]) ∧ H q = some (.tup [.int bn, .int bd]) ∧ Rt an ad ∧ Rt bn bd ∧ Sm an ∧ Sm ad ∧ Sm bn ∧ Sm bd ∧ (wd = "plus" ∨ wd = "minus" ∨ wd = "times" ∨ wd = "over") ∧ ∀ v H', Same H H' → Dh H' v (arD wd an ad bn bd) → Q v H'
/-- the pair that is found -/
def fdN (wd : Str) (an ad bn bd : Int) : Int := if wd = "over" then divN an ad bn bd else if wd = "minus" then lowN (an * bd - bn * ad) (ad * bd) else if wd = "plus" then lowN (an * bd + bn * ad) (ad * bd) else lowN (an * bn) (ad * bd)
def fdD (wd : Str) (an ad bn bd : Int) : Int := if wd = "over" then divD an ad bn bd else if wd = "minus" then lowD (an * bd - bn * ad) (ad * bd) else if wd = "plus" then lowD (an * bd + bn * ad) (ad * bd) else lowD (an * bn) (ad * bd)
theorem ar_fd {wd : Str} {an ad bn bd : Int} (hw : wd = "plus" ∨ wd = "minus" ∨ wd = "times" ∨ wd = "over") (z : wd = "over" → bn ≠ 0) : arD wd an ad bn bd = limD (fdN wd an ad bn bd) (fdD wd an ad bn bd) := by
  have a1 : ("plus" : Str) ≠ "over" := by decide +kernel
  have a2 : ("plus" : Str) ≠ "minus" := by decide +kernel
  have a3 : ("minus" : Str) ≠ "over" := by decide +kernel
  have a4 : ("minus" : Str) ≠ "plus" := by decide +kernel
  have a5 : ("times" : Str) ≠ "over" := by decide +kernel
  have a6 : ("times" : Str) ≠ "minus" := by decide +kernel
  have a7 : ("times" : Str) ≠ "plus" := by decide +kernel
  have a8 : ("over" : Str) ≠ "plus" := by decide +kernel
  have a9 : ("over" : Str) ≠ "minus" := by decide +kernel
  have a0 : ("over" : Str) ≠ "times" := by decide +kernel
  unfold arD fdN fdD
  rcases hw with rfl | rfl | rfl | rfl
  · rw [if_pos rfl, if_neg a1, if_neg a2, if_pos rfl, if_neg a1, if_neg a2, if_pos rfl]
  · rw [if_neg a4, if_pos rfl, if_neg a3, if_pos rfl, if_neg a3, if_pos rfl]
  · rw [if_neg a7, if_neg a6, if_pos rfl, if_neg a5, if_neg a6, if_neg a7, if_neg a5, if_neg a6, if_neg a7]
  · rw [if_neg a8, if_neg a9, if_neg a0, if_pos rfl, if_neg (z rfl), if_pos rfl, if_pos rfl]
def spLlm : Sp := fun vs H Q _ => ∃ (p : Addr) (n d : Int), vs = [.ref p] ∧ H p = some (.tup [.int n, .int d]) ∧ (Dh H (if limB (.int n) (.int d) = true then .ref p else .non) (limD n d) → Q (if limB (.int n) (.int d) = true then .ref p else .non) H)
def spFlg : Sp := fun vs H Q _ => ∃ (wd : Str) (x y : V) (a b : PyData), vs = [.str wd, x, y] ∧ Dh H x a ∧ Dh H y b ∧ Vk "flag" a ∧ Vk "flag" b ∧ LenW wd ∧ ∀ v H', Same H H' → Dh H' v (twoD wd a b) → Q v H'
section
variable {P : Program} {w : World} {K : PySem.W.Frag} {mg : Str → Option Value} {base : Heap} {f : Addr} {fd : FuncData}
abbrev sLli : Stmt := top 142
abbrev nLli : List Str := ["_law_number"]
abbrev pLli : List Str := ["_law_number"]
theorem scLli : FnScope nLli pLli (defScope sLli) := ⟨rfl, rfl, rfl, by decide +kernel, rfl, by decide +kernel, by decide +kernel⟩
section
theorem ok_Lli (F : Fun K "_law_limited" "_law_limited" sLli f fd) (T : Bt mg) : FnOk P w K mg base CX0 1 f fd pLli (spLlm) := by
  refine F.ok scLli (fun vs H Q E h => ?_) (fun cdv A outer s H vs Q E hr h => ?_)
  · obtain ⟨p, n, d, rfl, _⟩ := h
    rfl
  · obtain ⟨p, n, d, rfl, hp, k⟩ := h
    refine ⟨_, (pss_cons (ps_if (PW.pt (pw_or (pt_cmpR op_gt (pe_callB call_abs (by rfl) T.abs boot_abs (pa_cons (pe_ix ix_tup (pv 0) pe_int (fun _ _ => rfl)) pa_nil)) (pe_op op_pow pe_int pe_int) (nomark _)) (pw_or1 (pt_cmpR op_gt (pe_ix ix_tup (pv 0) pe_int (fun _ _ => rfl)) (pe_op op_pow pe_int pe_int) (nomark _))))) (pss_one (ps_ret pe_non)) pss_nil)
      (pss_one (ps_ret (pv 0)))), ?_⟩
    have pw40 : CPow 10 40 := ⟨by decide, by decide, by decide⟩
    have e : limB (.int n) (.int d) = (decide ((if n < 0 then -n else n) ≤ lim) && decide (d ≤ lim)) := rfl
    unfold limD at k
    refine ⟨_, rfl, p, _, _, _, rfl, rfl, SqT.of hp, rfl, n, rfl, _, _, rfl, rfl, pw40, _, _, rfl, rfl, _, rfl, ?_⟩
    rw [p40]
    by_cases g1 : (if n < 0 then -n else n) > 10000000000000000000000000000000000000000
    · rw [decide_eq_true g1]
      have e0 : limB (.int n) (.int d) = false := by rw [e, decide_eq_false (show ¬ (if n < 0 then -n else n) ≤ lim by unfold lim; omega)]; rfl
      rw [e0, if_neg (by decide), if_neg (by decide)] at k
      exact iteT (iteT (k .non))
    · rw [decide_eq_false g1]
      refine iteF ⟨_, rfl, p, _, _, _, rfl, rfl, SqT.of hp, rfl, _, _, rfl, rfl, pw40, _, _, rfl, rfl, _, rfl, ?_⟩
      rw [p40]
      have e1 : decide ((if n < 0 then -n else n) ≤ lim) = true := decide_eq_true (by unfold lim; omega)
      by_cases g2 : d > 10000000000000000000000000000000000000000
      · rw [decide_eq_true g2]
        have e0 : limB (.int n) (.int d) = false := by rw [e, e1, decide_eq_false (show ¬ d ≤ lim by unfold lim; omega)]; rfl
        rw [e0, if_neg (by decide), if_neg (by decide)] at k
        exact iteT (k .non)
      · rw [decide_eq_false g2]
        have e0 : limB (.int n) (.int d) = true := by rw [e, e1, decide_eq_true (show d ≤ lim by unfold lim; omega)]; rfl
        rw [e0, if_pos rfl, if_pos rfl] at k
        exact iteF ⟨_, rfl, k (.tup hp (.cons (.int n) (.cons (.int d) .nil)))⟩
end
abbrev sFlg : Stmt := top 143
abbrev nFlg : List Str := ["_law_word", "_law_a", "_law_b"]
abbrev pFlg : List Str := ["_law_word", "_law_a", "_law_b"]
theorem scFlg : FnScope nFlg pFlg (defScope sFlg) := ⟨rfl, rfl, rfl, by decide +kernel, rfl, by decide +kernel, by decide +kernel⟩
section
theorem ok_Flg (F : Fun K "_law_flags" "_law_flags" sFlg f fd) (T : Bt mg) : FnOk P w K mg base CX0 1 f fd pFlg (spFlg) := by
  refine F.ok scFlg (fun vs H Q E h => ?_) (fun cdv A outer s H vs Q E hr h => ?_)
  · obtain ⟨wd, x, y, a, b, rfl, _⟩ := h
    rfl
  · obtain ⟨wd, x, y, a, b, rfl, hx, hy, va, vb, hw, k⟩ := h
    refine ⟨_, (pss_cons (ps_if (pt_cmpR op_eq (pv 0) pe_str (nomark _)) (pss_cons (ps_if (PW.pt (pw_or (pt_cmpR op_isBA (pv 1) pe_bl (nomark _)) (pw_or1 (pt_cmpR op_isBA (pv 2) pe_bl (nomark _))))) (pss_one (ps_ret pe_bl)) pss_nil)
      (pss_cons (ps_if (PW.pt (pw_or (pt_cmpR op_isN (pv 1) pe_non (nomark _)) (pw_or1 (pt_cmpR op_isN (pv 2) pe_non (nomark _))))) (pss_one (ps_ret pe_non)) pss_nil)
      (pss_one (ps_ret pe_bl)))) pss_nil)
      (pss_cons (ps_if (PW.pt (pw_or (pt_cmpR op_isBA (pv 1) pe_bl (nomark _)) (pw_or1 (pt_cmpR op_isBA (pv 2) pe_bl (nomark _))))) (pss_one (ps_ret pe_bl)) pss_nil)
      (pss_cons (ps_if (PW.pt (pw_or (pt_cmpR op_isN (pv 1) pe_non (nomark _)) (pw_or1 (pt_cmpR op_isN (pv 2) pe_non (nomark _))))) (pss_one (ps_ret pe_non)) pss_nil)
      (pss_one (ps_ret pe_bl))))), ?_⟩
    rcases hw with rfl | rfl
    · have kk : ∀ v H', Same H H' → Dh H' v (bothD a b) → Q v H' := fun v H' s' h => k v H' s' (by unfold twoD; rw [if_pos rfl]; exact h)
      refine ⟨_, rfl, rfl, _, rfl, ite_yes ?_⟩
      rcases va.isflag rfl with rfl | ⟨ba, rfl⟩ <;> rcases vb.isflag rfl with rfl | ⟨bb, rfl⟩ <;> cases hx <;> cases hy
      · exact ⟨_, rfl, false, rfl, _, rfl, iteF ⟨_, rfl, false, rfl, _, rfl, iteF (⟨_, rfl, rfl, _, rfl, iteT (iteT (kk _ H (Same.refl H) .non))⟩)⟩⟩
      · cases bb with
        | true => exact ⟨_, rfl, false, rfl, _, rfl, iteF ⟨_, rfl, false, rfl, _, rfl, iteF (⟨_, rfl, rfl, _, rfl, iteT (iteT (kk _ H (Same.refl H) .non))⟩)⟩⟩
        | false => exact ⟨_, rfl, false, rfl, _, rfl, iteF ⟨_, rfl, false, rfl, _, rfl, iteT (kk _ H (Same.refl H) (.bl false))⟩⟩
      · cases ba with
        | true => exact ⟨_, rfl, false, rfl, _, rfl, iteF ⟨_, rfl, false, rfl, _, rfl, iteF (⟨_, rfl, rfl, _, rfl, iteF ⟨_, rfl, rfl, _, rfl, iteT (kk _ H (Same.refl H) .non)⟩⟩)⟩⟩
        | false => exact ⟨_, rfl, false, rfl, _, rfl, iteT (iteT (kk _ H (Same.refl H) (.bl false)))⟩
      · cases ba with
        | true => cases bb with
          | true => exact ⟨_, rfl, false, rfl, _, rfl, iteF ⟨_, rfl, false, rfl, _, rfl, iteF (⟨_, rfl, rfl, _, rfl, iteF ⟨_, rfl, rfl, _, rfl, iteF (kk _ H (Same.refl H) (.bl true))⟩⟩)⟩⟩
          | false => exact ⟨_, rfl, false, rfl, _, rfl, iteF ⟨_, rfl, false, rfl, _, rfl, iteT (kk _ H (Same.refl H) (.bl false))⟩⟩
        | false => cases bb with
          | true => exact ⟨_, rfl, false, rfl, _, rfl, iteT (iteT (kk _ H (Same.refl H) (.bl false)))⟩
          | false => exact ⟨_, rfl, false, rfl, _, rfl, iteT (iteT (kk _ H (Same.refl H) (.bl false)))⟩
    · have kk : ∀ v H', Same H H' → Dh H' v (eithD a b) → Q v H' := fun v H' s' h => k v H' s' (by unfold twoD; rw [if_neg (by decide +kernel), if_pos rfl]; exact h)
      refine ⟨_, rfl, rfl, _, rfl, ite_no (by decide +kernel) ?_⟩
      rcases va.isflag rfl with rfl | ⟨ba, rfl⟩ <;> rcases vb.isflag rfl with rfl | ⟨bb, rfl⟩ <;> cases hx <;> cases hy
      · exact ⟨_, rfl, true, rfl, _, rfl, iteF ⟨_, rfl, true, rfl, _, rfl, iteF (⟨_, rfl, rfl, _, rfl, iteT (iteT (kk _ H (Same.refl H) .non))⟩)⟩⟩
      · cases bb with
        | true => exact ⟨_, rfl, true, rfl, _, rfl, iteF ⟨_, rfl, true, rfl, _, rfl, iteT (kk _ H (Same.refl H) (.bl true))⟩⟩
        | false => exact ⟨_, rfl, true, rfl, _, rfl, iteF ⟨_, rfl, true, rfl, _, rfl, iteF (⟨_, rfl, rfl, _, rfl, iteT (iteT (kk _ H (Same.refl H) .non))⟩)⟩⟩
      · cases ba with
        | true => exact ⟨_, rfl, true, rfl, _, rfl, iteT (iteT (kk _ H (Same.refl H) (.bl true)))⟩
        | false => exact ⟨_, rfl, true, rfl, _, rfl, iteF ⟨_, rfl, true, rfl, _, rfl, iteF (⟨_, rfl, rfl, _, rfl, iteF ⟨_, rfl, rfl, _, rfl, iteT (kk _ H (Same.refl H) .non)⟩⟩)⟩⟩
      · cases ba with
        | true => cases bb with
          | true => exact ⟨_, rfl, true, rfl, _, rfl, iteT (iteT (kk _ H (Same.refl H) (.bl true)))⟩
          | false => exact ⟨_, rfl, true, rfl, _, rfl, iteT (iteT (kk _ H (Same.refl H) (.bl true)))⟩
        | false => cases bb with
          | true => exact ⟨_, rfl, true, rfl, _, rfl, iteF ⟨_, rfl, true, rfl, _, rfl, iteT (kk _ H (Same.refl H) (.bl true))⟩⟩
          | false => exact ⟨_, rfl, true, rfl, _, rfl, iteF ⟨_, rfl, true, rfl, _, rfl, iteF (⟨_, rfl, rfl, _, rfl, iteF ⟨_, rfl, rfl, _, rfl, iteF (kk _ H (Same.refl H) (.bl false))⟩⟩)⟩⟩
end
end
end K16
set_option Elab.async false
set_option linter.all false
set_option maxRecDepth 100000
set_option maxHeartbeats 4000000
namespace K16
open PySem PySem.Spec PyProof.Rows L2 Lc
section
variable {P : Program} {w : World} {K : PySem.W.Frag} {mg : Str → Option Value} {base : Heap} {f : Addr} {fd : FuncData}
abbrev sCal : Stmt := top 141
abbrev nCal : List Str := ["_law_word", "_law_a", "_law_b", "_law_n", "_law_d"]
abbrev pCal : List Str := ["_law_word", "_law_a", "_law_b"]
theorem scCal : FnScope nCal pCal (defScope sCal) := ⟨rfl, rfl, rfl, by decide +kernel, rfl, by decide +kernel, by decide +kernel⟩
section
variable {fA_ fB_ : Addr} {fdA_ fdB_ : FuncData}
theorem ok_Cal (F : Fun K "_law_calc" "_law_calc" sCal f fd) (T : Bt mg)
    (GA_ : FnOk P w K mg base CX0 1 fA_ fdA_ ["_law_n", "_law_d"] (spLowest)) (mA_ : mg "_law_lowest" = some (.ref fA_)) (kA_ : PySem.W.keepIn K (.ref fA_) = true) (bA_ : Binds K fdA_ ["_law_n", "_law_d"] [])
    (GB_ : FnOk P w K mg base CX0 1 fB_ fdB_ ["_law_number"] (spLlm)) (mB_ : mg "_law_limited" = some (.ref fB_)) (kB_ : PySem.W.keepIn K (.ref fB_) = true) (bB_ : Binds K fdB_ ["_law_number"] []) : FnOk P w K mg base CX0 2 f fd pCal (spAri) := by
  refine F.ok scCal (fun vs H Q E h => ?_) (fun cdv A outer s H vs Q E hr h => ?_)
  · obtain ⟨wd, p, q, an, ad, bn, bd, rfl, _⟩ := h
    rfl
  · obtain ⟨wd, p, q, an, ad, bn, bd, rfl, hp, hq, ra, rb, s1, s2, s3, s4, hw, k⟩ := h
    have hrA_ : Room (1) _ := hr.mono (by first | decide | omega)
    have hrB_ : Room (1) _ := hr.mono (by first | decide | omega)
    refine ⟨_, (Evl.pss_cut (ps_if (pt_cmpR op_eq (pv 0) pe_str (nomark _)) (pss_cons (ps_set (i := 3) scCal.nd rfl (Or.inl rfl) (pe_op op_mulW (pe_ix ix_tup (pv 1) pe_int (fun _ _ => rfl)) (pe_ix ix_tup (pv 2) pe_int (fun _ _ => rfl))))
      (pss_one (ps_set (i := 4) scCal.nd rfl (Or.inl rfl) (pe_op op_mulW (pe_ix ix_tup (pv 1) pe_int (fun _ _ => rfl)) (pe_ix ix_tup (pv 2) pe_int (fun _ _ => rfl)))))) (pss_one (ps_if (pt_cmpR op_eq (pv 0) pe_str (nomark _)) (pss_cons (ps_set (i := 3) scCal.nd rfl (Or.inl rfl) (pe_op op_mulW (pe_ix ix_tup (pv 1) pe_int (fun _ _ => rfl)) (pe_ix ix_tup (pv 2) pe_int (fun _ _ => rfl))))
      (pss_one (ps_set (i := 4) scCal.nd rfl (Or.inl rfl) (pe_op op_mulW (pe_ix ix_tup (pv 1) pe_int (fun _ _ => rfl)) (pe_ix ix_tup (pv 2) pe_int (fun _ _ => rfl)))))) (pss_cons (ps_set (i := 3) scCal.nd rfl (Or.inl rfl) (pe_op op_add (pe_op op_mulW (pe_ix ix_tup (pv 1) pe_int (fun _ _ => rfl)) (pe_ix ix_tup (pv 2) pe_int (fun _ _ => rfl))) (pe_op op_mulW (pe_op op_mulW (pe_op op_sub pe_int (pe_op op_mul pe_int (pe_callTy call_int1 (by rfl) T.int boot_int (pa_cons (pe_cmpR op_eq (pv 0) pe_str (nomark _)) pa_nil)))) (pe_ix ix_tup (pv 2) pe_int (fun _ _ => rfl))) (pe_ix ix_tup (pv 1) pe_int (fun _ _ => rfl)))))
      (pss_one (ps_set (i := 4) scCal.nd rfl (Or.inl rfl) (pe_op op_mulW (pe_ix ix_tup (pv 1) pe_int (fun _ _ => rfl)) (pe_ix ix_tup (pv 2) pe_int (fun _ _ => rfl)))))))))
      (pss_cons (ps_if (pt_cmpR op_eq (pv 4) pe_int (nomark _)) (pss_one (ps_ret pe_non)) pss_nil)
      (Evl.pss_cut (ps_if (pt_cmpR op_lt (pv 4) pe_int (nomark _)) (pss_cons (ps_set (i := 3) scCal.nd rfl (Or.inl rfl) (pe_op op_sub pe_int (pv 3)))
      (pss_one (ps_set (i := 4) scCal.nd rfl (Or.inl rfl) (pe_op op_sub pe_int (pv 4))))) pss_nil)
      (pss_one (ps_ret (pe_call GB_ hrB_ (by rfl) mB_ kB_ bB_ .nil pass0 (pa_cons (pe_call GA_ hrA_ (by rfl) mA_ kA_ bA_ .nil pass0 (pa_cons (pv 3) (pa_cons (pv 4) pa_nil))) pa_nil))))))), ?_⟩
    have sE : ∀ (a b : Str), decide (V.str a = V.str b) = decide (a = b) := fun a b => decide_eq_decide.mpr ⟨fun e => by injection e, fun e => by rw [e]⟩
    have pa := ra.pos
    have pb := rb.pos
    have dp : 0 < ad * bd := Int.mul_pos pa pb
    let Fd := fun (n d : Int) => (wd = "over" → bn ≠ 0) ∧ fdN wd an ad bn bd = lowN n d ∧ fdD wd an ad bn bd = lowD n d
    refine ⟨fun σ H' => ∃ n d : Int, σ = [some (.str wd), some (.ref p), some (.ref q), some (.int n), some (.int d)] ∧ H' = H ∧ d.natAbs < 2 ^ 2000 ∧ (d = 0 → wd = "over" ∧ bn = 0) ∧ (0 < d → Fd n d) ∧ (d < 0 → Fd (0 - n) (0 - d)), ?_, ?_⟩
    · have t1 : ("times" : Str) ≠ "over" := by decide +kernel
      have t2 : ("times" : Str) ≠ "minus" := by decide +kernel
      have t3 : ("times" : Str) ≠ "plus" := by decide +kernel
      have o1 : ("over" : Str) ≠ "times" := by decide +kernel
      by_cases w1 : wd = "times"
      · subst w1
        refine ⟨_, rfl, rfl, _, rfl, ite_yes ⟨_, rfl, p, _, _, _, rfl, rfl, SqT.of hp, rfl, _, rfl, q, _, _, _, rfl, rfl, SqT.of hq, rfl, _, _, rfl, rfl, mw s1 s3, _, rfl, p, _, _, _, rfl, rfl, SqT.of hp, rfl, _, rfl, q, _, _, _, rfl, rfl, SqT.of hq, rfl, _, _, rfl, rfl, mw s2 s4, an * bn, ad * bd, rfl, rfl, sm_mul s2 s4, fun z => absurd z (Int.ne_of_gt dp), fun _ => ⟨fun e => absurd e t1, ?_, ?_⟩, fun z => absurd z (by omega)⟩⟩
        · unfold fdN; rw [if_neg t1, if_neg t2, if_neg t3]
        · unfold fdD; rw [if_neg t1, if_neg t2, if_neg t3]
      refine ⟨_, rfl, rfl, _, rfl, ite_no w1 ?_⟩
      by_cases w2 : wd = "over"
      · subst w2
        refine ⟨_, rfl, rfl, _, rfl, ite_yes ⟨_, rfl, p, _, _, _, rfl, rfl, SqT.of hp, rfl, _, rfl, q, _, _, _, rfl, rfl, SqT.of hq, rfl, _, _, rfl, rfl, mw s1 s4, _, rfl, p, _, _, _, rfl, rfl, SqT.of hp, rfl, _, rfl, q, _, _, _, rfl, rfl, SqT.of hq, rfl, _, _, rfl, rfl, mw s2 s3, an * bd, ad * bn, rfl, rfl, sm_mul s2 s3, fun z => ⟨rfl, ?_⟩, fun z => ?_, fun z => ?_⟩⟩
        · rcases Int.mul_eq_zero.mp z with z | z
          · omega
          · exact z
        · have g : ¬ bn < 0 := fun g => by have := Int.mul_neg_of_pos_of_neg pa g; omega
          refine ⟨fun _ e => by rw [e, Int.mul_zero] at z; omega, ?_, ?_⟩
          · unfold fdN divN; rw [if_pos rfl, if_neg g, if_neg g]
          · unfold fdD divD; rw [if_pos rfl, if_neg g, if_neg g]
        · have g : bn < 0 := by
            by_cases g : bn < 0
            · exact g
            · have := Int.mul_nonneg (Int.le_of_lt pa) (show 0 ≤ bn by omega)
              omega
          refine ⟨fun _ e => by omega, ?_, ?_⟩
          · unfold fdN divN; rw [if_pos rfl, if_pos g, if_pos g, Int.zero_sub, Int.zero_sub]
          · unfold fdD divD; rw [if_pos rfl, if_pos g, if_pos g, Int.zero_sub, Int.zero_sub]
      refine ⟨_, rfl, rfl, _, rfl, ite_no w2 ?_⟩
      refine ⟨_, rfl, p, _, _, _, rfl, rfl, SqT.of hp, rfl, _, rfl, q, _, _, _, rfl, rfl, SqT.of hq, rfl, _, _, rfl, rfl, mw s1 s4, _, rfl, rfl, .inr ⟨_, rfl, _, _, rfl, rfl, .inl ⟨by decide, by decide⟩, _, _, rfl, rfl, ?_⟩⟩
      rw [sE]
      obtain ⟨cc, ec, hc⟩ : ∃ cc : Int, (1 - 2 * (if decide (wd = "minus") = true then 1 else 0) : Int) = cc ∧ ((wd = "minus" ∧ cc = -1) ∨ (wd = "plus" ∧ cc = 1)) := by
        rcases hw with h | h | h | h
        · refine ⟨1, ?_, .inr ⟨h, rfl⟩⟩
          rw [h, decide_eq_false (show ¬ ("plus" : Str) = "minus" by decide +kernel)]
          rfl
        · refine ⟨-1, ?_, .inl ⟨h, rfl⟩⟩
          rw [h, decide_eq_true rfl]
          rfl
        · exact absurd h w1
        · exact absurd h w2
      dsimp only
      rw [ec]
      have sc : Sm cc := by
        rcases hc with ⟨_, rfl⟩ | ⟨_, rfl⟩ <;> (unfold Sm; exact Nat.lt_of_lt_of_le (show 1 < 2 ^ 1 by decide) (Nat.pow_le_pow_right (by decide) (by decide)))
      refine ⟨_, rfl, q, _, _, _, rfl, rfl, SqT.of hq, rfl, _, _, rfl, rfl, mw sc s3, _, rfl, p, _, _, _, rfl, rfl, SqT.of hp, rfl, _, _, rfl, rfl, wide_mul (sm_mul sc s3) s2 (by decide) (by decide) (by decide), _, _, rfl, rfl, _, rfl, p, _, _, _, rfl, rfl, SqT.of hp, rfl, _, rfl, q, _, _, _, rfl, rfl, SqT.of hq, rfl, _, _, rfl, rfl, mw s2 s4, an * bd + cc * bn * ad, ad * bd, rfl, rfl, sm_mul s2 s4, fun z => absurd z (Int.ne_of_gt dp), fun _ => ⟨fun e => absurd e w2, ?_, ?_⟩, fun z => absurd z (by omega)⟩
      · unfold fdN
        rw [if_neg w2]
        rcases hc with ⟨h, rfl⟩ | ⟨h, rfl⟩
        · rw [if_pos h, Int.neg_one_mul, Int.neg_mul, Int.sub_eq_add_neg]
        · rw [if_neg (by rw [h]; decide +kernel), if_pos h, Int.one_mul]
      · unfold fdD
        rw [if_neg w2]
        rcases hc with ⟨h, rfl⟩ | ⟨h, rfl⟩
        · rw [if_pos h, Int.neg_one_mul, Int.neg_mul, Int.sub_eq_add_neg]
        · rw [if_neg (by rw [h]; decide +kernel), if_pos h, Int.one_mul]
    rintro σ H0 ⟨n, d, rfl, rfl, sd, hz, hp1, hn1⟩
    refine ⟨_, rfl, rfl, _, rfl, ?_⟩
    by_cases z : d = 0
    · rw [decide_eq_true (show V.int d = V.int 0 by rw [z])]
      obtain ⟨o, bz⟩ := hz z
      refine iteT (k _ H0 (Same.refl H0) ?_)
      subst o
      unfold arD
      rw [if_neg (by decide +kernel), if_neg (by decide +kernel), if_neg (by decide +kernel), if_pos rfl, if_pos bz]
      exact .non
    rw [decide_eq_false (show ¬ V.int d = V.int 0 from fun e => z (by injection e))]
    refine iteF ?_
    refine ⟨fun σ H' => ∃ n d : Int, σ = [some (.str wd), some (.ref p), some (.ref q), some (.int n), some (.int d)] ∧ H' = H0 ∧ d.natAbs < 2 ^ 2000 ∧ 0 < d ∧ Fd n d, ?_, ?_⟩
    · refine ⟨_, rfl, _, _, rfl, rfl, _, rfl, ite2 (fun g => ?_) (fun g => ?_)⟩
      · have g : d < 0 := of_decide_eq_true g
        exact ⟨_, rfl, _, _, rfl, rfl, _, rfl, _, _, rfl, rfl, 0 - n, 0 - d, rfl, rfl, by rw [Int.zero_sub, Int.natAbs_neg]; exact sd, by omega, hn1 g⟩
      · have g : ¬ d < 0 := fun h => g (decide_eq_true h)
        exact ⟨n, d, rfl, rfl, sd, by omega, hp1 (by omega)⟩
    clear z sd hz hp1 hn1 n d
    rintro σ H1 ⟨n, d, rfl, rfl, sd, d0, nz, e1, e2⟩
    rw [ar_fd hw nz, e1, e2] at k
    exact ⟨_, rfl, _, rfl, n, d, rfl, d0, small_of sd, fun r hr' => ⟨r, _, _, rfl, upd_same, fun dh => k _ _ (Same.upd hr') dh⟩⟩
end
end
end K16
set_option Elab.async false
set_option linter.all false
set_option maxRecDepth 100000
set_option maxHeartbeats 4000000
namespace K16
open PySem PySem.Spec PyProof.Rows L2 Lc
/-- a step that is run -/
def spPls : Sp := fun vs H Q _ => ∃ (t c L : Addr) (ps : CsL), vs = [.ref t, .ref L] ∧ TapeL c H t ∧ CA H L ps ∧ ColP ps ∧ ∀ (r : Addr) (v : V) (C : Addr) (p : Ps) (qs : CsL) (H' : Hp), H' r = some (.tup [v, .ref C]) → DhT t H' v p.d → CA H' C qs → Lead ps p qs → p.Pl → TapeL c H' t → SameB t H H' → Q (.ref r) H'
def spRws : Sp := fun vs H Q _ => ∃ (t c L : Addr) (ps : CsL) (m : Int) (b : Bool), vs = [.ref t, .ref L, .int m, .bl b] ∧ TapeL c H t ∧ CA H L ps ∧ ColP ps ∧ 0 ≤ m ∧ m ≤ 20 ∧ ∀ (R : Addr) (rs : RowsL) (H' : Hp), H' R = some (.lst (rs.map (·.1))) → R ≠ t → RowsAt (dl t H') rs → RowW ps (rs.map (·.2)) → (rs.length : Int) ≤ m → TapeL c H' t → SameB t H H' → Q (.ref R) H'
abbrev teRws : TE := tTup (tCons (tCall spVals [] E0 (tCons (tVar 0) (tCons (tVar 1) (tCons (tVar 3) tNil)))) (tCons (tCall spFar [] E0 (tCons (tVar 0) tNil)) tNil))
section
variable {P : Program} {w : World} {K : PySem.W.Frag} {mg : Str → Option Value} {base : Heap} {f : Addr} {fd : FuncData}
abbrev sPls : Stmt := top 148
abbrev nPls : List Str := ["_law_tape_here", "_law_columns_here", "_law_found"]
abbrev pPls : List Str := ["_law_tape_here", "_law_columns_here"]
theorem scPls : FnScope nPls pPls (defScope sPls) := ⟨rfl, rfl, rfl, by decide +kernel, rfl, by decide +kernel, by decide +kernel⟩
section
variable {fA_ fB_ : Addr} {fdA_ fdB_ : FuncData}
theorem ok_Pls (F : Fun K "_law_plain_step" "_law_plain_step" sPls f fd) (T : Bt mg)
    (GA_ : FnOk P w K mg base CX0 1 fA_ fdA_ ["_law_tape_here", "_law_many"] (spDrawL)) (mA_ : mg "_law_draw" = some (.ref fA_)) (kA_ : PySem.W.keepIn K (.ref fA_) = true) (bA_ : Binds K fdA_ ["_law_tape_here", "_law_many"] [])
    (GB_ : FnOk P w K mg base CX0 8 fB_ fdB_ ["_law_tape_here", "_law_columns_here"] (spKs)) (mB_ : mg "_law_keeping_step" = some (.ref fB_)) (kB_ : PySem.W.keepIn K (.ref fB_) = true) (bB_ : Binds K fdB_ ["_law_tape_here", "_law_columns_here"] []) : FnOk P w K mg base CX0 9 f fd pPls (spPls) := by
  refine F.ok scPls (fun vs H Q E h => ?_) (fun cdv A outer s H vs Q E hr h => ?_)
  · obtain ⟨t, c, L, ps, rfl, _⟩ := h
    rfl
  · obtain ⟨t, c, L, ps, rfl, hT, hL, cp, k⟩ := h
    have hrA_ : Room (1) _ := hr.mono (by first | decide | omega)
    have hrB_ : Room (8) _ := hr.mono (by first | decide | omega)
    refine ⟨_, (pss_cons (ps_set (i := 2) scPls.nd rfl (Or.inl rfl) (pe_call GB_ hrB_ (by rfl) mB_ kB_ bB_ .nil pass0 (pa_cons (pv 0) (pa_cons (pv 1) pa_nil))))
      (pss_cons (ps_if (pt_cmpR op_in_seq (pe_ix ix_tup (pe_ix ix_tup (pv 2) pe_int (fun _ _ => rfl)) pe_int (fun _ _ => rfl)) (pe_tup (pa_cons pe_str (pa_cons pe_str pa_nil))) (by rfl)) (pss_one (ps_ret (pe_tup (pa_cons (pe_tup (pa_cons pe_str (pa_cons pe_int (pa_cons pe_int (pa_cons (pe_call GA_ hrA_ (by rfl) mA_ kA_ bA_ .nil pass0 (pa_cons (pv 0) (pa_cons (pe_op op_add (pe_op op_pow pe_int pe_int) pe_int) pa_nil))) pa_nil))))) (pa_cons (pv 1) pa_nil))))) pss_nil)
      (pss_one (ps_ret (pv 2))))), ?_⟩
    have two : 2 ≤ sizeLine := by decide
    have four : 4 ≤ sizeLine := by decide
    have pw9 : CPow 10 9 := ⟨by decide, by decide, by decide⟩
    have p9 : (10 : Int) ^ (9 : Int).toNat = 1000000000 := by decide
    have bigx : ∀ z : Int, 0 ≤ z → z ≤ 1000000001 → z.natAbs < 2 ^ 4000 := fun z h1 h2 => Nat.lt_of_lt_of_le (show z.natAbs < 2 ^ 40 by omega) (Nat.pow_le_pow_right (by decide) (by decide))
    refine ⟨_, rfl, _, rfl, t, c, L, ps, rfl, hT, hL, cp, fun r v C p qs H1 er dv ca ld T1 S1 => ?_⟩
    have dv1 := dv.same dl_here
    obtain ⟨a, rfl⟩ : ∃ a, v = .ref a := by cases p <;> cases dv <;> exact ⟨_, rfl⟩
    obtain ⟨xs, ea, _⟩ := ps_at dv1
    refine ⟨_, rfl, r, _, _, .ref a, rfl, rfl, SqT.of er, at_of (j := 0) rfl rfl, a, _, _, .str p.w, rfl, rfl, SqT.of ea, at_of (j := 0) rfl rfl, two, fun q hq => ?_⟩
    have zq := Same.upd (o := .tup (vS ["sample", "sort"])) hq
    have T2 := T1.same zq
    have S2 := S1.trans (Same.b t zq)
    refine ⟨q, vS ["sample", "sort"], rfl, .inr (SqT.of upd_same), rfl, rfl, _, rfl, ?_⟩
    rw [in_strs]
    by_cases hw : p.w ∈ (["sample", "sort"] : List Str)
    · rw [decide_eq_true hw]
      refine iteT ⟨_, rfl, _, _, rfl, rfl, pw9, _, _, rfl, rfl, t, c, _, rfl, T2, by rw [p9]; decide, by rw [p9]; exact bigx _ (by decide) (by decide), fun s H3 s0 s1 T3 S3 => ⟨four, fun x hx => ⟨_, rfl, two, fun y hy => ?_⟩⟩⟩
      rw [p9] at s1
      obtain ⟨s, rfl⟩ : ∃ m : Nat, s = m := ⟨s.toNat, by omega⟩
      have zx := Same.upd (o := .tup [.str "sample", .int 3, .int 3, .int s]) hx
      have zy := Same.upd (o := .tup [.ref x, .ref L]) hy
      have dx : DhT t _ (.ref x) (Ps.d (.sample 3 3 s)) := dh_tupT T3.tape (.cons (.str _) (.cons (.int _) (.cons (.int _) (.cons (.int _) .nil)))) hx
      have S4 := (S2.trans S3).trans (Same.b t (zx.trans zy))
      exact k y (.ref x) L (.sample 3 3 s) ps _ upd_same (dts dx zy) (hL.b hT.tape S4) (.sample (Nat.le_refl _) (by decide) (by decide) (by omega)) rfl (T3.same (zx.trans zy)) S4
    · rw [decide_eq_false hw]
      refine iteF ⟨_, rfl, k r (.ref a) C p qs _ (zq _ _ er) (dts dv zq) (ca.same zq) ld ?_ T2 S2⟩
      cases p with
      | sort a u => exact absurd (show ("sort" : Str) ∈ (["sample", "sort"] : List Str) by decide +kernel) hw
      | sample n w s => exact absurd (show ("sample" : Str) ∈ (["sample", "sort"] : List Str) by decide +kernel) hw
      | keep e => exact True.intro
      | set x e => exact True.intro
      | select ns => exact True.intro
      | rename a b => exact True.intro
end
end
end K16
set_option Elab.async false
set_option linter.all false
set_option maxRecDepth 100000
set_option maxHeartbeats 4000000
namespace K16
open PySem PySem.Spec PyProof.Rows L2 Lc
mutual
theorem dh_dl {t : Addr} {H : Hp} (hT : ∃ xs, H t = some (.lst xs)) : ∀ {v : V} {d : PyData}, Dh H v d → noL d = true → Dh (dl t H) v d
  | _, _, .non, _ => .non
  | _, _, .bl b, _ => .bl b
  | _, _, .int i, _ => .int i
  | _, _, .str x, _ => .str x
  | _, _, .tup e h, n => .tup (dl_at (fun z => by obtain ⟨xs, q⟩ := hT; rw [z, q] at e; cases e) e) (dhA_dl hT h (by simpa [noL] using n))
  | _, _, .lst e h, n => by simp [noL] at n
  | _, _, .dct e, _ => .dct (dl_at (fun z => by obtain ⟨xs, q⟩ := hT; rw [z, q] at e; cases e) e)
theorem dhA_dl {t : Addr} {H : Hp} (hT : ∃ xs, H t = some (.lst xs)) : ∀ {vs : List V} {ds : List PyData}, DhAll H vs ds → noLs ds = true → DhAll (dl t H) vs ds
  | _, _, .nil, _ => .nil
  | _, _, .cons h r, n => by
    rw [noLs, Bool.and_eq_true] at n
    exact .cons (dh_dl hT h n.1) (dhA_dl hT r n.2)
end
section
variable {P : Program} {w : World} {K : PySem.W.Frag} {mg : Str → Option Value} {base : Heap} {f : Addr} {fd : FuncData}
abbrev sRws : Stmt := top 147
abbrev nRws : List Str := ["_law_tape_here", "_law_columns_here", "_law_many", "_law_wide", "_law_k"]
abbrev pRws : List Str := ["_law_tape_here", "_law_columns_here", "_law_many", "_law_wide"]
theorem scRws : FnScope nRws pRws (defScope sRws) := ⟨rfl, rfl, rfl, by decide +kernel, rfl, by decide +kernel, by decide +kernel⟩
section
variable {fA_ fB_ fC_ : Addr} {fdA_ fdB_ fdC_ : FuncData}
theorem ok_Rws (F : Fun K "_law_rows" "_law_rows" sRws f fd) (T : Bt mg)
    (GA_ : FnOk P w K mg base CX0 4 fA_ fdA_ ["_law_tape_here", "_law_columns_here", "_law_wide"] (spVals)) (mA_ : mg "_law_values" = some (.ref fA_)) (kA_ : PySem.W.keepIn K (.ref fA_) = true) (bA_ : Binds K fdA_ ["_law_tape_here", "_law_columns_here", "_law_wide"] [])
    (GB_ : FnOk P w K mg base CX0 2 fB_ fdB_ ["_law_tape_here"] (spFar)) (mB_ : mg "_law_lineage" = some (.ref fB_)) (kB_ : PySem.W.keepIn K (.ref fB_) = true) (bB_ : Binds K fdB_ ["_law_tape_here"] [])
    (GC_ : FnOk P w K mg base CX0 1 fC_ fdC_ ["_law_tape_here", "_law_many"] (spDrawL)) (mC_ : mg "_law_draw" = some (.ref fC_)) (kC_ : PySem.W.keepIn K (.ref fC_) = true) (bC_ : Binds K fdC_ ["_law_tape_here", "_law_many"] []) : FnOk P w K mg base CX0 5 f fd pRws (spRws) := by
  refine F.ok scRws (fun vs H Q E h => ?_) (fun cdv A outer s H vs Q E hr h => ?_)
  · obtain ⟨t, c, L, ps, m, b, rfl, _⟩ := h
    rfl
  · obtain ⟨t, c, L, ps, m, b, rfl, hT, hL, cp, m0, m20, k⟩ := h
    have hrA_ : Room (4) _ := hr.mono (by first | decide | omega)
    have hrB_ : Room (2) _ := hr.mono (by first | decide | omega)
    have hrC_ : Room (1) _ := hr.mono (by first | decide | omega)
    refine ⟨_, (pss_one (ps_ret (pe_lc (own := [("_law_k", 4)]) (g := (gName 4)) (tt := tYes) (te := teRws) (by rfl) scRws.nd (pi_range1 (by rfl) T.range (pa_cons (pe_call GC_ hrC_ (by rfl) mC_ kC_ bC_ .nil pass0 (pa_cons (pv 0) (pa_cons (pe_op op_add (pv 2) pe_int) pa_nil))) pa_nil)) (blkOk_by (own := [("_law_k", 4)]) (N := nRws) (sc := defScope sRws) (by decide +kernel)) (fun _ _ _ _ _ => (pg_name (i := 4) scRws.nd rfl (.inl rfl))) (fun _ _ _ _ _ => pts_nil) (fun _ _ _ _ _ => (pe_tup (pa_cons (pe_call GA_ hrA_ (by rfl) mA_ kA_ bA_ .nil pass0 (pa_cons (pv 0) (pa_cons (pv 1) (pa_cons (pv 3) pa_nil)))) (pa_cons (pe_call GB_ hrB_ (by rfl) mB_ kB_ bB_ .nil pass0 (pa_cons (pv 0) pa_nil)) pa_nil))))))), ?_⟩
    have two : 2 ≤ sizeLine := by decide
    obtain ⟨xs, zL, cc⟩ := id hL
    refine ⟨_, rfl, _, rfl, _, _, rfl, rfl, t, c, _, rfl, hT, by omega, big1000 (by omega) (by omega), fun j H1 j0 j1 T1 S1 => ⟨j, rfl, by omega, by omega, fun R hR => lc_range (lo := 0) (n := j.toNat) (fun i H' => (∃ rs : RowsL, H' R = some (.lst (rs.map (·.1))) ∧ RowsAt (dl t H') rs ∧ RowW ps (rs.map (·.2)) ∧ rs.length ≤ i) ∧ TapeL c H' t ∧ SameB t H H') ⟨⟨[], upd_same, nofun, nofun, Nat.le_refl _⟩, T1.same (Same.upd hR), S1.trans (Same.b t (Same.upd hR))⟩ ?_ ?_⟩⟩
    · rintro i H3 hi ⟨⟨rs, hR3, ra, rv, lr⟩, T3, S3⟩
      have nR : R ≠ t := T1.tape.ne hR
      have nRc : R ≠ c := by
        obtain ⟨zs, e⟩ := T1.list
        exact (ne_of_none e hR).symm
      have gR : H R = none := S1.free T1.tape hR
      refine ⟨rfl, ?_⟩
      dsimp only [tYes]
      refine iteT ?_
      change teRws _ _ _
      refine ⟨_, rfl, _, rfl, _, rfl, t, c, L, b, xs, ps, rfl, T3, (zL.b hT.tape S3).rd, cc.b hT.tape S3, fun p hp => (cp.ok p hp).2.2, cp.l8, fun r ds H4 df vks T4 S4 => ?_⟩
      refine ⟨_, rfl, t, c, rfl, T4, fun v l H5 dlin lok T5 S5 => ⟨two, fun p hp => ?_⟩⟩
      have zp := Same.upd (o := .tup [.ref r, v]) hp
      have tl : ∃ zs, H5 t = some (.lst zs) := by
        obtain ⟨_, _, _, _, _, q, _⟩ := T5.tape
        exact ⟨_, q⟩
      have dp : DhT t (L2.upd H5 p (.tup [.ref r, v])) (.ref p) (RowD.d ⟨ds, l⟩) := dh_tupT T5.tape (.cons (dtb (DhF.t T3.tape df) S5) (.cons (dh_dl tl dlin (lin_noL l)) .nil)) hp
      have S36 : SameB t H3 (L2.upd H5 p (.tup [.ref r, v])) := (S4.trans S5).trans (Same.b t zp)
      have T6 := T5.same zp
      have hR6 := S36 _ _ nR hR3
      have nol : noLs ds = true := noLs_all.mpr vks.noL
      generalize L2.upd H5 p (.tup [.ref r, v]) = H6 at S36 dp T6 hR6 ⊢
      refine ⟨_, hR6, lt_size (by rw [List.length_map]; omega), ⟨rs ++ [(.ref p, ⟨ds, l⟩)], by rw [upd_same, List.map_append]; rfl, fun q hq => ?_, fun q hq => ?_, by rw [List.length_append]; show rs.length + 1 ≤ i + 1; omega⟩, T6.upd nR nRc, fun b' o n e => ?_⟩
      · rcases List.mem_append.mp hq with hq | hq
        · exact (((ra q hq).same (dl_same S36)).t (dlT hR6) (row_noL (noLs_all.mpr (rv q.2 (List.mem_map_of_mem hq)).1.noL)))
        · rw [List.mem_singleton.mp hq]
          exact DhT.upd dp (row_noL nol) hR6
      · rw [List.map_append] at hq
        rcases List.mem_append.mp hq with hq | hq
        · exact rv q hq
        · rw [List.mem_singleton.mp hq]
          exact ⟨vks, lok⟩
      · rw [upd_ne (ne_of_none e gR)]
        exact (S3.trans S36) b' o n e
    rintro H3 ⟨⟨rs, hR3, ra, rv, lr⟩, T3, S3⟩
    exact k R rs H3 hR3 (T1.tape.ne hR) ra rv (by omega) T3 S3
end
end
end K16
set_option Elab.async false
set_option linter.all false
set_option maxRecDepth 100000
set_option maxHeartbeats 4000000
namespace K16
open PySem PySem.Spec PyProof.Rows L2 Lc
def kvsOf (ps : CsL) (us : List V) : List (Key × V) := (ps.zip us).map fun q => ((Sum.inr q.1.1 : Key), q.2)
def spByn : Sp := fun vs H Q _ => ∃ (L M : Addr) (ps : CsL) (us : List V) (ds : List PyData), vs = [.ref L, .ref M] ∧ CA H L ps ∧ H M = some (.tup us) ∧ ColP ps ∧ DhAll H us ds ∧ Vks (ps.map (·.2)) ds ∧ ∀ (g : Addr) (kvs : List (Key × V)) (H' : Hp), Same H H' → H' g = some (.dK kvs) → RowH H' kvs (rowOf ps ds) → Q (.ref g) H'
theorem kvs_row {H : Hp} : ∀ {ps : CsL} {us : List V} {ds : List PyData}, ps.length = us.length → DhAll H us ds → RowH H (kvsOf ps us) (rowOf ps ds)
  | [], _, _, _, _ => fun z d e => by cases e
  | p :: ps, [], _, l, _ => by simp at l
  | p :: ps, u :: us, _, l, .cons (d := d0) (ds := ds) h r => fun z d e => by
    have e : ((p.1, d0) :: rowOf ps ds).lookup z = some d := e
    rw [List.lookup_cons] at e
    show ∃ v, valV (((Sum.inr p.1 : Key), u) :: kvsOf ps us) (Sum.inr z : Key) = some v ∧ _
    by_cases q : z = p.1
    · rw [beq_iff_eq.mpr q] at e
      obtain rfl := Option.some.inj e
      exact ⟨u, valV_pos (by rw [q]), h⟩
    · rw [beq_eq_false_iff_ne.mpr q] at e
      obtain ⟨v, h1, h2⟩ := kvs_row (by simpa using l) r z d e
      exact ⟨v, by rw [valV_neg (fun w => q (by injection w with w; exact w.symm))]; exact h1, h2⟩
theorem zip_sub : ∀ (ps : CsL) (us : List V), ((ps.zip us).map fun q => q.1.1).Sublist (nms ps)
  | [], _ => List.nil_sublist _
  | _ :: _, [] => List.nil_sublist _
  | p :: ps, u :: us => (zip_sub ps us).cons₂ p.1
theorem kvs_merge {ps : CsL} {us : List V} (nd : (nms ps).Nodup) : mergeK [] (kvsOf ps us) = kvsOf ps us := by
  refine merge_new (kvsOf ps us) [] ?_
  rw [List.nil_append]
  unfold kvsOf
  rw [List.map_map]
  have e : ((fun x : Key × V => x.1) ∘ fun q : (Str × Str) × V => ((Sum.inr q.1.1 : Key), q.2)) = (Sum.inr : Str → Key) ∘ (fun q : (Str × Str) × V => q.1.1) := rfl
  rw [e, ← List.map_map]
  refine nodup_map ?_ fun a _ b _ q => by injection q
  have sub := zip_sub ps us
  exact sub.nodup nd
abbrev teByn (K : PySem.W.Frag) : TE := tTup (tCons (tOp (rIxT K) (tOp (rIxT K) (tVar 0) (tVar 2)) (tC (.int 0))) (tCons (tOp (rIxT K) (tVar 1) (tVar 2)) tNil))
section
variable {P : Program} {w : World} {K : PySem.W.Frag} {mg : Str → Option Value} {base : Heap} {f : Addr} {fd : FuncData}
abbrev sByn : Stmt := top 145
abbrev nByn : List Str := ["_law_columns_here", "_law_values_here", "_law_k"]
abbrev pByn : List Str := ["_law_columns_here", "_law_values_here"]
theorem scByn : FnScope nByn pByn (defScope sByn) := ⟨rfl, rfl, rfl, by decide +kernel, rfl, by decide +kernel, by decide +kernel⟩
section
theorem ok_Byn (F : Fun K "_law_by_name" "_law_by_name" sByn f fd) (T : Bt mg) : FnOk P w K mg base CX0 1 f fd pByn (spByn) := by
  refine F.ok scByn (fun vs H Q E h => ?_) (fun cdv A outer s H vs Q E hr h => ?_)
  · obtain ⟨L, M, ps, us, ds, rfl, _⟩ := h
    rfl
  · obtain ⟨L, M, ps, us, ds, rfl, hL, hM, cp, hd, vk, k⟩ := h
    refine ⟨_, (pss_one (ps_ret (pe_callTy (call_dictP rfl) (by rfl) T.dict boot_dict (pa_cons (pe_lc (own := [("_law_k", 2)]) (g := (gName 2)) (tt := tYes) (te := teByn K) (by rfl) scByn.nd (pi_range1 (by rfl) T.range (pa_cons (pe_callB call_len_seq (by rfl) T.len PySem.boot_len (pa_cons (pv 0) pa_nil)) pa_nil)) (blkOk_by (own := [("_law_k", 2)]) (N := nByn) (sc := defScope sByn) (by decide +kernel)) (fun _ _ _ _ _ => (pg_name (i := 2) scByn.nd rfl (.inl rfl))) (fun _ _ _ _ _ => pts_nil) (fun _ _ _ _ _ => (pe_tup (pa_cons (pe_ix ix_tup (pe_ix ix_tup (pv 0) (pv 2) (fun _ _ => rfl)) pe_int (fun _ _ => rfl)) (pa_cons (pe_ix ix_tup (pv 1) (pv 2) (fun _ _ => rfl)) pa_nil))))) pa_nil)))), ?_⟩
    have two : 2 ≤ sizeLine := by decide
    obtain ⟨xs, zL, cc⟩ := id hL
    have lx := cc.len
    have lu := hd.len
    have lv := vk.len
    have l8 := cp.l8
    rw [List.length_map] at lv
    refine ⟨_, rfl, L, _, rfl, .inr zL.sq, (xs.length : Int), rfl, by omega, by omega, fun D hD => lc_range (lo := 0) (n := (xs.length : Int).toNat) (fun i H' => (∃ as : List Addr, H' D = some (.lst (as.map V.ref)) ∧ as.length = i ∧ Paired (fun (p : Addr) (kv : Key × V) => H' p = some (.tup [kV kv.1, kv.2])) as ((kvsOf ps us).take i)) ∧ Same H H') ⟨⟨[], upd_same, rfl, .nil⟩, Same.upd hD⟩ ?_ ?_⟩
    · rintro i H1 hi ⟨⟨as, eD, la, pr⟩, s1⟩
      obtain ⟨y, ey⟩ : ∃ y, xs[i]? = some y := ⟨_, List.getElem?_eq_getElem (by omega)⟩
      obtain ⟨a, z, kk, rfl, ea, ep⟩ := cc.get _ _ ey
      obtain ⟨u, eu⟩ : ∃ u, us[i]? = some u := ⟨_, List.getElem?_eq_getElem (by omega)⟩
      have ek : (kvsOf ps us)[i]? = some ((Sum.inr z : Key), u) := by
        unfold kvsOf
        rw [List.getElem?_map, show (ps.zip us)[i]? = some ((z, kk), u) from List.getElem?_zip_eq_some.mpr ⟨ep, eu⟩]
        rfl
      refine ⟨rfl, ?_⟩
      dsimp only [tYes]
      refine iteT ?_
      change teByn K _ _ _
      refine ⟨_, rfl, _, rfl, L, xs, _, .ref a, rfl, rfl, (zL.same s1).sq, at_of (j := i) (by omega) ey, a, _, _, .str z, rfl, rfl, SqT.of (s1 _ _ ea), at_of (j := 0) rfl rfl, _, rfl, _, rfl, M, us, _, u, rfl, rfl, SqT.of (s1 _ _ hM), at_of (j := i) (by omega) eu, two, fun q hq => ?_⟩
      have zq := Same.upd (o := .tup [.str z, u]) hq
      have eD2 := zq _ _ eD
      refine ⟨_, eD2, lt_size (by rw [List.length_map]; omega), ⟨as ++ [q], by rw [upd_same, List.map_append]; rfl, by rw [List.length_append, la]; rfl, ?_⟩, fun b o e => by rw [upd_ne (ne_of_none e hD)]; exact zq _ _ (s1 _ _ e)⟩
      rw [List.take_add_one, ek]
      have st : ∀ (b : Addr) (l : List V), H1 b = some (.tup l) → upd (upd H1 q (.tup [.str z, u])) D (.lst (as.map V.ref ++ [.ref q])) b = some (.tup l) := fun b l e => by
        rw [upd_ne (fun z => by rw [z, eD] at e; cases e)]
        exact zq _ _ e
      refine paired_snoc ?_ (paired_imp (fun (b : Addr) (kv : Key × V) h => st b _ h) pr)
      rw [upd_ne (fun z => by rw [z, eD] at hq; cases hq)]
      exact upd_same
    rintro H1 ⟨⟨as, eD, la, pr⟩, s1⟩
    have lk : (kvsOf ps us).length = (xs.length : Int).toNat := by
      unfold kvsOf
      rw [List.length_map, List.length_zip]
      omega
    rw [← lk, List.take_length] at pr
    refine ⟨D, as, kvsOf ps us, rfl, SqL.of eD, paired_imp (fun _ _ h => SqT.of h) pr, fun g hg => ?_⟩
    rw [kvs_merge cp.nd]
    have zg := Same.upd (o := .dK (kvsOf ps us)) hg
    exact k g _ _ (s1.trans zg) upd_same ((kvs_row (by omega) hd).same (s1.trans zg))
end
end
end K16
set_option Elab.async false
set_option linter.all false
set_option maxRecDepth 100000
set_option maxHeartbeats 4000000
namespace K16
open PySem PySem.Spec PyProof.Rows L2 Lc
theorem Vks.tm {ks : List Str} {ds : List PyData} (h : Vks ks ds) (l : ks.length ≤ 8) : Tm 2 33000 (.tuple ds) := by
  have ln := h.len
  have all : ∀ d ∈ ds, Tm 1 4100 d := by
    clear ln l
    induction h with
    | nil => exact nofun
    | cons h r ih =>
      intro d hd
      rcases List.mem_cons.mp hd with rfl | hd
      · exact h.tm
      · exact ih d hd
  exact (tm_tup all).mono (by decide) (by omega)
/-! ## rows that are drawn -/
def RowV (ks : List Str) (rs : RowsL) : Prop := ∀ r ∈ rs, Vks ks r.2.vals ∧ LinOk r.2.lin
theorem part_tm2 {p : Str × Int} (h : PartOk p) : Tm 1 4010 (partD p) := by
  have := h.2
  exact (tm_tup (k := 0) (n := 2000) (ds := [.str p.1, .int p.2]) fun d hd => by
    simp only [List.mem_cons, List.not_mem_nil, or_false] at hd
    rcases hd with rfl | rfl
    · exact tm_txt (h.1.mono (by decide))
    · exact tm_int (by omega)).mono (Nat.le_refl _) (by show 2000 * 2 + 2 * 2 + 4 ≤ 4010; decide)
theorem row_tm {ks : List Str} {r : RowD} (h : Vks ks r.vals) (l8 : ks.length ≤ 8) (o : LinOk r.lin) : Tm 3 66010 r.d := by
  have h1 := h.tm l8
  have h2 : Tm 2 33000 (linD r.lin) := by
    have := tm_tup (k := 1) (n := 4010) (ds := r.lin.map partD) fun d hd => by
      obtain ⟨p, hp, rfl⟩ := List.mem_map.mp hd
      exact part_tm2 (o.2 p hp)
    have l4 := o.1
    rw [List.length_map] at this
    exact this.mono (Nat.le_refl _) (by omega)
  exact (tm_tup (k := 2) (n := 33000) (ds := [.tuple r.vals, linD r.lin]) fun d hd => by
    simp only [List.mem_cons, List.not_mem_nil, or_false] at hd
    rcases hd with rfl | rfl
    · exact h1
    · exact h2).mono (Nat.le_refl _) (by show 33000 * 2 + 2 * 2 + 4 ≤ 66010; decide)
def rowsD (rs : RowsL) : PyData := .list (rs.map fun r => r.2.d)
theorem rows_tm {ks : List Str} {rs : RowsL} (h : RowV ks rs) (l8 : ks.length ≤ 8) (l : rs.length ≤ 20) : Tm 4 1330000 (rowsD rs) := by
  have := tm_lst (k := 3) (n := 66010) (ds := rs.map fun r => r.2.d) fun d hd => by
    obtain ⟨r, hr, rfl⟩ := List.mem_map.mp hd
    exact row_tm (h r hr).1 l8 (h r hr).2
  rw [List.length_map] at this
  exact this.mono (Nat.le_refl _) (by omega)
theorem rows_dh {H : Hp} : ∀ {rs : RowsL}, RowsAt H rs → DhAll H (rs.map (·.1)) (rs.map fun r => r.2.d)
  | [], _ => .nil
  | r :: rs, h => .cons (h r List.mem_cons_self) (rows_dh fun q hq => h q (List.mem_cons_of_mem _ hq))
theorem colP_tmL {p : Str × Str} (h : Sh 12 p.1) (k : KindS p.2) : Tm 1 4010 (colP p) :=
  (tm_tup (k := 0) (n := 2000) (ds := [.str p.1, .str p.2]) fun d hd => by
    simp only [List.mem_cons, List.not_mem_nil, or_false] at hd
    rcases hd with rfl | rfl
    · exact tm_txt (h.mono (by decide))
    · exact tm_txt k.sh).mono (Nat.le_refl _) (by show 2000 * 2 + 2 * 2 + 4 ≤ 4010; decide)
def colsDL (ps : List (Str × Str)) : PyData := .tuple (ps.map colP)
theorem cols_tmL {ps : List (Str × Str)} (h : ∀ p ∈ ps, Sh 12 p.1 ∧ nameB (.str p.1) = true ∧ KindS p.2) (l8 : ps.length ≤ 8) : Tm 2 33000 (colsDL ps) := by
  have := tm_tup (k := 1) (n := 4010) (ds := ps.map colP) fun d hd => by
    obtain ⟨p, hp, rfl⟩ := List.mem_map.mp hd
    exact colP_tmL (h p hp).1 (h p hp).2.2
  rw [List.length_map] at this
  exact this.mono (Nat.le_refl _) (by omega)
def bothDL (ps : List (Str × Str)) (rs : RowsL) : PyData := .list [colsDL ps, rowsD rs]
theorem both_tm {ps : List (Str × Str)} {rs : RowsL} (h : ∀ p ∈ ps, Sh 12 p.1 ∧ nameB (.str p.1) = true ∧ KindS p.2) (l8 : ps.length ≤ 8) (g : RowV (ps.map (·.2)) rs) (l : rs.length ≤ 20) : Tm 5 2700000 (bothDL ps rs) :=
  (tm_lst (k := 4) (n := 1330000) (ds := [colsDL ps, rowsD rs]) fun d hd => by
    simp only [List.mem_cons, List.not_mem_nil, or_false] at hd
    rcases hd with rfl | rfl
    · exact (cols_tmL h l8).mono (by decide) (by decide)
    · exact rows_tm g (by rw [List.length_map]; exact l8) l).mono (Nat.le_refl _) (by show 1330000 * 2 + 2 * 2 + 4 ≤ 2700000; decide)
structure IsiT (K : PySem.W.Frag) (C : Addr) : Prop where
  ha : PySem.W.findIn K (.ref C) "__class__" = some (some (.builtin "object.__class__"))
  hn : PySem.W.specialIn K (.builtin "object.__class__") "__get__" = some (some (.builtin "getset_descriptor.__get__"))
  ht : PySem.W.takesIn K (.builtin "object.__class__") = some true
  hm : PySem.W.mroIn K C (.type "object") = some true
  own : PySem.W.kitOne K (.ref C) (.ref C) = some true
theorem rowsD_eq (rs : RowsL) : rowsD rs = .list ((rs.map (·.2)).map RowD.d) := by
  unfold rowsD
  rw [List.map_map]
  rfl
theorem both_shw {K : PySem.W.Frag} {H : Hp} {M L R : Addr} {ps : CsL} {rs : RowsL} (cp : ColP ps) (hL : CA H L ps) (eR : H R = some (.lst (rs.map (·.1)))) (ra : RowsAt H rs) (w : RowW ps (rs.map (·.2))) (ln : rs.length ≤ 20) (e : H M = some (.lst [.ref L, .ref R])) : Shw K H (.ref M) (bothDL ps rs).shown := by
  obtain ⟨xs, zL, cc⟩ := hL
  have g : RowV (ps.map (·.2)) rs := fun r hr => w r.2 (List.mem_map_of_mem hr)
  have t := both_tm cp.ok cp.l8 g ln
  have tc := cols_tmL cp.ok cp.l8
  have tr := rows_tm g (by rw [List.length_map]; exact cp.l8) ln
  have dc : Dp K H (.ref L) (colsDL ps) := .tup zL.sq (cc.dh.dp (by simpa [PyData.hasDict, colsDL] using tc.nd))
  have dr : Dp K H (.ref R) (rowsD rs) := (Dh.lst eR (rows_dh ra) : Dh H (.ref R) (rowsD rs)).dp tr.nd
  exact .data (.lst (SqL.of e) (.cons dc (.cons dr .nil))) t.sh t.nd (Nat.le_trans t.dz (by decide)) (Nat.le_trans t.ln (by decide))
def spIs (C : Addr) : Sp := fun vs H Q _ => ∃ (ta cv L R : Addr) (ps : CsL) (rs rs2 : RowsL), vs = [.ref ta, .ref L, .ref R] ∧ IsTb C H ta cv rs ∧ CA H cv ps ∧ CA H L ps ∧ ColP ps ∧ H R = some (.lst (rs2.map (·.1))) ∧ RowsAt H rs2 ∧ RowW ps (rs.map (·.2)) ∧ rs2.map (·.2) = rs.map (·.2) ∧ rs.length ≤ 20 ∧ ∀ H', Same H H' → Q (.bl true) H'
section
variable {P : Program} {w : World} {K : PySem.W.Frag} {mg : Str → Option Value} {base : Heap} {f : Addr} {fd : FuncData}
abbrev sIs : Stmt := top 149
abbrev nIs : List Str := ["_law_table", "_law_columns_here", "_law_rows_here"]
abbrev pIs : List Str := ["_law_table", "_law_columns_here", "_law_rows_here"]
theorem scIs : FnScope nIs pIs (defScope sIs) := ⟨rfl, rfl, rfl, by decide +kernel, rfl, by decide +kernel, by decide +kernel⟩
section
theorem ok_Is (F : Fun K "_law_is" "_law_is" sIs f fd) (T : Bt mg) {C : Addr} (M : TbM P w K mg base C) (I : IsiT K C) : FnG P w K mg base 2 f fd pIs ((spIs C)) := by
  refine Lc.Fun.okG F scIs (fun vs H Q E h => ?_) (fun cdv A outer s H vs Q E hg hr h => ?_)
  · obtain ⟨ta, cv, L, R, ps, rs, rs2, rfl, _⟩ := h
    rfl
  · obtain ⟨ta, cv, L, R, ps, rs, rs2, rfl, hI, hL, hL2, cp, eR, ra, rw_, em, ln, k⟩ := h
    obtain ⟨fI, fdI, GI, FI, bI⟩ := M.i
    obtain ⟨fC, fdC, hC, FC, bC⟩ := M.c
    obtain ⟨fR, fdR, hR, FR, bR⟩ := M.r
    have hr1 : Room 1 _ := hr.mono (by omega)
    refine ⟨_, (pss_one (ps_ret (pe_and (pe_callB call_isi (by rfl) T.isi boot_isinstance (pa_cons (pv 0) (pa_cons (pe_glob (v := .ref C) (by rfl) GI.gC rfl) pa_nil))) (pe_one (pe_cmpR op_eq (pe_callB (call_reprV hg hr.units) (by rfl) T.repr boot_repr (pa_cons (pe_lst (pa_cons (pe_meth0 (pv 0) GI.cls hC FC hr1 bC .nil pass0) (pa_cons (pe_meth0 (pv 0) GI.cls hR FR hr1 bR .nil pass0) pa_nil))) pa_nil)) (pe_callB (call_reprV hg hr.units) (by rfl) T.repr boot_repr (pa_cons (pe_lst (pa_cons (pv 1) (pa_cons (pv 2) pa_nil))) pa_nil)) (nomark _)))))), ?_⟩
    have two : 2 ≤ sizeLine := by decide
    obtain ⟨dx, bv, h1, h2, h3⟩ := id hI
    have ra0 : RowsAt H rs := h3
    refine ⟨_, rfl, .ref ta, .ref C, _, _, _, rfl, .own C, .base (.ins h1 GI.cls I.ha I.hn I.ht I.hm), I.own, _, rfl, iteT ?_⟩
    refine ⟨_, rfl, ta, dx, _, rfl, h1, rfl, ta, cv, rs, rfl, hI, _, rfl, ta, dx, _, rfl, h1, rfl, ta, cv, rs, rfl, hI, fun l hl => ⟨two, fun M1 hM1 => ?_⟩⟩
    have zl := Same.upd (o := .lst (rs.map (·.1))) hl
    have z1 := Same.upd (o := .lst [.ref cv, .ref l]) hM1
    have z2 := zl.trans z1
    refine ⟨.ref M1, _, rfl, both_shw cp (hL.same z2) (z1 _ _ upd_same) (ra0.same z2) rw_ ln upd_same, ?_⟩
    refine ⟨_, rfl, _, rfl, two, fun M2 hM2 => ?_⟩
    have z3 := z2.trans (Same.upd (o := .lst [.ref L, .ref R]) hM2)
    have ln2 : rs2.length ≤ 20 := by
      have := congrArg List.length em
      rw [List.length_map, List.length_map] at this
      omega
    refine ⟨.ref M2, _, rfl, both_shw cp (hL2.same z3) (z3 _ _ eR) (ra.same z3) (by rw [em]; exact rw_) ln2 upd_same, rfl, ?_⟩
    have e : (bothDL ps rs2).shown = (bothDL ps rs).shown := by
      unfold bothDL
      rw [rowsD_eq, rowsD_eq, em]
    rw [e, decide_eq_true rfl]
    exact k _ z3
end
end
end K16
set_option Elab.async false
set_option linter.all false
set_option maxRecDepth 100000
set_option maxHeartbeats 4000000
namespace K16
open PySem PySem.Spec PyProof.Rows L2 Lc
abbrev teAt (n : Nat) : TE := tCall (spWo n) [] E0 (tCons (tVar 0) (tCons (tVar 4) tNil))
section
variable {P : Program} {w : World} {K : PySem.W.Frag} {mg : Str → Option Value} {base : Heap} {f : Addr} {fd : FuncData}
abbrev sAt : Stmt := top 144
abbrev nAt : List Str := ["_law_row", "_law_expression_here", "_law_word", "_law_parts", "_law_part"]
abbrev pAt : List Str := ["_law_row", "_law_expression_here"]
theorem scAt : FnScope nAt pAt (defScope sAt) := ⟨rfl, rfl, rfl, by decide +kernel, rfl, by decide +kernel, by decide +kernel⟩
section
variable {fA_ fB_ fC_ : Addr} {fdA_ fdB_ fdC_ : FuncData}
theorem ok_At (F : Fun K "_law_at" "_law_at" sAt f fd) (T : Bt mg) (n : Nat)
    (GA_ : FnOk P w K mg base CX0 (3 + n) fA_ fdA_ ["_law_row", "_law_expression_here"] (spWo n)) (mA_ : mg "_law_at" = some (.ref fA_)) (kA_ : PySem.W.keepIn K (.ref fA_) = true) (bA_ : Binds K fdA_ ["_law_row", "_law_expression_here"] [])
    (GB_ : FnOk P w K mg base CX0 1 fB_ fdB_ ["_law_word", "_law_a", "_law_b"] (spFlg)) (mB_ : mg "_law_flags" = some (.ref fB_)) (kB_ : PySem.W.keepIn K (.ref fB_) = true) (bB_ : Binds K fdB_ ["_law_word", "_law_a", "_law_b"] [])
    (GC_ : FnOk P w K mg base CX0 2 fC_ fdC_ ["_law_word", "_law_a", "_law_b"] (spAri)) (mC_ : mg "_law_calc" = some (.ref fC_)) (kC_ : PySem.W.keepIn K (.ref fC_) = true) (bC_ : Binds K fdC_ ["_law_word", "_law_a", "_law_b"] []) : FnOk P w K mg base CX0 (3 + n + 1) f fd pAt ((spWo (n + 1))) := by
  refine F.ok scAt (fun vs H Q E h => ?_) (fun cdv A outer s H vs Q E hr h => ?_)
  · obtain ⟨g, x, kvs, row, ps, d, kd, rfl, _⟩ := h
    rfl
  · obtain ⟨g, x, kvs, row, ps, d, kd, rfl, hg, rh, rt, hd, xp, k⟩ := h
    have hrA_ : Room ((3 + n)) _ := hr.mono (by first | decide | omega)
    have hrB_ : Room (1) _ := hr.mono (by first | decide | omega)
    have hrC_ : Room (2) _ := hr.mono (by first | decide | omega)
    refine ⟨_, (pss_cons (ps_set (i := 2) scAt.nd rfl (Or.inl rfl) (pe_ix ix_tup (pv 1) pe_int (fun _ _ => rfl)))
      (pss_cons (ps_if (pt_cmpR op_eq (pv 2) pe_str (nomark _)) (pss_one (ps_ret (pe_dget (hu_of hr) (pv 0) (pe_ix ix_tup (pv 1) pe_int (fun _ _ => rfl)) (fun _ _ => rfl)))) pss_nil)
      (pss_cons (ps_if (pt_cmpR op_eq (pv 2) pe_str (nomark _)) (pss_one (ps_ret (pe_ix ix_tup (pv 1) pe_int (fun _ _ => rfl)))) pss_nil)
      (pss_cons (ps_setLc (i := 3) (own := [("_law_part", 4)]) (g := (gName 4)) (tt := tYes) (te := teAt n) (by rfl) scAt.nd rfl rfl (sw_true rfl rfl rfl (by decide +kernel)) (pi_tup (pe_slice sl_tup (pv 1) (po_some pe_int) po_none)) (blkOk_by (own := [("_law_part", 4)]) (N := nAt) (sc := defScope sAt) (by decide +kernel)) (fun _ _ _ _ _ => (pg_name (i := 4) scAt.nd rfl (.inl rfl))) (fun _ _ _ _ _ => pts_nil) (fun _ _ _ _ _ => (pe_call GA_ hrA_ (by rfl) mA_ kA_ bA_ .nil pass0 (pa_cons (pv 0) (pa_cons (pv 4) pa_nil)))))
      (pss_cons (ps_if (pt_cmpR op_eq (pv 2) pe_str (nomark _)) (pss_one (ps_ret (pe_cmpR op_isN (pe_ix ix_list (pv 3) pe_int (fun _ _ => rfl)) pe_non (nomark _)))) pss_nil)
      (pss_cons (ps_if (PW.pt (pw_or (pt_cmpR op_eq (pv 2) pe_str (nomark _)) (pw_or1 (pt_cmpR op_eq (pv 2) pe_str (nomark _))))) (pss_one (ps_ret (pe_call GB_ hrB_ (by rfl) mB_ kB_ bB_ .nil pass0 (pa_cons (pv 2) (pa_cons (pe_ix ix_list (pv 3) pe_int (fun _ _ => rfl)) (pa_cons (pe_ix ix_list (pv 3) pe_int (fun _ _ => rfl)) pa_nil)))))) pss_nil)
      (pss_cons (ps_if (PW.pt (pw_and (pt_cmpR op_eq (pv 2) pe_str (nomark _)) (pw_and1 (pt_cmpR op_notN (pe_ix ix_list (pv 3) pe_int (fun _ _ => rfl)) pe_non (nomark _))))) (pss_one (ps_ret (pe_ix ix_list (pv 3) (pe_op op_sub pe_int (pe_callTy call_int1 (by rfl) T.int boot_int (pa_cons (pe_ix ix_list (pv 3) pe_int (fun _ _ => rfl)) pa_nil))) (fun _ _ => rfl)))) pss_nil)
      (pss_cons (ps_if (PW.pt (pw_or (pt_cmpR op_isN (pe_ix ix_list (pv 3) pe_int (fun _ _ => rfl)) pe_non (nomark _)) (pw_or1 (pt_cmpR op_isN (pe_ix ix_list (pv 3) (pe_un un_neg pe_int) (fun _ _ => rfl)) pe_non (nomark _))))) (pss_one (ps_ret pe_non)) pss_nil)
      (pss_cons (ps_if (pt_cmpR op_eq (pv 2) pe_str (nomark _)) (pss_one (ps_ret (pe_not (pe_ix ix_list (pv 3) pe_int (fun _ _ => rfl))))) pss_nil)
      (pss_cons (ps_if (pt_cmpR op_eq (pv 2) pe_str (nomark _)) (pss_one (ps_ret (pe_cmpR (op_eqD hr.units) (pe_ix ix_list (pv 3) pe_int (fun _ _ => rfl)) (pe_ix ix_list (pv 3) pe_int (fun _ _ => rfl)) (nomark _)))) pss_nil)
      (pss_cons (ps_if (pt_cmpR op_eq (pv 2) pe_str (nomark _)) (pss_one (ps_ret (pe_cmpR op_lt (pe_op op_mulW (pe_ix ix_tup (pe_ix ix_list (pv 3) pe_int (fun _ _ => rfl)) pe_int (fun _ _ => rfl)) (pe_ix ix_tup (pe_ix ix_list (pv 3) pe_int (fun _ _ => rfl)) pe_int (fun _ _ => rfl))) (pe_op op_mulW (pe_ix ix_tup (pe_ix ix_list (pv 3) pe_int (fun _ _ => rfl)) pe_int (fun _ _ => rfl)) (pe_ix ix_tup (pe_ix ix_list (pv 3) pe_int (fun _ _ => rfl)) pe_int (fun _ _ => rfl))) (nomark _)))) pss_nil)
      (pss_one (ps_ret (pe_call GC_ hrC_ (by rfl) mC_ kC_ bC_ .nil pass0 (pa_cons (pv 2) (pa_cons (pe_ix ix_list (pv 3) pe_int (fun _ _ => rfl)) (pa_cons (pe_ix ix_list (pv 3) pe_int (fun _ _ => rfl)) pa_nil))))))))))))))))), ?_⟩
    have sE : ∀ (a b : Str), decide (V.str a = V.str b) = decide (a = b) := fun a b => decide_eq_decide.mpr ⟨fun e => by injection e, fun e => by rw [e]⟩
    obtain ⟨ds0, rfl⟩ : ∃ ds0, d = .tuple ds0 := by rcases xp.ops2 with ⟨_, _, _, e, _⟩ | ⟨_, _, _, _, e, _⟩ <;> exact ⟨_, e⟩
    cases hd with
    | @tup a ys0 _ ea hs0 =>
    rcases xp.ops2 with ⟨wd, x, hw, ed, lf⟩ | ⟨wd, os, ks, hw, ed, ok, xs⟩
    · injection ed with ed
      subst ed
      cases hs0 with
      | cons h1 r1 =>
      cases h1
      cases r1 with
      | @cons v2 _ _ _ h2 r2 =>
      cases r2
      refine ⟨_, rfl, a, _, _, .str wd, rfl, rfl, SqT.of ea, at_zero, ?_⟩
      refine ⟨_, rfl, rfl, _, rfl, ?_⟩
      rw [sE]
      rcases lf with ⟨rfl, z, rfl, hz⟩ | ⟨rfl, _, _, _⟩
      · rw [decide_eq_true rfl]
        cases h2
        obtain ⟨dv, e1, _⟩ := rt z kd hz
        obtain ⟨vv, e2, e3⟩ := rh z dv e1
        refine iteT ⟨_, rfl, _, rfl, a, _, _, .str z, rfl, rfl, SqT.of ea, rfl, g, vv, rfl, ?_, ?_⟩
        · have q := DGet.k (k := (Sum.inr z : Key)) hg
          rw [e2] at q
          exact q
        · rw [ev_col, e1] at k
          exact k vv H (Same.refl H) e3
      · rw [decide_eq_false (show ("value" : Str) ≠ "column" by decide +kernel)]
        refine iteF ⟨_, rfl, rfl, _, rfl, ?_⟩
        rw [decide_eq_true rfl]
        rw [ev_val] at k
        exact iteT ⟨_, rfl, a, _, _, v2, rfl, rfl, SqT.of ea, rfl, k v2 H (Same.refl H) h2⟩
    · injection ed with ed
      subst ed
      cases hs0 with
      | @cons _ ys _ _ h1 r1 =>
      cases h1
      have ly := r1.len
      have lk := xs.len
      rw [ev_op hw] at k
      refine ⟨_, rfl, a, _, _, .str wd, rfl, rfl, SqT.of ea, at_zero, ?_⟩
      refine ⟨_, rfl, rfl, _, rfl, ?_⟩
      rw [sE, decide_eq_false (fun z => hw (.inl z))]
      refine iteF ⟨_, rfl, rfl, _, rfl, ?_⟩
      rw [sE, decide_eq_false (fun z => hw (.inr z))]
      refine iteF ⟨_, rfl, 1, rfl, a, _, rfl, SqT.of ea, tail_not, fun p hp => ?_⟩
      rw [cut_tail]
      have zp := Same.upd (o := .tup ys) hp
      have hp2 : upd H p (.tup ys) p = some (.tup ys) := upd_same
      generalize upd H p (.tup ys) = H2 at zp hp2 ⊢
      have l3 : os.length ≤ 3 := by obtain ⟨_, _, _, l3⟩ := ok.ne; omega
      refine ⟨p, rfl, ⟨_, SqT.of hp2⟩, fun D hD => lc_tup (K := K) (a := p) (xs := ys) (fun i H' => ∃ us : List V, H' D = some (.lst us) ∧ DhAll H' us ((evs row os).take i) ∧ Same H2 H') ⟨[], upd_same, by rw [List.take_zero]; exact .nil, Same.upd hD⟩ (fun i H' _ pr => by obtain ⟨_, _, _, s⟩ := pr; exact SqT.of (s _ _ hp2)) ?_ ?_⟩
      · rintro i x H3 hx ⟨us, hD3, hu3, s3⟩
        obtain ⟨o, eo, dh⟩ := r1.get _ _ hx
        obtain ⟨kk, ekk, xo⟩ := xs.get i o eo
        have s03 := zp.trans s3
        refine ⟨rfl, ?_⟩
        change teAt n _ _ _
        refine ⟨_, rfl, _, rfl, g, x, kvs, row, ps, o, kk, rfl, s03 _ _ hg, rh.same s03, rt, dh.same s03, xo, fun v H4 s4 hv => ⟨us, s4 _ _ hD3, ?_, us ++ [v], upd_same, ?_, fun b o' eb => by rw [upd_ne (ne_of_none eb hD)]; exact s4 b o' (s3 b o' eb)⟩⟩
        · have := hu3.len
          rw [List.length_take] at this
          exact Nat.lt_of_le_of_lt (show _ ≤ 3 by rw [this, evs_len]; omega) (by decide)
        · have hu4 := DhAll.same s4 hu3
          have ee := evs_get (row := row) eo
          rw [List.take_add_one, ee]
          refine DhAll.append ?_ (.cons (hv.t (SameT.lst (s4 _ _ hD3)) (ev_vk rt xo).noL) .nil)
          refine DhAll.t (SameT.lst (s4 _ _ hD3)) hu4 (noLs_all.mpr fun d hd => ?_)
          obtain ⟨j, hj⟩ := List.mem_iff_getElem?.mp (List.mem_of_mem_take hd)
          have hlt : j < os.length := by
            have := (List.getElem?_eq_some_iff.mp hj).1
            rwa [evs_len] at this
          obtain ⟨kj, ej, xj⟩ := xs.get j _ (List.getElem?_eq_getElem hlt)
          have e2 := evs_get (row := row) (List.getElem?_eq_getElem hlt)
          rw [hj] at e2
          rw [Option.some.inj e2]
          exact (ev_vk rt xj).noL
      · rintro H3 ⟨us, hD3, hu3, s3⟩
        rw [ly, ← evs_len (row := row) (ds := os), List.take_length] at hu3
        have s03 := zp.trans s3
        have vks := opk_evs rt xs
        clear hp2 hD s3 zp
        have two : 2 ≤ sizeLine := by decide
        have inW : ∀ w : Str, inV (.str w) [.str "both", .str "either"] = decide (w ∈ (["both", "either"] : List Str)) := fun w => in_strs (ss := ["both", "either"])
        have kk : ∀ v H', Same H3 H' → Dh H' v (opD wd (evs row os)) → Q v H' := fun v H' s' h => k v H' (s03.trans s') h
        clear k
        -- missing
        refine ⟨_, rfl, rfl, _, rfl, ?_⟩
        rw [sE]
        by_cases m : wd = "missing"
        · subst m
          rw [decide_eq_true rfl]
          cases ok with
          | two hw2 => rcases hw2 with ⟨e | e | e | e, _⟩ | ⟨e, _⟩ | ⟨e, _⟩ | ⟨e | e, _⟩ <;> exact absurd e (by decide +kernel)
          | one hw1 =>
            cases xs with
            | @cons _ _ o1 _ _ xr =>
            cases xr
            rw [evs, evs] at hu3 kk
            cases hu3 with
            | @cons u1 _ _ _ g1 q1 =>
            cases q1
            refine iteT ⟨_, rfl, D, _, _, u1, rfl, rfl, SqL.of hD3, rfl, rfl, ?_⟩
            rw [dh_isN g1]
            refine kk _ H3 (Same.refl _) ?_
            show Dh H3 _ (oneD "missing" (evD row o1) [])
            unfold oneD
            rw [if_pos rfl]
            exact .bl _
        rw [decide_eq_false m]
        clear two inW
        have hD4 := hD3
        have hu4 := hu3
        have kk4 := kk
        clear kk hD3 hu3
        -- both, either
        refine iteF ⟨_, rfl, rfl, _, rfl, ?_⟩
        rw [sE]
        by_cases be : LenW wd
        · cases ok with
          | one hw1 => rcases hw1 with ⟨rfl, _⟩ | ⟨rfl, _⟩ <;> exact absurd be (by unfold LenW; decide +kernel)
          | iff => exact absurd be (by unfold LenW; decide +kernel)
          | @two _ kq rq hw2 =>
            have ef : kq = "flag" := by
              rcases hw2 with ⟨e | e | e | e, _⟩ | ⟨e, _⟩ | ⟨e, _⟩ | ⟨_, e, _⟩
              · subst e; exact absurd be (by unfold LenW; decide +kernel)
              · subst e; exact absurd be (by unfold LenW; decide +kernel)
              · subst e; exact absurd be (by unfold LenW; decide +kernel)
              · subst e; exact absurd be (by unfold LenW; decide +kernel)
              · subst e; exact absurd be (by unfold LenW; decide +kernel)
              · subst e; exact absurd be (by unfold LenW; decide +kernel)
              · exact e
            subst ef
            cases xs with
            | @cons _ _ o1 _ _ xr =>
            cases xr with
            | @cons _ _ o2 _ _ xr =>
            cases xr
            rw [evs, evs, evs] at hu4 kk4 vks
            cases hu4 with
            | @cons u1 _ _ _ g1 q1 =>
            cases q1 with
            | @cons u2 _ _ _ g2 q2 =>
            cases q2
            obtain ⟨d1, e1, w1⟩ := vks 0 _ rfl
            obtain ⟨d2, e2, w2⟩ := vks 1 _ rfl
            obtain rfl := Option.some.inj e1
            obtain rfl := Option.some.inj e2
            by_cases b0 : wd = "both"
            · rw [decide_eq_true b0]
              exact iteT (iteT ⟨_, rfl, _, rfl, D, _, _, u1, rfl, rfl, SqL.of hD4, rfl, _, rfl, D, _, _, u2, rfl, rfl, SqL.of hD4, rfl, wd, u1, u2, _, _, rfl, g1, g2, w1, w2, be, fun v H' s' hv => kk4 v H' s' hv⟩)
            · rw [decide_eq_false b0]
              refine iteF ⟨_, rfl, rfl, _, rfl, ?_⟩
              rw [sE, decide_eq_true (be.resolve_left b0)]
              exact iteT ⟨_, rfl, _, rfl, D, _, _, u1, rfl, rfl, SqL.of hD4, rfl, _, rfl, D, _, _, u2, rfl, rfl, SqL.of hD4, rfl, wd, u1, u2, _, _, rfl, g1, g2, w1, w2, be, fun v H' s' hv => kk4 v H' s' hv⟩
        rw [decide_eq_false (fun z => be (.inl z))]
        refine iteF ⟨_, rfl, rfl, _, rfl, ?_⟩
        rw [sE, decide_eq_false (fun z => be (.inr z))]
        refine iteF ⟨_, rfl, rfl, _, rfl, ?_⟩
        rw [sE]
        -- if
        by_cases fi : wd = "if"
        · subst fi
          rw [decide_eq_true rfl]
          cases ok with
          | two hw2 => rcases hw2 with ⟨e | e | e | e, _⟩ | ⟨e, _⟩ | ⟨e, _⟩ | ⟨e | e, _⟩ <;> exact absurd e (by decide +kernel)
          | one hw1 => rcases hw1 with ⟨e, _⟩ | ⟨e, _⟩ <;> exact absurd e (by decide +kernel)
          | iff =>
            cases xs with
            | @cons _ _ o1 _ _ xr =>
            cases xr with
            | @cons _ _ o2 _ _ xr =>
            cases xr with
            | @cons _ _ o3 _ _ xr =>
            cases xr
            rw [evs, evs, evs, evs] at hu4 kk4 vks
            cases hu4 with
            | @cons u1 _ _ _ g1 q1 =>
            cases q1 with
            | @cons u2 _ _ _ g2 q2 =>
            cases q2 with
            | @cons u3 _ _ _ g3 q3 =>
            cases q3
            obtain ⟨d1, e1, w1⟩ := vks 0 _ rfl
            obtain rfl := Option.some.inj e1
            have k5 : ∀ v H', Same H3 H' → Dh H' v (oneD "if" (evD row o1) [evD row o2, evD row o3]) → Q v H' := kk4
            unfold oneD at k5
            rw [if_neg (by decide +kernel), if_neg (show ¬ ("if" : Str) = "not" by decide +kernel)] at k5
            refine iteT ⟨_, rfl, D, _, _, u1, rfl, rfl, SqL.of hD4, rfl, rfl, _, rfl, ?_⟩
            rw [dh_isN g1]
            by_cases z : isN (evD row o1) = true
            · rw [if_pos z] at k5
              rw [z]
              refine iteF ⟨_, rfl, D, _, _, u1, rfl, rfl, SqL.of hD4, rfl, rfl, _, rfl, ?_⟩
              rw [dh_isN g1, z]
              exact iteT (iteT (k5 _ H3 (Same.refl _) .non))
            · rw [if_neg z] at k5
              rw [show isN (evD row o1) = false by simpa using z]
              rcases w1.isflag rfl with q | ⟨b, q⟩
              · rw [q] at z; exact absurd rfl z
              rw [q] at g1
              cases g1
              rw [q] at k5
              refine iteT ⟨_, rfl, _, rfl, D, _, _, .bl b, rfl, rfl, SqL.of hD4, rfl, .inr ⟨b, rfl, _, _, rfl, rfl, ?_⟩⟩
              cases b with
              | true => exact ⟨D, _, _, u2, rfl, rfl, SqL.of hD4, rfl, k5 _ _ (Same.refl _) g2⟩
              | false => exact ⟨D, _, _, u3, rfl, rfl, SqL.of hD4, rfl, k5 _ _ (Same.refl _) g3⟩
        rw [decide_eq_false fi]
        refine iteF (iteF ?_)
        -- something is missing
        cases ok with
        | iff => exact absurd rfl fi
        | @one _ kq rq hw1 =>
          have nt : wd = "not" := (not_two hw1).resolve_left m
          cases xs with
          | @cons _ _ o1 _ _ xr =>
          cases xr
          rw [evs, evs] at hu4 kk4 vks
          cases hu4 with
          | @cons u1 _ _ _ g1 q1 =>
          cases q1
          have k7 : ∀ v H', Same H3 H' → Dh H' v (oneD wd (evD row o1) []) → Q v H' := kk4
          unfold oneD at k7
          rw [if_neg m, if_pos nt] at k7
          have kf : kq = "flag" := by
            rcases hw1 with ⟨_, e, _⟩ | ⟨e, _⟩
            · exact e
            · exact absurd e m
          obtain ⟨d1, e1, w1⟩ := vks 0 _ rfl
          obtain rfl := Option.some.inj e1
          refine ⟨_, rfl, D, _, _, u1, rfl, rfl, SqL.of hD4, rfl, rfl, _, rfl, ?_⟩
          rw [dh_isN g1]
          rcases w1.isflag kf with q | ⟨b, q⟩
          · rw [q] at g1
            cases g1
            rw [q, if_pos (show isN .none = true from rfl)] at k7
            rw [q]
            exact iteT (iteT (k7 _ H3 (Same.refl _) .non))
          · rw [q] at g1
            cases g1
            rw [q, if_neg (by simp [isN])] at k7
            rw [q]
            refine iteF ⟨_, rfl, _, rfl, D, _, _, .bl b, rfl, rfl, SqL.of hD4, rfl, rfl, _, rfl, iteF ⟨_, rfl, rfl, _, rfl, ?_⟩⟩
            rw [sE, decide_eq_true nt]
            refine iteT ⟨_, rfl, D, _, _, .bl b, rfl, rfl, SqL.of hD4, rfl, _, rfl, ?_⟩
            have e2 : isF (.bool b) = !b := by cases b <;> rfl
            rw [e2] at k7
            exact k7 _ H3 (Same.refl _) (.bl _)
        | @two _ kq rq hw2 =>
          cases xs with
          | @cons _ _ o1 _ _ xr =>
          cases xr with
          | @cons _ _ o2 _ _ xr =>
          cases xr
          rw [evs, evs, evs] at hu4 kk4 vks
          cases hu4 with
          | @cons u1 _ _ _ g1 q1 =>
          cases q1 with
          | @cons u2 _ _ _ g2 q2 =>
          cases q2
          obtain ⟨d1, e1, w1⟩ := vks 0 _ rfl
          obtain ⟨d2, e2, w2⟩ := vks 1 _ rfl
          obtain rfl := Option.some.inj e1
          obtain rfl := Option.some.inj e2
          generalize evD row o1 = da at g1 w1 kk4
          generalize evD row o2 = db at g2 w2 kk4
          have k7 : ∀ v H', Same H3 H' → Dh H' v (twoD wd da db) → Q v H' := kk4
          have sw : StrictW wd := by
            rcases twoW_or hw2 with l | l
            · exact absurd l be
            · exact l.1
          have nt : wd ≠ "not" := by
            rcases sw with e | e | e | e | e | e <;> (rw [e]; decide +kernel)
          have nonD : (isN da || isN db) = true → twoD wd da db = .none := fun z => by
            unfold twoD
            rw [if_neg (fun q => be (.inl q)), if_neg (fun q => be (.inr q)), if_pos z]
          refine ⟨_, rfl, D, _, _, u1, rfl, rfl, SqL.of hD4, rfl, rfl, _, rfl, ?_⟩
          rw [dh_isN g1]
          by_cases za : isN da = true
          · rw [za]
            rw [nonD (by rw [za]; rfl)] at k7
            exact iteT (iteT (k7 _ H3 (Same.refl _) .non))
          rw [show isN da = false by simpa using za]
          refine iteF ⟨_, rfl, _, rfl, D, _, _, u2, rfl, rfl, SqL.of hD4, rfl, rfl, _, rfl, ?_⟩
          rw [dh_isN g2]
          by_cases zb : isN db = true
          · rw [zb]
            rw [nonD (by rw [zb, Bool.or_true])] at k7
            exact iteT (k7 _ H3 (Same.refl _) .non)
          rw [show isN db = false by simpa using zb]
          have na : da ≠ .none := fun e => za (by rw [e]; rfl)
          have nb : db ≠ .none := fun e => zb (by rw [e]; rfl)
          refine iteF ⟨_, rfl, rfl, _, rfl, ?_⟩
          rw [sE, decide_eq_false nt]
          refine iteF ⟨_, rfl, rfl, _, rfl, ?_⟩
          rw [sE]
          by_cases sm : wd = "same"
          · rw [decide_eq_true sm]
            subst sm
            have e : twoD "same" da db = .bool (PyData.eqv da db) := by
              unfold twoD
              rw [if_neg (by decide +kernel), if_neg (by decide +kernel), if_neg, if_pos rfl]
              rw [Bool.or_eq_true, isN_iff, isN_iff]
              exact fun z => z.elim na nb
            rw [e] at k7
            exact iteT ⟨_, rfl, D, _, _, u1, rfl, rfl, SqL.of hD4, rfl, _, rfl, D, _, _, u2, rfl, rfl, SqL.of hD4, rfl, da, db, g1.dp w1.nd, g2.dp w2.nd, w1.shp, w2.shp, k7 _ H3 (Same.refl _) (.bl _)⟩
          · rw [decide_eq_false sm]
            have nw : wd = "plus" ∨ wd = "minus" ∨ wd = "times" ∨ wd = "over" ∨ wd = "less" := by
              rcases sw with e | e | e | e | e | e
              · exact .inl e
              · exact .inr (.inl e)
              · exact .inr (.inr (.inl e))
              · exact .inr (.inr (.inr (.inl e)))
              · exact .inr (.inr (.inr (.inr e)))
              · exact absurd e sm
            have ek := twoW_num hw2 nw
            obtain ⟨an, ad, rfl, ra, l1, l2⟩ := w1.isnum ek na
            obtain ⟨bn, bd, rfl, rb, l4, l5⟩ := w2.isnum ek nb
            obtain ⟨p, rfl, hp⟩ := dh_pair g1
            obtain ⟨q, rfl, hq⟩ := dh_pair g2
            rw [two_num nw] at k7
            refine iteF ⟨_, rfl, rfl, _, rfl, ?_⟩
            rw [sE]
            by_cases le : wd = "less"
            · rw [decide_eq_true le]
              subst le
              unfold arD at k7
              rw [if_neg (by decide +kernel), if_neg (by decide +kernel), if_neg (by decide +kernel), if_neg (by decide +kernel)] at k7
              refine iteT ⟨_, rfl, D, _, _, .ref p, rfl, rfl, SqL.of hD4, rfl, p, _, _, _, rfl, rfl, SqT.of hp, rfl, _, rfl, D, _, _, .ref q, rfl, rfl, SqL.of hD4, rfl, q, _, _, _, rfl, rfl, SqT.of hq, rfl, _, _, rfl, rfl, mw (sm_lim l1) (sm_lim l5), _, rfl, D, _, _, .ref q, rfl, rfl, SqL.of hD4, rfl, q, _, _, _, rfl, rfl, SqT.of hq, rfl, _, rfl, D, _, _, .ref p, rfl, rfl, SqL.of hD4, rfl, p, _, _, _, rfl, rfl, SqT.of hp, rfl, _, _, rfl, rfl, mw (sm_lim l4) (sm_lim l2), _, _, rfl, rfl, ?_⟩
              exact k7 _ H3 (Same.refl _) (.bl _)
            · rw [decide_eq_false le]
              have aw : wd = "plus" ∨ wd = "minus" ∨ wd = "times" ∨ wd = "over" := by
                rcases nw with e | e | e | e | e
                · exact .inl e
                · exact .inr (.inl e)
                · exact .inr (.inr (.inl e))
                · exact .inr (.inr (.inr e))
                · exact absurd e le
              exact iteF ⟨_, rfl, _, rfl, D, _, _, .ref p, rfl, rfl, SqL.of hD4, rfl, _, rfl, D, _, _, .ref q, rfl, rfl, SqL.of hD4, rfl, wd, p, q, an, ad, bn, bd, rfl, hp, hq, ra, rb, sm_lim l1, sm_lim l2, sm_lim l4, sm_lim l5, aw, fun v H' s' hv => k7 v H' s' hv⟩
theorem ok_AtN {fA fB : Addr} {fdA fdB : FuncData} (F : Fun K "_law_at" "_law_at" sAt f fd) (T : Bt mg) (mX : mg "_law_at" = some (.ref f)) (kX : PySem.W.keepIn K (.ref f) = true) (bX : Binds K fd pAt [])
    (GA : FnOk P w K mg base CX0 1 fA fdA ["_law_word", "_law_a", "_law_b"] spFlg) (mA : mg "_law_flags" = some (.ref fA)) (kA : PySem.W.keepIn K (.ref fA) = true) (bA : Binds K fdA ["_law_word", "_law_a", "_law_b"] [])
    (GB : FnOk P w K mg base CX0 2 fB fdB ["_law_word", "_law_a", "_law_b"] spAri) (mB : mg "_law_calc" = some (.ref fB)) (kB : PySem.W.keepIn K (.ref fB) = true) (bB : Binds K fdB ["_law_word", "_law_a", "_law_b"] []) : ∀ n : Nat, FnOk P w K mg base CX0 (3 + n) f fd pAt (spWo n)
  | 0 => fn_weak (sp' := fun _ _ _ _ => False) (fun _ _ _ _ ⟨_, _, _, _, _, _, _, _, _, _, _, _, xp, _⟩ => xp.zero.elim) fn_none
  | n + 1 => ok_At F T n (ok_AtN F T mX kX bX GA mA kA bA GB mB kB bB n) mX kX bX GA mA kA bA GB mB kB bB
end
end
end K16
set_option Elab.async false
set_option linter.all false
set_option maxRecDepth 100000
set_option maxHeartbeats 4000000
namespace K16
open PySem PySem.Spec PyProof.Rows L2 Lc
def spRst : Sp := fun vs H Q _ => ∃ (L R p : Addr) (ps qs : CsL) (st : Ps) (rs : RowsL), vs = [.ref L, .ref R, .ref p] ∧ CA H L ps ∧ ColP ps ∧ H R = some (.lst (rs.map (·.1))) ∧ RowsAt H rs ∧ RowW ps (rs.map (·.2)) ∧ rs.length ≤ 1000 ∧ Dh H (.ref p) st.d ∧ Lead ps st qs ∧ st.Pl ∧ ∀ (R' : Addr) (H' : Hp) (rs' : RowsL), Same H H' → H' R' = some (.lst (rs'.map (·.1))) → RowsAt H' rs' → rs'.map (·.2) = stepD ps st (rs.map (·.2)) → Q (.ref R') H'
def rTupO (K : PySem.W.Frag) : List V → Hp → VK → Prop := fun xs H Q => ∃ p ys, xs = [.ref p] ∧ ((SqL K H p ys ∧ ∀ l, H l = none → Q (.ref l) (L2.upd H l (.tup ys))) ∨ (SqT K H p ys ∧ Q (.ref p) H))
abbrev teR0 (K : PySem.W.Frag) : TE := tOp (rIxT K) (tVar 4) (tC (.int 0))
abbrev ttR1 (K : PySem.W.Frag) : TT := tTest (tOp rIsBA (tCall (spWo 3) [] E0 (tCons (tCall spByn [] E0 (tCons (tVar 0) (tCons (tOp (rIxT K) (tVar 5) (tC (.int 0))) tNil))) (tCons (tOp (rIxT K) (tVar 2) (tC (.int 1))) tNil))) (tC (.bl true)))
abbrev teR2 (K : PySem.W.Frag) : TE := tBM K "list" (rIndex K) (tVar 3) (tCons (tVar 7) tNil)
abbrev teR4 (K : PySem.W.Frag) : TE := tOp (rIxT K) (tOp (rIxT K) (tVar 5) (tC (.int 0))) (tVar 8)
abbrev teR3 (K : PySem.W.Frag) : TE := tTup (tCons (tCB (rTupO K) (tCons (tLc (iList K (tVar 6)) (gName 8) tYes (teR4 K) [8]) tNil)) (tCons (tOp (rIxT K) (tVar 5) (tC (.int 1))) tNil))
section
variable {P : Program} {w : World} {K : PySem.W.Frag} {mg : Str → Option Value} {base : Heap} {f : Addr} {fd : FuncData}
abbrev sRst : Stmt := top 146
abbrev nRst : List Str := ["_law_columns_here", "_law_rows_here", "_law_step", "_law_names", "_law_part", "_law_row", "_law_places", "_law_name_here", "_law_place", "_law_found", "_law_values_here", "_law_lineage_here", "_law_new"]
abbrev pRst : List Str := ["_law_columns_here", "_law_rows_here", "_law_step"]
theorem scRst : FnScope nRst pRst (defScope sRst) := ⟨rfl, rfl, rfl, by decide +kernel, rfl, by decide +kernel, by decide +kernel⟩
def scRstIn : Scope := match bodyOf sRst with
  | _ :: _ :: .If _ (_ :: .Return (some (.ListComp _ _ sc _)) _ :: _) _ _ :: _ => sc
  | _ => defScope sRst
section
variable {fA_ fB_ : Addr} {fdA_ fdB_ : FuncData}
theorem ok_Rst (F : Fun K "_law_row_step" "_law_row_step" sRst f fd) (T : Bt mg)
    (GA_ : FnOk P w K mg base CX0 1 fA_ fdA_ ["_law_columns_here", "_law_values_here"] (spByn)) (mA_ : mg "_law_by_name" = some (.ref fA_)) (kA_ : PySem.W.keepIn K (.ref fA_) = true) (bA_ : Binds K fdA_ ["_law_columns_here", "_law_values_here"] [])
    (GB_ : FnOk P w K mg base CX0 6 fB_ fdB_ ["_law_row", "_law_expression_here"] (spWo 3)) (mB_ : mg "_law_at" = some (.ref fB_)) (kB_ : PySem.W.keepIn K (.ref fB_) = true) (bB_ : Binds K fdB_ ["_law_row", "_law_expression_here"] []) : FnOk P w K mg base CX0 7 f fd pRst (spRst) := by
  refine F.ok scRst (fun vs H Q E h => ?_) (fun cdv A outer s H vs Q E hr h => ?_)
  · obtain ⟨L, R, p, ps, qs, st, rs, rfl, _⟩ := h
    rfl
  · obtain ⟨L, R, p, ps, qs, st, rs, rfl, hL, cp, hR, ra, rw_, ln, hd, ld, pl, k⟩ := h
    have hrA_ : Room (1) _ := hr.mono (by first | decide | omega)
    have hrB_ : Room (6) _ := hr.mono (by first | decide | omega)
    refine ⟨_, (Evl.pss_cut (ps_set (i := 3) scRst.nd rfl (Or.inr rfl) (pe_lc (own := [("_law_part", 4)]) (g := (gName 4)) (tt := tYes) (te := teR0 K) (by rfl) scRst.nd (pi_tup (pv 0)) (blkOk_by (own := [("_law_part", 4)]) (N := nRst) (sc := defScope sRst) (by decide +kernel)) (fun _ _ _ _ _ => (pg_name (i := 4) scRst.nd rfl (.inl rfl))) (fun _ _ _ _ _ => pts_nil) (fun _ _ _ _ _ => (pe_ix ix_tup (pv 4) pe_int (fun _ _ => rfl)))))
      (pss_cons (ps_if (pt_cmpR op_eq (pe_ix ix_tup (pv 2) pe_int (fun _ _ => rfl)) pe_str (nomark _)) (pss_one (ps_ret (pe_lc (own := [("_law_row", 5)]) (g := (gName 5)) (tt := ttR1 K) (te := tVar 5) (by rfl) scRst.nd (pi_list (pv 1)) (blkOk_by (own := [("_law_row", 5)]) (N := nRst) (sc := defScope sRst) (by decide +kernel)) (fun _ _ _ _ _ => (pg_name (i := 5) scRst.nd rfl (.inl rfl))) (fun _ _ _ _ _ => (pts_one (pt_cmpR op_isBA (pe_call GB_ hrB_ (by rfl) mB_ kB_ bB_ .nil pass0 (pa_cons (pe_call GA_ hrA_ (by rfl) mA_ kA_ bA_ .nil pass0 (pa_cons (pv 0) (pa_cons (pe_ix ix_tup (pv 5) pe_int (fun _ _ => rfl)) pa_nil))) (pa_cons (pe_ix ix_tup (pv 2) pe_int (fun _ _ => rfl)) pa_nil))) pe_bl (nomark _)))) (fun _ _ _ _ _ => (pv 5))))) pss_nil)
      (pss_cons (ps_if (pt_cmpR op_eq (pe_ix ix_tup (pv 2) pe_int (fun _ _ => rfl)) pe_str (nomark _)) (pss_cons (ps_set (i := 6) scRst.nd rfl (Or.inr rfl) (pe_lc (own := [("_law_name_here", 7)]) (g := (gName 7)) (tt := tYes) (te := teR2 K) (by rfl) scRst.nd (pi_tup (pe_ix ix_tup (pv 2) pe_int (fun _ _ => rfl))) (blkOk_by (own := [("_law_name_here", 7)]) (N := nRst) (sc := defScope sRst) (by decide +kernel)) (fun _ _ _ _ _ => (pg_name (i := 7) scRst.nd rfl (.inl rfl))) (fun _ _ _ _ _ => pts_nil) (fun _ _ _ _ _ => (pe_bm PySem.F.plainAttrs_list PySem.F.slot_list_index PySem.F.type_list_index mt_index (pv 3) (pa_cons (pv 7) pa_nil)))))
      (pss_one (ps_ret (pe_lc (own := [("_law_row", 5)]) (g := (gName 5)) (tt := tYes) (te := teR3 K) (by rfl) scRst.nd (pi_list (pv 1)) (blkOk_by (own := [("_law_row", 5)]) (N := nRst) (sc := defScope sRst) (by decide +kernel)) (fun _ _ _ _ _ => (pg_name (i := 5) scRst.nd rfl (.inr rfl))) (fun _ _ _ _ _ => pts_nil) (fun _ _ _ _ _ => (pe_tup (pa_cons (pe_callTy call_tuple_of (by rfl) T.tuple boot_tuple (pa_cons (pe_lc (own := [("_law_place", 8)]) (g := (gName 8)) (tt := tYes) (te := teR4 K) (by rfl) scRst.nd (pi_list (pv 6)) (blkOk_rel (blkOk_by (own := [("_law_place", 8)]) (N := nRst) (sc := scRstIn) (by decide +kernel))) (fun _ _ _ _ _ => (pg_name (i := 8) scRst.nd rfl (.inl rfl))) (fun _ _ _ _ _ => pts_nil) (fun _ _ _ _ _ => (pe_ix ix_tup (pe_ix ix_tup (pv 5) pe_int (fun _ _ => rfl)) (pv 8) (fun _ _ => rfl)))) pa_nil)) (pa_cons (pe_ix ix_tup (pv 5) pe_int (fun _ _ => rfl)) pa_nil)))))))) pss_nil)
      (pss_cons (ps_if (pt_cmpR op_ne (pe_ix ix_tup (pv 2) pe_int (fun _ _ => rfl)) pe_str (nomark _)) (pss_one (ps_ret (pv 1))) pss_nil)
      (pss_cons (ps_set (i := 8) scRst.nd rfl (Or.inl rfl) (pe_callB call_len_seq (by rfl) T.len PySem.boot_len (pa_cons (pv 3) pa_nil)))
      (Evl.pss_cut (ps_if (pt_cmpR op_in_seq (pe_ix ix_tup (pv 2) pe_int (fun _ _ => rfl)) (pv 3) (by rfl)) (pss_one (ps_set (i := 8) scRst.nd rfl (Or.inl rfl) (pe_bm PySem.F.plainAttrs_list PySem.F.slot_list_index PySem.F.type_list_index mt_index (pv 3) (pa_cons (pe_ix ix_tup (pv 2) pe_int (fun _ _ => rfl)) pa_nil)))) pss_nil)
      (pss_cons (ps_set (i := 9) scRst.nd rfl (Or.inl rfl) (pe_lst pa_nil))
      (pss_cons (ps_for PassesOwn.never rfl (pi_list (pv 1)) (pg_tup rfl (pgs_cons (pg_name (i := 10) scRst.nd rfl (.inl rfl)) (pgs_cons (pg_name (i := 11) scRst.nd rfl (.inl rfl)) pgs_nil))) (pss_cons (ps_set (i := 12) scRst.nd rfl (Or.inl rfl) (pe_call GB_ hrB_ (by rfl) mB_ kB_ bB_ .nil pass0 (pa_cons (pe_call GA_ hrA_ (by rfl) mA_ kA_ bA_ .nil pass0 (pa_cons (pv 0) (pa_cons (pv 10) pa_nil))) (pa_cons (pe_ix ix_tup (pv 2) pe_int (fun _ _ => rfl)) pa_nil))))
      (pss_one (ps_expr (pe_bm PySem.F.plainAttrs_list PySem.F.slot_list_append PySem.F.type_list_append mt_append (pv 9) (pa_cons (pe_tup (pa_cons (pe_op op_catA (pe_op op_catA (pe_slice sl_tupA (pv 10) po_none (po_some (pv 8))) (pe_tup (pa_cons (pv 12) pa_nil))) (pe_slice sl_tupA (pv 10) (po_some (pe_op op_add (pv 8) pe_int)) po_none)) (pa_cons (pv 11) pa_nil))) pa_nil))))))
      (pss_one (ps_ret (pv 9))))))))))), ?_⟩
    have two : 2 ≤ sizeLine := by decide
    have one : 1 ≤ sizeLine := by decide
    have sE : ∀ (a b : Str), decide (V.str a = V.str b) = decide (a = b) := fun a b => decide_eq_decide.mpr ⟨fun e => by injection e, fun e => by rw [e]⟩
    obtain ⟨xs, zL, cc⟩ := id hL
    have l8 := cp.l8
    have lnm : (nms ps).length = ps.length := List.length_map _
    have fl : (vS (nms ps)).all flatV = true := List.all_eq_true.mpr fun v hv => by
      obtain ⟨x, _, rfl⟩ := List.mem_map.mp hv
      rfl
    have ok := rw_.ok
    -- the names
    refine ⟨fun σ H' => ∃ W : Addr, σ = [some (.ref L), some (.ref R), some (.ref p), some (.ref W), none, none, none, none, none, none, none, none, none] ∧ Same H H' ∧ H' W = some (.lst (vS (nms ps))), ?_, ?_⟩
    · refine ⟨_, rfl, L, rfl, ⟨_, zL.sq⟩, fun W hW => lc_tup (K := K) (a := L) (xs := xs) (fun i H' => H' W = some (.lst (vS ((nms ps).take i))) ∧ Same H H') ⟨upd_same, Same.upd hW⟩ (fun i H' _ pr => (zL.same pr.2).sq) ?_ ?_⟩
      · rintro i x H1 hx ⟨hW1, s1⟩
        obtain ⟨a, z, kk, rfl, ea, ep⟩ := cc.get _ _ hx
        refine ⟨rfl, ?_⟩
        dsimp only [tYes]
        refine iteT ?_
        change teR0 K _ _ _
        exact ⟨_, rfl, a, _, _, .str z, rfl, rfl, SqT.of (s1 _ _ ea), at_of (j := 0) rfl rfl, nm_turn hW hW1 ep l8 s1⟩
      rintro H1 ⟨hW1, s1⟩
      rw [show xs.length = (nms ps).length by rw [cc.len, List.length_map], List.take_length] at hW1
      exact ⟨W, rfl, s1, hW1⟩
    rintro σ H1 ⟨W, rfl, s1, eW⟩
    have hR1 := s1 _ _ hR
    have r1 := ra.same s1
    have notW : ∀ (sx wx : Str), sx ≠ wx → decide (V.str sx = V.str wx) = false := fun a b h => by rw [sE, decide_eq_false h]
    cases st with
    | sort a u => exact pl.elim
    | sample pp ww ss =>
      have e := s1 _ _ (dh4 hd)
      refine ⟨_, rfl, p, _, _, .str "sample", rfl, rfl, SqT.of e, at_of (j := 0) rfl rfl, rfl, _, rfl, ?_⟩
      rw [notW _ _ (by decide +kernel)]
      refine iteF ⟨_, rfl, p, _, _, .str "sample", rfl, rfl, SqT.of e, at_of (j := 0) rfl rfl, rfl, _, rfl, ?_⟩
      rw [notW _ _ (by decide +kernel)]
      refine iteF ⟨_, rfl, p, _, _, .str "sample", rfl, rfl, SqT.of e, at_of (j := 0) rfl rfl, rfl, _, rfl, ?_⟩
      rw [notW _ _ (by decide +kernel)]
      exact iteT ⟨_, rfl, k R H1 rs s1 hR1 r1 rfl⟩
    | rename a b =>
      obtain ⟨v, e0, _⟩ := dh3 hd
      have e := s1 _ _ e0
      refine ⟨_, rfl, p, _, _, .str "rename", rfl, rfl, SqT.of e, at_of (j := 0) rfl rfl, rfl, _, rfl, ?_⟩
      rw [notW _ _ (by decide +kernel)]
      refine iteF ⟨_, rfl, p, _, _, .str "rename", rfl, rfl, SqT.of e, at_of (j := 0) rfl rfl, rfl, _, rfl, ?_⟩
      rw [notW _ _ (by decide +kernel)]
      refine iteF ⟨_, rfl, p, _, _, .str "rename", rfl, rfl, SqT.of e, at_of (j := 0) rfl rfl, rfl, _, rfl, ?_⟩
      rw [notW _ _ (by decide +kernel)]
      exact iteT ⟨_, rfl, k R H1 rs s1 hR1 r1 rfl⟩
    | keep e =>
      cases ld with
      | keep xp =>
      obtain ⟨v, e0, dv0⟩ := dh2 hd
      have e1 := s1 _ _ e0
      have dv := dv0.same s1
      refine ⟨_, rfl, p, _, _, .str "keep", rfl, rfl, SqT.of e1, at_of (j := 0) rfl rfl, rfl, _, rfl, ?_⟩
      rw [decide_eq_true rfl]
      let go : V × RowD → Bool := fun r => isT (evD (rowOf ps r.2.vals) e)
      refine iteT ⟨_, rfl, R, rfl, ⟨_, SqL.of hR1⟩, fun D hD => lc_list (K := K) (a := R) (xs := rs.map (·.1)) (fun i H' => H' D = some (.lst (((rs.take i).filter go).map (·.1))) ∧ Same H1 H') ⟨upd_same, Same.upd hD⟩ (fun i H' _ pr => SqL.of (pr.2 _ _ hR1)) ?_ ?_⟩
      · rintro i x H2 hx ⟨hD2, s2⟩
        rw [List.getElem?_map] at hx
        obtain ⟨r, er, rfl⟩ := Option.map_eq_some_iff.mp hx
        have rm := List.mem_of_getElem? er
        have li := (List.getElem?_eq_some_iff.mp er).1
        obtain ⟨ra', va, la, ev, e2, dvals, _⟩ := row_at ((r1 r rm).same s2)
        have et : rs.take (i + 1) = rs.take i ++ [r] := by rw [List.take_add_one, er]; rfl
        rw [et, List.filter_append, List.map_append]
        obtain ⟨vk, _⟩ := rw_ r.2 (List.mem_map_of_mem rm)
        cases dvals with
        | tup eu hu =>
        refine ⟨rfl, ?_⟩
        change ttR1 K _ _ _
        have s02 := s1.trans s2
        refine ⟨_, rfl, _, rfl, ra', _, _, .ref va, ev, rfl, SqT.of e2, at_of (j := 0) rfl rfl, L, va, ps, _, _, rfl, hL.same s02, eu, cp, hu, vk, fun g kvs H3 s3 eg rowh => ?_⟩
        refine ⟨_, rfl, p, _, _, v, rfl, rfl, SqT.of (s3 _ _ (s2 _ _ e1)), at_of (j := 1) rfl rfl, g, v, kvs, _, ps, e, "flag", rfl, eg, rowh, rowT_of cp.nd vk, (dv.same s2).same s3, xp, fun y H4 s4 dy => ⟨true, rfl, _, rfl, ?_⟩⟩
        rw [dh_isT dy]
        have s24 := (s2.trans s3).trans s4
        refine ite2 (fun q => ?_) (fun q => ?_)
        · refine ⟨_, rfl, _, s4 _ _ (s3 _ _ hD2), lt_size ?_, ?_, fun b o e => by rw [upd_ne (ne_of_none e hD)]; exact s24 b o e⟩
          · rw [List.length_map]
            exact Nat.le_trans (List.length_filter_le _ _) (by rw [List.length_take]; omega)
          · rw [upd_same, List.filter_cons, if_pos (show go r = true from q)]
            rfl
        · rw [List.filter_cons, if_neg (show ¬ go r = true from q)]
          exact ⟨by rw [s4 _ _ (s3 _ _ hD2)]; simp, s24⟩
      · rintro H2 ⟨hD2, s2⟩
        rw [List.length_map, List.take_length] at hD2
        refine k D H2 (rs.filter go) (s1.trans s2) hD2 (fun r hr => (r1 r (List.mem_filter.mp hr).1).same s2) ?_
        show _ = (rs.map (·.2)).filter _
        rw [List.filter_map]
        rfl
    | select ns =>
      cases ld with
      | select hn nd l1 l8' =>
      obtain ⟨v, e0, dv⟩ := dh2 hd
      obtain ⟨b, rfl, eb0⟩ := dh_strs dv
      have e1 := s1 _ _ e0
      have eb := s1 _ _ eb0
      refine ⟨_, rfl, p, _, _, .str "select", rfl, rfl, SqT.of e1, at_of (j := 0) rfl rfl, rfl, _, rfl, ?_⟩
      rw [notW _ _ (by decide +kernel)]
      refine iteF ⟨_, rfl, p, _, _, .str "select", rfl, rfl, SqT.of e1, at_of (j := 0) rfl rfl, rfl, _, rfl, ?_⟩
      rw [decide_eq_true rfl]
      refine iteT ⟨_, rfl, p, _, _, .ref b, rfl, rfl, SqT.of e1, at_of (j := 1) rfl rfl, b, rfl, ⟨_, SqT.of eb⟩, fun G hG => lc_tup (K := K) (a := b) (xs := vS ns) (fun i H' => H' G = some (.lst (jsV ((ns.take i).map fun n => (nms ps).idxOf n))) ∧ Same H1 H') ⟨upd_same, Same.upd hG⟩ (fun i H' _ pr => SqT.of (pr.2 _ _ eb)) ?_ ?_⟩
      · rintro i y H2 hy ⟨eG, s2⟩
        rw [List.getElem?_map] at hy
        obtain ⟨g, eg, rfl⟩ := Option.map_eq_some_iff.mp hy
        have gm := hn g (List.mem_of_getElem? eg)
        have eW2 := s2 _ _ eW
        refine ⟨rfl, ?_⟩
        dsimp only [tYes]
        refine iteT ?_
        change teR2 K _ _ _
        refine ⟨_, rfl, .inl ⟨rfl, _, SqL.of eW2⟩, _, rfl, W, vS (nms ps), .str g, (nms ps).idxOf g, .str g, rfl, rfl, SqL.of eW2, rfl, fl, by rw [List.getElem?_map, idx_at gm]; rfl, by simp [eqV], fun m z' lt ez => ?_, _, eG, ?_, ?_, fun b o e => by rw [upd_ne (ne_of_none e hG)]; exact s2 b o e⟩
        · rw [List.getElem?_map] at ez
          obtain ⟨z, ez2, rfl⟩ := Option.map_eq_some_iff.mp ez
          have := idx_no lt ez2
          simp [eqV, this]
        · unfold jsV
          rw [List.length_map, List.length_map, List.length_take]
          exact lt_size (by omega)
        · rw [upd_same, List.take_add_one, eg]
          unfold jsV
          rw [List.map_append, List.map_append]
          rfl
      rintro H2 ⟨eG, s2⟩
      rw [List.length_map, List.take_length] at eG
      let js : List Nat := ns.map fun n => (nms ps).idxOf n
      have eG : H2 G = some (.lst (jsV js)) := eG
      have s02 := s1.trans s2
      have hR2 := s2 _ _ hR1
      let go : RowD → RowD := fun r => ⟨ns.map fun n => r.vals.getD ((nms ps).idxOf n) .none, r.lin⟩
      refine ⟨_, rfl, R, rfl, ⟨_, SqL.of hR2⟩, fun D hD => lc_list (K := K) (a := R) (xs := rs.map (·.1)) (fun i H' => (∃ rs' : RowsL, H' D = some (.lst (rs'.map (·.1))) ∧ RowsAt H' rs' ∧ RowsOk rs' ∧ rs'.map (·.2) = (rs.take i).map fun r => go r.2) ∧ Same H2 H') ⟨⟨[], upd_same, nofun, nofun, rfl⟩, Same.upd hD⟩ (fun i H' _ pr => SqL.of (pr.2 _ _ hR2)) ?_ ?_⟩
      · rintro i x H3 hx ⟨⟨rs', eD, ra', ok', em⟩, s3⟩
        rw [List.getElem?_map] at hx
        obtain ⟨r, er, rfl⟩ := Option.map_eq_some_iff.mp hx
        have rm := List.mem_of_getElem? er
        have li := (List.getElem?_eq_some_iff.mp er).1
        have s13 := s2.trans s3
        obtain ⟨rw', va, la, ev, e2, dvals, dlin⟩ := row_at ((r1 r rm).same s13)
        obtain ⟨vk, lo⟩ := rw_ r.2 (List.mem_map_of_mem rm)
        have lv := vk.len
        rw [List.length_map] at lv
        cases dvals with
        | @tup _ us _ eu hu =>
        have lu := hu.len
        have l' : rs'.length ≤ i := by
          have := congrArg List.length em
          rw [List.length_map, List.length_map, List.length_take] at this
          omega
        refine ⟨rfl, ?_⟩
        dsimp only [tYes]
        refine iteT ?_
        change teR3 K _ _ _
        have eG3 := s3 _ _ eG
        have hj : ∀ j ∈ js, j < r.2.vals.length := fun j hj => by
          obtain ⟨n, h4, rfl⟩ := List.mem_map.mp hj
          have := List.idxOf_lt_length_of_mem (hn n h4)
          omega
        have nn : ∀ l : List Nat, (∀ j ∈ l, j < r.2.vals.length) → noLs (l.map fun j => r.2.vals.getD j .none) = true := fun l hl => noLs_all.mpr fun x hx => by
          obtain ⟨j, h1, rfl⟩ := List.mem_map.mp hx
          refine vk.noL _ ?_
          rw [List.getD_eq_getElem?_getD, List.getElem?_eq_getElem (hl j h1)]
          exact List.getElem_mem _
        refine ⟨_, rfl, G, rfl, ⟨_, SqL.of eG3⟩, fun D2 hD2 => lc_list (K := K) (a := G) (xs := jsV js) (fun i H' => (∃ ys, H' D2 = some (.lst ys) ∧ DhAll H' ys ((js.take i).map fun j => r.2.vals.getD j .none)) ∧ Same H3 H') ⟨⟨[], upd_same, .nil⟩, Same.upd hD2⟩ (fun i H' _ pr => SqL.of (pr.2 _ _ eG3)) ?_ ?_⟩
        · rintro m y H4 hy ⟨⟨ys, eD2, dys⟩, s4⟩
          unfold jsV at hy
          rw [List.getElem?_map] at hy
          obtain ⟨j, ej, rfl⟩ := Option.map_eq_some_iff.mp hy
          have lj := hj j (List.mem_of_getElem? ej)
          obtain ⟨d, ed⟩ : ∃ d, r.2.vals[j]? = some d := ⟨_, List.getElem?_eq_getElem lj⟩
          obtain ⟨u, eu'⟩ : ∃ u, us[j]? = some u := ⟨_, List.getElem?_eq_getElem (by omega)⟩
          obtain ⟨d', ed', du⟩ := hu.get j u eu'
          rw [ed] at ed'
          obtain rfl := Option.some.inj ed'
          have ly := dys.len
          rw [List.length_map, List.length_take] at ly
          have lj8 : js.length ≤ 8 := by show (ns.map _).length ≤ 8; rw [List.length_map]; exact l8'
          refine ⟨rfl, ?_⟩
          dsimp only [tYes]
          refine iteT ?_
          change teR4 K _ _ _
          refine ⟨_, rfl, rw', _, _, .ref va, ev, rfl, SqT.of (s4 _ _ e2), at_of (j := 0) rfl rfl, _, rfl, va, us, (j : Int), u, rfl, rfl, SqT.of (s4 _ _ eu), at_of (j := j) (by omega) eu', ys, eD2, lt_size (by omega), ⟨ys ++ [u], upd_same, ?_⟩, fun b o e => by rw [upd_ne (ne_of_none e hD2)]; exact s4 b o e⟩
          rw [List.take_add_one, ej, List.map_append]
          refine DhAll.append (DhAll.t (SameT.lst eD2) dys (nn _ fun j h => hj j (List.mem_of_mem_take h))) ?_
          show DhAll _ [u] [r.2.vals.getD j .none]
          rw [List.getD_eq_getElem?_getD, ed]
          exact .cons ((du.same s4).t (SameT.lst eD2) (vk.noL d (List.mem_of_getElem? ed))) .nil
        rintro H4 ⟨⟨ys, eD2, dys⟩, s4⟩
        rw [show (jsV js).length = js.length from List.length_map _, List.take_length] at dys
        refine ⟨D2, ys, rfl, .inl ⟨SqL.of eD2, fun q hq => ?_⟩⟩
        have zq := Same.upd (o := .tup ys) hq
        have dq : Dh (L2.upd H4 q (.tup ys)) (.ref q) (.tuple (go r.2).vals) := .tup upd_same (by
          have := dys.same zq
          show DhAll _ ys (ns.map _)
          rw [List.map_map] at this
          exact this)
        have s4q := s4.trans zq
        refine ⟨_, rfl, rw', _, _, .ref la, ev, rfl, SqT.of (s4q _ _ e2), at_of (j := 1) rfl rfl, two, fun t ht => ?_⟩
        have zt := Same.upd (o := .tup [.ref q, .ref la]) ht
        have s3t := s4q.trans zt
        have eD3 := s3t _ _ eD
        have newd : Dh (L2.upd (L2.upd H4 q (.tup ys)) t (.tup [.ref q, .ref la])) (.ref t) (go r.2).d := .tup upd_same (.cons (dq.same zt) (.cons (dlin.same s3t) .nil))
        have nol : noLs (go r.2).vals = true := by
          have := nn js hj
          show noLs (ns.map _) = true
          rw [List.map_map] at this
          exact this
        refine ⟨_, eD3, lt_size (by rw [List.length_map]; omega), ⟨rs' ++ [(.ref t, go r.2)], by rw [upd_same, List.map_append]; rfl, fun y hy => ?_, fun y hy => ?_, by rw [List.map_append, em, List.take_add_one, er, List.map_append]; rfl⟩, fun b' o e => by rw [upd_ne (ne_of_none e hD)]; exact (s3.trans s3t) b' o e⟩
        · rcases List.mem_append.mp hy with hy | hy
          · exact ((ra' y hy).same s3t).t (SameT.lst eD3) (row_noL (ok' y hy).1)
          · rw [List.mem_singleton.mp hy]
            exact newd.t (SameT.lst eD3) (row_noL nol)
        · rcases List.mem_append.mp hy with hy | hy
          · exact ok' y hy
          · rw [List.mem_singleton.mp hy]
            exact ⟨nol, lo⟩
      rintro H3 ⟨⟨rs', eD, ra', ok', em⟩, s3⟩
      rw [List.length_map, List.take_length] at em
      refine k D H3 rs' (s02.trans s3) eD ra' ?_
      rw [em]
      show _ = (rs.map (·.2)).map _
      rw [List.map_map]
      rfl
    | set x e =>
      obtain ⟨v, e0, dv0⟩ := dh3 hd
      have e1 := s1 _ _ e0
      have dv := dv0.same s1
      obtain ⟨kd, xp⟩ : ∃ kd, Xp ps 3 kd e := by
        cases ld with
        | setO hx hk h => exact ⟨_, h⟩
        | setN hx nx hk h l => exact ⟨_, h⟩
      refine ⟨_, rfl, p, _, _, .str "set", rfl, rfl, SqT.of e1, at_of (j := 0) rfl rfl, rfl, _, rfl, ?_⟩
      rw [notW _ _ (by decide +kernel)]
      refine iteF ⟨_, rfl, p, _, _, .str "set", rfl, rfl, SqT.of e1, at_of (j := 0) rfl rfl, rfl, _, rfl, ?_⟩
      rw [notW _ _ (by decide +kernel)]
      refine iteF ⟨_, rfl, p, _, _, .str "set", rfl, rfl, SqT.of e1, at_of (j := 0) rfl rfl, rfl, _, rfl, ?_⟩
      rw [decide_eq_true rfl]
      refine iteF ⟨_, rfl, W, _, rfl, .inl (SqL.of eW), ?_⟩
      -- the place
      refine ⟨fun σ H' => σ = [some (.ref L), some (.ref R), some (.ref p), some (.ref W), none, none, none, none, some (.int ((nms ps).idxOf x : Nat)), none, none, none, none] ∧ H' = H1, ?_, ?_⟩
      · refine ⟨_, rfl, p, _, _, .str x, rfl, rfl, SqT.of e1, at_of (j := 1) rfl rfl, _, rfl, W, _, rfl, .inl (SqL.of eW), rfl, fl, _, rfl, ?_⟩
        rw [in_strs]
        by_cases hx : x ∈ nms ps
        · rw [decide_eq_true hx]
          refine iteT ⟨_, rfl, .inl ⟨rfl, _, SqL.of eW⟩, _, rfl, p, _, _, .str x, rfl, rfl, SqT.of e1, at_of (j := 1) rfl rfl, W, vS (nms ps), .str x, (nms ps).idxOf x, .str x, rfl, rfl, SqL.of eW, rfl, fl, by rw [List.getElem?_map, idx_at hx]; rfl, by simp [eqV], fun m z' lt ez => ?_, rfl, rfl⟩
          rw [List.getElem?_map] at ez
          obtain ⟨z, ez2, rfl⟩ := Option.map_eq_some_iff.mp ez
          have := idx_no lt ez2
          simp [eqV, this]
        · rw [decide_eq_false hx]
          refine iteF ⟨?_, rfl⟩
          rw [List.length_map, List.idxOf_eq_length hx]
          rfl
      rintro σ H2 ⟨rfl, rfl⟩
      generalize hn : (nms ps).idxOf x = n at *
      have n8 : n ≤ ps.length := by rw [← hn, ← lnm]; exact List.idxOf_le_length
      refine ⟨Nat.zero_le _, fun G hG => ?_⟩
      have zG := Same.upd (o := .lst []) hG
      have eG0 : L2.upd H2 G (.lst []) G = some (.lst []) := upd_same
      have nGR : G ≠ R := fun z => by rw [z, hR1] at hG; cases hG
      have hR3 := zG _ _ hR1
      generalize L2.upd H2 G (.lst []) = H3 at zG eG0 hR3 ⊢
      have s03 := s1.trans zG
      let go : RowD → RowD := fun r => ⟨setA n r.vals (evD (rowOf ps r.vals) e), r.lin⟩
      refine ⟨_, rfl, R, rfl, ⟨_, SqL.of hR3⟩, for_list (K := K) (a := R) (xs := rs.map (·.1)) (fun i σ H' => (∃ x10 x11 x12 : Option V, σ = [some (.ref L), some (.ref R), some (.ref p), some (.ref W), none, none, none, none, some (.int (n : Nat)), some (.ref G), x10, x11, x12]) ∧ (∃ rs' : RowsL, H' G = some (.lst (rs'.map (·.1))) ∧ RowsAt H' rs' ∧ RowsOk rs' ∧ rs'.map (·.2) = (rs.take i).map fun r => go r.2) ∧ Same H2 H') ⟨⟨_, _, _, rfl⟩, ⟨[], eG0, nofun, nofun, rfl⟩, zG⟩ (fun i σ H' _ pr => SqL.of (pr.2.2 _ _ hR1)) ?_ ?_⟩
      · rintro i y σ H5 hy ⟨⟨x10, x11, x12, rfl⟩, ⟨rs', eR, ra', ok', em⟩, s25⟩
        rw [List.getElem?_map] at hy
        obtain ⟨r, er, rfl⟩ := Option.map_eq_some_iff.mp hy
        have rm := List.mem_of_getElem? er
        have li := (List.getElem?_eq_some_iff.mp er).1
        have s05 := s1.trans s25
        obtain ⟨ra0, va, la, ev, e2, dvals, dlin⟩ := row_at ((ra r rm).same s05)
        obtain ⟨vk, lo⟩ := rw_ r.2 (List.mem_map_of_mem rm)
        have lv := vk.len
        rw [List.length_map] at lv
        have dv1 := dvals
        cases dvals with
        | tup eu hu =>
        have l' : rs'.length ≤ i := by
          have := congrArg List.length em
          rw [List.length_map, List.length_map, List.length_take] at this
          omega
        refine ⟨ra0, _, ev, SqT.of e2, rfl, _, _, rfl, _, _, rfl, rfl, ?_⟩
        dsimp only [gNil]
        refine ⟨_, rfl, _, rfl, L, va, ps, _, _, rfl, hL.same s05, eu, cp, hu, vk, fun g kvs H6 s6 eg rowh => ?_⟩
        refine ⟨_, rfl, p, _, _, v, rfl, rfl, SqT.of (s6 _ _ (s25 _ _ e1)), at_of (j := 2) rfl rfl, g, v, kvs, _, ps, e, kd, rfl, eg, rowh, rowT_of cp.nd vk, (dv.same s25).same s6, xp, fun u H7 s7 du => ?_⟩
        have s57 := s6.trans s7
        refine ⟨_, rfl, .inl ⟨rfl, _, SqL.of (s57 _ _ eR)⟩, _, rfl, _, rfl, _, rfl, slH (dv1.same s57) fun r8 H8 d8 s8 => ⟨_, rfl, one, fun q hq => ?_⟩⟩
        rw [cutD_to (show n ≤ r.2.vals.length by omega)] at d8
        have zq := Same.upd (o := .tup [u]) hq
        have dq : Dh (L2.upd H8 q (.tup [u])) (.ref q) (.tuple [evD (rowOf ps r.2.vals) e]) := .tup upd_same (.cons ((du.same s8).same zq) .nil)
        refine catH (d8.same zq) dq (by rw [List.length_take]; show _ + 1 ≤ 1000; omega) fun r9 H9 d9 s9 => ?_
        refine ⟨_, rfl, _, rfl, _, _, rfl, rfl, _, rfl, ?_⟩
        have s59 := s57.trans (s8.trans (zq.trans s9))
        dsimp only [tNoPart]
        rw [show ((n : Nat) : Int) + 1 = ((n + 1 : Nat) : Int) by omega]
        refine slH (dv1.same s59) fun r10 H10 d10 s10 => ?_
        rw [cutD_from] at d10
        refine catH (d9.same s10) d10 (by rw [List.length_append, List.length_take, List.length_drop]; show _ + 1 + _ ≤ 1000; omega) fun r11 H11 d11 s11 => ⟨_, rfl, two, fun t ht => ?_⟩
        have zt := Same.upd (o := .tup [r11, .ref la]) ht
        have s5t := s59.trans (s10.trans (s11.trans zt))
        have eR' := s5t _ _ eR
        have newd : Dh (L2.upd H11 t (.tup [r11, .ref la])) (.ref t) (go r.2).d := .tup upd_same (.cons (d11.same zt) (.cons (dlin.same s5t) .nil))
        have nol : noLs (go r.2).vals = true := noLs_all.mpr fun d hd' => by
          rcases List.mem_append.mp hd' with hd' | hd'
          · rcases List.mem_append.mp hd' with hd' | hd'
            · exact vk.noL d (List.mem_of_mem_take hd')
            · rw [List.mem_singleton.mp hd']
              exact (ev_vk (rowT_of cp.nd vk) (xp.mono (show 3 ≤ 8 by decide))).noL
          · exact vk.noL d (List.mem_of_mem_drop hd')
        refine ⟨G, _, _, rfl, rfl, eR', lt_size (by rw [List.length_map]; omega), ⟨_, _, _, rfl⟩, ⟨rs' ++ [(.ref t, go r.2)], by rw [upd_same, List.map_append]; rfl, fun y hy => ?_, fun y hy => ?_, by rw [List.map_append, em, List.take_add_one, er, List.map_append]; rfl⟩, fun b' o e => ?_⟩
        · rcases List.mem_append.mp hy with hy | hy
          · exact ((ra' y hy).same s5t).t (SameT.lst eR') (row_noL (ok' y hy).1)
          · rw [List.mem_singleton.mp hy]
            exact newd.t (SameT.lst eR') (row_noL nol)
        · rcases List.mem_append.mp hy with hy | hy
          · exact ok' y hy
          · rw [List.mem_singleton.mp hy]
            exact ⟨nol, lo⟩
        · rw [upd_ne (ne_of_none e hG)]
          exact s5t _ _ (s25 b' o e)
      · rintro σ H5 ⟨⟨x10, x11, x12, rfl⟩, ⟨rs', eR, ra', ok', em⟩, s25⟩
        rw [List.length_map, List.take_length] at em
        refine ⟨_, rfl, k G H5 rs' (s1.trans s25) eR ra' ?_⟩
        rw [em]
        show _ = (rs.map (·.2)).map _
        rw [List.map_map, hn]
        rfl
end
end
end K16
set_option Elab.async false
set_option linter.all false
set_option maxRecDepth 100000
set_option maxHeartbeats 4000000
namespace K16
open PySem PySem.Spec PyProof.Rows L2 Lc
theorem rows_ne {t R : Addr} {H : Hp} {rs : RowsL} (T : Tape H t) (e : H R = some (.lst (rs.map (·.1)))) (ra : RowsAt H rs) : R ≠ t := by
  obtain ⟨_, _, _, _, _, q, _⟩ := T
  rintro rfl
  rw [e] at q
  have q := (show HO.lst (rs.map (·.1)) = HO.lst _ from Option.some.inj q)
  injection q with q
  cases rs with
  | nil => simp at q
  | cons r0 rs => cases rs with
    | nil => simp at q
    | cons r rest =>
      simp only [List.map_cons, List.cons.injEq] at q
      have h := ra r (List.mem_cons_of_mem _ List.mem_cons_self)
      rw [q.2.1] at h
      cases h
theorem rows_dl {t : Addr} {H : Hp} {rs : RowsL} (T : Tape H t) (ra : RowsAt H rs) (o : RowsOk rs) : RowsAt (dl t H) rs := fun r hr => by
  obtain ⟨_, _, _, _, _, q, _⟩ := T
  exact dh_dl ⟨_, q⟩ (ra r hr) (row_noL (o r hr).1)
theorem val2 {a b : Addr} : valV [((Sum.inr "t" : Key), V.ref a), ((Sum.inr "u" : Key), V.ref b)] (Sum.inr "t" : Key) = some (.ref a) := valV_pos rfl
theorem val2u {a b : Addr} : valV [((Sum.inr "t" : Key), V.ref a), ((Sum.inr "u" : Key), V.ref b)] (Sum.inr "u" : Key) = some (.ref b) := by
  rw [valV_neg (fun h => by injection h with h; exact absurd h (by decide +kernel))]
  exact valV_pos rfl
theorem ok_XpN {f : Addr} {fd : FuncData} {P : Program} {w : World} {K : PySem.W.Frag} {mg : Str → Option Value} {base : Heap} {fA_ fB_ : Addr} {fdA_ fdB_ : FuncData} (F : Fun K "_law_expression" "_law_expression" sXp f fd) (T : Bt mg)
    (GA_ : FnOk P w K mg base CX0 1 fA_ fdA_ ["_law_tape_here", "_law_many"] (spDrawL)) (mA_ : mg "_law_draw" = some (.ref fA_)) (kA_ : PySem.W.keepIn K (.ref fA_) = true) (bA_ : Binds K fdA_ ["_law_tape_here", "_law_many"] [])
    (GB_ : FnOk P w K mg base CX0 3 fB_ fdB_ ["_law_tape_here", "_law_columns_here", "_law_kind"] (spLf)) (mB_ : mg "_law_leaf" = some (.ref fB_)) (kB_ : PySem.W.keepIn K (.ref fB_) = true) (bB_ : Binds K fdB_ ["_law_tape_here", "_law_columns_here", "_law_kind"] [])
    (mX : mg "_law_expression" = some (.ref f)) (kX : PySem.W.keepIn K (.ref f) = true) (bX : Binds K fd pXp []) : ∀ n : Nat, FnOk P w K mg base CX0 (3 + n) f fd pXp (spXp n)
  | 0 => fn_none
  | n + 1 => ok_Xp F T n GA_ mA_ kA_ bA_ GB_ mB_ kB_ bB_ (ok_XpN F T GA_ mA_ kA_ bA_ GB_ mB_ kB_ bB_ mX kX bX n) mX kX bX
def spLaw (K : PySem.W.Frag) : Sp := fun vs H Q _ => ∃ (a : Addr) (ns : List Int), vs = [.ref a] ∧ SqL K H a (ns.map V.int) ∧ ∀ H', Q (.bl true) H'
section
variable {P : Program} {w : World} {K : PySem.W.Frag} {mg : Str → Option Value} {base : Heap} {f : Addr} {fd : FuncData}
abbrev sLaw : Stmt := top 150
abbrev nLaw : List Str := ["_law_script", "_law_tape_here", "_law_wide", "_law_columns_here", "_law_rows_here", "_law_first", "_law_before", "_law_table", "_law_steps", "_law_k", "_law_step", "_law_after"]
abbrev pLaw : List Str := ["_law_script"]
theorem scLaw : FnScope nLaw pLaw (defScope sLaw) := ⟨rfl, rfl, rfl, by decide +kernel, rfl, by decide +kernel, by decide +kernel⟩
section
variable {fA_ fB_ fC_ fD_ fE_ fF_ fG_ : Addr} {fdA_ fdB_ fdC_ fdD_ fdE_ fdF_ fdG_ : FuncData}
theorem ok_Law (F : Fun K "law" "law" sLaw f fd) (T : Bt mg) {C : Addr} (M : TbM P w K mg base C) {fU : Addr} {fdU : FuncData} {dsU : List Value} (GU : FnOk P w K mg base CX0 18 fU fdU ["tables", "pipeline", "setting"] (spRun C)) (mU : mg "run" = some (.ref fU)) (kU : PySem.W.keepIn K (.ref fU) = true) (bU : Binds K fdU ["tables", "pipeline", "setting"] dsU) (vU : Vals [V.non] dsU)
    (GA_ : FnOk P w K mg base CX0 1 fA_ fdA_ ["_law_script"] (spTape K)) (mA_ : mg "_law_tape" = some (.ref fA_)) (kA_ : PySem.W.keepIn K (.ref fA_) = true) (bA_ : Binds K fdA_ ["_law_script"] [])
    (GB_ : FnOk P w K mg base CX0 1 fB_ fdB_ ["_law_tape_here", "_law_many"] (spDrawL)) (mB_ : mg "_law_draw" = some (.ref fB_)) (kB_ : PySem.W.keepIn K (.ref fB_) = true) (bB_ : Binds K fdB_ ["_law_tape_here", "_law_many"] [])
    (GC_ : FnOk P w K mg base CX0 4 fC_ fdC_ ["_law_tape_here", "_law_lead", "_law_many", "_law_taken"] (spCls)) (mC_ : mg "_law_columns" = some (.ref fC_)) (kC_ : PySem.W.keepIn K (.ref fC_) = true) (bC_ : Binds K fdC_ ["_law_tape_here", "_law_lead", "_law_many", "_law_taken"] [])
    (GD_ : FnOk P w K mg base CX0 5 fD_ fdD_ ["_law_tape_here", "_law_columns_here", "_law_many", "_law_wide"] (spRws)) (mD_ : mg "_law_rows" = some (.ref fD_)) (kD_ : PySem.W.keepIn K (.ref fD_) = true) (bD_ : Binds K fdD_ ["_law_tape_here", "_law_columns_here", "_law_many", "_law_wide"] [])
    (GE_ : FnOk P w K mg base CX0 9 fE_ fdE_ ["_law_tape_here", "_law_columns_here"] (spPls)) (mE_ : mg "_law_plain_step" = some (.ref fE_)) (kE_ : PySem.W.keepIn K (.ref fE_) = true) (bE_ : Binds K fdE_ ["_law_tape_here", "_law_columns_here"] [])
    (GF_ : FnOk P w K mg base CX0 7 fF_ fdF_ ["_law_columns_here", "_law_rows_here", "_law_step"] (spRst)) (mF_ : mg "_law_row_step" = some (.ref fF_)) (kF_ : PySem.W.keepIn K (.ref fF_) = true) (bF_ : Binds K fdF_ ["_law_columns_here", "_law_rows_here", "_law_step"] [])
    (GG_ : FnG P w K mg base 2 fG_ fdG_ ["_law_table", "_law_columns_here", "_law_rows_here"] ((spIs C))) (mG_ : mg "_law_is" = some (.ref fG_)) (kG_ : PySem.W.keepIn K (.ref fG_) = true) (bG_ : Binds K fdG_ ["_law_table", "_law_columns_here", "_law_rows_here"] []) : FnG P w K mg base 19 f fd pLaw (spLaw K) := by
  refine Lc.Fun.okG F scLaw (fun vs H Q E h => ?_) (fun cdv A outer s H vs Q E hg hr h => ?_)
  · obtain ⟨a0, ns, rfl, _⟩ := h
    rfl
  · obtain ⟨a0, ns, rfl, hS, k⟩ := h
    have hrA_ : Room (1) _ := hr.mono (by first | decide | omega)
    have hrB_ : Room (1) _ := hr.mono (by first | decide | omega)
    have hrC_ : Room (4) _ := hr.mono (by first | decide | omega)
    have hrD_ : Room (5) _ := hr.mono (by first | decide | omega)
    have hrE_ : Room (9) _ := hr.mono (by first | decide | omega)
    have hrF_ : Room (7) _ := hr.mono (by first | decide | omega)
    have hrG_ : Room (2) _ := hr.mono (by first | decide | omega)
    obtain ⟨fI, fdI, GI, FI, bI⟩ := M.i
    obtain ⟨fC, fdC, hC, FC, bC⟩ := M.c
    obtain ⟨fR, fdR, hR, FR, bR⟩ := M.r
    have hr1 : Room 1 _ := hr.mono (by omega)
    have hr2 : Room (1 + 1) _ := hr.mono (by decide)
    have hrU : Room 18 _ := hr.mono (by decide)
    refine ⟨_, (pss_cons (ps_set (i := 1) scLaw.nd rfl (Or.inl rfl) (pe_call GA_ hrA_ (by rfl) mA_ kA_ bA_ .nil pass0 (pa_cons (pv 0) pa_nil)))
      (pss_cons (ps_set (i := 2) scLaw.nd rfl (Or.inl rfl) (pe_cmpR op_eq (pe_call GB_ hrB_ (by rfl) mB_ kB_ bB_ .nil pass0 (pa_cons (pv 1) (pa_cons pe_int pa_nil))) pe_int (nomark _)))
      (pss_cons (ps_set (i := 3) scLaw.nd rfl (Or.inl rfl) (pe_call GC_ hrC_ (by rfl) mC_ kC_ bC_ .nil pass0 (pa_cons (pv 1) (pa_cons (pe_lst (pa_cons pe_str (pa_cons pe_str pa_nil))) (pa_cons pe_int (pa_cons (pe_lst pa_nil) pa_nil))))))
      (pss_cons (ps_set (i := 4) scLaw.nd rfl (Or.inl rfl) (pe_call GD_ hrD_ (by rfl) mD_ kD_ bD_ .nil pass0 (pa_cons (pv 1) (pa_cons (pv 3) (pa_cons (pe_op op_sub pe_int (pe_op op_mul pe_int (pe_callTy call_int1 (by rfl) T.int boot_int (pa_cons (pv 2) pa_nil)))) (pa_cons (pv 2) pa_nil))))))
      (pss_cons (ps_set (i := 5) scLaw.nd rfl (Or.inl rfl) (pe_make GI.mkC FI hr2 (by rfl) GI.gC bI .nil pass0 (pa_cons (pv 3) (pa_cons (pe_callTy call_tuple_of (by rfl) T.tuple boot_tuple (pa_cons (pv 4) pa_nil)) pa_nil))))
      (pss_cons (ps_set (i := 6) scLaw.nd rfl (Or.inl rfl) (pe_callB (call_reprV hg hr.units) (by rfl) T.repr boot_repr (pa_cons (pe_lst (pa_cons (pv 3) (pa_cons (pv 4) pa_nil))) pa_nil)))
      (pss_cons (ps_set (i := 7) scLaw.nd rfl (Or.inl rfl) (pv 5))
      (pss_cons (ps_set (i := 8) scLaw.nd rfl (Or.inl rfl) (pe_tup pa_nil))
      (pss_cons (ps_for PassesOwn.never rfl (pi_range1 (by rfl) T.range (pa_cons (pe_call GB_ hrB_ (by rfl) mB_ kB_ bB_ .nil pass0 (pa_cons (pv 1) (pa_cons pe_int pa_nil))) pa_nil)) (pg_name (i := 9) scLaw.nd rfl (.inl rfl)) (pss_cons (ps_asg (pe_call GE_ hrE_ (by rfl) mE_ kE_ bE_ .nil pass0 (pa_cons (pv 1) (pa_cons (pv 3) pa_nil))) (pg_tup rfl (pgs_cons (pg_name (i := 10) scLaw.nd rfl (.inl rfl)) (pgs_cons (pg_name (i := 11) scLaw.nd rfl (.inl rfl)) pgs_nil))))
      (pss_cons (ps_set (i := 4) scLaw.nd rfl (Or.inl rfl) (pe_call GF_ hrF_ (by rfl) mF_ kF_ bF_ .nil pass0 (pa_cons (pv 3) (pa_cons (pv 4) (pa_cons (pv 10) pa_nil)))))
      (pss_cons (ps_set (i := 7) scLaw.nd rfl (Or.inl rfl) (pe_call GU hrU (by rfl) mU kU bU vU pass0 (pa_cons (pe_disp (pps_cons pe_str (pv 7) pps_nil) (by rfl) (by rfl) (by decide) (by decide)) (pa_cons (pe_tup (pa_cons pe_str (pa_cons (pe_tup (pa_cons (pv 10) pa_nil)) pa_nil))) pa_nil))))
      (pss_cons (ps_set (i := 3) scLaw.nd rfl (Or.inl rfl) (pv 11))
      (Evl.pss_cut (ps_set (i := 8) scLaw.nd rfl (Or.inl rfl) (pe_op op_catA (pv 8) (pe_tup (pa_cons (pv 10) pa_nil))))
      (pss_one (ps_if (pt_not (pt_val (pe_callG GG_ hg hrG_ (by rfl) mG_ kG_ bG_ (pa_cons (pv 7) (pa_cons (pv 3) (pa_cons (pv 4) pa_nil)))))) (pss_one (ps_ret pe_bl)) pss_nil))))))))
      (pss_cons (ps_if (pt_not (pt_val (pe_callG GG_ hg hrG_ (by rfl) mG_ kG_ bG_ (pa_cons (pe_call GU hrU (by rfl) mU kU bU vU pass0 (pa_cons (pe_disp (pps_cons pe_str (pv 5) (pps_cons pe_str (pv 7) pps_nil)) (by rfl) (by rfl) (by decide) (by decide)) (pa_cons (pe_tup (pa_cons pe_str (pa_cons (pv 8) pa_nil))) pa_nil))) (pa_cons (pv 3) (pa_cons (pv 4) pa_nil)))))) (pss_one (ps_ret pe_bl)) pss_nil)
      (pss_one (ps_ret (pe_cmpR op_eq (pe_callB (call_reprV hg hr.units) (by rfl) T.repr boot_repr (pa_cons (pe_lst (pa_cons (pe_meth0 (pv 5) GI.cls hC FC hr1 bC .nil pass0) (pa_cons (pe_meth0 (pv 5) GI.cls hR FR hr1 bR .nil pass0) pa_nil))) pa_nil)) (pv 6) (nomark _)))))))))))))), ?_⟩
    have two : 2 ≤ sizeLine := by decide
    have one : 1 ≤ sizeLine := by decide
    refine ⟨_, rfl, a0, ns, rfl, hS, fun t H0 s0 ht hT0 => ?_⟩
    obtain ⟨c, hT0⟩ := hT0
    have hT0 : TapeL c H0 t := hT0
    -- wide
    refine ⟨_, rfl, t, c, _, rfl, hT0, by decide, big1000 (by decide) (by decide), fun jw Hw jw0 jw1 Tw Sw => ⟨rfl, ?_⟩⟩
    generalize decide (V.int jw = V.int 3) = wide
    -- columns
    refine ⟨_, rfl, two, fun p1 hp1 => ?_⟩
    have z1 := Same.upd (o := .lst [.str "number", .str "word"]) hp1
    refine ⟨by show 0 ≤ sizeLine; decide, fun p2 hp2 => ?_⟩
    have z2 := Same.upd (o := .lst []) hp2
    refine ⟨t, c, p1, p2, 3, ["number", "word"], [], rfl, Tw.same (z1.trans z2), .inr (z2 _ _ upd_same), .inr upd_same, by decide, by decide, by decide, by decide, fun k hk => by simp only [List.mem_cons, List.not_mem_nil, or_false] at hk; rcases hk with rfl | rfl; exact .inl rfl; exact .inr (.inl rfl), fun L xs ps H1 hL hc ho nd _ l1 l3 T1 S1 => ?_⟩
    have l8 : ps.length ≤ 8 := Nat.le_trans l3 (by decide)
    have cp : ColP ps := ⟨ho, nd, Nat.le_trans (by decide) l1, l8⟩
    have cL : CA H1 L ps := ⟨xs, hL, hc⟩
    clear S1 z1 z2 hT0 Tw Sw hp1 hp2 l1 l3 hL hc
    -- rows
    refine ⟨_, rfl, _, rfl, _, rfl, .inr ⟨wide, rfl, _, _, rfl, rfl, .inl ⟨by decide, by decide⟩, _, _, rfl, rfl, _, rfl, t, c, L, ps, _, wide, rfl, T1, cL, cp, ?_, ?_, fun R rs H2 eR nR ra rw_ ln T2 S2 => ?_⟩⟩
    · cases wide <;> decide
    · cases wide <;> decide
    have ln : rs.length ≤ 10 := by cases wide <;> (simp at ln; omega)
    have cL2 := cL.b T1.tape S2
    have ra2 : RowsAt H2 rs := ra.same dl_here
    have ok := rw_.ok
    clear cL T1 S2 ra
    -- the table
    refine ⟨_, rfl, _, rfl, R, _, rfl, .inl ⟨SqL.of eR, fun tu htu => ?_⟩⟩
    dsimp only [tNil]
    have ztu := Same.upd (o := .tup (rs.map (·.1))) htu
    refine mk_tb (.inr upd_same) (ra2.same ztu) ok fun a H5 s5 ha hI => ?_
    have s25 := ztu.trans s5
    have T5 := T2.same s25
    have eR5 := s25 _ _ eR
    have ra5 := ra2.same s25
    have cL5 := cL2.same s25
    clear ztu s5 T2 ra2 eR cL2 htu ha
    -- as it was
    refine ⟨_, rfl, _, rfl, two, fun M1 hM1 => ⟨.ref M1, _, rfl, both_shw cp (cL5.same (Same.upd hM1)) (Same.upd (o := .lst [.ref L, .ref R]) hM1 _ _ eR5) (ra5.same (Same.upd hM1)) rw_ (by omega) upd_same, ?_⟩⟩
    have zM := Same.upd (o := .lst [.ref L, .ref R]) hM1
    generalize hbs : (bothDL ps rs).shown = before
    refine ⟨_, rfl, by show 0 ≤ sizeLine; decide, fun e0 he0 => ?_⟩
    have ze := Same.upd (o := .tup []) he0
    have ee : L2.upd (L2.upd H5 M1 (.lst [.ref L, .ref R])) e0 (.tup []) e0 = some (.tup []) := upd_same
    have s56 := zM.trans ze
    have T6 := T5.same s56
    have eR6 := s56 _ _ eR5
    have hI6 := hI.same s56
    have cL6 := cL5.same s56
    have ra6 := ra5.same s56
    generalize L2.upd (L2.upd H5 M1 (.lst [.ref L, .ref R])) e0 (.tup []) = H6 at ee T6 eR6 hI6 cL6 ra6 ⊢
    clear zM ze T5 eR5 hI cL5 ra5 s56 he0 hM1 s25
    refine ⟨_, rfl, t, c, _, rfl, T6, by decide, big1000 (by decide) (by decide), fun m2 H7 q0 q6 T7 S7 => ⟨m2, rfl, by omega, by omega, for_range (lo := 0) (n := m2.toNat) (fun i σ H' => (∃ (Lc R2 ta cv sv : Addr) (qs : CsL) (rs1 rs2 : RowsL) (sts : List Ps) (ys : List V) (x9 x10 x11 : Option V), σ = [some (.ref a0), some (.ref t), some (.bl wide), some (.ref Lc), some (.ref R2), some (.ref a), some (.str before), some (.ref ta), some (.ref sv), x9, x10, x11] ∧ CA H' Lc qs ∧ CA H' cv qs ∧ ColP qs ∧ H' R2 = some (.lst (rs2.map (·.1))) ∧ R2 ≠ t ∧ RowsAt (dl t H') rs2 ∧ IsTb C H' ta cv rs1 ∧ RowW qs (rs1.map (·.2)) ∧ rs2.map (·.2) = rs1.map (·.2) ∧ rs1.length ≤ 10 ∧ H' sv = some (.tup ys) ∧ StepsAt (dl t H') ys sts ∧ sts.length ≤ i ∧ Runs ps (rs.map (·.2)) sts qs (rs1.map (·.2))) ∧ IsTb C H' a L rs ∧ CA H' L ps ∧ TapeL c H' t) ⟨⟨L, R, a, L, e0, ps, rs, rs, [], [], _, _, _, rfl, cL6.b T6.tape S7, cL6.b T6.tape S7, cp, S7 _ _ nR eR6, nR, (rows_dl T6.tape ra6 ok).same (dl_same S7), hI6.b T6.tape S7 ok, rw_, rfl, ln, SameT.b T6.tape S7 _ _ ee, .nil, Nat.zero_le _, .nil⟩, hI6.b T6.tape S7 ok, cL6.b T6.tape S7, T7⟩ ?_ ?_⟩⟩
    · clear T7 S7 T6 eR6 hI6 cL6 ra6 ee nR
      rintro i σ H8 hi ⟨⟨Lc, R2, ta, cv, sv, qs, rs1, rs2, sts, ys, x9, x10, x11, rfl, cQ, cV, cpQ, eR, nR, ra, hIt, rwQ, em, lr, esv, hst, ls, runs⟩, hIa, cL, T8⟩
      -- a step
      refine ⟨_, rfl, _, rfl, t, c, Lc, qs, rfl, T8, cQ, cpQ, fun r v Cc p qs' H9 er dv ca ld plp T9 S9 => ⟨r, _, rfl, SqT.of er, rfl, _, _, rfl, _, _, rfl, rfl, ?_⟩⟩
      dsimp only [gNil]
      obtain ⟨pa, rfl⟩ : ∃ pa, v = .ref pa := by cases p <;> cases dv <;> exact ⟨_, rfl⟩
      have okQ := rwQ.ok
      have ok2 : RowsOk rs2 := by
        have : RowW qs (rs2.map (·.2)) := by rw [em]; exact rwQ
        exact this.ok
      have cQ9 := cQ.b T8.tape S9
      have cV9 := cV.b T8.tape S9
      have cL9 := cL.b T8.tape S9
      have eR9 := S9 _ _ nR eR
      have ra9 : RowsAt H9 rs2 := (ra.same (dl_same S9)).same dl_here
      have hIt9 := hIt.b T8.tape S9 okQ
      have hIa9 := hIa.b T8.tape S9 ok
      have esv9 := SameT.b T8.tape S9 _ _ esv
      have hst9 := hst.same (dl_same S9)
      have lys := hst.len
      have dp9 : Dh H9 (.ref pa) p.d := dv.same dl_here
      have l2 : rs2.length ≤ 10 := by
        have := congrArg List.length em
        rw [List.length_map, List.length_map] at this
        omega
      clear cQ cV cL eR ra hIt hIa esv hst T8 S9 nR
      -- rows by the law
      refine ⟨_, rfl, _, rfl, _, rfl, Lc, R2, pa, qs, qs', p, rs2, rfl, cQ9, cpQ, eR9, ra9, by rw [em]; exact rwQ, by omega, dp9, ld, plp, fun R3 H10 rs3 s10 eR3 ra3 em3 => ?_⟩
      have hIt10 := hIt9.same s10
      have cV10 := cV9.same s10
      have cL10 := cL9.same s10
      have hIa10 := hIa9.same s10
      have dp10 := dp9.same s10
      have dv10 := dts dv s10
      have hst10 := hst9.same (dl_same (Same.b t s10))
      have esv10 := s10 _ _ esv9
      have T10 := T9.same s10
      have ca10 := ca.same s10
      have nR3 := rows_ne T10.tape eR3 ra3
      clear hIt9 cV9 cL9 hIa9 dp9 dv hst9 esv9 T9 ca cQ9 eR9 ra9 s10 er
      -- run
      intro d hd
      have zd := Same.upd (o := .dK []) hd
      refine ⟨_, rfl, upd_same, [((Sum.inr "t" : Key), .ref ta)], rfl, by show 1 ≤ 15; decide, ?_⟩
      have s12 : Same H10 (L2.upd (L2.upd H10 d (.dK [])) d (.dK (mergeK [] [((Sum.inr "t" : Key), .ref ta)]))) := fun b o e => by
        rw [upd_ne (ne_of_none e hd)]
        exact zd b o e
      have ed : L2.upd (L2.upd H10 d (.dK [])) d (.dK (mergeK [] [((Sum.inr "t" : Key), .ref ta)])) d = some (.dK [((Sum.inr "t" : Key), .ref ta)]) := upd_same
      generalize L2.upd (L2.upd H10 d (.dK [])) d (.dK (mergeK [] [((Sum.inr "t" : Key), .ref ta)])) = H12 at s12 ed ⊢
      refine ⟨_, rfl, one, fun u1 hu1 => ⟨two, fun u2 hu2 => ?_⟩⟩
      have z1 := Same.upd (o := .tup [.ref pa]) hu1
      have z2 := Same.upd (o := .tup [.str "t", .ref u1]) hu2
      have e1 : L2.upd (L2.upd H12 u1 (.tup [.ref pa])) u2 (.tup [.str "t", .ref u1]) u1 = some (.tup [.ref pa]) := z2 _ _ upd_same
      have e2 : L2.upd (L2.upd H12 u1 (.tup [.ref pa])) u2 (.tup [.str "t", .ref u1]) u2 = some (.tup [.str "t", .ref u1]) := upd_same
      have s13 := s12.trans (z1.trans z2)
      have ed3 := (z1.trans z2) _ _ ed
      generalize L2.upd (L2.upd H12 u1 (.tup [.ref pa])) u2 (.tup [.str "t", .ref u1]) = H13 at e1 e2 s13 ed3 ⊢
      refine ⟨d, ta, cv, u2, u1, "t", _, rs1, qs, qs', stepD qs p (rs1.map (·.2)), [.ref pa], [p], rfl, ed3, fun kv hk => ⟨"t", ta, cv, rs1, List.mem_singleton.mp hk, hIt10.same s13, okQ, valV_pos rfl⟩, by show 1 ≤ 4; decide, valV_pos rfl, hIt10.same s13, cV10.same s13, cpQ, rwQ, by omega, e2, e1, .cons (dp10.same s13) .nil, .cons ld plp .nil, by show 1 ≤ 10; decide, fun ta' cv' rs' H14 s14 hI' ca' cp' rw' em' => ?_⟩
      have s1014 := s13.trans s14
      have l' : rs'.length ≤ 10 := by
        have := congrArg List.length em'
        have q := stepD_len (ps := qs) (st := p) (ds := rs1.map (·.2))
        rw [List.length_map] at this q
        omega
      have T14 := T10.same s1014
      have eR14 := s1014 _ _ eR3
      have ra14 := ra3.same s1014
      have ca14 := ca10.same s1014
      have cL14 := cL10.same s1014
      have hIa14 := hIa10.same s1014
      have dv14 := dts dv10 s1014
      have hst14 := hst10.same (dl_same (Same.b t s1014))
      have esv14 := s1014 _ _ esv10
      have em4 : rs3.map (·.2) = rs'.map (·.2) := by rw [em3, em', em]
      have ok3 : RowsOk rs3 := by
        have : RowW qs' (rs3.map (·.2)) := by rw [em4, em']; exact rw'
        exact this.ok
      clear hIt10 cV10 cL10 hIa10 dp10 dv10 hst10 esv10 T10 ca10 eR3 ra3 s12 s13 s14 s1014 ed3 e1 e2 ed zd z1 z2
      refine ⟨_, rfl, ?_⟩
      -- the steps so far
      refine ⟨fun σ H' => ∃ sv2 : Addr, σ = [some (.ref a0), some (.ref t), some (.bl wide), some (.ref Cc), some (.ref R3), some (.ref a), some (.str before), some (.ref ta'), some (.ref sv2), some (.int (0 + (i : Nat))), some (.ref pa), some (.ref Cc)] ∧ H' sv2 = some (.tup (ys ++ [.ref pa])) ∧ Same H14 H', ?_, ?_⟩
      · refine ⟨_, rfl, _, rfl, one, fun u hu => ?_⟩
        have zu := Same.upd (o := .tup [.ref pa]) hu
        refine ⟨sv, u, ys, [.ref pa], rfl, rfl, SqT.of (zu _ _ esv14), SqT.of upd_same, Nat.le_trans (show _ ≤ 100 by rw [lys]; show sts.length + 1 ≤ 100; omega) (by decide), fun e => ?_, fun _ e => (by cases e), fun _ _ q hq => ?_⟩
        · subst e
          exact ⟨u, rfl, upd_same, zu⟩
        · exact ⟨q, rfl, upd_same, zu.trans (Same.upd hq)⟩
      rintro σ H15 ⟨sv2, rfl, esv2, s15⟩
      -- the same
      refine ⟨_, rfl, _, rfl, _, rfl, ta', cv', Cc, R3, qs', rs', rs3, rfl, hI'.same s15, ca'.same s15, ca14.same s15, cp', s15 _ _ eR14, ra14.same s15, by rw [em']; exact rw', em4, by omega, fun H16 s16 => ⟨_, rfl, ?_⟩⟩
      have s := s15.trans s16
      refine iteF ⟨⟨Cc, R3, ta', cv', sv2, qs', rs', rs3, sts ++ [p], ys ++ [.ref pa], _, _, _, rfl, ca14.same s, ca'.same s, cp', s _ _ eR14, nR3, (rows_dl T14.tape ra14 ok3).same (dl_same (Same.b t s)), hI'.same s, by rw [em']; exact rw', em4, l', s16 _ _ esv2, (hst14.snoc dv14).same (dl_same (Same.b t s)), by rw [List.length_append]; show sts.length + 1 ≤ i + 1; omega, ?_⟩, hIa14.same s, cL14.same s, T14.same s⟩
      rw [em']
      exact runs.snoc ld plp
    -- all steps at once
    · clear T7 S7 T6 eR6 hI6 cL6 ra6 ee nR
      rintro σ H8 ⟨⟨Lc, R2, ta, cv, sv, qs, rs1, rs2, sts, ys, x9, x10, x11, rfl, cQ, cV, cpQ, eR, nR, ra, hIt, rwQ, em, lr, esv, hst, ls, runs⟩, hIa, cL, T8⟩
      have lys := hst.len
      have ra8 : RowsAt H8 rs2 := ra.same dl_here
      intro d hd
      have zd := Same.upd (o := .dK []) hd
      refine ⟨_, rfl, _, rfl, upd_same, [((Sum.inr "t" : Key), .ref a), ((Sum.inr "u" : Key), .ref ta)], rfl, by show 2 ≤ 15; decide, ?_⟩
      have mg : mergeK [] [((Sum.inr "t" : Key), V.ref a), ((Sum.inr "u" : Key), V.ref ta)] = [((Sum.inr "t" : Key), V.ref a), ((Sum.inr "u" : Key), V.ref ta)] := merge_new _ [] (by rw [List.nil_append]; show [(Sum.inr "t" : Key), (Sum.inr "u" : Key)].Nodup; decide +kernel)
      rw [mg]
      have s12 : Same H8 (L2.upd (L2.upd H8 d (.dK [])) d (.dK [((Sum.inr "t" : Key), .ref a), ((Sum.inr "u" : Key), .ref ta)])) := fun b o e => by
        rw [upd_ne (ne_of_none e hd)]
        exact zd b o e
      have ed : L2.upd (L2.upd H8 d (.dK [])) d (.dK [((Sum.inr "t" : Key), .ref a), ((Sum.inr "u" : Key), .ref ta)]) d = some (.dK [((Sum.inr "t" : Key), .ref a), ((Sum.inr "u" : Key), .ref ta)]) := upd_same
      generalize L2.upd (L2.upd H8 d (.dK [])) d (.dK [((Sum.inr "t" : Key), .ref a), ((Sum.inr "u" : Key), .ref ta)]) = H12 at s12 ed ⊢
      refine ⟨_, rfl, two, fun u2 hu2 => ?_⟩
      have z2 := Same.upd (o := .tup [.str "t", .ref sv]) hu2
      have s13 := s12.trans z2
      refine ⟨d, a, L, u2, sv, "t", _, rs, ps, qs, rs1.map (·.2), ys, sts, rfl, z2 _ _ ed, fun kv hk => ?_, by show 2 ≤ 4; decide, val2, hIa.same s13, cL.same s13, cp, rw_, by omega, upd_same, s13 _ _ esv, (hst.same dl_here).same s13, runs, by omega, fun ta' cv' rs' H14 s14 hI' ca' cp' rw' em' => ?_⟩
      · simp only [List.mem_cons, List.not_mem_nil, or_false] at hk
        rcases hk with rfl | rfl
        · exact ⟨"t", a, L, rs, rfl, hIa.same s13, ok, val2⟩
        · exact ⟨"u", ta, cv, rs1, rfl, hIt.same s13, rwQ.ok, val2u⟩
      have s814 := s13.trans s14
      have l' : rs'.length ≤ 10 := by
        have := congrArg List.length em'
        rw [List.length_map, List.length_map] at this
        omega
      refine ⟨_, rfl, _, rfl, ta', cv', Lc, R2, qs, rs', rs2, rfl, hI', ca', cQ.same s814, cp', s814 _ _ eR, ra8.same s814, by rw [em']; exact rw', by rw [em, em'], by omega, fun H16 s16 => ⟨_, rfl, iteF ?_⟩⟩
      have s := s814.trans s16
      have hI9 := hIa.same s
      have cL9 := cL.same s
      obtain ⟨dx, bv, h1, h2, h3⟩ := id hI9
      refine ⟨_, rfl, a, dx, _, rfl, h1, rfl, a, L, rs, rfl, hI9, _, rfl, a, dx, _, rfl, h1, rfl, a, L, rs, rfl, hI9, fun l hl => ⟨two, fun M2 hM2 => ?_⟩⟩
      have zl := Same.upd (o := .lst (rs.map (·.1))) hl
      have zM := Same.upd (o := .lst [.ref L, .ref l]) hM2
      have z9 := zl.trans zM
      refine ⟨.ref M2, _, rfl, both_shw cp (cL9.same z9) (zM _ _ upd_same) ((show RowsAt H16 rs from h3).same z9) rw_ (by omega) upd_same, _, rfl, rfl, ?_⟩
      rw [hbs, decide_eq_true rfl]
      exact k _
end
end
end K16
set_option Elab.async false
set_option linter.all false
set_option maxRecDepth 100000
set_option maxHeartbeats 4000000
namespace K16
open PySem PySem.Spec PyProof.Rows L2 Lc He
/-! ## the table of rows behind steps -/
def rbG (K : PySem.W.Frag) : Str → Addr := fun x => if x = "keep" then ga K "kept_rows" else if x = "set" then ga K "set_rows" else if x = "select" then ga K "selected_rows" else if x = "rename" then ga K "all_rows" else ga K "sampled_rows"
theorem rbG_keep (K : PySem.W.Frag) : rbG K "keep" = ga K "kept_rows" := if_pos rfl
theorem rbG_set (K : PySem.W.Frag) : rbG K "set" = ga K "set_rows" := by
  unfold rbG
  rw [if_neg (by decide +kernel), if_pos rfl]
theorem rbG_select (K : PySem.W.Frag) : rbG K "select" = ga K "selected_rows" := by
  unfold rbG
  rw [if_neg (by decide +kernel), if_neg (by decide +kernel), if_pos rfl]
theorem rbG_rename (K : PySem.W.Frag) : rbG K "rename" = ga K "all_rows" := by
  unfold rbG
  rw [if_neg (by decide +kernel), if_neg (by decide +kernel), if_neg (by decide +kernel), if_pos rfl]
theorem rbG_sample (K : PySem.W.Frag) : rbG K "sample" = ga K "sampled_rows" := by
  unfold rbG
  rw [if_neg (by decide +kernel), if_neg (by decide +kernel), if_neg (by decide +kernel), if_neg (by decide +kernel)]
theorem rbW_cases {x : Str} (h : x ∈ rbW) : x = "keep" ∨ x = "set" ∨ x = "select" ∨ x = "rename" ∨ x = "sample" := by
  simpa only [rbW, List.mem_cons, List.not_mem_nil, or_false] using h
theorem rb_inj {K : PySem.W.Frag} (h : [ga K "kept_rows", ga K "set_rows", ga K "selected_rows", ga K "all_rows", ga K "sampled_rows"].Nodup) : ∀ a ∈ rbW, ∀ b ∈ rbW, rbG K a = rbG K b → a = b := by
  intro a ha b hb e
  generalize hk1 : ga K "kept_rows" = k1 at h
  generalize hk2 : ga K "set_rows" = k2 at h
  generalize hk3 : ga K "selected_rows" = k3 at h
  generalize hk4 : ga K "all_rows" = k4 at h
  generalize hk5 : ga K "sampled_rows" = k5 at h
  simp only [List.nodup_cons, List.mem_cons, List.not_mem_nil, or_false, not_or] at h
  obtain ⟨⟨a12, a13, a14, a15⟩, ⟨a23, a24, a25⟩, ⟨a34, a35⟩, a45, _⟩ := h
  rcases rbW_cases ha with rfl | rfl | rfl | rfl | rfl <;> rcases rbW_cases hb with rfl | rfl | rfl | rfl | rfl <;> first
    | rfl
    | (simp only [rbG_keep, rbG_set, rbG_select, rbG_rename, rbG_sample, hk1, hk2, hk3, hk4, hk5] at e
       first | exact absurd e ‹_› | exact absurd e.symm ‹_›)
end K16
set_option Elab.async false
set_option linter.all false
set_option maxRecDepth 100000
set_option maxHeartbeats 8000000
namespace K16
open PySem PySem.Spec PyProof.Rows L2 Lc He
theorem facts {P : Program} {w : World} {K : PySem.W.Frag} {h : Heap} {mg : Str → Option Value} {f : Addr} (X : K.In h) (G : h.Ns mainGlobals mg) (hfa : mg ("law" : Str) = some (.ref f)) (c : SaysD fa fn K) (e : ex K = true) (tb : TabsOk ts w K) :
    ∃ fd : FuncData, (∀ (s : Shared) (v : Value), BindsTo s fd ⟨[v], []⟩ [("_law_script", v)]) ∧ ∀ base : Heap, K.In base → base.Ns mainGlobals mg → FnG P w K mg base 19 f fd ["_law_script"] (spLaw K) := by
  obtain ⟨fd0, D0⟩ := c.def_ 0 (d := dMt "Table" "__init__" "Table.__init__" sTI) rfl
  obtain ⟨fd1, D1⟩ := c.def_ 1 (d := dMt "Table" "columns" "Table.columns" sTC) rfl
  obtain ⟨fd2, D2⟩ := c.def_ 2 (d := dMt "Table" "rows" "Table.rows" sTR) rfl
  obtain ⟨fd3, D3⟩ := c.def_ 3 (d := dOf "is_whole" sWhole) rfl
  obtain ⟨fd4, D4⟩ := c.def_ 4 (d := dOf "common_divisor" sCd) rfl
  obtain ⟨fd5, D5⟩ := c.def_ 5 (d := dOf "is_rational" sIsR) rfl
  obtain ⟨fd6, D6⟩ := c.def_ 6 (d := dOf "check_rational" sChk) rfl
  obtain ⟨fd7, D7⟩ := c.def_ 7 (d := dOf "lowest_terms" sLow) rfl
  obtain ⟨fd8, D8⟩ := c.def_ 8 (d := dOf "add" sAddR) rfl
  obtain ⟨fd9, D9⟩ := c.def_ 9 (d := dOf "subtract" sSubR) rfl
  obtain ⟨fd10, D10⟩ := c.def_ 10 (d := dOf "multiply" sMulR) rfl
  obtain ⟨fd11, D11⟩ := c.def_ 11 (d := dOf "divide" sDivR) rfl
  obtain ⟨fd12, D12⟩ := c.def_ 12 (d := dOf "compare" sCmpR) rfl
  obtain ⟨fd13, D13⟩ := c.def_ 13 (d := dOf "is_name" sName) rfl
  obtain ⟨fd14, D14⟩ := c.def_ 14 (d := dOf "within_limit" sWithin) rfl
  obtain ⟨fd15, D15⟩ := c.def_ 15 (d := dOf "is_value" sValue) rfl
  obtain ⟨fd16, D16⟩ := c.def_ 16 (d := dOf "has_word" sHw) rfl
  obtain ⟨fd17, D17⟩ := c.def_ 17 (d := dOf "kind_of_value" sKv) rfl
  obtain ⟨fd18, D18⟩ := c.def_ 18 (d := dOf "leaf_kind" sLk) rfl
  obtain ⟨fd19, D19⟩ := c.def_ 19 (d := dOf "check_operands" sCk) rfl
  obtain ⟨fd20, D20⟩ := c.def_ 20 (d := dOf "result_kind" sRk) rfl
  obtain ⟨fd21, D21⟩ := c.def_ 21 (d := dOf "kind_at" sKa) rfl
  obtain ⟨fd22, D22⟩ := c.def_ 22 (d := dOf "kind_of" sKo) rfl
  obtain ⟨fd23, D23⟩ := c.def_ 23 (d := dOf "kind_or_none" sKn) rfl
  obtain ⟨fd24, D24⟩ := c.def_ 24 (d := dOf "limited" sLim) rfl
  obtain ⟨fd25, D25⟩ := c.def_ 25 (d := dOf "plus" sPlus) rfl
  obtain ⟨fd26, D26⟩ := c.def_ 26 (d := dOf "minus" sMinus) rfl
  obtain ⟨fd27, D27⟩ := c.def_ 27 (d := dOf "times" sTimes) rfl
  obtain ⟨fd28, D28⟩ := c.def_ 28 (d := dOf "over" sOver) rfl
  obtain ⟨fd29, D29⟩ := c.def_ 29 (d := dOf "less" sLess) rfl
  obtain ⟨fd30, D30⟩ := c.def_ 30 (d := dOf "same" sSame) rfl
  obtain ⟨fd31, D31⟩ := c.def_ 31 (d := dOf "both" sBoth) rfl
  obtain ⟨fd32, D32⟩ := c.def_ 32 (d := dOf "either" sEither) rfl
  obtain ⟨fd33, D33⟩ := c.def_ 33 (d := dOf "evaluate" sEv) rfl
  obtain ⟨fd34, D34⟩ := c.def_ 34 (d := dOf "worth" sWo) rfl
  obtain ⟨fd35, D35⟩ := c.def_ 35 (d := dOf "worth_of_two" sWt) rfl
  obtain ⟨fd36, D36⟩ := c.def_ 36 (d := dOf "names_of" sNo) rfl
  obtain ⟨fd37, D37⟩ := c.def_ 37 (d := dOf "is_between" sBt) rfl
  obtain ⟨fd38, D38⟩ := c.def_ 38 (d := dOf "is_tuple_of" sTo) rfl
  obtain ⟨fd39, D39⟩ := c.def_ 39 (d := dOf "kind_in" sKi) rfl
  obtain ⟨fd40, D40⟩ := c.def_ 40 (d := dOf "are_columns" sAc) rfl
  obtain ⟨fd41, D41⟩ := c.def_ 41 (d := dOf "bounded" sBd) rfl
  obtain ⟨fd42, D42⟩ := c.def_ 42 (d := dOf "behind_keep" sBk) rfl
  obtain ⟨fd43, D43⟩ := c.def_ 43 (d := dOf "behind_set" sBe) rfl
  obtain ⟨fd44, D44⟩ := c.def_ 44 (d := dOf "behind_select" sBl) rfl
  obtain ⟨fd45, D45⟩ := c.def_ 45 (d := dOf "behind_rename" sBr) rfl
  obtain ⟨fd46, D46⟩ := c.def_ 46 (d := dOf "behind_sample" sBs) rfl
  obtain ⟨fd47, D47⟩ := c.def_ 47 (d := dOf "word_of" sWd) rfl
  obtain ⟨fd48, D48⟩ := c.def_ 48 (d := dOf "columns_behind" sCb) rfl
  obtain ⟨fd49, D49⟩ := c.def_ 49 (d := dOf "resolved" sRes) rfl
  obtain ⟨fd50, D50⟩ := c.def_ 50 (d := dOf "draw" sDrw) rfl
  obtain ⟨fd51, D51⟩ := c.def_ 51 (d := dOf "places_of" sPo) rfl
  obtain ⟨fd52, D52⟩ := c.def_ 52 (d := dOf "picked" sPc) rfl
  obtain ⟨fd53, D53⟩ := c.def_ 53 (d := dOf "kept_rows" sKr) rfl
  obtain ⟨fd54, D54⟩ := c.def_ 54 (d := dOf "set_rows" sTr) rfl
  obtain ⟨fd55, D55⟩ := c.def_ 55 (d := dOf "selected_rows" sEr) rfl
  obtain ⟨fd56, D56⟩ := c.def_ 56 (d := dOf "all_rows" sAr) rfl
  obtain ⟨fd57, D57⟩ := c.def_ 57 (d := dOf "sampled_rows" sSr) rfl
  obtain ⟨fd58, D58⟩ := c.def_ 58 (d := dKw "run" sRun [("setting", .non)]) rfl
  obtain ⟨fd59, D59⟩ := c.def_ 59 (d := dOf "_law_tape" sTape) rfl
  obtain ⟨fd60, D60⟩ := c.def_ 60 (d := dOf "_law_draw" sDraw) rfl
  obtain ⟨fd61, D61⟩ := c.def_ 61 (d := dOf "_law_lowest" sLst) rfl
  obtain ⟨fd62, D62⟩ := c.def_ 62 (d := dOf "_law_rational" sRat) rfl
  obtain ⟨fd63, D63⟩ := c.def_ 63 (d := dOf "_law_name" sLnm) rfl
  obtain ⟨fd64, D64⟩ := c.def_ 64 (d := dOf "_law_fresh" sFr) rfl
  obtain ⟨fd65, D65⟩ := c.def_ 65 (d := dOf "_law_columns" sCls) rfl
  obtain ⟨fd66, D66⟩ := c.def_ 66 (d := dOf "_law_value" sLv) rfl
  obtain ⟨fd67, D67⟩ := c.def_ 67 (d := dOf "_law_values" sLvs) rfl
  obtain ⟨fd68, D68⟩ := c.def_ 68 (d := dOf "_law_leaf" sLf) rfl
  obtain ⟨fd69, D69⟩ := c.def_ 69 (d := dOf "_law_expression" sXp) rfl
  obtain ⟨fd70, D70⟩ := c.def_ 70 (d := dOf "_law_pick" sPk) rfl
  obtain ⟨fd71, D71⟩ := c.def_ 71 (d := dOf "_law_set_step" sSst) rfl
  obtain ⟨fd72, D72⟩ := c.def_ 72 (d := dOf "_law_sort_step" sSrt) rfl
  obtain ⟨fd73, D73⟩ := c.def_ 73 (d := dOf "_law_sample_step" sSmp) rfl
  obtain ⟨fd74, D74⟩ := c.def_ 74 (d := dOf "_law_keeping_step" sKsp) rfl
  obtain ⟨fd75, D75⟩ := c.def_ 75 (d := dOf "_law_lineage" sFar) rfl
  obtain ⟨fd76, D76⟩ := c.def_ 76 (d := dOf "_law_calc" sCal) rfl
  obtain ⟨fd77, D77⟩ := c.def_ 77 (d := dOf "_law_limited" sLli) rfl
  obtain ⟨fd78, D78⟩ := c.def_ 78 (d := dOf "_law_flags" sFlg) rfl
  obtain ⟨fd79, D79⟩ := c.def_ 79 (d := dOf "_law_at" sAt) rfl
  obtain ⟨fd80, D80⟩ := c.def_ 80 (d := dOf "_law_by_name" sByn) rfl
  obtain ⟨fd81, D81⟩ := c.def_ 81 (d := dOf "_law_row_step" sRst) rfl
  obtain ⟨fd82, D82⟩ := c.def_ 82 (d := dOf "_law_rows" sRws) rfl
  obtain ⟨fd83, D83⟩ := c.def_ 83 (d := dOf "_law_plain_step" sPls) rfl
  obtain ⟨fd84, D84⟩ := c.def_ 84 (d := dOf "_law_is" sIs) rfl
  obtain ⟨fd85, D85⟩ := c.def_ 85 (d := dOf "law" sLaw) rfl
  have ef := hfa.symm.trans (glo_ok X G (c.fact 0 (f := .glo "law") rfl))
  cases ef
  have g : ∀ (i : Nat) (x : Str), fa[i]? = some (.glo x) → mg x = some (.ref (ga K x)) := fun i x z => glo_ok X G (c.fact i (f := .glo x) z)
  have z : ∀ (i : Nat) (x : Str), fa[i]? = some (.free x) → mg x = none := fun i x z => free_ok X G (c.fact i (f := .free x) z)
  have T : Bt mg := ⟨z 94 _ rfl, z 95 _ rfl, z 96 _ rfl, z 97 _ rfl, z 98 _ rfl, z 99 _ rfl, z 100 _ rfl, z 101 _ rfl, z 102 _ rfl, z 103 _ rfl, z 104 _ rfl, z 105 _ rfl, z 106 _ rfl, z 107 _ rfl, z 108 _ rfl, z 109 _ rfl, z 110 _ rfl, z 111 _ rfl⟩
  obtain ⟨uc0, mc0⟩ := str_ok X G (c.fact 114 (f := .str "LETTERS" letters) rfl)
  obtain ⟨uc1, mc1⟩ := str_ok X G (c.fact 115 (f := .str "NAME_SIGNS" signs) rfl)
  obtain ⟨uc2, mc2⟩ := int_ok X G (c.fact 116 (f := .int "LONGEST_NAME" 12) rfl)
  obtain ⟨uc3, mc3⟩ := int_ok X G (c.fact 117 (f := .int "LIMIT" lim) rfl)
  obtain ⟨uc4, mc4⟩ := int_ok X G (c.fact 118 (f := .int "DEEPEST" 8) rfl)
  obtain ⟨uc5, mc5⟩ := int_ok X G (c.fact 119 (f := .int "MOST_COLUMNS" 8) rfl)
  obtain ⟨uc6, mc6⟩ := int_ok X G (c.fact 120 (f := .int "MOST_WHOLE" 1000) rfl)
  obtain ⟨uc7, mc7⟩ := int_ok X G (c.fact 121 (f := .int "MOST_SEED" 1000000000) rfl)
  have a : ∀ (i : Nat) {b : Bool}, (exL K)[i]? = some b → b = true := fun i _ z => all_at e i z
  have b0 : Binds K fd0 ["self", "columns", "rows"] [] := D0.bindsN fun _ _ _ _ _ _ us hl => match us, hl with | [_, _, _], _ => rfl
  have b1 : Binds K fd1 ["self"] [] := D1.bindsN fun _ _ _ _ _ _ us hl => match us, hl with | [_], _ => rfl
  have b2 : Binds K fd2 ["self"] [] := D2.bindsN fun _ _ _ _ _ _ us hl => match us, hl with | [_], _ => rfl
  have b3 : Binds K fd3 ["value"] [] := D3.bindsN fun _ _ _ _ _ _ us hl => match us, hl with | [_], _ => rfl
  have b4 : Binds K fd4 ["a", "b"] [] := D4.bindsN fun _ _ _ _ _ _ us hl => match us, hl with | [_, _], _ => rfl
  have b5 : Binds K fd5 ["value"] [] := D5.bindsN fun _ _ _ _ _ _ us hl => match us, hl with | [_], _ => rfl
  have b6 : Binds K fd6 ["value"] [] := D6.bindsN fun _ _ _ _ _ _ us hl => match us, hl with | [_], _ => rfl
  have b7 : Binds K fd7 ["n", "d"] [] := D7.bindsN fun _ _ _ _ _ _ us hl => match us, hl with | [_, _], _ => rfl
  have b8 : Binds K fd8 ["a", "b"] [] := D8.bindsN fun _ _ _ _ _ _ us hl => match us, hl with | [_, _], _ => rfl
  have b9 : Binds K fd9 ["a", "b"] [] := D9.bindsN fun _ _ _ _ _ _ us hl => match us, hl with | [_, _], _ => rfl
  have b10 : Binds K fd10 ["a", "b"] [] := D10.bindsN fun _ _ _ _ _ _ us hl => match us, hl with | [_, _], _ => rfl
  have b11 : Binds K fd11 ["a", "b"] [] := D11.bindsN fun _ _ _ _ _ _ us hl => match us, hl with | [_, _], _ => rfl
  have b12 : Binds K fd12 ["a", "b"] [] := D12.bindsN fun _ _ _ _ _ _ us hl => match us, hl with | [_, _], _ => rfl
  have b13 : Binds K fd13 ["value"] [] := D13.bindsN fun _ _ _ _ _ _ us hl => match us, hl with | [_], _ => rfl
  have b14 : Binds K fd14 ["number"] [] := D14.bindsN fun _ _ _ _ _ _ us hl => match us, hl with | [_], _ => rfl
  have b15 : Binds K fd15 ["value", "kind"] [] := D15.bindsN fun _ _ _ _ _ _ us hl => match us, hl with | [_, _], _ => rfl
  have b16 : Binds K fd16 ["part"] [] := D16.bindsN fun _ _ _ _ _ _ us hl => match us, hl with | [_], _ => rfl
  have b17 : Binds K fd17 ["value"] [] := D17.bindsN fun _ _ _ _ _ _ us hl => match us, hl with | [_], _ => rfl
  have b18 : Binds K fd18 ["kinds", "part"] [] := D18.bindsN fun _ _ _ _ _ _ us hl => match us, hl with | [_, _], _ => rfl
  have b19 : Binds K fd19 ["word", "found", "path"] [] := D19.bindsN fun _ _ _ _ _ _ us hl => match us, hl with | [_, _, _], _ => rfl
  have b20 : Binds K fd20 ["word", "found"] [] := D20.bindsN fun _ _ _ _ _ _ us hl => match us, hl with | [_, _], _ => rfl
  have b21 : Binds K fd21 ["kinds", "part", "path"] [] := D21.bindsN fun _ _ _ _ _ _ us hl => match us, hl with | [_, _, _], _ => rfl
  have b22 : Binds K fd22 ["columns", "expression"] [] := D22.bindsN fun _ _ _ _ _ _ us hl => match us, hl with | [_, _], _ => rfl
  have b23 : Binds K fd23 ["columns", "expression"] [] := D23.bindsN fun _ _ _ _ _ _ us hl => match us, hl with | [_, _], _ => rfl
  have b24 : Binds K fd24 ["number"] [] := D24.bindsN fun _ _ _ _ _ _ us hl => match us, hl with | [_], _ => rfl
  have b25 : Binds K fd25 ["a", "b"] [] := D25.bindsN fun _ _ _ _ _ _ us hl => match us, hl with | [_, _], _ => rfl
  have b26 : Binds K fd26 ["a", "b"] [] := D26.bindsN fun _ _ _ _ _ _ us hl => match us, hl with | [_, _], _ => rfl
  have b27 : Binds K fd27 ["a", "b"] [] := D27.bindsN fun _ _ _ _ _ _ us hl => match us, hl with | [_, _], _ => rfl
  have b28 : Binds K fd28 ["a", "b"] [] := D28.bindsN fun _ _ _ _ _ _ us hl => match us, hl with | [_, _], _ => rfl
  have b29 : Binds K fd29 ["a", "b"] [] := D29.bindsN fun _ _ _ _ _ _ us hl => match us, hl with | [_, _], _ => rfl
  have b30 : Binds K fd30 ["a", "b"] [] := D30.bindsN fun _ _ _ _ _ _ us hl => match us, hl with | [_, _], _ => rfl
  have b31 : Binds K fd31 ["a", "b"] [] := D31.bindsN fun _ _ _ _ _ _ us hl => match us, hl with | [_, _], _ => rfl
  have b32 : Binds K fd32 ["a", "b"] [] := D32.bindsN fun _ _ _ _ _ _ us hl => match us, hl with | [_, _], _ => rfl
  have b33 : Binds K fd33 ["columns", "values", "expression"] [] := D33.bindsN fun _ _ _ _ _ _ us hl => match us, hl with | [_, _, _], _ => rfl
  have b34 : Binds K fd34 ["row", "part"] [] := D34.bindsN fun _ _ _ _ _ _ us hl => match us, hl with | [_, _], _ => rfl
  have b35 : Binds K fd35 ["word", "a", "b"] [] := D35.bindsN fun _ _ _ _ _ _ us hl => match us, hl with | [_, _, _], _ => rfl
  have b36 : Binds K fd36 ["columns"] [] := D36.bindsN fun _ _ _ _ _ _ us hl => match us, hl with | [_], _ => rfl
  have b37 : Binds K fd37 ["value", "low", "high"] [] := D37.bindsN fun _ _ _ _ _ _ us hl => match us, hl with | [_, _, _], _ => rfl
  have b38 : Binds K fd38 ["value", "low", "high"] [] := D38.bindsN fun _ _ _ _ _ _ us hl => match us, hl with | [_, _, _], _ => rfl
  have b39 : Binds K fd39 ["columns", "name"] [] := D39.bindsN fun _ _ _ _ _ _ us hl => match us, hl with | [_, _], _ => rfl
  have b40 : Binds K fd40 ["columns", "names"] [] := D40.bindsN fun _ _ _ _ _ _ us hl => match us, hl with | [_, _], _ => rfl
  have b41 : Binds K fd41 ["columns"] [] := D41.bindsN fun _ _ _ _ _ _ us hl => match us, hl with | [_], _ => rfl
  have b42 : Binds K fd42 ["tables", "columns", "step"] [] := D42.bindsN fun _ _ _ _ _ _ us hl => match us, hl with | [_, _, _], _ => rfl
  have b43 : Binds K fd43 ["tables", "columns", "step"] [] := D43.bindsN fun _ _ _ _ _ _ us hl => match us, hl with | [_, _, _], _ => rfl
  have b44 : Binds K fd44 ["tables", "columns", "step"] [] := D44.bindsN fun _ _ _ _ _ _ us hl => match us, hl with | [_, _, _], _ => rfl
  have b45 : Binds K fd45 ["tables", "columns", "step"] [] := D45.bindsN fun _ _ _ _ _ _ us hl => match us, hl with | [_, _, _], _ => rfl
  have b46 : Binds K fd46 ["tables", "columns", "step"] [] := D46.bindsN fun _ _ _ _ _ _ us hl => match us, hl with | [_, _, _], _ => rfl
  have b47 : Binds K fd47 ["step"] [] := D47.bindsN fun _ _ _ _ _ _ us hl => match us, hl with | [_], _ => rfl
  have b48 : Binds K fd48 ["tables", "columns", "step"] [] := D48.bindsN fun _ _ _ _ _ _ us hl => match us, hl with | [_, _, _], _ => rfl
  have b49 : Binds K fd49 ["pipeline", "setting"] [] := D49.bindsN fun _ _ _ _ _ _ us hl => match us, hl with | [_, _], _ => rfl
  have b50 : Binds K fd50 ["seed", "lineage", "whole"] [] := D50.bindsN fun _ _ _ _ _ _ us hl => match us, hl with | [_, _, _], _ => rfl
  have b51 : Binds K fd51 ["columns", "names"] [] := D51.bindsN fun _ _ _ _ _ _ us hl => match us, hl with | [_, _], _ => rfl
  have b52 : Binds K fd52 ["values", "places"] [] := D52.bindsN fun _ _ _ _ _ _ us hl => match us, hl with | [_, _], _ => rfl
  have b53 : Binds K fd53 ["tables", "table", "step"] [] := D53.bindsN fun _ _ _ _ _ _ us hl => match us, hl with | [_, _, _], _ => rfl
  have b54 : Binds K fd54 ["tables", "table", "step"] [] := D54.bindsN fun _ _ _ _ _ _ us hl => match us, hl with | [_, _, _], _ => rfl
  have b55 : Binds K fd55 ["tables", "table", "step"] [] := D55.bindsN fun _ _ _ _ _ _ us hl => match us, hl with | [_, _, _], _ => rfl
  have b56 : Binds K fd56 ["tables", "table", "step"] [] := D56.bindsN fun _ _ _ _ _ _ us hl => match us, hl with | [_, _, _], _ => rfl
  have b57 : Binds K fd57 ["tables", "table", "step"] [] := D57.bindsN fun _ _ _ _ _ _ us hl => match us, hl with | [_, _, _], _ => rfl
  obtain ⟨ds58, v58, b58⟩ := FunD.binds0 (ps := ["tables", "pipeline", "setting"]) D58 2 (List.cons_ne_nil _ _) rfl (fun D doc pm an cdv ct us ks hl hk => match us, ks, hl, hk with | [_, _], [_], _, _ => ⟨_, _, _, _, _, _, rfl, rfl, rfl⟩)
  have b59 : Binds K fd59 ["_law_script"] [] := D59.bindsN fun _ _ _ _ _ _ us hl => match us, hl with | [_], _ => rfl
  have b60 : Binds K fd60 ["_law_tape_here", "_law_many"] [] := D60.bindsN fun _ _ _ _ _ _ us hl => match us, hl with | [_, _], _ => rfl
  have b61 : Binds K fd61 ["_law_n", "_law_d"] [] := D61.bindsN fun _ _ _ _ _ _ us hl => match us, hl with | [_, _], _ => rfl
  have b62 : Binds K fd62 ["_law_tape_here", "_law_wide"] [] := D62.bindsN fun _ _ _ _ _ _ us hl => match us, hl with | [_, _], _ => rfl
  have b63 : Binds K fd63 ["_law_tape_here"] [] := D63.bindsN fun _ _ _ _ _ _ us hl => match us, hl with | [_], _ => rfl
  have b64 : Binds K fd64 ["_law_tape_here", "_law_taken"] [] := D64.bindsN fun _ _ _ _ _ _ us hl => match us, hl with | [_, _], _ => rfl
  have b65 : Binds K fd65 ["_law_tape_here", "_law_lead", "_law_many", "_law_taken"] [] := D65.bindsN fun _ _ _ _ _ _ us hl => match us, hl with | [_, _, _, _], _ => rfl
  have b66 : Binds K fd66 ["_law_tape_here", "_law_kind", "_law_wide"] [] := D66.bindsN fun _ _ _ _ _ _ us hl => match us, hl with | [_, _, _], _ => rfl
  have b67 : Binds K fd67 ["_law_tape_here", "_law_columns_here", "_law_wide"] [] := D67.bindsN fun _ _ _ _ _ _ us hl => match us, hl with | [_, _, _], _ => rfl
  have b68 : Binds K fd68 ["_law_tape_here", "_law_columns_here", "_law_kind"] [] := D68.bindsN fun _ _ _ _ _ _ us hl => match us, hl with | [_, _, _], _ => rfl
  have b69 : Binds K fd69 ["_law_tape_here", "_law_columns_here", "_law_kind", "_law_depth"] [] := D69.bindsN fun _ _ _ _ _ _ us hl => match us, hl with | [_, _, _, _], _ => rfl
  have b70 : Binds K fd70 ["_law_tape_here", "_law_items", "_law_many"] [] := D70.bindsN fun _ _ _ _ _ _ us hl => match us, hl with | [_, _, _], _ => rfl
  have b71 : Binds K fd71 ["_law_tape_here", "_law_columns_here"] [] := D71.bindsN fun _ _ _ _ _ _ us hl => match us, hl with | [_, _], _ => rfl
  have b72 : Binds K fd72 ["_law_tape_here", "_law_columns_here"] [] := D72.bindsN fun _ _ _ _ _ _ us hl => match us, hl with | [_, _], _ => rfl
  have b73 : Binds K fd73 ["_law_tape_here"] [] := D73.bindsN fun _ _ _ _ _ _ us hl => match us, hl with | [_], _ => rfl
  have b74 : Binds K fd74 ["_law_tape_here", "_law_columns_here"] [] := D74.bindsN fun _ _ _ _ _ _ us hl => match us, hl with | [_, _], _ => rfl
  have b75 : Binds K fd75 ["_law_tape_here"] [] := D75.bindsN fun _ _ _ _ _ _ us hl => match us, hl with | [_], _ => rfl
  have b76 : Binds K fd76 ["_law_word", "_law_a", "_law_b"] [] := D76.bindsN fun _ _ _ _ _ _ us hl => match us, hl with | [_, _, _], _ => rfl
  have b77 : Binds K fd77 ["_law_number"] [] := D77.bindsN fun _ _ _ _ _ _ us hl => match us, hl with | [_], _ => rfl
  have b78 : Binds K fd78 ["_law_word", "_law_a", "_law_b"] [] := D78.bindsN fun _ _ _ _ _ _ us hl => match us, hl with | [_, _, _], _ => rfl
  have b79 : Binds K fd79 ["_law_row", "_law_expression_here"] [] := D79.bindsN fun _ _ _ _ _ _ us hl => match us, hl with | [_, _], _ => rfl
  have b80 : Binds K fd80 ["_law_columns_here", "_law_values_here"] [] := D80.bindsN fun _ _ _ _ _ _ us hl => match us, hl with | [_, _], _ => rfl
  have b81 : Binds K fd81 ["_law_columns_here", "_law_rows_here", "_law_step"] [] := D81.bindsN fun _ _ _ _ _ _ us hl => match us, hl with | [_, _, _], _ => rfl
  have b82 : Binds K fd82 ["_law_tape_here", "_law_columns_here", "_law_many", "_law_wide"] [] := D82.bindsN fun _ _ _ _ _ _ us hl => match us, hl with | [_, _, _, _], _ => rfl
  have b83 : Binds K fd83 ["_law_tape_here", "_law_columns_here"] [] := D83.bindsN fun _ _ _ _ _ _ us hl => match us, hl with | [_, _], _ => rfl
  have b84 : Binds K fd84 ["_law_table", "_law_columns_here", "_law_rows_here"] [] := D84.bindsN fun _ _ _ _ _ _ us hl => match us, hl with | [_, _, _], _ => rfl
  have bl := FunD.bindsA (ps := ["_law_script"]) D85 fun _ _ _ _ _ _ us hl => match us, hl with | [_], _ => rfl
  refine ⟨fd85, fun s v => bl s [v] rfl, fun base _ _ => ?_⟩
  have m_Table : mg "Table" = some (.ref (ga K "Table")) := g 1 _ rfl
  have m_LENGTHS : mg "LENGTHS" = some (.ref (ga K "LENGTHS")) := g 2 _ rfl
  have m_BEHIND : mg "BEHIND" = some (.ref (ga K "BEHIND")) := g 3 _ rfl
  have m_ROWS_BEHIND : mg "ROWS_BEHIND" = some (.ref (ga K "ROWS_BEHIND")) := g 4 _ rfl
  have m_BadExpression : mg "BadExpression" = some (.ref (ga K "BadExpression")) := g 5 _ rfl
  have m_STRICT : mg "STRICT" = some (.ref (ga K "STRICT")) := g 6 _ rfl
  have m_LENIENT : mg "LENIENT" = some (.ref (ga K "LENIENT")) := g 7 _ rfl
  have m_KINDS : mg "KINDS" = some (.ref (ga K "KINDS")) := g 8 _ rfl
  have m_OPERANDS : mg "OPERANDS" = some (.ref (ga K "OPERANDS")) := g 9 _ rfl
  have m_PAIRED : mg "PAIRED" = some (.ref (ga K "PAIRED")) := g 10 _ rfl
  have m_ARITHMETIC : mg "ARITHMETIC" = some (.ref (ga K "ARITHMETIC")) := g 11 _ rfl
  have m_is_whole : mg "is_whole" = some (.ref (ga K "is_whole")) := g 12 _ rfl
  have m_common_divisor : mg "common_divisor" = some (.ref (ga K "common_divisor")) := g 13 _ rfl
  have m_is_rational : mg "is_rational" = some (.ref (ga K "is_rational")) := g 14 _ rfl
  have m_check_rational : mg "check_rational" = some (.ref (ga K "check_rational")) := g 15 _ rfl
  have m_lowest_terms : mg "lowest_terms" = some (.ref (ga K "lowest_terms")) := g 16 _ rfl
  have m_add : mg "add" = some (.ref (ga K "add")) := g 17 _ rfl
  have m_subtract : mg "subtract" = some (.ref (ga K "subtract")) := g 18 _ rfl
  have m_multiply : mg "multiply" = some (.ref (ga K "multiply")) := g 19 _ rfl
  have m_divide : mg "divide" = some (.ref (ga K "divide")) := g 20 _ rfl
  have m_compare : mg "compare" = some (.ref (ga K "compare")) := g 21 _ rfl
  have m_is_name : mg "is_name" = some (.ref (ga K "is_name")) := g 22 _ rfl
  have m_within_limit : mg "within_limit" = some (.ref (ga K "within_limit")) := g 23 _ rfl
  have m_is_value : mg "is_value" = some (.ref (ga K "is_value")) := g 24 _ rfl
  have m_has_word : mg "has_word" = some (.ref (ga K "has_word")) := g 25 _ rfl
  have m_kind_of_value : mg "kind_of_value" = some (.ref (ga K "kind_of_value")) := g 26 _ rfl
  have m_leaf_kind : mg "leaf_kind" = some (.ref (ga K "leaf_kind")) := g 27 _ rfl
  have m_check_operands : mg "check_operands" = some (.ref (ga K "check_operands")) := g 28 _ rfl
  have m_result_kind : mg "result_kind" = some (.ref (ga K "result_kind")) := g 29 _ rfl
  have m_kind_at : mg "kind_at" = some (.ref (ga K "kind_at")) := g 30 _ rfl
  have m_kind_of : mg "kind_of" = some (.ref (ga K "kind_of")) := g 31 _ rfl
  have m_kind_or_none : mg "kind_or_none" = some (.ref (ga K "kind_or_none")) := g 32 _ rfl
  have m_limited : mg "limited" = some (.ref (ga K "limited")) := g 33 _ rfl
  have m_plus : mg "plus" = some (.ref (ga K "plus")) := g 34 _ rfl
  have m_minus : mg "minus" = some (.ref (ga K "minus")) := g 35 _ rfl
  have m_times : mg "times" = some (.ref (ga K "times")) := g 36 _ rfl
  have m_over : mg "over" = some (.ref (ga K "over")) := g 37 _ rfl
  have m_less : mg "less" = some (.ref (ga K "less")) := g 38 _ rfl
  have m_same : mg "same" = some (.ref (ga K "same")) := g 39 _ rfl
  have m_both : mg "both" = some (.ref (ga K "both")) := g 40 _ rfl
  have m_either : mg "either" = some (.ref (ga K "either")) := g 41 _ rfl
  have m_evaluate : mg "evaluate" = some (.ref (ga K "evaluate")) := g 42 _ rfl
  have m_worth : mg "worth" = some (.ref (ga K "worth")) := g 43 _ rfl
  have m_worth_of_two : mg "worth_of_two" = some (.ref (ga K "worth_of_two")) := g 44 _ rfl
  have m_names_of : mg "names_of" = some (.ref (ga K "names_of")) := g 45 _ rfl
  have m_is_between : mg "is_between" = some (.ref (ga K "is_between")) := g 46 _ rfl
  have m_is_tuple_of : mg "is_tuple_of" = some (.ref (ga K "is_tuple_of")) := g 47 _ rfl
  have m_kind_in : mg "kind_in" = some (.ref (ga K "kind_in")) := g 48 _ rfl
  have m_are_columns : mg "are_columns" = some (.ref (ga K "are_columns")) := g 49 _ rfl
  have m_bounded : mg "bounded" = some (.ref (ga K "bounded")) := g 50 _ rfl
  have m_behind_keep : mg "behind_keep" = some (.ref (ga K "behind_keep")) := g 51 _ rfl
  have m_behind_set : mg "behind_set" = some (.ref (ga K "behind_set")) := g 52 _ rfl
  have m_behind_select : mg "behind_select" = some (.ref (ga K "behind_select")) := g 53 _ rfl
  have m_behind_rename : mg "behind_rename" = some (.ref (ga K "behind_rename")) := g 54 _ rfl
  have m_behind_sample : mg "behind_sample" = some (.ref (ga K "behind_sample")) := g 55 _ rfl
  have m_word_of : mg "word_of" = some (.ref (ga K "word_of")) := g 56 _ rfl
  have m_columns_behind : mg "columns_behind" = some (.ref (ga K "columns_behind")) := g 57 _ rfl
  have m_resolved : mg "resolved" = some (.ref (ga K "resolved")) := g 58 _ rfl
  have m_draw : mg "draw" = some (.ref (ga K "draw")) := g 59 _ rfl
  have m_places_of : mg "places_of" = some (.ref (ga K "places_of")) := g 60 _ rfl
  have m_picked : mg "picked" = some (.ref (ga K "picked")) := g 61 _ rfl
  have m_kept_rows : mg "kept_rows" = some (.ref (ga K "kept_rows")) := g 62 _ rfl
  have m_set_rows : mg "set_rows" = some (.ref (ga K "set_rows")) := g 63 _ rfl
  have m_selected_rows : mg "selected_rows" = some (.ref (ga K "selected_rows")) := g 64 _ rfl
  have m_all_rows : mg "all_rows" = some (.ref (ga K "all_rows")) := g 65 _ rfl
  have m_sampled_rows : mg "sampled_rows" = some (.ref (ga K "sampled_rows")) := g 66 _ rfl
  have m_run : mg "run" = some (.ref (ga K "run")) := g 67 _ rfl
  have m__law_tape : mg "_law_tape" = some (.ref (ga K "_law_tape")) := g 68 _ rfl
  have m__law_draw : mg "_law_draw" = some (.ref (ga K "_law_draw")) := g 69 _ rfl
  have m__law_lowest : mg "_law_lowest" = some (.ref (ga K "_law_lowest")) := g 70 _ rfl
  have m__law_rational : mg "_law_rational" = some (.ref (ga K "_law_rational")) := g 71 _ rfl
  have m__law_name : mg "_law_name" = some (.ref (ga K "_law_name")) := g 72 _ rfl
  have m__law_fresh : mg "_law_fresh" = some (.ref (ga K "_law_fresh")) := g 73 _ rfl
  have m__law_columns : mg "_law_columns" = some (.ref (ga K "_law_columns")) := g 74 _ rfl
  have m__law_value : mg "_law_value" = some (.ref (ga K "_law_value")) := g 75 _ rfl
  have m__law_values : mg "_law_values" = some (.ref (ga K "_law_values")) := g 76 _ rfl
  have m__law_leaf : mg "_law_leaf" = some (.ref (ga K "_law_leaf")) := g 77 _ rfl
  have m__law_expression : mg "_law_expression" = some (.ref (ga K "_law_expression")) := g 78 _ rfl
  have m__law_pick : mg "_law_pick" = some (.ref (ga K "_law_pick")) := g 79 _ rfl
  have m__law_set_step : mg "_law_set_step" = some (.ref (ga K "_law_set_step")) := g 80 _ rfl
  have m__law_sort_step : mg "_law_sort_step" = some (.ref (ga K "_law_sort_step")) := g 81 _ rfl
  have m__law_sample_step : mg "_law_sample_step" = some (.ref (ga K "_law_sample_step")) := g 82 _ rfl
  have m__law_keeping_step : mg "_law_keeping_step" = some (.ref (ga K "_law_keeping_step")) := g 83 _ rfl
  have m__law_lineage : mg "_law_lineage" = some (.ref (ga K "_law_lineage")) := g 84 _ rfl
  have m__law_calc : mg "_law_calc" = some (.ref (ga K "_law_calc")) := g 85 _ rfl
  have m__law_limited : mg "_law_limited" = some (.ref (ga K "_law_limited")) := g 86 _ rfl
  have m__law_flags : mg "_law_flags" = some (.ref (ga K "_law_flags")) := g 87 _ rfl
  have m__law_at : mg "_law_at" = some (.ref (ga K "_law_at")) := g 88 _ rfl
  have m__law_by_name : mg "_law_by_name" = some (.ref (ga K "_law_by_name")) := g 89 _ rfl
  have m__law_row_step : mg "_law_row_step" = some (.ref (ga K "_law_row_step")) := g 90 _ rfl
  have m__law_rows : mg "_law_rows" = some (.ref (ga K "_law_rows")) := g 91 _ rfl
  have m__law_plain_step : mg "_law_plain_step" = some (.ref (ga K "_law_plain_step")) := g 92 _ rfl
  have m__law_is : mg "_law_is" = some (.ref (ga K "_law_is")) := g 93 _ rfl
  have mf_sorted : mg "sorted" = none := z 112 _ rfl
  have mf_zip : mg "zip" = none := z 113 _ rfl
  have G3 : FnOk P w K mg base CX0 (1) _ fd3 ["value"] (spWhole) := ok_whole (fun_of D3) T
  have G4 : FnOk P w K mg base CX0 (1) _ fd4 ["a", "b"] (spCd) := ok_cd (fun_of D4)
  have G5 : FnOk P w K mg base CX0 (2) _ fd5 ["value"] (spIsR) := ok_isr (fun_of D5) T G3 m_is_whole D3.kp b3 G4 m_common_divisor D4.kp b4
  have G14 : FnOk P w K mg base CX0 (1) _ fd14 ["number"] (spWithin) := ok_within (fun_of D14) T mc3
  have G6 : FnOk P w K mg base CX0 (3) _ fd6 ["value"] (spChkQ) := ok_chkQ (fun_of D6) G5 m_is_rational D5.kp b5
  have G7 : FnOk P w K mg base CX0 (2) _ fd7 ["n", "d"] (spLow) := ok_low (fun_of D7) T G4 m_common_divisor D4.kp b4
  have R0 : Ar P w K mg base _ _ _ _ := ⟨G6, m_check_rational, D6.kp, b6, G7, m_lowest_terms, D7.kp, b7⟩
  have G8 : FnOk P w K mg base CX0 (4) _ fd8 ["a", "b"] (spBQ okAdd) := ok_add (fun_of D8) R0
  have G9 : FnOk P w K mg base CX0 (4) _ fd9 ["a", "b"] (spBQ okSub) := ok_sub (fun_of D9) R0
  have G10 : FnOk P w K mg base CX0 (4) _ fd10 ["a", "b"] (spBQ okMul) := ok_mul (fun_of D10) R0
  have G11 : FnOk P w K mg base CX0 (4) _ fd11 ["a", "b"] (spBQ okDiv) := ok_div (fun_of D11) R0
  have G12 : FnOk P w K mg base CX0 (4) _ fd12 ["a", "b"] (spBQ okCmp) := ok_cmp (fun_of D12) R0
  have G24 : FnOk P w K mg base CX0 (2) _ fd24 ["number"] (spLim) := ok_lim (fun_of D24) G14 m_within_limit D14.kp b14
  have G25 : FnOk P w K mg base CX0 (5) _ fd25 ["a", "b"] (spTwo "plus") := ok_plus (fun_of D25) G24 m_limited D24.kp b24 G8 m_add D8.kp b8
  have G26 : FnOk P w K mg base CX0 (5) _ fd26 ["a", "b"] (spTwo "minus") := ok_minus (fun_of D26) G24 m_limited D24.kp b24 G9 m_subtract D9.kp b9
  have G27 : FnOk P w K mg base CX0 (5) _ fd27 ["a", "b"] (spTwo "times") := ok_times (fun_of D27) G24 m_limited D24.kp b24 G10 m_multiply D10.kp b10
  have G28 : FnOk P w K mg base CX0 (5) _ fd28 ["a", "b"] (spTwo "over") := ok_over (fun_of D28) G24 m_limited D24.kp b24 G11 m_divide D11.kp b11
  have G29 : FnOk P w K mg base CX0 (5) _ fd29 ["a", "b"] (spTwo "less") := ok_less (fun_of D29) G12 m_compare D12.kp b12
  have G30 : FnOk P w K mg base CX0 (5) _ fd30 ["a", "b"] (spTwo "same") := ok_same (fun_of D30)
  have G31 : FnOk P w K mg base CX0 (5) _ fd31 ["a", "b"] (spTwo "both") := ok_both (fun_of D31)
  have G32 : FnOk P w K mg base CX0 (5) _ fd32 ["a", "b"] (spTwo "either") := ok_either (fun_of D32)
  have tS := tb 0 _ rfl
  have tL := tb 1 _ rfl
  have A2 : TwoA P w K mg base (ga K "STRICT") (ga K "LENIENT") := by
    refine ⟨m_STRICT, m_LENIENT, tL, fun x hx => ?_, fun x hx => ?_⟩
    · rcases hx with rfl | rfl | rfl | rfl | rfl | rfl
      · exact ⟨eqO_ok (a 0 rfl), _, kdct_of tS (eqO_ok (a 1 rfl)), ⟨⟨_, _, G25, D25.kp, b25⟩⟩⟩
      · exact ⟨eqO_ok (a 2 rfl), _, kdct_of tS (eqO_ok (a 3 rfl)), ⟨⟨_, _, G26, D26.kp, b26⟩⟩⟩
      · exact ⟨eqO_ok (a 4 rfl), _, kdct_of tS (eqO_ok (a 5 rfl)), ⟨⟨_, _, G27, D27.kp, b27⟩⟩⟩
      · exact ⟨eqO_ok (a 6 rfl), _, kdct_of tS (eqO_ok (a 7 rfl)), ⟨⟨_, _, G28, D28.kp, b28⟩⟩⟩
      · exact ⟨eqO_ok (a 8 rfl), _, kdct_of tS (eqO_ok (a 9 rfl)), ⟨⟨_, _, G29, D29.kp, b29⟩⟩⟩
      · exact ⟨eqO_ok (a 10 rfl), _, kdct_of tS (eqO_ok (a 11 rfl)), ⟨⟨_, _, G30, D30.kp, b30⟩⟩⟩
    · rcases hx with rfl | rfl
      · exact ⟨_, kdct_of tL (eqO_ok (a 12 rfl)), eqO_ok (a 12 rfl), ⟨⟨_, _, G31, D31.kp, b31⟩⟩⟩
      · exact ⟨_, kdct_of tL (eqO_ok (a 13 rfl)), eqO_ok (a 13 rfl), ⟨⟨_, _, G32, D32.kp, b32⟩⟩⟩
  have G35 : FnOk P w K mg base CX0 (6) _ fd35 ["word", "a", "b"] (spWt) := ok_wt (fun_of D35) A2
  have G34 : FnOk P w K mg base CX0 (6 + 8) _ fd34 ["row", "part"] (spWo 8) := ok_wo (fun_of D34) T G35 m_worth_of_two D35.kp b35 m_worth D34.kp b34 8
  have G33 : FnOk P w K mg base CX0 (15) _ fd33 ["columns", "values", "expression"] (spEv) := ok_ev (fun_of D33) mf_zip G34 m_worth D34.kp b34
  have G13 : FnOk P w K mg base CX0 (1) _ fd13 ["value"] (spName) := ok_name (fun_of D13) T mc0 mc1 mc2
  have G15 : FnOk P w K mg base CX0 (3) _ fd15 ["value", "kind"] (spValue) := ok_value (fun_of D15) G5 m_is_rational D5.kp b5 G14 m_within_limit D14.kp b14 G13 m_is_name D13.kp b13
  have tO := tb 2 _ rfl
  have OA : OpsA K w mg (ga K "OPERANDS") (ga K "PAIRED") := ⟨m_OPERANDS, tO, opsV_all (dt_ok tO (a 17 rfl)) (dt_ok tO (a 18 rfl)) (dt_ok tO (a 19 rfl)) (dt_ok tO (a 20 rfl)) (dt_ok tO (a 21 rfl)) (dt_ok tO (a 22 rfl)) (dt_ok tO (a 23 rfl)) (dt_ok tO (a 24 rfl)) (dt_ok tO (a 25 rfl)) (dt_ok tO (a 26 rfl)) (dt_ok tO (a 27 rfl)), m_PAIRED, (fun H => tupB_ok (a 15 rfl) H)⟩
  have G16 : FnOk P w K mg base CX0 (1) _ fd16 ["part"] (spHw) := ok_hw (fun_of D16) T
  have G17 : FnOk P w K mg base CX0 (4) _ fd17 ["value"] (spKv) := ok_kv (fun_of D17) T G15 m_is_value D15.kp b15 m_KINDS (fun H => tupB_ok (a 14 rfl) H)
  have G18 : FnOk P w K mg base CX0 (5) _ fd18 ["kinds", "part"] (spLk) := ok_lk (fun_of D18) T G17 m_kind_of_value D17.kp b17
  have G19 : FnOk P w K mg base CX0 (1) _ fd19 ["word", "found", "path"] (spCk) := ok_ck (fun_of D19) T OA
  have G20 : FnOk P w K mg base CX0 (1) _ fd20 ["word", "found"] (spRk) := ok_rk (fun_of D20) m_ARITHMETIC (fun H => tupB_ok (a 16 rfl) H)
  have G21 : FnOk P w K mg base CX0 (5 + 8) _ fd21 ["kinds", "part", "path"] (spKa 8) := ok_ka (fun_of D21) T OA mc4 G16 m_has_word D16.kp b16 G18 m_leaf_kind D18.kp b18 G19 m_check_operands D19.kp b19 G20 m_result_kind D20.kp b20 m_kind_at D21.kp b21 8
  have G22 : FnOk P w K mg base CX0 (14) _ fd22 ["columns", "expression"] (spKo) := ok_ko (fun_of D22) G21 m_kind_at D21.kp b21
  have G23 : FnOk P w K mg base CX0 (15) _ fd23 ["columns", "expression"] (spKo) := ok_Kn (fun_of D23) T m_BadExpression G22 m_kind_of D22.kp b22
  have Tb : TbF K mg (ga K "Table") _ := ⟨mkr_ok (a 28 rfl), cls_ok (a 29 rfl), noat_ok (a 30 rfl), noat_ok (a 31 rfl), m_Table⟩
  have G0 : FnOk P w K mg base CX0 (1) _ fd0 ["self", "columns", "rows"] (spTI (ga K "Table")) := ok_ti (fun_of D0) T Tb
  have G1 : FnOk P w K mg base CX0 (1) _ fd1 ["self"] (spTC (ga K "Table")) := ok_tc (fun_of D1) Tb
  have G2 : FnOk P w K mg base CX0 (1) _ fd2 ["self"] (spTR (ga K "Table")) := ok_tr (fun_of D2) T Tb
  have M : TbM P w K mg base (ga K "Table") := ⟨⟨_, _, Tb, G0, b0⟩, ⟨_, _, meth_ok (a 32 rfl), G1, b1⟩, ⟨_, _, meth_ok (a 33 rfl), G2, b2⟩⟩
  have Ic : IsiT K (ga K "Table") := ⟨eqO_ok (a 34 rfl), eqO_ok (a 35 rfl), of_decide_eq_true (a 36 rfl), of_decide_eq_true (a 37 rfl), of_decide_eq_true (a 38 rfl)⟩
  have t0 : ∃ es n, KDict K w (ga K "LENGTHS") es n := tb 3 _ rfl
  have t1 : ∃ es n, KDict K w (ga K "BEHIND") es n := tb 4 _ rfl
  have t2 : ∃ es n, KDict K w (ga K "ROWS_BEHIND") es n := tb 5 _ rfl
  have G36 : FnOk P w K mg base CX0 (1) _ fd36 ["columns"] (spNo) := ok_No (fun_of D36) T
  have G37 : FnOk P w K mg base CX0 (2) _ fd37 ["value", "low", "high"] (spBt) := ok_Bt (fun_of D37) T G3 m_is_whole D3.kp b3
  have G38 : FnOk P w K mg base CX0 (1) _ fd38 ["value", "low", "high"] (spTo) := ok_To (fun_of D38) T
  have G39 : FnOk P w K mg base CX0 (1) _ fd39 ["columns", "name"] (spKi) := ok_Ki (fun_of D39) T
  have G40 : FnOk P w K mg base CX0 (2) _ fd40 ["columns", "names"] (spAc) := ok_Ac (fun_of D40) T G39 m_kind_in D39.kp b39
  have G41 : FnOk P w K mg base CX0 (1) _ fd41 ["columns"] (spBd) := ok_Bd (fun_of D41) T mc5
  have G42 : FnOk P w K mg base CX0 (16) _ fd42 ["tables", "columns", "step"] (spBeh "keep") := ok_Bk (fun_of D42) T G23 m_kind_or_none D23.kp b23
  have G43 : FnOk P w K mg base CX0 (16) _ fd43 ["tables", "columns", "step"] (spBeh "set") := ok_Be (fun_of D43) T G23 m_kind_or_none D23.kp b23 G13 m_is_name D13.kp b13 G39 m_kind_in D39.kp b39 G41 m_bounded D41.kp b41
  have G44 : FnOk P w K mg base CX0 (3) _ fd44 ["tables", "columns", "step"] (spBeh "select") := ok_Bl (fun_of D44) T mc5 G38 m_is_tuple_of D38.kp b38 G40 m_are_columns D40.kp b40 G39 m_kind_in D39.kp b39
  have G45 : FnOk P w K mg base CX0 (2) _ fd45 ["tables", "columns", "step"] (spBeh "rename") := ok_Br (fun_of D45) T G39 m_kind_in D39.kp b39 G13 m_is_name D13.kp b13
  have G46 : FnOk P w K mg base CX0 (3) _ fd46 ["tables", "columns", "step"] (spBeh "sample") := ok_Bs (fun_of D46) T mc6 mc7 G37 m_is_between D37.kp b37
  have G47 : FnOk P w K mg base CX0 (1) _ fd47 ["step"] (spWd) := ok_Wd (fun_of D47) T
  have A2 : CbA P w K mg base (ga K "LENGTHS") (ga K "BEHIND") := by
    refine ⟨m_LENGTHS, m_BEHIND, t0, fun st pl => ?_, fun st pl => ?_⟩
    · cases st with
      | sort a u => exact pl.elim
      | keep e => exact di_ok t0 (a 39 rfl)
      | set x e => exact di_ok t0 (a 40 rfl)
      | select ns => exact di_ok t0 (a 41 rfl)
      | rename x y => exact di_ok t0 (a 42 rfl)
      | sample n m s => exact di_ok t0 (a 43 rfl)
    · cases st with
      | sort a u => exact pl.elim
      | keep e => exact ⟨_, kdct_of t1 (eqO_ok (a 44 rfl)), ⟨⟨_, _, G42.mono (by decide), D42.kp, b42⟩⟩⟩
      | set x e => exact ⟨_, kdct_of t1 (eqO_ok (a 45 rfl)), ⟨⟨_, _, G43.mono (by decide), D43.kp, b43⟩⟩⟩
      | select ns => exact ⟨_, kdct_of t1 (eqO_ok (a 46 rfl)), ⟨⟨_, _, G44.mono (by decide), D44.kp, b44⟩⟩⟩
      | rename x y => exact ⟨_, kdct_of t1 (eqO_ok (a 47 rfl)), ⟨⟨_, _, G45.mono (by decide), D45.kp, b45⟩⟩⟩
      | sample n m s => exact ⟨_, kdct_of t1 (eqO_ok (a 48 rfl)), ⟨⟨_, _, G46.mono (by decide), D46.kp, b46⟩⟩⟩
  have G48 : FnOk P w K mg base CX0 (17) _ fd48 ["tables", "columns", "step"] (spCb) := ok_Cb (fun_of D48) T A2 G47 m_word_of D47.kp b47
  have G49 : FnOk P w K mg base CX0 (1) _ fd49 ["pipeline", "setting"] (spRes) := ok_Res (fun_of D49) T
  have G50 : FnOk P w K mg base CX0 (1) _ fd50 ["seed", "lineage", "whole"] (spNum) := ok_Drw (fun_of D50) T
  have G51 : FnOk P w K mg base CX0 (2) _ fd51 ["columns", "names"] (spPo) := ok_Po (fun_of D51) T G36 m_names_of D36.kp b36
  have G52 : FnOk P w K mg base CX0 (1) _ fd52 ["values", "places"] (spPc) := ok_Pc (fun_of D52) T
  have G53 : FnOk P w K mg base CX0 (16) _ fd53 ["tables", "table", "step"] (spRb (ga K "Table") "keep") := ok_Kr (fun_of D53) T M G33 m_evaluate D33.kp b33
  have G54 : FnOk P w K mg base CX0 (16) _ fd54 ["tables", "table", "step"] (spRb (ga K "Table") "set") := ok_Tr (fun_of D54) T M G33 m_evaluate D33.kp b33 G36 m_names_of D36.kp b36
  have G55 : FnOk P w K mg base CX0 (3) _ fd55 ["tables", "table", "step"] (spRb (ga K "Table") "select") := ok_Er (fun_of D55) T M G51 m_places_of D51.kp b51 G52 m_picked D52.kp b52
  have G56 : FnOk P w K mg base CX0 (3) _ fd56 ["tables", "table", "step"] (spRb (ga K "Table") "rename") := ok_Ar (fun_of D56) T M
  have G57 : FnOk P w K mg base CX0 (3) _ fd57 ["tables", "table", "step"] (spRb (ga K "Table") "sample") := ok_Sr (fun_of D57) T M G50 m_draw D50.kp b50
  have A3 : RbA P w K mg base (ga K "Table") (ga K "ROWS_BEHIND") (rbG K) := by
    refine ⟨m_ROWS_BEHIND, fun x hx => ?_, fun x hx => ?_, rb_inj (of_decide_eq_true (a 49 rfl))⟩
    · rcases rbW_cases hx with rfl | rfl | rfl | rfl | rfl
      · rw [rbG_keep]; exact kdct_of t2 (eqO_ok (a 50 rfl))
      · rw [rbG_set]; exact kdct_of t2 (eqO_ok (a 51 rfl))
      · rw [rbG_select]; exact kdct_of t2 (eqO_ok (a 52 rfl))
      · rw [rbG_rename]; exact kdct_of t2 (eqO_ok (a 53 rfl))
      · rw [rbG_sample]; exact kdct_of t2 (eqO_ok (a 54 rfl))
    · rcases rbW_cases hx with rfl | rfl | rfl | rfl | rfl
      · rw [rbG_keep]; exact ⟨⟨_, _, G53.mono (by decide), D53.kp, b53⟩⟩
      · rw [rbG_set]; exact ⟨⟨_, _, G54.mono (by decide), D54.kp, b54⟩⟩
      · rw [rbG_select]; exact ⟨⟨_, _, G55.mono (by decide), D55.kp, b55⟩⟩
      · rw [rbG_rename]; exact ⟨⟨_, _, G56.mono (by decide), D56.kp, b56⟩⟩
      · rw [rbG_sample]; exact ⟨⟨_, _, G57.mono (by decide), D57.kp, b57⟩⟩
  have G58 : FnOk P w K mg base CX0 (18) _ fd58 ["tables", "pipeline", "setting"] (spRun (ga K "Table")) := ok_Run (He5.fun_of D58) T M A3 G49 m_resolved D49.kp b49 G48 m_columns_behind D48.kp b48
  have G59 : FnOk P w K mg base CX0 (1) _ fd59 ["_law_script"] (spTape K) := ok_tape (fun_of D59) T
  have G60 : FnOk P w K mg base CX0 (1) _ fd60 ["_law_tape_here", "_law_many"] (spDrawL) := ok_draw (fun_of D60) T
  have G61 : FnOk P w K mg base CX0 (1) _ fd61 ["_law_n", "_law_d"] (spLowest) := ok_lst (fun_of D61) T
  have G62 : FnOk P w K mg base CX0 (2) _ fd62 ["_law_tape_here", "_law_wide"] (spRatL) := ok_rat (fun_of D62) T G60 m__law_draw D60.kp b60 G61 m__law_lowest D61.kp b61
  have G63 : FnOk P w K mg base CX0 (2) _ fd63 ["_law_tape_here"] (spLNm) := ok_lnm (fun_of D63) T G60 m__law_draw D60.kp b60
  have G64 : FnOk P w K mg base CX0 (3) _ fd64 ["_law_tape_here", "_law_taken"] (spFr) := ok_fr (fun_of D64) G63 m__law_name D63.kp b63
  have G65 : FnOk P w K mg base CX0 (4) _ fd65 ["_law_tape_here", "_law_lead", "_law_many", "_law_taken"] (spCls) := ok_cls (fun_of D65) T G60 m__law_draw D60.kp b60 G64 m__law_fresh D64.kp b64
  have G66 : FnOk P w K mg base CX0 (3) _ fd66 ["_law_tape_here", "_law_kind", "_law_wide"] (spVal) := ok_lv (fun_of D66) G60 m__law_draw D60.kp b60 G62 m__law_rational D62.kp b62 G63 m__law_name D63.kp b63
  have G67 : FnOk P w K mg base CX0 (4) _ fd67 ["_law_tape_here", "_law_columns_here", "_law_wide"] (spVals) := ok_lvs (fun_of D67) T G66 m__law_value D66.kp b66
  have G68 : FnOk P w K mg base CX0 (3) _ fd68 ["_law_tape_here", "_law_columns_here", "_law_kind"] (spLf) := ok_lf (fun_of D68) T G60 m__law_draw D60.kp b60 G62 m__law_rational D62.kp b62
  have G69 : FnOk P w K mg base CX0 (6) _ fd69 ["_law_tape_here", "_law_columns_here", "_law_kind", "_law_depth"] (spXp 3) := ok_XpN (fun_of D69) T G60 m__law_draw D60.kp b60 G68 m__law_leaf D68.kp b68 m__law_expression D69.kp b69 3
  have G70 : FnOk P w K mg base CX0 (2) _ fd70 ["_law_tape_here", "_law_items", "_law_many"] (spPk) := ok_Pk (fun_of D70) T G60 m__law_draw D60.kp b60
  have G71 : FnOk P w K mg base CX0 (7) _ fd71 ["_law_tape_here", "_law_columns_here"] (spKs) := ok_Sst (fun_of D71) T G60 m__law_draw D60.kp b60 G64 m__law_fresh D64.kp b64 G69 m__law_expression D69.kp b69
  have G72 : FnOk P w K mg base CX0 (2) _ fd72 ["_law_tape_here", "_law_columns_here"] (spSrt) := ok_Srt (fun_of D72) T G60 m__law_draw D60.kp b60
  have G73 : FnOk P w K mg base CX0 (2) _ fd73 ["_law_tape_here"] (spSmp) := ok_Smp (fun_of D73) T G60 m__law_draw D60.kp b60
  have G74 : FnOk P w K mg base CX0 (8) _ fd74 ["_law_tape_here", "_law_columns_here"] (spKs) := ok_Ksp (fun_of D74) T G60 m__law_draw D60.kp b60 G70 m__law_pick D70.kp b70 G64 m__law_fresh D64.kp b64 G69 m__law_expression D69.kp b69 G73 m__law_sample_step D73.kp b73 G72 m__law_sort_step D72.kp b72 G71 m__law_set_step D71.kp b71
  have G75 : FnOk P w K mg base CX0 (2) _ fd75 ["_law_tape_here"] (spFar) := ok_Far (fun_of D75) T mf_sorted G60 m__law_draw D60.kp b60
  have G77 : FnOk P w K mg base CX0 (1) _ fd77 ["_law_number"] (spLlm) := ok_Lli (fun_of D77) T
  have G76 : FnOk P w K mg base CX0 (2) _ fd76 ["_law_word", "_law_a", "_law_b"] (spAri) := ok_Cal (fun_of D76) T G61 m__law_lowest D61.kp b61 G77 m__law_limited D77.kp b77
  have G78 : FnOk P w K mg base CX0 (1) _ fd78 ["_law_word", "_law_a", "_law_b"] (spFlg) := ok_Flg (fun_of D78) T
  have G79 : FnOk P w K mg base CX0 (6) _ fd79 ["_law_row", "_law_expression_here"] (spWo 3) := ok_AtN (fun_of D79) T m__law_at D79.kp b79 G78 m__law_flags D78.kp b78 G76 m__law_calc D76.kp b76 3
  have G80 : FnOk P w K mg base CX0 (1) _ fd80 ["_law_columns_here", "_law_values_here"] (spByn) := ok_Byn (fun_of D80) T
  have G81 : FnOk P w K mg base CX0 (7) _ fd81 ["_law_columns_here", "_law_rows_here", "_law_step"] (spRst) := ok_Rst (fun_of D81) T G80 m__law_by_name D80.kp b80 G79 m__law_at D79.kp b79
  have G82 : FnOk P w K mg base CX0 (5) _ fd82 ["_law_tape_here", "_law_columns_here", "_law_many", "_law_wide"] (spRws) := ok_Rws (fun_of D82) T G67 m__law_values D67.kp b67 G75 m__law_lineage D75.kp b75 G60 m__law_draw D60.kp b60
  have G83 : FnOk P w K mg base CX0 (9) _ fd83 ["_law_tape_here", "_law_columns_here"] (spPls) := ok_Pls (fun_of D83) T G60 m__law_draw D60.kp b60 G74 m__law_keeping_step D74.kp b74
  have G84 : FnG P w K mg base (2) _ fd84 ["_law_table", "_law_columns_here", "_law_rows_here"] (spIs (ga K "Table")) := ok_Is (fun_of D84) T M Ic
  exact ok_Law (fun_of D85) T M G58 m_run D58.kp b58 v58 G59 m__law_tape D59.kp b59 G60 m__law_draw D60.kp b60 G65 m__law_columns D65.kp b65 G82 m__law_rows D82.kp b82 G83 m__law_plain_step D83.kp b83 G81 m__law_row_step D81.kp b81 G84 m__law_is D84.kp b84
end K16
open PySem PySem.W PySem.Calls PyProof.Rows
theorem PySem.Challenge.cw_liveclaims_k16_kept_and_set_rows_holds : PySem.Challenge.rw_liveclaims_k16_kept_and_set_rows.Holds := by
  w_on; o_law
  refine HandSHeadRun.head_any (r := OpenLaw.row PySem.Challenge.rw_liveclaims_k16_kept_and_set_rows) (q := view (OpenLaw.row PySem.Challenge.rw_liveclaims_k16_kept_and_set_rows).prog [150]) (H := K16.hk) (ob := K16.ob) (M := 20000) (loose := K16.loose) (d := HandSHeadRun.topDef (OpenLaw.row PySem.Challenge.rw_liveclaims_k16_kept_and_set_rows).prog 150) (kwd := []) K16.ob_eq
    (by kernel_rfl) (fun s => by kernel_rfl) K16.run (by kernel_rfl) (by kernel_rfl) (by kernel_rfl) (by rfl) (by first | assumption | decide +kernel) (by decide +kernel) ⟨rfl, rfl, rfl, rfl, rfl, by decide +kernel⟩ ?hw ?hc
  case hw => w_witness2
  case hc =>
    refine Lc.walk_GE (l := PySem.Challenge.rw_liveclaims_k16_kept_and_set_rows) (n := 63) (k := 19) (x := "_law_script") rfl (by decide) (by kernel_rfl) ⟨rfl, by decide, by decide⟩ ?F
    intro w mg fa h Y G hmg0
    obtain ⟨K, KX, c, e, tb⟩ := Y
    have hmg : mg ("law" : PySem.Str) = some (.ref fa) := by
      have e : (HandSHeadRun.topDef (OpenLaw.row PySem.Challenge.rw_liveclaims_k16_kept_and_set_rows).prog 150).name = ("law" : PySem.Str) := by kernel_rfl
      rw [← e]
      exact hmg0
    obtain ⟨fd, hb, hF⟩ := K16.facts (P := (PySem.Challenge.rw_liveclaims_k16_kept_and_set_rows).prog) (w := w) KX G hmg c e tb
    exact ⟨K, fd, K16.spLaw K, KX, hb, fun H a ns hl hS => ⟨a, ns, rfl, hS, fun _ => rfl⟩, hF⟩
