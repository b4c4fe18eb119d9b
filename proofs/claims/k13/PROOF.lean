import PyProof.Rows.All
import Wide.All
import OpenK.AllK
import Wide.FinOn
import HandS.ForMost
import HandS.ForExc
import HandS.Wide
import HandS.Flow
import HandS.IsInst
import HandS.ExcInit
import HandS.ExcField
import HandS.ExcIs
import HandS.TryMany
import HandS.CallLocal
import HandS.RaiseMore
import HandS.CallSlots
import KE.KExcIs
import PyProof.ReprRoads
import PyProof.ReprText
import HandS.Evl
import HandS.Walk
import HandS.Style
import PyProof.StrBlock2
import PyProof.StrLawsRepr
import PyProof.ReprLen
import KE.GoesEnum
import HandS.Iter
import HandS.TupMul
import HandS.ListItems
import HandS.OwnIter
import HandS.More
import PyProof.InstSpecial
import HandS.Defaults
import HandS.DictComp
import HandS.Zip
import KE.KIntText
import PyProof.StrLawsTight
import PyProof.StrLawsChain
import HandS.StrMore
import HandS.Replace
import HandS.Dict
import KE.KDictPairs
import HandS.TupSets
import HandS.Strs
import HandS.Comp
import KE.GoesRaise
import OpenK.KMore
import HandS.ExcOwn
import HandS.Head0
import HandS.Head1
import HandS.Head2
import HandS.HeadHook1
import HandS.HeadHook2
import KE.KStateDown
import HandS.HeadHook3
import HandS.HeadNt
import HandS.MakeKwOnly
import HandS.WrittenGet
import HandS.TupAny
import HandS.TryOnly
import PySem.Challenge.RW_liveclaims_k13_checked_columns
set_option maxRecDepth 100000
set_option maxHeartbeats 4000000
set_option linter.all false
namespace Lc
/-! ## Greatest common divisors and lowest terms -/
def gd (a b : Int) : Int := (Int.gcd a b : Int)
theorem gd_nonneg (a b : Int) : 0 ≤ gd a b := Int.natCast_nonneg _
theorem gd_pos {a b : Int} (h : b ≠ 0) : 0 < gd a b := by
  have : 0 < Int.gcd a b := Int.gcd_pos_of_ne_zero_right a h
  unfold gd
  omega
theorem gd_zero {a : Int} (h : 0 ≤ a) : gd a 0 = a := by
  unfold gd
  rw [Int.gcd_zero_right]
  omega
theorem gd_step {a b : Int} (ha : 0 ≤ a) (hb : 0 < b) : gd b (a % b) = gd a b := by
  unfold gd Int.gcd
  have e1 : (a % b).natAbs = a.natAbs % b.natAbs := by
    have h0 : 0 ≤ a % b := Int.emod_nonneg a (by omega)
    have : ((a % b).natAbs : Int) = ((a.natAbs % b.natAbs : Nat) : Int) := by
      rw [Int.natCast_emod, Int.natAbs_of_nonneg h0, Int.natAbs_of_nonneg ha, Int.natAbs_of_nonneg (by omega : 0 ≤ b)]
    exact Int.ofNat.inj this
  rw [e1, Nat.gcd_comm b.natAbs, ← Nat.gcd_rec, Nat.gcd_comm]
theorem gd_abs (a b : Int) : gd (if a < 0 then -a else a) b = gd a b := by
  unfold gd
  split
  · rw [Int.neg_gcd]
  · rfl
theorem gd_abs2 (a b : Int) : gd a (if b < 0 then -b else b) = gd a b := by
  unfold gd
  split
  · rw [Int.gcd_neg]
  · rfl
theorem gd_dvd1 (a b : Int) : gd a b ∣ a := Int.gcd_dvd_left a b
theorem gd_dvd2 (a b : Int) : gd a b ∣ b := Int.gcd_dvd_right a b
theorem gd_natAbs_le {a b : Int} (h : b ≠ 0) : (gd a b).natAbs ≤ b.natAbs := by
  have h1 : Int.gcd a b ≤ b.natAbs := Nat.le_of_dvd (by omega) (Int.gcd_dvd_natAbs_right a b)
  unfold gd
  rw [Int.natAbs_natCast]
  exact h1
def lowN (n d : Int) : Int := n / gd n d
def lowD (n d : Int) : Int := d / gd n d
structure Rt (n d : Int) : Prop where
  pos : 0 < d
  cop : gd n d = 1
theorem low_mul {n d : Int} (h : d ≠ 0) : lowN n d * gd n d = n ∧ lowD n d * gd n d = d := ⟨Int.ediv_mul_cancel (gd_dvd1 n d), Int.ediv_mul_cancel (gd_dvd2 n d)⟩
theorem lowD_pos {n d : Int} (h : 0 < d) : 0 < lowD n d := Int.ediv_pos_of_pos_of_dvd h (gd_nonneg n d) (gd_dvd2 n d)
theorem low_rt {n d : Int} (h : 0 < d) : Rt (lowN n d) (lowD n d) := by
  refine ⟨lowD_pos h, ?_⟩
  have hg : 0 < Int.gcd n d := Int.gcd_pos_of_ne_zero_right n (by omega)
  unfold lowN lowD gd
  rw [Int.gcd_ediv_gcd_ediv_gcd hg]
  rfl
theorem dvd_cop {k m n : Int} (h : k ∣ n * m) (g : Int.gcd m k = 1) : k ∣ n := by
  have h1 : k.natAbs ∣ m.natAbs * n.natAbs := by
    rw [← Int.natAbs_mul, Int.mul_comm]
    exact Int.natAbs_dvd_natAbs.mpr h
  have c : Nat.Coprime k.natAbs m.natAbs := by
    show Nat.gcd k.natAbs m.natAbs = 1
    rw [Nat.gcd_comm]
    exact g
  exact Int.natAbs_dvd_natAbs.mp (c.dvd_of_dvd_mul_left h1)
/-- lowest terms are one pair alone -/
theorem rt_unique {a b c d : Int} (h1 : Rt a b) (h2 : Rt c d) (e : a * d = c * b) : a = c ∧ b = d := by
  have g1 : Int.gcd a b = 1 := by have := h1.cop; unfold gd at this; omega
  have g2 : Int.gcd c d = 1 := by have := h2.cop; unfold gd at this; omega
  have db : b ∣ d := by
    have : b ∣ d * a := ⟨c, by rw [Int.mul_comm d a, e, Int.mul_comm]⟩
    exact dvd_cop this g1
  have dd : d ∣ b := by
    have : d ∣ b * c := ⟨a, by rw [Int.mul_comm b c, ← e, Int.mul_comm]⟩
    exact dvd_cop this g2
  have hb := h1.pos
  have hd := h2.pos
  have ebd : b = d := Int.le_antisymm (Int.le_of_dvd hd db) (Int.le_of_dvd hb dd)
  subst ebd
  exact ⟨Int.eq_of_mul_eq_mul_right (by omega) e, rfl⟩
theorem low_is {n d a b : Int} (hd : 0 < d) (h : Rt a b) (e : n * b = a * d) : lowN n d = a ∧ lowD n d = b := by
  have m := low_mul (n := n) (d := d) (by omega)
  have g := gd_pos (a := n) (b := d) (by omega)
  refine rt_unique (low_rt hd) h ?_
  have e2 : (lowN n d * b) * gd n d = (a * lowD n d) * gd n d := by
    rw [Int.mul_right_comm, m.1, Int.mul_assoc, m.2, e]
  exact Int.eq_of_mul_eq_mul_right (by omega) e2
theorem fdiv_neg_dvd {a g : Int} (hg : 0 < g) (h : g ∣ a) : a.fdiv (-g) = (-a) / g := by
  obtain ⟨m, rfl⟩ := h
  have e1 : g * m = (-g) * (-m) := by rw [Int.neg_mul_neg]
  have e2 : -(g * m) = g * (-m) := by rw [Int.mul_neg]
  rw [e2, Int.mul_ediv_cancel_left _ (by omega), e1, Int.mul_fdiv_cancel_left _ (by omega)]
/-- the sums and products of the law -/
theorem sub_add {an ad bn bd p q : Int} (had : 0 < ad) (hbd : 0 < bd) (hq : 0 < q) (h : p * (ad * bd) = (an * bd + bn * ad) * q) : (p * bd - bn * q) * ad = an * (q * bd) := by
  have e1 : (p * bd - bn * q) * ad = p * (ad * bd) - bn * q * ad := by
    rw [Int.sub_mul, Int.mul_assoc p bd ad, Int.mul_comm bd ad]
  have e2 : (an * bd + bn * ad) * q = an * (q * bd) + bn * q * ad := by
    rw [Int.add_mul, Int.mul_assoc an bd q, Int.mul_comm bd q, Int.mul_assoc bn ad q, Int.mul_comm ad q, Int.mul_assoc bn q ad]
  rw [e1, h, e2]
  omega
theorem mul_div {an ad bn bd p q : Int} (h : p * (ad * bn) = (an * bd) * q) (hbn : bn ≠ 0) : (p * bn) * ad = an * (q * bd) := by
  rw [Int.mul_assoc p bn ad, Int.mul_comm bn ad, h, Int.mul_assoc an bd q, Int.mul_comm bd q]
end Lc
namespace Lc
theorem low_le {n d : Int} (h : d ≠ 0) : (lowN n d).natAbs ≤ n.natAbs ∧ (lowD n d).natAbs ≤ d.natAbs := by
  have m := low_mul (n := n) (d := d) h
  have g := gd_pos (a := n) (b := d) h
  have e1 : n.natAbs = (lowN n d).natAbs * (gd n d).natAbs := by rw [← Int.natAbs_mul, m.1]
  have e2 : d.natAbs = (lowD n d).natAbs * (gd n d).natAbs := by rw [← Int.natAbs_mul, m.2]
  have gp : 0 < (gd n d).natAbs := by omega
  exact ⟨by rw [e1]; exact Nat.le_mul_of_pos_right _ gp, by rw [e2]; exact Nat.le_mul_of_pos_right _ gp⟩
theorem rt_one (n : Int) : Rt n 1 := ⟨by decide, by unfold gd; rw [Int.gcd_one]; rfl⟩
theorem rt_inv {d : Int} (h : 0 < d) : Rt 1 d := ⟨h, by unfold gd; rw [Int.one_gcd]; rfl⟩
theorem rt_ninv {d : Int} (h : 0 < d) : Rt (-1) d := ⟨h, by unfold gd; rw [Int.neg_gcd, Int.one_gcd]; rfl⟩
end Lc
set_option Elab.async false
set_option linter.all false
set_option maxRecDepth 100000
set_option maxHeartbeats 4000000
namespace Lc
open PySem PySem.Spec PyProof.Rows L2
/-! ## A try with clauses of both forms, «except X:» and «except X as n:» -/
structure Cl where
  c : Value
  slot : Option Nat
  ts : Addr → Value → Option Addr → TS
def putS : Option Nat → Option V → L2.St → L2.St
  | none, _, σ => σ
  | some i, v, σ => σ.set i v
def endS (q : Option Nat) (D : Ends) : Ends := ⟨fun σ H => D.nx (putS q none σ) H, D.rt, fun σ H => D.bk (putS q none σ) H, fun σ H => D.ct (putS q none σ) H⟩
def wCl (K : PySem.W.Frag) (Wout : WX) (D : Ends) : List Cl → WX
  | [] => Wout
  | q :: r => fun cls d σ H => ∃ b, PySem.W.exmOne K cls q.c = some b ∧ (b = true → ∀ a, H a = none → q.ts a cls d (endS q.slot D) (putS q.slot (some (.ref a)) σ) H) ∧
      (b = false → wCl K Wout D r cls d σ H)
abbrev SuiteOk (X : Cx) (st : List Stmt) (ts : Addr → Value → Option Addr → TS) : Prop :=
  ∀ (a : Addr) (ob : Obj) (cls : Value) (d : Option Addr) (pn : List (Addr × Obj)), Zc cls d ob → (∃ vs, ob.data = .fields vs) → PSs (X.suite a ((a, ob) :: pn)) st (ts a cls d)
inductive ClsOk (X : Cx) : List ExceptHandler → List Cl → Prop
  | nil : ClsOk X [] []
  | bare {x : Str} {q : Cl} {st : Stmt} {sts : List Stmt} {p1 p2 : Pos} {hds : List ExceptHandler} {l : List Cl} (hc : Names X x q.c) (hq : q.slot = none) (su : SuiteOk X (st :: sts) q.ts) (r : ClsOk X hds l) :
      ClsOk X (.ExceptHandler (some (.Name x p1)) none (st :: sts) p2 :: hds) (q :: l)
  | named {x n : Str} {q : Cl} {i : Nat} {st : Stmt} {sts : List Stmt} {p1 p2 : Pos} {hds : List ExceptHandler} {l : List Cl} (hc : Names X x q.c) (hq : q.slot = some i) (hN : X.N.Nodup) (hi : X.N[i]? = some n) (hn : X.env.kindOf n = some .local)
      (su : SuiteOk X (st :: sts) q.ts) (r : ClsOk X hds l) : ClsOk X (.ExceptHandler (some (.Name x p1)) (some n) (st :: sts) p2 :: hds) (q :: l)
section
variable {X : Cx}
theorem clauses_go {Wout : WX} {D : Ends} {pins : List (Addr × Obj)} {σ : L2.St} {H : Hp} {cls : Value} {d : Option Addr} {a : Addr} {B : Heap} {sI s' : Shared} {h3 : Heap}
    (hs : X.stack = X.env :: X.outer) (hf : X.env.frame = some X.env.locals) (tk : Takes X Wout) (J : Inv X pins σ H sI)
    (nb : ∀ b o, sI.heap.get? b = some o → b ∉ frs X.stack → B.get? b = some o) (na : H a = none) (os : s'.os = sI.os) (ag : AllBare s'.gens)
    (up : sI.heap.UpToSlots h3) (fl : HandSPX.FlyingZ B (X.env :: X.outer) a (Zc cls d) h3) :
    ∀ {hds : List ExceptHandler} {l : List Cl}, ClsOk X hds l → wCl X.K Wout D l cls d σ H → wpAny (model X.prog X.w) X.A (handleBy (.ref a) X.env hds) (SP X pins D) X.xe { s' with heap := h3 } := by
  have ok := J.ok
  have land : ∀ {h4 : Heap}, HandSPX.FlyingZ B (X.env :: X.outer) a (Zc cls d) h4 → sI.heap.UpToSlots h4 → Inv X pins σ H { s' with heap := h4 } ∧ ∃ ob vs, Zc cls d ob ∧ ob.data = .fields vs ∧ h4.get? a = some ob ∧
      Inv (X.suite a ((a, ob) :: (X.pn ++ pins))) [] σ H { s' with heap := h4 } := by
    intro h4 f4 u4
    have J4 : Inv X pins σ H { s' with heap := h4 } := J.landed nb f4.1 u4 os ag
    obtain ⟨ob, vs, hob, hz, hd⟩ := f4.there
    have nfr : a ∉ frs (X.env :: X.outer) := fun hm => by
      obtain ⟨_, ox, ex, nf⟩ := f4.2.2.1.mem hm
      rw [hob] at ex
      cases ex
      exact nf _ hd
    have nL : a ≠ X.env.locals := fun z => nfr (List.mem_filterMap.mpr ⟨X.env, List.mem_cons_self, by rw [hf, z]⟩)
    have nF : a ∉ X.fs := fun hm => by
      obtain ⟨en, hen, qq⟩ := List.mem_filterMap.mp hm
      exact nfr (List.mem_filterMap.mpr ⟨en, List.mem_cons_of_mem _ hen, qq⟩)
    exact ⟨J4, ob, vs, hz, hd, hob, J4.suite hob hd na nL nF⟩
  obtain ⟨J3, o3, vs3, hz3, hd3, ho3, S3⟩ := land fl up
  have ty : PySem.W.Looks (model X.prog X.w) h3 (typeOf (.ref a)) cls := fun _ _ _ _ kk qq => wpAny_typeOf_ref (kk _ _ ho3) (by rw [hz3.1]; exact qq)
  have tst : ∀ {x : Str} {c : Value} {p1 : Pos} {Q : Value → Shared → Prop} {E : Value → Shared → Prop}, Names X x c → Q c { s' with heap := h3 } →
      wpAny (model X.prog X.w) (X.A.mark (some (.ref a))) (eval (.Name x p1) X.env) Q E { s' with heap := h3 } := by
    intro x c p1 Q E hc hq
    rcases hc with ⟨hg, hdb, hm | ⟨hm, hv, hne⟩⟩
    · exact ld_glob (X := X.suite a ((a, o3) :: (X.pn ++ pins))) S3 hg hm hq hdb
    · exact ld_blt (X := X.suite a ((a, o3) :: (X.pn ++ pins))) S3 hg hm hv hq hne hdb
  intro hds l hk
  induction hk with
  | nil =>
    intro wi
    refine wpAny_handleBy_nil ?_
    obtain ⟨_, _, _, ox, vx, T, _, _, hox, _, hdx, h1, _⟩ := id fl
    have out : wpAny (model X.prog X.w) X.A (setFlight (.ref a) X.env.frame) (fun _ s4 => wpAny (model X.prog X.w) X.A (throw (.ref a) : Sem Flow) (SP X pins D) X.xe s4) X.xe { s' with heap := h3 } := by
      rw [hf]
      exact HandSPX.setFlight_upZ fl fun h4 f4 u4 => wpAny_throw (tk _ _ ⟨a, B, sI, pins, σ, H, cls, d, rfl, J, nb, up.trans u4, .inr (.inr (by rw [hs]; exact f4)), na, os, ag, wi⟩)
    unfold PySem.passOn
    refine wpAny_bind (wpAny_field hox hdx h1 ?_)
    rw [if_neg (by simp : ¬ ((Value.ref T == Value.none) = true))]
    first
      | exact wpAny_bind out
      | exact wpAny_bind (wpAny_pure (wpAny_bind out))
  | @bare x q st sts p1 p2 hds2 l2 hc hq su r ih =>
    intro wi
    obtain ⟨b, hb, yes, no⟩ := wi
    refine wpAny_handleBy_cons (codeAny_handlers_test (tst hc ((PySem.W.exm_one (M := model X.prog X.w) J3.kIn ty hb).here ?_))) (by intro z; cases z)
    cases b with
    | false => exact ih (no rfl)
    | true =>
      refine codeAny_handlers_suite (HandSPX.lands_againZ fl fun h4 f4 u4 => ?_)
      obtain ⟨J4, o4, vs4, hz4, hd4, ho4, S4⟩ := land f4 (up.trans u4)
      have yy := yes rfl a na
      rw [hq] at yy
      refine wpAny_mono ((su a o4 cls d (X.pn ++ pins) hz4 ⟨_, hd4⟩).run [] _ _ H _ S4 yy) (fun f s6 hsp => ?_) (fun _ _ z => z.elim)
      cases f with
      | ret u =>
        obtain ⟨v6, σ6, H6, S6, r6, q6⟩ := hsp
        exact ⟨v6, σ6, H6, S6.unsuite ok, r6, q6⟩
      | next => obtain ⟨σ6, H6, S6, q6⟩ := hsp; exact ⟨σ6, H6, S6.unsuite ok, q6⟩
      | brk => obtain ⟨σ6, H6, S6, q6⟩ := hsp; exact ⟨σ6, H6, S6.unsuite ok, q6⟩
      | cont => obtain ⟨σ6, H6, S6, q6⟩ := hsp; exact ⟨σ6, H6, S6.unsuite ok, q6⟩
  | @named x n q i st sts p1 p2 hds2 l2 hc hq hN hi hn su r ih =>
    intro wi
    obtain ⟨b, hb, yes, no⟩ := wi
    refine wpAny_handleBy_cons (codeAny_handlers_test (tst hc ((PySem.W.exm_one (M := model X.prog X.w) J3.kIn ty hb).here ?_))) (by intro z; cases z)
    cases b with
    | false => exact ih (no rfl)
    | true =>
      refine codeAny_handlers_suite_as (HandSPX.lands_againZ fl fun h4 f4 u4 => ?_)
      obtain ⟨J4, o4, vs4, hz4, hd4, ho4, S4⟩ := land f4 (up.trans u4)
      have yy := yes rfl a na
      rw [hq] at yy
      refine store_ok (X := X.suite a ((a, o4) :: (X.pn ++ pins))) (v := .ref a) S4 hN hi (.inl hn) rfl (fun s5 S5 => ?_) (.inr hn)
      refine wpAny_mono ((su a o4 cls d (X.pn ++ pins) hz4 ⟨_, hd4⟩).run [] s5 _ H _ S5 yy) (fun f s6 hsp => ?_) (fun _ _ z => z.elim)
      have fin : ∀ {σ6 : L2.St} {H6 : Hp} {Q : Shared → Prop}, Inv (X.suite a ((a, o4) :: (X.pn ++ pins))) [] σ6 H6 s6 → (∀ s7, Inv X pins (σ6.set i none) H6 s7 → Q s7) →
          wpAny (model X.prog X.w) X.A (do bindName X.env n .none; unbindBehindTheSuite X.env n p2) (fun _ s7 => Q s7) X.xe s6 := fun S6 k => gone_ok (S6.unsuite ok) hN hi hn k
      cases f with
      | ret u =>
        obtain ⟨v6, σ6, H6, S6, r6, q6⟩ := hsp
        exact fin S6 fun s7 J7 => ⟨_, _, _, J7, r6, q6⟩
      | next => obtain ⟨σ6, H6, S6, q6⟩ := hsp; exact fin S6 fun s7 J7 => ⟨_, _, J7, q6⟩
      | brk => obtain ⟨σ6, H6, S6, q6⟩ := hsp; exact fin S6 fun s7 J7 => ⟨_, _, J7, q6⟩
      | cont => obtain ⟨σ6, H6, S6, q6⟩ := hsp; exact fin S6 fun s7 J7 => ⟨_, _, J7, q6⟩
theorem ps_tryL {body : List Stmt} {h₀ : ExceptHandler} {hds : List ExceptHandler} {l : List Cl} {pos : Pos} {tb : WX → TS} {Wout : WX} (hs : X.stack = X.env :: X.outer) (hf : X.env.frame = some X.env.locals) (tk : Takes X Wout)
    (hb : ∀ (W : WX) (pn : List (Addr × Obj)) (xe : Value → Shared → Prop), Takes (X.tr pn xe) W → PassesOwn (model X.prog X.w) X.A X.env xe → PSs (X.tr pn xe) body (tb W)) (hh : ClsOk X (h₀ :: hds) l) :
    PS X (.Try body (h₀ :: hds) [] [] pos) (fun D σ H => tb (wCl X.K Wout D l) D σ H) := by
  refine ⟨fun pins s σ H D I h => ?_⟩
  have ok := I.ok
  have fr : X.A.frames = some (X.env :: X.outer) := ok.frames.trans (congrArg some hs)
  refine wpAny_Try_except (wpAny_mono ((hb (wCl X.K Wout D l) (X.pn ++ pins) (fun e s₁ => wpAny (model X.prog X.w) X.A (noteFrame e X.env) (fun _ s₂ => wpAny (model X.prog X.w) X.A (setFlight e none)
    (fun _ s₃ => wpAny (model X.prog X.w) X.A (handleBy e X.env (h₀ :: hds)) (SP X pins D) X.xe s₃) X.xe s₂) X.xe s₁) (fun u s' xx => ?_) PassesOwn.looking).run [] s σ H D (I.toTry _) h) (fun f s1 hsp => ?_) (fun _ _ he => he))
  · obtain ⟨a, B, sI, _, σ1, H1, cls, d, rfl, J', nb, up, sky, na, os, ag, wi⟩ := xx
    rw [hs] at sky
    exact Sky.land Zc.steady fr hf sky fun h3 f3 u3 => clauses_go hs hf tk (J'.ofTry ok) nb na os ag (up.trans u3) f3 hh wi
  · cases f with
    | ret u =>
      obtain ⟨v1, σ1, H1, J1, r1, q1⟩ := hsp
      exact ⟨v1, σ1, H1, J1.ofTry ok, r1, q1⟩
    | next => obtain ⟨σ1, H1, J1, q1⟩ := hsp; exact wpAny_execs_nil ⟨σ1, H1, J1.ofTry ok, q1⟩
    | brk => obtain ⟨σ1, H1, J1, q1⟩ := hsp; exact ⟨σ1, H1, J1.ofTry ok, q1⟩
    | cont => obtain ⟨σ1, H1, J1, q1⟩ := hsp; exact ⟨σ1, H1, J1.ofTry ok, q1⟩
end
/-! ## isinstance of the caught error, whether it has a dict or not -/
structure XisC (K : PySem.W.Frag) (C : Addr) : Prop where
  hc : (PySem.W.clsIn K C).isSome = true
  ga : PySem.W.findIn K (.ref C) "__getattribute__" = some (some (.builtin "BaseException.__getattribute__"))
  gt : PySem.W.findIn K (.ref C) "__getattr__" = some none
  sb : PySem.W.subIn K (.ref C) (.type "BaseException") = some true
  cl : PySem.W.findIn K (.ref C) "__class__" = some (some (.builtin "object.__class__"))
  sp : PySem.W.specialIn K (.builtin "object.__class__") "__get__" = some (some (.builtin "getset_descriptor.__get__"))
  tk : PySem.W.takesIn K (.builtin "object.__class__") = some true
  mo : PySem.W.mroIn K C (.type "object") = some true
def rIsX (K : PySem.W.Frag) (cls : Value) (d : Option Addr) (C a : Addr) : List V → Hp → VK → Prop := fun xs H Q => cls = .ref C ∧ ∃ (c : V) (cv : Value) (b : Bool), xs = [.ref a, c] ∧ ClsV c cv ∧ (∀ dd, d = some dd → ∃ fs, H dd = some (.xd fs)) ∧
  PySem.W.kitOne K (.ref C) cv = some b ∧ Q (.bl b) H
section
variable {X : Cx}
theorem call_isX {a C : Addr} {ob : Obj} {cls : Value} {d : Option Addr} {pn : List (Addr × Obj)} (T : XisC X.K C) (hz : Zc cls d ob) (hf : ∃ vs, ob.data = .fields vs) : CallR (X.suite a ((a, ob) :: pn)) (.builtin "isinstance") (rIsX X.K cls d C a) := by
  intro pins s σ H xs us Q I r h
  obtain ⟨ec, c, cv, b, rfl, hcv, hd, e, q⟩ := h
  obtain ⟨u1, u2, rfl, r1, r2⟩ := vals2 r
  have e2 := hcv.eq r2
  subst e2 ec
  obtain rfl : u1 = Value.ref a := r1
  obtain ⟨vs, hv⟩ := hf
  obtain ⟨hget, _⟩ := I.pin (a, ob) (List.mem_append_left _ List.mem_cons_self)
  have nc : PySem.W.notCls ob = true := by unfold PySem.W.notCls; rw [hv]
  have key : ∃ od, PySem.W.InstAt s.heap a ob C od := by
    cases d with
    | none => exact ⟨none, hget, hz.1, nc, by rw [hz.2]; trivial⟩
    | some dd =>
      obtain ⟨fs, hfs⟩ := hd dd rfl
      obtain ⟨mA, ⟨o, _, _, ho, _⟩, _⟩ := (show ObjOk X.prog X.w H s.heap dd (.xd fs) from I.hok dd _ hfs)
      exact ⟨some o, hget, hz.1, nc, by rw [hz.2]; exact ho⟩
  obtain ⟨od, J⟩ := key
  exact PySem.W.kia_one (PySem.W.kitx_exc T.hc T.ga T.gt T.sb T.cl T.sp T.tk T.mo) I.kIn J e (fun z => nomatch z) fun tk => ⟨.bl b, H, I.kept (t' := tk) fun _ _ z => z, rfl, q⟩
/-! ## f(e, ..), f a local name that holds a def which may raise -/
def tCallLS (i : Nat) (f : Addr) (sp : Sp) (E : L2.St → XK) (t : TA) : TE := fun σ H Q => σ[i]? = some (some (.ref f)) ∧ t σ H fun vs H1 => sp vs H1 Q (E σ)
theorem pe_callLS {CX : CXT} {k i : Nat} {f : Addr} {fd : FuncData} {ps : List Str} {sp : Sp} {E : L2.St → XK} {x : Str} {p pos : Pos} {e : Expr} {es : List Expr} {t : TA}
    (F : FnOk X.prog X.w X.K X.mg X.base CX k f fd ps sp) (hr : Room k X.A) (hN : X.N[i]? = some x) (hv : Vis X.env.scope x) (hk : PySem.W.keepIn X.K (.ref f) = true) (hb : Binds X.K fd ps []) (hx : ∀ σ, PassesAt CX X σ (E σ)) (ha : PA X (e :: es) t)
    (hdb : (x == ("__debug__" : Str)) = false := by decide) (hcd : (x == ("__classdict__" : Str)) = false := by decide)
    (he : starEach (e :: es) X.env = (false, eval e X.env) :: starEach es X.env := by rfl) (hpl : (backTo pos (starEach es X.env)).any (·.1) = false := by rfl) : PE X (.Call (.Name x p) (e :: es) [] pos) (tCallLS i f sp E t) := by
  refine ⟨fun pins s σ H Q I ⟨hs, ht⟩ => wpAny_Call_Name_kw (thn ((pe_var (pos := p) hN hv hdb hcd).run pins s σ H (fun v H1 => v = .ref f ∧ H1 = H) I ⟨.ref f, hs, rfl, rfl⟩) fun u s1 ⟨v, H1, I1, r1, e1, e2⟩ => ?_)⟩
  subst e1 e2
  obtain rfl : u = Value.ref f := r1
  exact PySem.W.callWith_K (h₀ := X.base) I.ok.mod.kin hk (thn (ha.run pos pins s1 σ _ _ I1 ht) fun us s2 ⟨vs, H2, I2, r, q⟩ => ⟨I2.kIn, run_fnS F hr hb (hx σ) I2 r q⟩) he hpl
/-! ## C(), an own error class without an __init__ -/
theorem pmk_own0 {C : Addr} {bmB : List Value} {B newId initId : String} {x : Str} {p pos : Pos} (F : ExcBaseFacts B newId initId bmB) (q : PySem.W.excIn X.K C bmB newId = true) (gC : X.mg x = some (.ref C)) (kC : PySem.W.keepIn X.K (.ref C) = true)
    (r : Raises X (.ref C)) (hg : Gl X x) (hdb : (x == ("__debug__" : Str)) = false := by decide) : PMk X (.Call (.Name x p) [] [] pos) (fun _ H Q => Q (.ref C) none H) := by
  intro pins s σ H Q I h
  refine wpAny_Call_Name_kw (ld_glob I hg gC (PySem.W.callWith_K0 I.kIn kC ?_) hdb)
  obtain ⟨_, _, _, _, _, _, _, _, _, _, _, _, _, _, _, _, _, hC, hN, hni, T⟩ := exc_obj I.kIn q
  exact wpAny_call_exc_subT F T hC hN hni (fun h' e hm => mk_of I hm r h (I.hok.gone hm.new)) (by show 0 ≤ sizeLine; omega)
/-! ## // by any great number but 0 -/
theorem op_fdivZ : OpR X (binaryOp .FloorDiv) (rI (fun _ j => j ≠ 0 ∧ j.natAbs.log2 < 9000) fun i j => .int (i.fdiv j)) := opI fun _ _ _ _ _ _ _ hc q => floordiv_int hc.1 q (.inl (PyProof.noPylong_of_log2 hc.2))
/-! ## repr of data -/
def rReprD (K : PySem.W.Frag) : List V → Hp → VK → Prop := fun xs H Q => ∃ (a : Addr) (d : PyData), xs = [.ref a] ∧ Dp K H (.ref a) d ∧ d.showable = true ∧ d.hasDict = false ∧ d.depth ≤ 60 ∧ d.shown.length ≤ sizeLine ∧ Q (.str d.shown) H
theorem call_reprD (hu : X.A.units + 64 < cLine) (hg : X.A.guards = some []) : CallR X (.builtin "repr") (rReprD X.K) := by
  intro pins s σ H xs us Q I r h
  obtain ⟨a, d, rfl, hd, hs, hn, hde, hl, q⟩ := h
  obtain ⟨u, rfl, ru⟩ := vals1 r
  obtain rfl : u = Value.ref a := ru
  obtain ⟨as, rd⟩ := Dp.reads I d _ _ hd rfl
  exact repr_of_reads' rd hs (fun z => by rw [hn] at z; cases z) hg (by omega) (fun _ _ e => e) (fun h' u tk hk => ⟨.str d.shown, H, I.kept (t' := tk) hk, ⟨u, rfl⟩, q⟩) hl
end
end Lc
set_option Elab.async false
set_option linter.all false
set_option maxRecDepth 100000
set_option maxHeartbeats 4000000
namespace Lc
open PySem PySem.Spec PyProof.Rows L2
/-! ## Promises of defs that are called where no repr is under way -/
structure FnG (P : Program) (w : World) (K : PySem.W.Frag) (mg : Str → Option Value) (base : Heap) (k : Nat) (f : Addr) (fd : FuncData) (ps : List Str) (sp : Sp) : Prop where
  len : ∀ vs H Q E, sp vs H Q E → vs.length = ps.length
  run : ∀ (A : Around) (outer : List Env) (s : Shared) (H : Hp) (args : Args) (us : List Value) (vs : List V) (Q : VK) (E : XK), A.guards = some [] → Room k A → Env0 P w K mg base A outer s H → BindsTo s fd args (ps.zip us) → Vals vs us → sp vs H Q E →
    codeAny (model P w) A (.call (.ref f) args) (CR CX0 outer P w H s Q E) s
section
variable {P : Program} {w : World} {K : PySem.W.Frag} {mg : Str → Option Value} {base : Heap}
theorem Fun.okG {x qual : Str} {st : Stmt} {f : Addr} {fd : FuncData} {N ps : List Str} {k : Nat} {sp : Sp} (F : Fun K x qual st f fd) (S : FnScope N ps (defScope st)) (len : ∀ vs H Q E, sp vs H Q E → vs.length = ps.length)
    (go : ∀ (cdv : Value) (A : Around) (outer : List Env) (s : Shared) (H : Hp) (vs : List V) (Q : VK) (E : XK), A.guards = some [] → Room k (A.deeper (envOfC qual (defScope st) s.heap.objs.size f cdv)) → sp vs H Q E →
      ∃ t, PSs (cxOf CX0 P w K mg base N qual (defScope st) f cdv A outer s H E).nox (defBody st) t ∧ t { nx := fun _ H' => Q .non H', rt := Q } (start N vs) H) : FnG P w K mg base (k + 1) f fd ps sp := by
  obtain ⟨oc, od, kV, doc, pm, an, cdv, ct, osl, rfl, lk, hcd⟩ := F.ex
  refine ⟨len, fun A outer s H args us vs Q E hg hr e0 hb r hsp => ?_⟩
  have up : ∀ b o, base.get? b = some o → s.heap.get? b = some o := fun b o z => (e0.bs b o z).1
  have KX := e0.mod.kin.keeps up
  refine codeAny_call_function hr.depth (KX _ _ lk) rfl S.co S.gen rfl (PySem.W.codeRec_of KX hcd) (hb _ _ _ _ ?_)
  refine wpAny_newFunctionEnv_cells S.kind (fun y hy => ?_) fun env he s1 x => ?_
  · rcases S.par y.1 (List.of_mem_zip (a := y.1) (b := y.2) hy).1 with z | z
    · exact .inl z
    · exact .inr ⟨z, PySem.W.cellsFrom_some _ _ _ (.inl z)⟩
  subst he
  obtain ⟨t, ht, hq⟩ := go cdv A outer s H vs Q E hg (hr.deeper _) hsp
  have I : Inv (cxOf CX0 P w K mg base N qual (defScope st) f cdv A outer s H E) [] (start N vs) H s1 := inv_start S hr.hd e0 (len _ _ _ _ hsp) r x
  refine ⟨(e0.mod.nolimit.keeps up).keeps x.toInCall.keep, codeAny_func (wpAny_mono (ht.nox.run [] s1 (start N vs) H _ I hq) (fun fl s' hs => ?_) fun _ _ z => z)⟩
  cases fl with
  | ret u => obtain ⟨v, _, H', J, rv, q⟩ := hs; exact ⟨v, H', J.os, J.bare, J.base, J.hok, rv, q⟩
  | next => obtain ⟨_, H', J, q⟩ := hs; exact ⟨V.non, H', J.os, J.bare, J.base, J.hok, rfl, q⟩
  | brk => obtain ⟨_, _, _, q⟩ := hs; exact q.elim
  | cont => obtain ⟨_, _, _, q⟩ := hs; exact q.elim
end
section
variable {X : Cx} {k : Nat} {f : Addr} {fd : FuncData} {ps : List Str} {sp : Sp} {x : Str} {p pos : Pos} {e : Expr} {es : List Expr} {t : TA}
/-- f(e, ..), f kept under FnG -/
theorem pe_callG (F : FnG X.prog X.w X.K X.mg X.base k f fd ps sp) (gg : X.A.guards = some []) (hr : Room k X.A) (hg : Gl X x) (hm : X.mg x = some (.ref f)) (hk : PySem.W.keepIn X.K (.ref f) = true) (hb : Binds X.K fd ps [])
    (ha : PA X (e :: es) t) (hdb : (x == ("__debug__" : Str)) = false := by decide) (he : starEach (e :: es) X.env = (false, eval e X.env) :: starEach es X.env := by rfl) (hpl : (backTo pos (starEach es X.env)).any (·.1) = false := by rfl) :
    PE X (.Call (.Name x p) (e :: es) [] pos) (tCall sp [] E0 t) := by
  refine ⟨fun pins s σ H Q I h => wpAny_Call_Name_kw (ld_glob I hg hm ?_ hdb)⟩
  refine PySem.W.callWith_K (h₀ := X.base) I.ok.mod.kin hk (thn (ha.run pos pins s σ H _ I h) fun us s1 ⟨vs, H1, I1, r, q⟩ => ⟨I1.kIn, ?_⟩) he hpl
  replace q : sp vs H1 Q E0 := by
    have z : sp (vs ++ []) H1 Q E0 := q
    rw [List.append_nil] at z
    exact z
  have hl : us.length = ps.length := by rw [← r.length]; exact F.len _ _ _ _ q
  have b := hb s1 us I1.kIn (by rw [List.append_nil]; exact hl)
  rw [List.append_nil] at b
  refine wpAny_call (codeAny_mono (F.run X.A X.stack s1 H1 ⟨us, []⟩ us vs Q E0 gg hr I1.env0 b r q) fun rr s' hq => ?_)
  cases rr with
  | error er => exact False.elim hq
  | ok fl =>
    cases fl with
    | ret u => exact I1.after hq
    | next => exact False.elim hq
    | brk => exact False.elim hq
    | cont => exact False.elim hq
end
/-! ## The law itself -/
section
variable {P : Program} {w : World} {K : PySem.W.Frag} {mg mb : Str → Option Value} {k : Nat} {fa a : Addr} {fd : FuncData} {x : Str} {sp : Sp} {s : Shared} {vs : List Value} {ns : List Int}
theorem env_of {H : Hp} (KX : K.In s.heap) (hns : s.heap.Ns mainGlobals mg) (hb : s.heap.Ns builtinsNs mb) (hbb : ∀ x : Str, x ≠ "__name__" → mb x = bootBuiltins x) (hlim : s.heap.NoLimit) (hg : s.gens = #[])
    (ha : s.heap.get? a = some { cls := .type "list", data := .seq vs.toArray }) (hok : HOk P w H s.heap) (one : ∀ b, b ≠ a → H b = none) (nk : H a = none ∨ K.lookup a = none) :
    K.In (hidT s.heap H) ∧ (hidT s.heap H).Ns mainGlobals mg ∧ Env0 P w K mg (hidT s.heap H) callerA [] s H := by
  have keepN : ∀ {b : Addr} {m : Str → Option Value}, s.heap.Ns b m → (hidT s.heap H).Ns b m := by
    rintro b m ⟨o, es, ep, e, d, r⟩
    have nb : b ≠ a := fun z => by
      rw [z, ha] at e
      cases e
      exact nomatch (show Data.seq vs.toArray _ = Data.dict es ep from d)
    exact ⟨o, es, ep, hidT_get e (one b nb), d, r⟩
  have kin : K.In (hidT s.heap H) := fun b o e => hidT_get (KX b o e) (by
    by_cases z : b = a
    · rcases nk with q | q
      · rw [z]; exact q
      · rw [z, q] at e; cases e
    · exact one b z)
  obtain ⟨mc, l1, l2⟩ := hlim
  exact ⟨kin, keepN hns, rfl, ⟨kin, keepN hns, ⟨mb, keepN hb, hbb⟩, ⟨mc, keepN l1, l2⟩⟩, fun b o e => of_hidT e, Nat.le_of_eq (hidT_size _ _), trivial, fun b z => absurd (show b ∈ ([] : List Addr) from z) (by simp), hok, .of_eq hg⟩
theorem law_callG (KX : K.In s.heap) (hns : s.heap.Ns mainGlobals mg) (hb : s.heap.Ns builtinsNs mb) (hbb : ∀ x : Str, x ≠ "__name__" → mb x = bootBuiltins x) (hlim : s.heap.NoLimit) (hg : s.gens = #[])
    (ha : s.heap.get? a = some { cls := .type "list", data := .seq vs.toArray }) (hi : IntsAre vs ns) (hl : ns.length ≤ sizeLine) (hr : Room k callerA)
    (F : ∀ base : Heap, K.In base → base.Ns mainGlobals mg → FnG P w K mg base k fa fd [x] sp) (hbind : ∀ (s : Shared) (u : Value), BindsTo s fd ⟨[u], []⟩ [(x, u)])
    (hsp : ∀ H : Hp, SqL K H a (ns.map V.int) → sp [.ref a] H (fun v _ => v = .bl true) fun _ _ _ => False) :
    codeAny (model P w) callerA (.call (.ref fa) ⟨[.ref a], []⟩) (fun r s' => r = .ok (.ret (.bool true)) ∧ OldK s.heap s'.heap ∧ s'.os = s.os ∧ AllBare s'.gens) s := by
  have rv := vals_ints hi
  have go : ∀ H : Hp, SqL K H a (ns.map V.int) → HOk P w H s.heap → (∀ b, b ≠ a → H b = none) → (H a = none ∨ K.lookup a = none) → (∀ o, H a = some o → ∃ ob u, o = .frz ob u) →
      codeAny (model P w) callerA (.call (.ref fa) ⟨[.ref a], []⟩) (fun r s' => r = .ok (.ret (.bool true)) ∧ OldK s.heap s'.heap ∧ s'.os = s.os ∧ AllBare s'.gens) s := by
    intro H hS hok one nk fz
    obtain ⟨k1, k2, e0⟩ := env_of KX hns hb hbb hlim hg ha hok one nk
    refine codeAny_mono ((F _ k1 k2).run callerA [] s H ⟨[.ref a], []⟩ [.ref a] [.ref a] _ _ rfl hr e0 (hbind s (.ref a)) (.cons rfl .nil) (hsp H hS)) fun r s' h => ?_
    cases r with
    | error _ => exact False.elim h
    | ok fl =>
      cases fl with
      | next => exact False.elim h
      | brk => exact False.elim h
      | cont => exact False.elim h
      | ret u =>
        obtain ⟨v, H', os, bare, un, hok', ru, ev⟩ := h
        subst ev
        obtain rfl : u = Value.bool true := ru
        refine ⟨rfl, OldK.of_keep fun b o e => ?_, os, bare⟩
        cases q : H b with
        | none => exact un.keep b o e q (fun z => absurd (show b ∈ ([] : List Addr) from z) (by simp)) (by simp)
        | some oo =>
          have zb : b = a := Classical.byContradiction fun z => by rw [one b z] at q; cases q
          subst zb
          obtain ⟨ob, u, rfl⟩ := fz oo q
          obtain ⟨e1, _⟩ := hok b _ q
          obtain ⟨e2, _⟩ := hok' b _ (un.frzs b ob u q)
          rw [e] at e1
          cases e1
          exact e2
  cases hk : K.lookup a with
  | some o =>
    have e := KX a o hk
    rw [ha] at e
    cases e
    exact go (fun _ => none) (.inr ⟨_, vs.toArray, _, hk, rfl, rfl, rfl, by rw [List.size_toArray, hi.length]; exact hl, by simpa using rv⟩) (fun b u z => nomatch z) (fun _ _ => rfl) (.inl rfl) (fun o z => nomatch z)
  | none =>
    let ob : Obj := { cls := .type "list", data := .seq vs.toArray }
    refine go (upd (fun _ => none) a (.frz ob (.lst (ns.map V.int)))) (.inl (.inr ⟨ob, upd_same⟩)) (fun b u z => ?_) (fun b z => upd_ne z) (.inr hk) (fun o z => ?_)
    · by_cases q : b = a
      · subst q
        rw [upd_same] at z
        cases z
        exact ⟨ha, by rw [List.length_map]; exact hl, vs, _, rv, ha⟩
      · rw [upd_ne q] at z
        cases z
    · rw [upd_same] at z
      cases z
      exact ⟨_, _, rfl⟩
end
theorem walk_G {l : PySem.W.OpenLaw} {n k : Nat} {q : Program} {loose : List Str} {XP : (Str → Option Value) → Heap → Prop} {YP : World → Heap → Prop} {d : DefRec} {K : Params → PySem.W.Frag} {sp : PySem.W.Frag → Sp} {x : Str}
    (hn : l.most = some n) (hn2 : n ≤ sizeLine) (hdf : d.params.defaults = []) (hr : Room k callerA) (hY : ∀ (w : World) (h : Heap), YP w h → (K w.params).In h)
    (F : ∀ (w : World) (mg : Str → Option Value) (fa : Addr) (h : Heap), (K w.params).In h → h.Ns mainGlobals mg → mg d.name = some (.ref fa) →
      ∃ fd : FuncData, (∀ (s : Shared) (u : Value), BindsTo s fd ⟨[u], []⟩ [(x, u)]) ∧ ∀ base : Heap, (K w.params).In base → base.Ns mainGlobals mg → FnG l.prog w (K w.params) mg base k fa fd [x] (sp (K w.params)))
    (hsp : ∀ (K : PySem.W.Frag) (H : Hp) (a : Addr) (ns : List Int), ns.length ≤ n → SqL K H a (ns.map V.int) → sp K [.ref a] H (fun v _ => v = .bl true) fun _ _ _ => False) :
    PySem.W.WalkO q loose XP YP l.row.toRowW d [] (fun f vs => PySem.call f vs) := by
  refine Att.attach_call hn hdf fun w _ s mg mb fa _ _ _ _ a vs ns G Y _ _ _ hmg hobj hints hlen hg => ?_
  obtain ⟨fd, hb, hF⟩ := F w mg fa _ (hY w _ Y) G.T.g hmg
  exact law_callG (hY w _ Y) G.T.g G.T.b G.T.builtins G.T.nolimit hg hobj hints (Nat.le_trans hlen hn2) hr hF hb fun H hS => hsp _ H a ns hlen hS
end Lc
set_option Elab.async false
set_option linter.all false
set_option maxRecDepth 100000
set_option maxHeartbeats 4000000
namespace Lc
open PySem PySem.Spec PyProof.Rows L2
/-! ## Kinds of values -/
inductive TyN (H : Hp) : V → String → Prop
  | non : TyN H .non "NoneType"
  | bl (b : Bool) : TyN H (.bl b) "bool"
  | int (i : Int) : TyN H (.int i) "int"
  | str (x : Str) : TyN H (.str x) "str"
  | tup {a : Addr} {xs : List V} (e : H a = some (.tup xs)) : TyN H (.ref a) "tuple"
  | lst {a : Addr} {xs : List V} (e : H a = some (.lst xs)) : TyN H (.ref a) "list"
  | dct {a : Addr} {kvs : List (Key × V)} (e : H a = some (.dK kvs)) : TyN H (.ref a) "dict"
theorem TyN.x {K : PySem.W.Frag} {H : Hp} {v : V} {t : String} (h : TyN H v t) : TyX K H v (.type t) := by
  cases h with
  | non => exact .base .non
  | bl b => exact .base (.bl b)
  | int i => exact .base (.int i)
  | str x => exact .base (.str x)
  | tup e => exact .base (.tup e)
  | lst e => exact .base (.lst e)
  | dct e => exact .base (.dK e)
theorem TyN.same {H H' : Hp} {v : V} {t : String} (h : TyN H v t) (s : Same H H') : TyN H' v t := by
  cases h with
  | non => exact .non
  | bl b => exact .bl b
  | int i => exact .int i
  | str x => exact .str x
  | tup e => exact .tup (s _ _ e)
  | lst e => exact .lst (s _ _ e)
  | dct e => exact .dct (s _ _ e)
theorem TyN.isInt {H : Hp} {v : V} {t : String} (h : TyN H v t) (e : t = "int") : ∃ i, v = .int i := by
  cases h <;> first | exact ⟨_, rfl⟩ | exact absurd e (by decide)
theorem TyN.isStr {H : Hp} {v : V} {t : String} (h : TyN H v t) (e : t = "str") : ∃ x, v = .str x := by
  cases h <;> first | exact ⟨_, rfl⟩ | exact absurd e (by decide)
theorem TyN.isTup {H : Hp} {v : V} {t : String} (h : TyN H v t) (e : t = "tuple") : ∃ a xs, v = .ref a ∧ H a = some (.tup xs) := by
  cases h <;> first | exact ⟨_, _, rfl, by assumption⟩ | exact absurd e (by decide)
def tyNames : List String := ["NoneType", "bool", "int", "str", "tuple", "list", "dict"]
theorem TyN.mem {H : Hp} {v : V} {t : String} (h : TyN H v t) : t ∈ tyNames := by
  cases h <;> simp [tyNames]
theorem kit_int {K : PySem.W.Frag} {t : String} (h : t ∈ tyNames) : PySem.W.kitOne K (.type t) (.type "int") = some (t == "int" || t == "bool") := by
  have : ∀ t ∈ tyNames, kitB t "int" = some (t == "int" || t == "bool") := by decide +kernel
  exact kit_ty (this t h)
theorem kit_bool {K : PySem.W.Frag} {t : String} (h : t ∈ tyNames) : PySem.W.kitOne K (.type t) (.type "bool") = some (t == "bool") := by
  have : ∀ t ∈ tyNames, kitB t "bool" = some (t == "bool") := by decide +kernel
  exact kit_ty (this t h)
theorem kit_tuple {K : PySem.W.Frag} {t : String} (h : t ∈ tyNames) : PySem.W.kitOne K (.type t) (.type "tuple") = some (t == "tuple") := by
  have : ∀ t ∈ tyNames, kitB t "tuple" = some (t == "tuple") := by decide +kernel
  exact kit_ty (this t h)
theorem kit_str {K : PySem.W.Frag} {t : String} (h : t ∈ tyNames) : PySem.W.kitOne K (.type t) (.type "str") = some (t == "str") := by
  have : ∀ t ∈ tyNames, kitB t "str" = some (t == "str") := by decide +kernel
  exact kit_ty (this t h)
/-! ## What is a rational -/
def ratB : V → V → Bool
  | .int n, .int d => decide (0 < d) && decide (gd n d = 1)
  | _, _ => false
inductive Rk (H : Hp) : V → Bool → Prop
  | other {v : V} {t : String} (h : TyN H v t) (n : t ≠ "tuple") : Rk H v false
  | len {a : Addr} {xs : List V} (e : H a = some (.tup xs)) (n : xs.length ≠ 2) : Rk H (.ref a) false
  | pair {a : Addr} {x y : V} {tx ty : String} (e : H a = some (.tup [x, y])) (hx : TyN H x tx) (hy : TyN H y ty) : Rk H (.ref a) (ratB x y)
theorem Rk.same {H H' : Hp} {v : V} {b : Bool} (h : Rk H v b) (s : Same H H') : Rk H' v b := by
  cases h with
  | other h n => exact .other (h.same s) n
  | len e n => exact .len (s _ _ e) n
  | pair e hx hy => exact .pair (s _ _ e) (hx.same s) (hy.same s)
theorem Rk.of {H : Hp} {a : Addr} {n d : Int} (e : H a = some (.tup [.int n, .int d])) (r : Rt n d) : Rk H (.ref a) true := by
  have z : ratB (.int n) (.int d) = true := by
    show (decide (0 < d) && decide (gd n d = 1)) = true
    rw [decide_eq_true r.pos, decide_eq_true r.cop]
    rfl
  rw [← z]
  exact .pair e (.int n) (.int d)
/-! ## repr -/
inductive Shw (K : PySem.W.Frag) (H : Hp) : V → Str → Prop
  | data {v : V} {d : PyData} (h : Dp K H v d) (h1 : d.showable = true) (h2 : d.hasDict = false) (h3 : d.depth ≤ 60) (h4 : d.shown.length ≤ sizeLine) : Shw K H v d.shown
  | empty {a : Addr} (e : H a = some (.dK [])) : Shw K H (.ref a) (PyData.dict []).shown
def rReprV (K : PySem.W.Frag) : List V → Hp → VK → Prop := fun xs H Q => ∃ (v : V) (z : Str), xs = [v] ∧ Shw K H v z ∧ Q (.str z) H
theorem call_reprV {X : Cx} (hg : X.A.guards = some []) (hu : X.A.units + 64 < cLine) : CallR X (.builtin "repr") (rReprV X.K) := by
  intro pins s σ H xs us Q I r h
  obtain ⟨v, z, rfl, hd, q⟩ := h
  obtain ⟨u, rfl, ru⟩ := vals1 r
  cases hd with
  | @data _ d hd h1 h2 h3 h4 =>
    obtain ⟨as, rd⟩ := Dp.reads I d _ _ hd ru
    cases hd with
    | non =>
      obtain rfl : u = Value.none := ru
      exact P.repr_of_none ⟨.str _, H, I.tok _, ⟨_, rfl⟩, q⟩
    | bl b =>
      obtain rfl : u = Value.bool b := ru
      exact P.repr_of_bool ⟨.str _, H, I.tok _, ⟨_, rfl⟩, q⟩
    | int i =>
      obtain ⟨t, rfl⟩ := (show ∃ t, u = Value.int i t from ru)
      exact P.repr_of_int (of_decide_eq_true (by simpa [PyData.showable] using h1)) ⟨.str _, H, I.tok _, ⟨_, rfl⟩, q⟩
    | str x =>
      obtain ⟨t, rfl⟩ := (show ∃ t, u = Value.str x t from ru)
      exact P.repr_of_str ⟨.str _, H, I.tok _, ⟨_, rfl⟩, q⟩ h4
    | @lst a xs ds e1 e2 =>
      obtain rfl : u = Value.ref a := ru
      exact repr_of_reads' rd h1 (PyData.noDict_hsm h2) hg (by omega) (fun _ _ e => e) (fun h' u tk hk => ⟨.str _, H, I.kept (t' := tk) hk, ⟨u, rfl⟩, q⟩) h4
    | @tup a xs ds e1 e2 =>
      obtain rfl : u = Value.ref a := ru
      exact repr_of_reads' rd h1 (PyData.noDict_hsm h2) hg (by omega) (fun _ _ e => e) (fun h' u tk hk => ⟨.str _, H, I.kept (t' := tk) hk, ⟨u, rfl⟩, q⟩) h4
  | @empty a e =>
    obtain rfl : u = Value.ref a := ru
    obtain ⟨_, ns, vs, kv, o, es, ep, h1, h2, h3, h4⟩ := (show ObjOk X.prog X.w H s.heap a (.dK []) from I.hok a _ e)
    cases kv
    have es0 : es.toList = [] := by
      obtain ⟨_, hp, _⟩ := h4
      generalize es.toList = l at hp
      cases hp
      rfl
    have rd : Reads s.heap (.ref a) (.dict []) (a :: [] ++ []) := Reads.dict h1 h2.1 h3 (by rw [es0]; exact .nil) (by rw [es0]; exact .nil)
    exact repr_of_reads' rd (by decide) (fun _ hm => by
      have : sysModules = a := by simpa using hm
      rw [this] at ns
      simp at ns) hg (by show X.A.units + (PyData.depth (.dict []) + 1) < cLine; have : PyData.depth (.dict []) ≤ 60 := by decide +kernel
                         omega) (fun _ _ e => e) (fun h' u tk hk => ⟨.str _, H, I.kept (t' := tk) hk, ⟨u, rfl⟩, q⟩) (by decide +kernel)
theorem dp_same {K : PySem.W.Frag} {H H' : Hp} (s : Same H H') : ∀ {v : V} {d : PyData}, Dp K H v d → Dp K H' v d := by
  have sq : ∀ {a xs}, SqT K H a xs → SqT K H' a xs := by
    intro a xs h
    rcases h with (h | ⟨o, h⟩) | h
    · exact .inl (.inl (s _ _ h))
    · exact .inl (.inr ⟨o, s _ _ h⟩)
    · exact .inr h
  intro v d h
  induction h using Dp.rec (motive_2 := fun vs ds _ => DpAll K H' vs ds) with
  | non => exact .non
  | bl b => exact .bl b
  | int i => exact .int i
  | str x => exact .str x
  | lst h1 _ ih => exact .lst (s.seq h1) ih
  | tup h1 _ ih => exact .tup (sq h1) ih
  | nil => exact .nil
  | cons _ _ i1 i2 => exact .cons i1 i2
theorem Shw.same {K : PySem.W.Frag} {H H' : Hp} (s : Same H H') {v : V} {z : Str} (h : Shw K H v z) : Shw K H' v z := by
  cases h with
  | data h h1 h2 h3 h4 => exact .data (dp_same s h) h1 h2 h3 h4
  | empty e => exact .empty (s _ _ e)
theorem Same.upd {H : Hp} {p : Addr} {o : HO} (h : H p = none) : Same H (upd H p o) := fun b u e => by rw [upd_ne (ne_of_none e h)]; exact e
end Lc
set_option Elab.async false
set_option linter.all false
set_option maxRecDepth 100000
set_option maxHeartbeats 4000000
namespace Lc
open PySem PySem.Spec PyProof.Rows L2
/-! ## The law's tape -/
def Tape (H : Hp) (t : Addr) : Prop := ∃ (l : Addr) (ns : List Int) (pos rest mix : Int), H t = some (.lst [.ref l, .int pos, .int rest, .int mix]) ∧ H l = some (.lst (ns.map V.int)) ∧ 0 ≤ pos ∧ 0 ≤ rest ∧ 0 ≤ mix ∧ mix < 2147483647
/-- all but what stands at t is as it was -/
def SameB (t : Addr) (H H' : Hp) : Prop := ∀ b o, b ≠ t → H b = some o → H' b = some o
theorem SameB.refl (t : Addr) (H : Hp) : SameB t H H := fun _ _ _ e => e
theorem SameB.trans {t : Addr} {H H1 H2 : Hp} (a : SameB t H H1) (b : SameB t H1 H2) : SameB t H H2 := fun c o n e => b c o n (a c o n e)
theorem Same.b {H H' : Hp} (t : Addr) (s : Same H H') : SameB t H H' := fun b o _ e => s b o e
theorem SameB.upd {t : Addr} {H : Hp} {o : HO} : SameB t H (upd H t o) := fun b u n e => by rw [upd_ne n]; exact e
theorem tape_ne {l t : Addr} {H : Hp} {ns : List Int} {vs : List V} (h1 : H t = some (.lst (.ref l :: vs))) (h2 : H l = some (.lst (ns.map V.int))) : l ≠ t := by
  refine ne_of h2 h1 fun z => ?_
  cases ns with
  | nil => injection z with z; cases z
  | cons n ns => injection z with z; injection z with z; cases z
theorem Tape.same {H H' : Hp} {t : Addr} (h : Tape H t) (s : Same H H') : Tape H' t := by
  obtain ⟨l, ns, pos, rest, mix, h1, h2, h3⟩ := h
  exact ⟨l, ns, pos, rest, mix, s _ _ h1, s _ _ h2, h3⟩
theorem cut_ints (ns : List Int) (lo hi : Option Int) : ∃ ms : List Int, cutV (ns.map V.int) lo hi = ms.map V.int := by
  unfold cutV
  rw [← List.map_drop, ← List.map_take]
  exact ⟨_, rfl⟩
def spTape (K : PySem.W.Frag) : Sp := fun vs H Q _ => ∃ (a : Addr) (ns : List Int), vs = [.ref a] ∧ SqL K H a (ns.map V.int) ∧ ∀ (t : Addr) (H' : Hp), Same H H' → H t = none → Tape H' t → Q (.ref t) H'
def spDraw : Sp := fun vs H Q _ => ∃ (t : Addr) (many : Int), vs = [.ref t, .int many] ∧ Tape H t ∧ 0 < many ∧ many.natAbs < 2 ^ 4000 ∧ ∀ (k : Int) (H' : Hp), 0 ≤ k → k < many → Tape H' t → SameB t H H' → Q (.int k) H'
def New2' (H : Hp) (Q : VK) (n d : Int) : Prop := ∀ p, H p = none → Q (.ref p) (upd H p (.tup [.int n, .int d]))
def spLowest : Sp := fun vs H Q _ => ∃ n d : Int, vs = [.int n, .int d] ∧ 0 < d ∧ d.natAbs < 2 ^ 4000 ∧ New2' H Q (lowN n d) (lowD n d)
def spRational : Sp := fun vs H Q _ => ∃ (t : Addr) (b : Bool), vs = [.ref t, .bl b] ∧ Tape H t ∧ ∀ (p : Addr) (n d : Int) (H' : Hp), Rt n d → n.natAbs < 2 ^ 140 → d.natAbs < 2 ^ 140 → H' p = some (.tup [.int n, .int d]) → H p = none → Tape H' t → SameB t H H' → Q (.ref p) H'
theorem log_lt' {n : Int} (h : n.natAbs < 2 ^ 4000) : n.natAbs.log2 < 9000 := by
  by_cases z : n.natAbs = 0
  · rw [z]
    decide
  · exact Nat.lt_of_lt_of_le ((Nat.log2_lt z).mpr h) (by decide)
end Lc
namespace Lc
open PySem PySem.Spec PyProof.Rows L2
theorem SameB.free {t p : Addr} {H H' : Hp} (s : SameB t H H') (h : Tape H' t) (e : H' p = none) : H p = none := by
  cases q : H p with
  | none => rfl
  | some o =>
    by_cases z : p = t
    · subst z
      obtain ⟨_, _, _, _, _, h1, _⟩ := h
      rw [h1] at e
      cases e
    · rw [s p o z q] at e
      cases e
theorem Tape.ne {t p : Addr} {H : Hp} (h : Tape H t) (e : H p = none) : p ≠ t := by
  intro z
  subst z
  obtain ⟨_, _, _, _, _, h1, _⟩ := h
  rw [h1] at e
  cases e
theorem Tape.neT {t p : Addr} {H : Hp} {xs : List V} (h : Tape H t) (e : H p = some (.tup xs)) : p ≠ t := by
  intro z
  subst z
  obtain ⟨_, _, _, _, _, h1, _⟩ := h
  rw [h1] at e
  cases e
theorem p18 : (10 : Int) ^ (18 : Int).toNat = 1000000000000000000 := by decide
theorem p40 : (10 : Int) ^ (40 : Int).toNat = 10000000000000000000000000000000000000000 := by decide
end Lc
namespace Lc
open PySem PySem.Spec PyProof.Rows L2
/-- the tape, its list at l -/
def TapeL (l : Addr) (H : Hp) (t : Addr) : Prop := ∃ (ns : List Int) (pos rest mix : Int), H t = some (.lst [.ref l, .int pos, .int rest, .int mix]) ∧ H l = some (.lst (ns.map V.int)) ∧ 0 ≤ pos ∧ 0 ≤ rest ∧ 0 ≤ mix ∧ mix < 2147483647
theorem TapeL.tape {l : Addr} {H : Hp} {t : Addr} (h : TapeL l H t) : Tape H t := ⟨l, h⟩
theorem TapeL.same {l : Addr} {H H' : Hp} {t : Addr} (h : TapeL l H t) (s : Same H H') : TapeL l H' t := by
  obtain ⟨ns, pos, rest, mix, h1, h2, h3⟩ := h
  exact ⟨ns, pos, rest, mix, s _ _ h1, s _ _ h2, h3⟩
theorem TapeL.list {l : Addr} {H : Hp} {t : Addr} (h : TapeL l H t) : ∃ xs, H l = some (.lst xs) := by
  obtain ⟨ns, pos, rest, mix, h1, h2, h3⟩ := h
  exact ⟨_, h2⟩
/-- another object is written -/
theorem TapeL.upd {l : Addr} {H : Hp} {t a : Addr} {o : HO} (h : TapeL l H t) (n1 : a ≠ t) (n2 : a ≠ l) : TapeL l (upd H a o) t := by
  obtain ⟨ns, pos, rest, mix, h1, h2, h3⟩ := h
  exact ⟨ns, pos, rest, mix, by rw [upd_ne (Ne.symm n1)]; exact h1, by rw [upd_ne (Ne.symm n2)]; exact h2, h3⟩
def spDrawL : Sp := fun vs H Q _ => ∃ (t l : Addr) (many : Int), vs = [.ref t, .int many] ∧ TapeL l H t ∧ 0 < many ∧ many.natAbs < 2 ^ 4000 ∧ ∀ (k : Int) (H' : Hp), 0 ≤ k → k < many → TapeL l H' t → SameB t H H' → Q (.int k) H'
theorem fn_weak {P : Program} {w : World} {K : PySem.W.Frag} {mg : Str → Option Value} {base : Heap} {CX : CXT} {k : Nat} {f : Addr} {fd : FuncData} {ps : List Str} {sp sp' : Sp} (h : ∀ vs H Q E, sp vs H Q E → sp' vs H Q E) (F : FnOk P w K mg base CX k f fd ps sp') : FnOk P w K mg base CX k f fd ps sp :=
  ⟨fun vs H Q E z => F.len vs H Q E (h vs H Q E z), fun A outer s H args us vs Q E a b c d z => F.run A outer s H args us vs Q E a b c d (h vs H Q E z)⟩
theorem draw_weak {vs : List V} {H : Hp} {Q : VK} {E : XK} (h : spDraw vs H Q E) : spDrawL vs H Q E := by
  obtain ⟨t, m, e, ⟨l, hT⟩, h1, h2, k⟩ := h
  exact ⟨t, l, m, e, hT, h1, h2, fun k1 H' a b c d => k k1 H' a b c.tape d⟩
end Lc
set_option Elab.async false
set_option linter.all false
set_option maxRecDepth 100000
set_option maxHeartbeats 4000000
namespace Lc
open PySem PySem.Spec PyProof.Rows L2
/-- names of built-ins that no text binds -/
structure Bt (mg : Str → Option Value) : Prop where
  isi : mg "isinstance" = none
  int : mg "int" = none
  bool : mg "bool" = none
  str : mg "str" = none
  tuple : mg "tuple" = none
  list : mg "list" = none
  dict : mg "dict" = none
  len : mg "len" = none
  abs : mg "abs" = none
  min : mg "min" = none
  all : mg "all" = none
  repr : mg "repr" = none
  range : mg "range" = none
  enum : mg "enumerate" = none
  ve : mg "ValueError" = none
  zd : mg "ZeroDivisionError" = none
  ie : mg "IndexError" = none
  oe : mg "OverflowError" = none
def btNames : List Str := ["isinstance", "int", "bool", "str", "tuple", "list", "dict", "len", "abs", "min", "all", "repr", "range", "enumerate", "ValueError", "ZeroDivisionError", "IndexError", "OverflowError"]
/-! ## x is True, x any value -/
def rIsBA : R2 := fun x y H Q => ∃ b : Bool, y = .bl b ∧ Q (.bl (decide (x = .bl b))) H
theorem op_isBA {X : Cx} : OpR X (compareOp .Is) rIsBA := by
  intro pins s σ H x y v u Q I rx ry h
  obtain ⟨b, rfl, q⟩ := h
  cases (show u = Value.bool b from ry)
  have key : plainIs v (.bool b) = true ∧ (v == Value.bool b) = decide (x = .bl b) := by
    cases x with
    | non => cases (show v = Value.none from rx); exact ⟨rfl, by cases b <;> rfl⟩
    | bl c => cases (show v = Value.bool c from rx); exact ⟨rfl, by cases b <;> cases c <;> rfl⟩
    | int i => obtain ⟨t, rfl⟩ := (show ∃ t, v = Value.int i t from rx); exact ⟨rfl, by cases b <;> rfl⟩
    | str i => obtain ⟨t, rfl⟩ := (show ∃ t, v = Value.str i t from rx); exact ⟨rfl, by cases b <;> rfl⟩
    | byt i => obtain ⟨t, rfl⟩ := (show ∃ t, v = Value.bytes i t from rx); exact ⟨rfl, by cases b <;> rfl⟩
    | flt i => obtain ⟨t, rfl⟩ := (show ∃ t, v = Value.float i t from rx); exact ⟨rfl, by cases b <;> rfl⟩
    | ref a => cases (show v = Value.ref a from rx); exact ⟨rfl, by cases b <;> rfl⟩
    | ty n => cases (show v = Value.type n from rx); exact ⟨rfl, by cases b <;> rfl⟩
  refine wpAny_is_plain key.1 ?_
  rw [key.2]
  exact ⟨.bl _, H, I, rfl, q⟩
/-! ## Texts of few signs -/
structure Sh (n : Nat) (x : Str) : Prop where
  len : x.cps.toList.length ≤ n
  ok : ∀ c ∈ x.cps.toList, c < 1114112
theorem Sh.mono {n m : Nat} {x : Str} (h : Sh n x) (l : n ≤ m) : Sh m x := ⟨Nat.le_trans h.len l, h.ok⟩
theorem Sh.line {n : Nat} {x : Str} (h : Sh n x) (l : n ≤ 1000) : x.length ≤ sizeLine := by
  have : x.length = x.cps.toList.length := by show x.cps.size = _; simp
  rw [this]
  exact Nat.le_trans h.len (Nat.le_trans l (by decide))
theorem sh_app {n m : Nat} {x y : Str} (h : Sh n x) (g : Sh m y) : Sh (n + m) (x ++ y) := by
  have e : (x ++ y).cps.toList = x.cps.toList ++ y.cps.toList := by
    show (x.cps ++ y.cps).toList = _
    simp
  refine ⟨?_, fun c hc => ?_⟩
  · rw [e, List.length_append]
    exact Nat.add_le_add h.len g.len
  · rw [e] at hc
    rcases List.mem_append.mp hc with hc | hc
    · exact h.ok c hc
    · exact g.ok c hc
theorem sh_one {c : Nat} (h : c < 1114112) : Sh 1 ⟨#[c]⟩ := ⟨Nat.le_refl _, fun d hd => by
  have : d = c := by simpa using hd
  rw [this]
  exact h⟩
theorem sh_sub {n : Nat} {x : Str} {l : List Nat} (h : Sh n x) (s : l.Sublist x.cps.toList) : Sh n ⟨l.toArray⟩ := by
  refine ⟨?_, fun c hc => ?_⟩
  · show l.toArray.toList.length ≤ n
    exact Nat.le_trans s.length_le h.len
  · exact h.ok c (s.subset (by simpa using hc))
theorem sh_cut {n : Nat} {x : Str} (lo hi : Option Int) (h : Sh n x) : Sh n (cutS x lo hi) := sh_sub h ((List.take_sublist _ _).trans (List.drop_sublist _ _))
theorem foldl_app : ∀ (l : List (Array Nat)) (a : Array Nat), (l.foldl (· ++ ·) a).toList = a.toList ++ (l.map Array.toList).flatten
  | [], a => by simp
  | b :: l, a => by
    show ((l.foldl (· ++ ·) (a ++ b))).toList = _
    rw [foldl_app l (a ++ b)]
    simp [List.append_assoc]
theorem sh_mul {x : Str} {n k : Nat} {i : Int} (h : Sh n x) (hi : i.toNat ≤ k) (hn : n ≤ 1) : Sh k (Txt.mul x i) := by
  unfold Txt.mul
  by_cases h1 : i < 1
  · rw [if_pos h1]
    exact ⟨Nat.zero_le _, fun c hc => by cases (by simpa [Str.empty] using hc : c ∈ ([] : List Nat))⟩
  · rw [if_neg h1]
    by_cases h2 : (i == 1 || x.length == 0) = true
    · rw [if_pos h2]
      exact h.mono (by omega)
    · rw [if_neg h2]
      have e : ((List.replicate i.toNat x.cps).foldl (· ++ ·) #[]).toList = (List.replicate i.toNat x.cps.toList).flatten := by
        rw [foldl_app]
        simp
      refine ⟨?_, fun c hc => ?_⟩
      · show ((List.replicate i.toNat x.cps).foldl (· ++ ·) #[]).toList.length ≤ k
        rw [e, List.length_flatten]
        have : ((List.replicate i.toNat x.cps.toList).map List.length).sum ≤ i.toNat * 1 := by
          have key : ∀ m : Nat, ((List.replicate m x.cps.toList).map List.length).sum ≤ m * 1 := by
            intro m
            induction m with
            | zero => simp
            | succ m ih =>
              rw [List.replicate_succ, List.map_cons, List.sum_cons]
              have := Nat.le_trans h.len hn
              omega
          exact key _
        omega
      · have hc : c ∈ ((List.replicate i.toNat x.cps).foldl (· ++ ·) #[]).toList := hc
        rw [e] at hc
        obtain ⟨l, hl, hcl⟩ := List.mem_flatten.mp hc
        rw [List.eq_of_mem_replicate hl] at hcl
        exact h.ok c hcl
theorem mul_ok {x : Str} {i : Int} (h : x.cps.size ≤ 1) (h2 : i < 1000) (h3 : -1000 < i) : MulOk x i := by
  have hx : x.length ≤ 1 := h
  refine ⟨by simp; omega, fun h1 _ => ?_, fun h1 _ => ?_⟩
  · have : (2 ^ 63 - 1 : Int) / i ≥ 1 := by
      have : (1 : Int) * i ≤ 2 ^ 63 - 1 := by omega
      exact (Int.le_ediv_iff_mul_le (by omega)).mpr this
    omega
  · unfold Builtin.Str.tooLong
    have : x.length * i.toNat ≤ 1000 := by
      have : x.length * i.toNat ≤ 1 * i.toNat := Nat.mul_le_mul_right _ hx
      omega
    have : ¬ (x.length * i.toNat > sizeLine) := by
      have : (1000 : Nat) ≤ sizeLine := by decide
      omega
    simpa using this
def rMulS : R2 := fun x y H Q => ∃ (z : Str) (i : Int), x = .str z ∧ y = .int i ∧ MulOk z i ∧ Q (.str (Txt.mul z i)) H
theorem op_mulS {X : Cx} : OpR X (binaryOp .Mult) rMulS := by
  intro pins s σ H x y v u Q I rx ry h
  obtain ⟨z, i, rfl, rfl, ok, q⟩ := h
  obtain ⟨t, rfl⟩ := (show ∃ t, v = Value.str z t from rx)
  obtain ⟨t2, rfl⟩ := (show ∃ t, u = Value.int i t from ry)
  exact SB.mul ok fun t' k => ⟨.str _, H, I.tok _, ⟨_, rfl⟩, q⟩
theorem glued_sh : ∀ (ys : List Str), (∀ y ∈ ys, Sh 1 y) → Sh ys.length (Str.join Str.empty ys)
  | [], _ => ⟨Nat.le_refl _, fun c hc => by cases (by simpa [Str.join, Str.empty] using hc : c ∈ ([] : List Nat))⟩
  | [x], h => h x List.mem_cons_self
  | x :: y :: r, h => by
    have ih := glued_sh (y :: r) fun z hz => h z (List.mem_cons_of_mem _ hz)
    have e : Str.join Str.empty (x :: y :: r) = x ++ Str.empty ++ Str.join Str.empty (y :: r) := rfl
    rw [e]
    have s0 : Sh 0 Str.empty := ⟨Nat.le_refl _, fun c hc => by cases (by simpa [Str.empty] using hc : c ∈ ([] : List Nat))⟩
    exact (sh_app (sh_app (h x List.mem_cons_self) s0) ih).mono (by simp; omega)
/-! ## repr of a short text, of a bounded number -/
theorem shw_text {K : PySem.W.Frag} {H : Hp} {n : Nat} {x : Str} (h : Sh n x) (l : n ≤ 1000) : Shw K H (.str x) (PyData.str x).shown := by
  refine .data (.str x) rfl rfl (by simp [PyData.depth]) ?_
  show (reprText x).length ≤ sizeLine
  have := StrLaws.reprText_len x (fun c hc => Nat.lt_trans (h.ok c hc) (by decide))
  have e : x.length = x.cps.toList.length := by show x.cps.size = _; simp
  have := h.len
  have : (10002 : Nat) ≤ sizeLine := by decide
  omega
theorem num_len {i : Int} (h : i.natAbs < 2 ^ 1000) : (PyData.int i).showable = true ∧ (PyData.int i).shown.length ≤ 1921 := by
  have l : i.natAbs.log2 < 1920 := by
    by_cases z : i.natAbs = 0
    · rw [z]
      decide
    · exact Nat.lt_of_lt_of_le ((Nat.log2_lt z).mpr h) (by decide)
  exact ⟨decide_eq_true l, int_text_len_1921 l⟩
end Lc
namespace Lc
open PySem PySem.Spec PyProof.Rows L2
/-! ## Names -/
def letters : Str := "abcdefghijklmnopqrstuvwxyz"
def signs : Str := "abcdefghijklmnopqrstuvwxyz0123456789"
def inS (c : Nat) : Bool := decide (c ∈ signs.cps.toList)
def inL (c : Nat) : Bool := decide (c ∈ letters.cps.toList)
def nameL : List Nat → Bool
  | [] => false
  | c :: r => decide ((c :: r).length ≤ 12) && (inL c && (c :: r).all inS)
def nameB : V → Bool
  | .str x => nameL x.cps.toList
  | _ => false
abbrev rInS : R2 := fun x y H Q => ∃ (c : Nat) (z : Str), x = .str ⟨#[c]⟩ ∧ y = .str z ∧ Q (.bl (decide (c ∈ z.cps.toList))) H
def spName : Sp := fun vs H Q _ => ∃ (v : V) (t : String), vs = [v] ∧ TyN H v t ∧ (∀ x, v = .str x → x.length ≤ sizeLine) ∧ ∀ H', Same H H' → Q (.bl (nameB v)) H'
def spLName : Sp := fun vs H Q _ => ∃ t : Addr, vs = [.ref t] ∧ Tape H t ∧ ∀ (x : Str) (H' : Hp), Sh 12 x → Tape H' t → SameB t H H' → Q (.str x) H'
theorem lenL (x : Str) : x.length = x.cps.toList.length := by show x.cps.size = _; simp
theorem nil_of {x : Str} (h : x.cps.toList = []) : x = ⟨#[]⟩ := by
  obtain ⟨⟨l⟩⟩ := x
  have : l = [] := h
  rw [this]
theorem dec_empty (x : Str) : decide (V.str x = V.str "") = decide (x.cps.toList = []) := by
  rw [Bool.eq_iff_iff, decide_eq_true_iff, decide_eq_true_iff]
  constructor
  · intro h
    injection h with h
    rw [h]
    rfl
  · intro h
    rw [nil_of h]
    rfl
theorem name_nil {x : Str} (h : x.cps.toList = []) : nameB (.str x) = false := by
  show nameL x.cps.toList = false
  rw [h]
  rfl
theorem name_long {x : Str} (h : ¬ x.cps.toList.length ≤ 12) : nameB (.str x) = false := by
  show nameL x.cps.toList = false
  cases e : x.cps.toList with
  | nil => rfl
  | cons c r =>
    rw [e] at h
    show (decide ((c :: r).length ≤ 12) && _) = false
    rw [decide_eq_false h]
    rfl
theorem name_is {x : Str} {c : Nat} {r : List Nat} (e : x.cps.toList = c :: r) (h : x.cps.toList.length ≤ 12) : nameB (.str x) = (inL c && (c :: r).all inS) := by
  show nameL x.cps.toList = _
  rw [e] at h ⊢
  show (decide ((c :: r).length ≤ 12) && _) = _
  rw [decide_eq_true h]
  rfl
/-- the list of a comprehension over a text's signs, as it grows -/
theorem grow {x : Str} {i : Nat} {c : Nat} (h : x.cps[i]? = some c) (p : Nat → Bool) : (x.cps.toList.take i).map (fun c => V.bl (p c)) ++ [V.bl (p c)] = (x.cps.toList.take (i + 1)).map fun c => V.bl (p c) := by
  have h2 : x.cps.toList[i]? = some c := by rw [Array.getElem?_toList]; exact h
  rw [List.take_succ, h2, List.map_append]
  rfl
end Lc
namespace Lc
open PySem PySem.Spec PyProof.Rows L2
theorem cut26 : cutS signs none (some 26) = letters := by decide +kernel
theorem signs_ok : ∀ c ∈ signs.cps.toList, c < 1114112 := by decide +kernel
theorem signs_len : signs.cps.toList.length = 36 := by decide +kernel
theorem at_text {l : List Nat} {i : Int} (h0 : 0 ≤ i) (h1 : i < (l.length : Int)) : ∃ c, atI l i = some c ∧ c ∈ l := by
  obtain ⟨n, rfl⟩ : ∃ n : Nat, i = (n : Int) := ⟨i.toNat, by omega⟩
  have h : n < l.length := by omega
  exact ⟨l[n], atI_nat (List.getElem?_eq_getElem h), List.getElem_mem h⟩
theorem big1000 {z : Int} (h1 : 0 ≤ z) (h2 : z ≤ 1000) : z.natAbs < 2 ^ 4000 := by
  have e : (2 : Nat) ^ 10 = 1024 := by decide
  exact Nat.lt_of_lt_of_le (show z.natAbs < 2 ^ 10 by omega) (Nat.pow_le_pow_right (by decide) (by decide))
theorem sh_a : Sh 1 (PySem.Str.ofString "a") := ⟨by decide +kernel, by decide +kernel⟩
theorem a_size : (PySem.Str.ofString "a").cps.size ≤ 1 := by decide +kernel
theorem sh_len {n : Nat} {x : Str} (h : Sh n x) : x.length ≤ n := by rw [lenL]; exact h.len
end Lc
namespace Lc
open PySem PySem.Spec PyProof.Rows L2
theorem join_sh (ys : List Str) (h : ∀ y ∈ ys, Sh 1 y) : Sh ys.length (Txt.join (PySem.Str.ofString "") ys) := by
  have e : Txt.join (PySem.Str.ofString "") ys = Str.join Str.empty ys := by
    exact (StrLaws.glued_eq_join (PySem.Str.ofString "") ys).trans rfl
  rw [e]
  exact glued_sh ys h
end Lc
set_option Elab.async false
set_option linter.all false
set_option maxRecDepth 100000
set_option maxHeartbeats 4000000
namespace Lc
open PySem PySem.Spec PyProof.Rows L2
/-! ## Flat values and what they are shown as -/
structure Fl (v : V) (d : PyData) (s : String) : Prop where
  dp : ∀ (K : PySem.W.Frag) (H : Hp), Dp K H v d
  ty : ∀ H : Hp, TyN H v s
  sh : d.showable = true
  nd : d.hasDict = false
  dz : d.depth = 0
  ln : d.shown.length ≤ 20000
theorem fl_non : Fl .non .none "NoneType" := ⟨fun _ _ => .non, fun _ => .non, rfl, rfl, rfl, by decide +kernel⟩
theorem fl_bl (b : Bool) : Fl (.bl b) (.bool b) "bool" := ⟨fun _ _ => .bl b, fun _ => .bl b, rfl, rfl, rfl, by cases b <;> decide +kernel⟩
theorem fl_int {i : Int} (h : i.natAbs < 2 ^ 1000) : Fl (.int i) (.int i) "int" := ⟨fun _ _ => .int i, fun _ => .int i, (num_len h).1, rfl, rfl, Nat.le_trans (num_len h).2 (by decide)⟩
theorem fl_str {x : Str} {n : Nat} (h : Sh n x) (l : n ≤ 1930) : Fl (.str x) (.str x) "str" := by
  refine ⟨fun _ _ => .str x, fun _ => .str x, rfl, rfl, rfl, ?_⟩
  show (reprText x).length ≤ 20000
  have := StrLaws.reprText_len x (fun c hc => Nat.lt_trans (h.ok c hc) (by decide))
  have e := lenL x
  have := h.len
  omega
theorem sh_string (s : String) : ∀ c ∈ (PySem.Str.ofString s).cps.toList, c < 1114112 := by
  intro c hc
  rw [Str.ofString_eq_toList] at hc
  have hc : c ∈ s.toList.map Char.toNat := by simpa using hc
  obtain ⟨ch, _, rfl⟩ := List.mem_map.mp hc
  have := ch.valid
  rcases this with h | ⟨_, h⟩
  · exact Nat.lt_trans h (by decide)
  · exact h
theorem sh_num {i : Int} (h : i.natAbs < 2 ^ 1000) : Sh 1921 (PySem.Str.ofString (toString i)) := ⟨by rw [← lenL]; exact (num_len h).2, sh_string _⟩
/-! ## Things: is it a number within the limit, how is it shown -/
def lim : Int := 10000000000000000000000000000000000000000
def limB : V → V → Bool
  | .int n, .int d => decide ((if n < 0 then -n else n) ≤ lim) && decide (d ≤ lim)
  | _, _ => false
def numB (x y : V) : Bool := ratB x y && limB x y
inductive Thing (H : Hp) : V → Bool → Prop
  | other {v : V} {t : String} (h : TyN H v t) (n : t ≠ "tuple") (l : ∀ x, v = .str x → x.length ≤ sizeLine) : Thing H v false
  | len {a : Addr} {xs : List V} (e : H a = some (.tup xs)) (n : xs.length ≠ 2) : Thing H (.ref a) false
  | pair {a : Addr} {x y : V} {tx ty : String} (e : H a = some (.tup [x, y])) (hx : TyN H x tx) (hy : TyN H y ty) : Thing H (.ref a) (numB x y)
theorem Thing.same {H H' : Hp} {v : V} {b : Bool} (h : Thing H v b) (s : Same H H') : Thing H' v b := by
  cases h with
  | other h n l => exact .other (h.same s) n l
  | len e n => exact .len (s _ _ e) n
  | pair e hx hy => exact .pair (s _ _ e) (hx.same s) (hy.same s)
theorem Thing.ty {H : Hp} {v : V} {b : Bool} (h : Thing H v b) : ∃ t, TyN H v t ∧ ∀ x, v = .str x → x.length ≤ sizeLine := by
  cases h with
  | other h n l => exact ⟨_, h, l⟩
  | len e n => exact ⟨_, .tup e, fun x z => nomatch z⟩
  | pair e hx hy => exact ⟨_, .tup e, fun x z => nomatch z⟩
/-- whatever is done to the tape at t -/
def Thg (K : PySem.W.Frag) (t : Addr) (H : Hp) (v : V) : Prop := ∃ (b : Bool) (z : Str), ∀ H', SameB t H H' → Thing H' v b ∧ Shw K H' v z
theorem thg_flat {K : PySem.W.Frag} {t : Addr} {H : Hp} {v : V} {d : PyData} {s : String} (h : Fl v d s) (n : s ≠ "tuple") (l : ∀ x, v = .str x → x.length ≤ sizeLine) : Thg K t H v :=
  ⟨false, d.shown, fun H' _ => ⟨.other (h.ty H') n l, .data (h.dp K H') h.sh h.nd (by rw [h.dz]; decide) (Nat.le_trans h.ln (by decide))⟩⟩
/-- the items of a display -/
inductive Fls : List V → List PyData → Prop
  | nil : Fls [] []
  | cons {v : V} {d : PyData} {s : String} {vs : List V} {ds : List PyData} (h : Fl v d s) (r : Fls vs ds) : Fls (v :: vs) (d :: ds)
theorem Fls.dps {K : PySem.W.Frag} {H : Hp} : ∀ {vs : List V} {ds : List PyData}, Fls vs ds → DpAll K H vs ds
  | _, _, .nil => .nil
  | _, _, .cons h r => .cons (h.dp K H) r.dps
theorem Fls.facts : ∀ {vs : List V} {ds : List PyData}, Fls vs ds → PyData.showableAll ds = true ∧ PyData.hasDictAll ds = false ∧ PyData.depthAll ds = 0 ∧ ((PyData.shownAll ds).map (·.length)).sum ≤ 20000 * ds.length ∧ (PyData.shownAll ds).length = ds.length ∧ ds.length = vs.length
  | _, _, .nil => ⟨rfl, rfl, rfl, by simp [PyData.shownAll], rfl, rfl⟩
  | _, _, .cons (d := d) (ds := ds) h r => by
    obtain ⟨h1, h2, h3, h4, h5, h6⟩ := r.facts
    refine ⟨?_, ?_, ?_, ?_, ?_, ?_⟩
    · simp [PyData.showableAll, h.sh, h1]
    · simp [PyData.hasDictAll, h.nd, h2]
    · simp [PyData.depthAll, h.dz, h3]
    · simp only [PyData.shownAll, List.map_cons, List.sum_cons, List.length_cons]
      have := h.ln
      omega
    · simp [PyData.shownAll, h5]
    · simp [h6]
theorem shw_tup {K : PySem.W.Frag} {H : Hp} {a : Addr} {vs : List V} {ds : List PyData} (e : H a = some (.tup vs)) (h : Fls vs ds) (l : vs.length ≤ 100) : Shw K H (.ref a) (PyData.tuple ds).shown := by
  obtain ⟨h1, h2, h3, h4, h5, h6⟩ := h.facts
  refine .data (.tup (SqT.of e) h.dps) (by simpa [PyData.showable] using h1) (by simpa [PyData.hasDict] using h2) (by simp [PyData.depth, h3]) ?_
  have := tupleText_len_le (PyData.shownAll ds)
  have s : (3000000 : Nat) ≤ sizeLine := by decide
  simp only [PyData.shown]
  omega
theorem shw_lst {K : PySem.W.Frag} {H : Hp} {a : Addr} {vs : List V} {ds : List PyData} (e : H a = some (.lst vs)) (h : Fls vs ds) (l : vs.length ≤ 100) : Shw K H (.ref a) (PyData.list ds).shown := by
  obtain ⟨h1, h2, h3, h4, h5, h6⟩ := h.facts
  refine .data (.lst (SqL.of e) h.dps) (by simpa [PyData.showable] using h1) (by simpa [PyData.hasDict] using h2) (by simp [PyData.depth, h3]) ?_
  have := listText_len_le (PyData.shownAll ds)
  have s : (3000000 : Nat) ≤ sizeLine := by decide
  simp only [PyData.shown]
  omega
theorem thg_tup {K : PySem.W.Frag} {t a : Addr} {H : Hp} {vs : List V} {ds : List PyData} (n : a ≠ t) (e : H a = some (.tup vs)) (h : Fls vs ds) (l : vs.length ≤ 100) : Thg K t H (.ref a) := by
  by_cases z : vs.length = 2
  · match vs, h, z with
    | [x, y], .cons h1 (.cons h2 .nil), _ => exact ⟨numB x y, _, fun H' s => ⟨.pair (s _ _ n e) (h1.ty H') (h2.ty H'), shw_tup (s _ _ n e) (.cons h1 (.cons h2 .nil)) (by show 2 ≤ 100; decide)⟩⟩
  · exact ⟨false, _, fun H' s => ⟨.len (s _ _ n e) z, shw_tup (s _ _ n e) h l⟩⟩
theorem thg_lst {K : PySem.W.Frag} {t a : Addr} {H : Hp} {vs : List V} {ds : List PyData} (n : a ≠ t) (e : H a = some (.lst vs)) (h : Fls vs ds) (l : vs.length ≤ 100) : Thg K t H (.ref a) :=
  ⟨false, _, fun H' s => ⟨.other (.lst (s _ _ n e)) (by decide) (fun x z => nomatch z), shw_lst (s _ _ n e) h l⟩⟩
theorem thg_dct {K : PySem.W.Frag} {t a : Addr} {H : Hp} (n : a ≠ t) (e : H a = some (.dK [])) : Thg K t H (.ref a) :=
  ⟨false, _, fun H' s => ⟨.other (.dct (s _ _ n e)) (by decide) (fun x z => nomatch z), .empty (s _ _ n e)⟩⟩
theorem Thg.sameB {K : PySem.W.Frag} {t : Addr} {H H' : Hp} {v : V} (h : Thg K t H v) (s : SameB t H H') : Thg K t H' v := by
  obtain ⟨b, z, k⟩ := h
  exact ⟨b, z, fun H2 s2 => k H2 (s.trans s2)⟩
theorem thg_str {K : PySem.W.Frag} {t : Addr} {H : Hp} {n : Nat} {x : Str} (h : Sh n x) (l : n ≤ 1930) : Thg K t H (.str x) :=
  thg_flat (fl_str h l) (by decide) fun y e => by
    injection e with e
    subst e
    rw [lenL]
    exact Nat.le_trans h.len (Nat.le_trans l (by decide))
end Lc
namespace Lc
open PySem PySem.Spec PyProof.Rows L2
theorem ratB_ints {x y : V} (h : ratB x y = true) : ∃ n d : Int, x = .int n ∧ y = .int d ∧ 0 < d ∧ gd n d = 1 := by
  cases x with
  | int n =>
    cases y with
    | int d =>
      have h' : (decide (0 < d) && decide (gd n d = 1)) = true := h
      obtain ⟨h1, h2⟩ := Bool.and_eq_true_iff.mp h'
      exact ⟨n, d, rfl, rfl, of_decide_eq_true h1, of_decide_eq_true h2⟩
    | _ => cases h
  | _ => cases y <;> cases h
end Lc
namespace Lc
open PySem PySem.Spec PyProof.Rows L2
/-! ## A word behind an expression: what follows is shown once -/
def tMid (te : TE) : TE := fun σ H Q => ∃ M : V → Hp → Prop, te σ H M ∧ ∀ v H', M v H' → Q v H'
theorem pe_mid {X : Cx} {e : Expr} {te : TE} (h : PE X e te) : PE X e (tMid te) := by
  refine ⟨fun pins s σ H Q I hq => ?_⟩
  obtain ⟨M, h1, h2⟩ := hq
  exact thn (h.run pins s σ H M I h1) fun u s1 ⟨v, H1, I1, r, q⟩ => ⟨v, H1, I1, r, h2 v H1 q⟩
end Lc
set_option Elab.async false
set_option linter.all false
set_option maxRecDepth 100000
set_option maxHeartbeats 4000000
namespace Lc
open PySem PySem.Spec PyProof.Rows L2
/-! ## enumerate(v), v whatever begins; for .., .. in enumerate(tuple) -/
def itB (h : Heap) (o : Obj) : Heap := (h.push o).push { cls := .type "enumerate", data := .fields #[.none, .bool false, .ref h.objs.size, rawInt 0, .none, .none] }
theorem meets_enum1 {v : Value} {o : Obj} {H : Heap → Prop} (B : Begins v o H) :
    Meets (Builtin.«enumerate.__new__» ⟨[.type "enumerate", v], []⟩) (fun _ R s => H s.heap ∧ R (.ok (.ret (.ref (s.heap.push o).objs.size))) { s with heap := itB s.heap o }) :=
  .of_wp fun prog w A R s h => by
    obtain ⟨hp, g, d, tk, os⟩ := s
    obtain ⟨h1, h⟩ := h
    have hsub := sub_enumerate
    have it1 : ∀ {A' : Around} {E : Value → Shared → Prop} {Q : Value → Shared → Prop}, Q (.ref hp.objs.size) ⟨hp.push o, g, d, tk, os⟩ → wpAny (model prog w) A' (pyIter v) Q E ⟨hp, g, d, tk, os⟩ := fun q => B.iter prog w _ _ ⟨hp, g, d, tk, os⟩ _ h1 q
    wp_walk using it1
    refine wpAny_stack_any fun st => wpAny_pure ?_
    split
    · rename_i c _ _ _ _ _
      cases (c == Value.type "enumerate") <;> (wp_walk using it1; exact ⟨_, rfl, h⟩)
    · wp_walk using it1
      exact ⟨_, rfl, h⟩
theorem call_enum1 {prog : Program} {w : World} {A : Around} {E : Value → Shared → Prop} {s : Shared} {v : Value} {o : Obj} {H : Heap → Prop} {Q : Value → Shared → Prop} (B : Begins v o H) (h1 : H s.heap)
    (h : IsEnum (itB s.heap o) (s.heap.objs.size + 1) s.heap.objs.size 0 .none → (itB s.heap o).get? s.heap.objs.size = some o → (∀ b u, s.heap.get? b = some u → (itB s.heap o).get? b = some u) → Q (.ref (s.heap.objs.size + 1)) { s with heap := itB s.heap o }) :
    wpAny (model prog w) A (call (.type "enumerate") [v]) Q E s := by
  have sz : (s.heap.push o).objs.size = s.heap.objs.size + 1 := Heap.size_push ..
  have en : IsEnum (itB s.heap o) (s.heap.objs.size + 1) s.heap.objs.size 0 .none := by
    have z := Heap.get?_push_size (s.heap.push o) (o := { cls := .type "enumerate", data := .fields #[.none, .bool false, .ref s.heap.objs.size, rawInt 0, .none, .none] }) rfl
    rw [sz] at z
    exact z
  refine callType_new F.called_enumerate (by decide) (F.typeCall_enumerate_1 _) (F.newCall_enumerate_1 _) (fun obj => F.args_object_init_2 obj _) F.entry_enumerate_new (meets_enum1 B) ⟨h1, ?_⟩
  show _ ∧ _
  rw [sz]
  exact ⟨⟨_, en, rfl⟩, h en (Heap.get?_push_of_some _ (Heap.get?_push_size _ B.free)) fun b u e => Heap.get?_push_of_some _ (Heap.get?_push_of_some _ e)⟩
/-- the tuple at a, each item in a new pair with its number -/
def IteT (K : PySem.W.Frag) (a : Addr) : It where
  go := fun i H => ∃ (xs : List V) (x : V), SqT K H a xs ∧ xs[i]? = some x
  yld := fun i H v H' => ∃ (q : Addr) (x : V), v = .ref q ∧ H q = none ∧ H' = upd H q (.tup [.int (i : Nat), x]) ∧ ∀ xs, SqT K H a xs → xs[i]? = some x
  stop := fun i H => ∃ xs : List V, SqT K H a xs ∧ xs.length = i
structure EnT (e it a : Addr) (i : Nat) (h : Heap) : Prop where
  en : ∃ old, IsEnum h e it ((i : Nat) : Int) old
  ti : h.IsTupleIter it a i
  n1 : e ≠ it
  n2 : a ≠ it
  n3 : a ≠ e
theorem turn_enT {P : Program} {w : World} {K : PySem.W.Frag} {elts : List Expr} {kk : Nat} {tpos : Pos} (a e it : Addr) : Turn P w K (.Tuple elts kk tpos) (IteT K a) [e, it] e (EnT e it a) where
  mem := List.mem_cons_self
  obj := fun i h st b hb => by
    rcases List.mem_cons.mp hb with rfl | hb
    · obtain ⟨old, he⟩ := st.en
      exact ⟨_, he, fun v q => nomatch q⟩
    · obtain rfl := List.mem_singleton.mp hb
      obtain ⟨o, ho, _, hd⟩ := st.ti
      exact ⟨o, ho, fun v q => by rw [hd] at q; cases q⟩
  keep := fun i h h' st k => by
    obtain ⟨old, he⟩ := st.en
    obtain ⟨o, ho, r⟩ := st.ti
    exact ⟨⟨old, k e List.mem_cons_self _ he⟩, ⟨o, k it (by simp) o ho, r⟩, st.n1, st.n2, st.n3⟩
  item := by
    intro X hP hw hK hc i pins s σ H E I hf st hg
    subst hP hw hK
    obtain ⟨xs, x, hq, hx⟩ := hg
    obtain ⟨its, rv, tp, _⟩ := I.tuple hq
    obtain ⟨u, hu, ru⟩ := rv.get hx
    obtain ⟨old, he⟩ := st.en
    have hu' : its.toArray[i]? = some u := by simpa using hu
    have li : i < its.toArray.size := (Array.getElem?_eq_some_iff.mp hu').1
    refine wpAny_pyNext_enum_itemD (Draws.tuple (A := X.A.in1) (I.ok.hd hc) it a st.n2 its.toArray) he ⟨st.ti, tp⟩ li st.n1 (by simp [st.n1, Ne.symm st.n3]) fun y h' tk hy ho hs hT hz hk => ?_
    obtain rfl : u = y := Option.some.inj (hu'.symm.trans hy)
    have le : e < s.heap.objs.size := Heap.lt_size he
    have lt : it < s.heap.objs.size := by obtain ⟨_, q, _⟩ := st.ti; exact Heap.lt_size q
    refine ⟨_, rfl, wpAny_letOwnedTupleGo_enum (s := { s with heap := h', toks := tk + 1 }) ho fun h2 he2 sb => ?_⟩
    have pair : h2.get? s.heap.objs.size = some { cls := .type "tuple", data := .seq #[.int i tk, u] } := (sb.2 _ (Nat.ne_of_gt le)).trans hT
    have I2 : Inv X pins σ (upd H s.heap.objs.size (.tup [.int (i : Nat), x])) { s with heap := h2, toks := tk + 1 } := by
      refine I.turnedNew (ch := [e, it]) (fun b ob hb q => ?_) hf (Nat.le_refl _) ⟨by show 2 ≤ sizeLine; decide, [.int i tk, u], .cons ⟨_, rfl⟩ (.cons ru .nil), ⟨_, pair, rfl, _, rfl⟩⟩
      have nb : b ≠ e ∧ b ≠ it := by simpa using hb
      exact (sb.2 b nb.1).trans (hk b ob nb.1 nb.2 q)
    refine ⟨.ref s.heap.objs.size, _, I2, rfl, ⟨_, x, rfl, I.hok.fresh (Nat.le_refl _), rfl, fun ys hy => by rw [I.tuple_inj hy hq]; exact hx⟩, ⟨⟨u, ?_⟩, ?_, st.n1, st.n2, st.n3⟩, fun b hb => ?_⟩
    · rw [show ((i + 1 : Nat) : Int) = (i : Int) + 1 by omega]
      exact he2
    · obtain ⟨o, q, r⟩ := hs.1
      exact ⟨o, (sb.2 it (Ne.symm st.n1)).trans q, r⟩
    · have lb : b < s.heap.objs.size := by
        rcases List.mem_cons.mp hb with rfl | hb
        · exact le
        · rw [List.mem_singleton.mp hb]; exact lt
      rw [upd_ne (Nat.ne_of_lt lb)]
      exact (hf b hb).1
  done := by
    intro X hP hw hK hc i pins s σ H E I hf st hg
    subst hP hw hK
    obtain ⟨xs, hq, hx⟩ := hg
    obtain ⟨its, rv, tp, _⟩ := I.tuple hq
    obtain ⟨old, he⟩ := st.en
    have hl : i = its.toArray.size := by rw [List.size_toArray, ← rv.length]; exact hx.symm
    obtain ⟨f0, f1, _, f3, f4, f5⟩ := hf it (by simp)
    subst hl
    exact wpAny_pyNext_enum_endD (Draws.tuple (A := X.A.in1) (I.ok.hd hc) it a st.n2 its.toArray) he ⟨st.ti, tp⟩ fun h' eb => ⟨rfl, I.turned (t' := s.toks) (fun b o hb q => eb b o hb q) f0 f1 f3 f4 f5⟩
  self := fun A i s Q E st h => by
    obtain ⟨old, he⟩ := st.en
    exact wpAny_pyIter_enum he h
def iEnT (K : PySem.W.Frag) (ta : TA) : TI := fun σ H R => ta σ H fun vs H1 => ∃ a xs, vs = [.ref a] ∧ SqT K H1 a xs ∧ R (IteT K a) H1
theorem pi_enT {X : Cx} {e : Expr} {ta : TA} {p pos tpos : Pos} {elts : List Expr} {kk : Nat} (hg : Gl X "enumerate") (hm : X.mg "enumerate" = none) (ha : PA X [e] ta) (hs : starEach [e] X.env = [(false, eval e X.env)] := by rfl) :
    PI X (.Tuple elts kk tpos) (.Call (.Name "enumerate" p) [e] [] pos) (iEnT X.K ta) := by
  refine ⟨fun pins s σ H R I h => Call_ (ld_blt I hg hm boot_enumerate (PyProof.Rows.callWith_type1 (thn (ha.run pos pins s σ H _ I h) fun us s1 ⟨vs, H1, I1, r1, q1⟩ => ?_) hs rfl))⟩
  obtain ⟨a, xs, rfl, hq, q⟩ := q1
  obtain ⟨u, rfl, ru⟩ := vals1 r1
  cases ru
  obtain ⟨its, rv, tp, _⟩ := I1.tuple hq
  have la : a < s1.heap.objs.size := by obtain ⟨_, z, _⟩ := tp; exact Heap.lt_size z
  refine call_enum1 (begins_tuple a its.toArray) tp fun en ito kp => wpAny_pyIter_enum en ?_
  refine ⟨_, [s1.heap.objs.size + 1, s1.heap.objs.size], _, _, H1, rfl, I1.kept (t' := s1.toks) kp, turn_enT a (s1.heap.objs.size + 1) s1.heap.objs.size, ⟨⟨.none, en⟩, ⟨_, ito, rfl, rfl⟩, Nat.succ_ne_self _, Nat.ne_of_lt la, Nat.ne_of_lt (Nat.lt_succ_of_lt la)⟩, fun b hb => ?_, q⟩
  have le : s1.heap.objs.size ≤ b := by
    rcases List.mem_cons.mp hb with rfl | hb
    · exact Nat.le_add_right _ _
    · rw [List.mem_singleton.mp hb]; exact Nat.le_refl _
  exact I1.fpOk le (I1.hok.fresh le)
theorem walk_enT {K : PySem.W.Frag} {a : Addr} {xs : List V} : Walk (IteT K a) xs.length (fun H => SqT K H a xs) (YPair (fun i => some (.int (i : Nat))) (fun i => xs[i]?)) := by
  refine ⟨fun i _ hi q => ⟨xs, xs[i], q, by simp [hi]⟩, fun _ q => ⟨xs, q, rfl⟩, fun i H v H' _ q y => ?_⟩
  obtain ⟨c, x, h1, h2, h3, h4⟩ := y
  exact ⟨c, .int (i : Nat), x, h1, h2, h3, rfl, h4 xs q⟩
end Lc
set_option Elab.async false
set_option linter.all false
set_option maxRecDepth 100000
set_option maxHeartbeats 4000000
namespace Lc
open PySem PySem.Spec PyProof.Rows L2
/-! ## Deep data that stands in the abstract heap -/
mutual
inductive Dh (H : Hp) : V → PyData → Prop
  | non : Dh H .non .none
  | bl (b : Bool) : Dh H (.bl b) (.bool b)
  | int (i : Int) : Dh H (.int i) (.int i)
  | str (x : Str) : Dh H (.str x) (.str x)
  | tup {a : Addr} {xs : List V} {ds : List PyData} (e : H a = some (.tup xs)) (h : DhAll H xs ds) : Dh H (.ref a) (.tuple ds)
  | lst {a : Addr} {xs : List V} {ds : List PyData} (e : H a = some (.lst xs)) (h : DhAll H xs ds) : Dh H (.ref a) (.list ds)
  | dct {a : Addr} (e : H a = some (.dK [])) : Dh H (.ref a) (.dict [])
inductive DhAll (H : Hp) : List V → List PyData → Prop
  | nil : DhAll H [] []
  | cons {v : V} {vs : List V} {d : PyData} {ds : List PyData} (h : Dh H v d) (r : DhAll H vs ds) : DhAll H (v :: vs) (d :: ds)
end
mutual
theorem Dh.same {H H' : Hp} (s : Same H H') : ∀ {v : V} {d : PyData}, Dh H v d → Dh H' v d
  | _, _, .non => .non
  | _, _, .bl b => .bl b
  | _, _, .int i => .int i
  | _, _, .str x => .str x
  | _, _, .tup e h => .tup (s _ _ e) (DhAll.same s h)
  | _, _, .lst e h => .lst (s _ _ e) (DhAll.same s h)
  | _, _, .dct e => .dct (s _ _ e)
theorem DhAll.same {H H' : Hp} (s : Same H H') : ∀ {vs : List V} {ds : List PyData}, DhAll H vs ds → DhAll H' vs ds
  | _, _, .nil => .nil
  | _, _, .cons h r => .cons (Dh.same s h) (DhAll.same s r)
end
def tyD : PyData → String
  | .none => "NoneType"
  | .bool _ => "bool"
  | .int _ => "int"
  | .str _ => "str"
  | .tuple _ => "tuple"
  | .list _ => "list"
  | .dict _ => "dict"
theorem Dh.ty {H : Hp} {v : V} {d : PyData} (h : Dh H v d) : TyN H v (tyD d) := by
  cases h with
  | non => exact .non
  | bl b => exact .bl b
  | int i => exact .int i
  | str x => exact .str x
  | tup e _ => exact .tup e
  | lst e _ => exact .lst e
  | dct e => exact .dct e
theorem DhAll.len {H : Hp} {vs : List V} {ds : List PyData} (h : DhAll H vs ds) : vs.length = ds.length := by
  match h with
  | .nil => rfl
  | .cons _ r => rw [List.length_cons, List.length_cons, DhAll.len r]
theorem DhAll.get {H : Hp} : ∀ {vs : List V} {ds : List PyData}, DhAll H vs ds → ∀ (i : Nat) (v : V), vs[i]? = some v → ∃ d, ds[i]? = some d ∧ Dh H v d
  | _, _, .nil, i, v, e => by simp at e
  | _, _, .cons h r, 0, v, e => by
    obtain rfl := Option.some.inj e
    exact ⟨_, rfl, h⟩
  | _, _, .cons h r, i + 1, v, e => by
    obtain ⟨d, e1, e2⟩ := DhAll.get r i v (by simpa using e)
    exact ⟨d, by simpa using e1, e2⟩
theorem DhAll.append {H : Hp} : ∀ {vs : List V} {ds : List PyData} {us : List V} {es : List PyData}, DhAll H vs ds → DhAll H us es → DhAll H (vs ++ us) (ds ++ es)
  | _, _, _, _, .nil, r => r
  | _, _, _, _, .cons h t, r => .cons h (DhAll.append t r)
mutual
theorem Dh.dp {K : PySem.W.Frag} {H : Hp} : ∀ {v : V} {d : PyData}, Dh H v d → d.hasDict = false → Dp K H v d
  | _, _, .non, _ => .non
  | _, _, .bl b, _ => .bl b
  | _, _, .int i, _ => .int i
  | _, _, .str x, _ => .str x
  | _, _, .tup e h, n => .tup (SqT.of e) (DhAll.dp h (by simpa [PyData.hasDict] using n))
  | _, _, .lst e h, n => .lst (SqL.of e) (DhAll.dp h (by simpa [PyData.hasDict] using n))
  | _, _, .dct e, n => by simp [PyData.hasDict] at n
theorem DhAll.dp {K : PySem.W.Frag} {H : Hp} : ∀ {vs : List V} {ds : List PyData}, DhAll H vs ds → PyData.hasDictAll ds = false → DpAll K H vs ds
  | _, _, .nil, _ => .nil
  | _, _, .cons h r, n => by
    rw [PyData.hasDictAll, Bool.or_eq_false_iff] at n
    exact .cons (Dh.dp h n.1) (DhAll.dp r n.2)
end
theorem Dh.shw {K : PySem.W.Frag} {H : Hp} {v : V} {d : PyData} (h : Dh H v d) (h1 : d.showable = true) (h2 : d.hasDict = false) (h3 : d.depth ≤ 60) (h4 : d.shown.length ≤ sizeLine) : Shw K H v d.shown := .data (h.dp h2) h1 h2 h3 h4
/-! ## How large it is when it is shown -/
structure Tm (k n : Nat) (d : PyData) : Prop where
  sh : d.showable = true
  nd : d.hasDict = false
  dz : d.depth ≤ k
  ln : d.shown.length ≤ n
theorem Tm.mono {k n k' n' : Nat} {d : PyData} (h : Tm k n d) (a : k ≤ k') (b : n ≤ n') : Tm k' n' d := ⟨h.sh, h.nd, Nat.le_trans h.dz a, Nat.le_trans h.ln b⟩
theorem tm_fl {v : V} {d : PyData} {s : String} (h : Fl v d s) : Tm 0 20000 d := ⟨h.sh, h.nd, Nat.le_of_eq h.dz, h.ln⟩
theorem tm_all {k n : Nat} : ∀ {ds : List PyData}, (∀ d ∈ ds, Tm k n d) → PyData.showableAll ds = true ∧ PyData.hasDictAll ds = false ∧ PyData.depthAll ds ≤ k ∧ ((PyData.shownAll ds).map (·.length)).sum ≤ n * ds.length ∧ (PyData.shownAll ds).length = ds.length
  | [], _ => ⟨rfl, rfl, Nat.zero_le _, by simp [PyData.shownAll], rfl⟩
  | d :: ds, h => by
    obtain ⟨h1, h2, h3, h4, h5⟩ := tm_all (ds := ds) fun x hx => h x (List.mem_cons_of_mem _ hx)
    have hd := h d List.mem_cons_self
    refine ⟨?_, ?_, ?_, ?_, ?_⟩
    · simp [PyData.showableAll, hd.sh, h1]
    · simp [PyData.hasDictAll, hd.nd, h2]
    · simp only [PyData.depthAll]
      have := hd.dz
      omega
    · simp only [PyData.shownAll, List.map_cons, List.sum_cons, List.length_cons]
      have := hd.ln
      rw [Nat.mul_succ]
      omega
    · simp [PyData.shownAll, h5]
theorem tm_tup {k n : Nat} {ds : List PyData} (h : ∀ d ∈ ds, Tm k n d) : Tm (k + 1) (n * ds.length + 2 * ds.length + 4) (.tuple ds) := by
  obtain ⟨h1, h2, h3, h4, h5⟩ := tm_all h
  refine ⟨by simpa [PyData.showable] using h1, by simpa [PyData.hasDict] using h2, ?_, ?_⟩
  · simp only [PyData.depth]
    omega
  · have := tupleText_len_le (PyData.shownAll ds)
    simp only [PyData.shown]
    omega
theorem tm_lst {k n : Nat} {ds : List PyData} (h : ∀ d ∈ ds, Tm k n d) : Tm (k + 1) (n * ds.length + 2 * ds.length + 4) (.list ds) := by
  obtain ⟨h1, h2, h3, h4, h5⟩ := tm_all h
  refine ⟨by simpa [PyData.showable] using h1, by simpa [PyData.hasDict] using h2, ?_, ?_⟩
  · simp only [PyData.depth]
    omega
  · have := listText_len_le (PyData.shownAll ds)
    simp only [PyData.shown]
    omega
theorem Dh.shwT {K : PySem.W.Frag} {H : Hp} {v : V} {d : PyData} {k n : Nat} (h : Dh H v d) (t : Tm k n d) (a : k ≤ 60) (b : n ≤ 3000000) : Shw K H v d.shown := h.shw t.sh t.nd (Nat.le_trans t.dz a) (Nat.le_trans t.ln (Nat.le_trans b (by decide)))
end Lc
set_option Elab.async false
set_option linter.all false
set_option maxRecDepth 100000
set_option maxHeartbeats 4000000
namespace Lc
open PySem PySem.Spec PyProof.Rows L2
/-! ## (x, y) * 0, (x, y) * 1 -/
theorem tuple_mul1 (l : Addr) (items : Array Value) (n : Nat) (dd : Option Addr) (sl : Array (Option Value)) (u : Tok) :
    Meets (Builtin.«tuple.__mul__» ⟨[.ref l, .int 1 u], []⟩) (fun _ R s => s.heap.get? l = some { cls := .type "tuple", dict := dd, data := .seq items n, slots := sl } ∧ R (.ok (.ret (Value.ref l))) s) :=
  .of_wp fun prog w A R s h => by
    obtain ⟨hp, g, d, tk, os⟩ := s
    obtain ⟨hl, h⟩ := h
    have f1 := AutoSeq1.idx_int
    have c0 : (decide ((1 : Int) < -(2 ^ 63)) || decide ((1 : Int) ≥ 2 ^ 63)) = false := by decide
    have c1 : (items.isEmpty || (1 : Int) == 1) = true := by simp
    wp_walk using wpAny_loadPart' hl
    repeat (first
      | (refine wpAny_ite_false (decide_eq_false (by rw [c0]; exact Bool.false_ne_true)) ?_; wp_walk using wpAny_loadPart' hl)
      | (refine wpAny_ite_true (decide_eq_true c1) ?_; wp_walk using wpAny_loadPart' hl))
    exact ⟨_, rfl, h⟩
theorem tuple_mul0 (l : Addr) (items : Array Value) (n : Nat) (dd : Option Addr) (sl : Array (Option Value)) (u : Tok) (hne : items.isEmpty = false) :
    Meets (Builtin.«tuple.__mul__» ⟨[.ref l, .int 0 u], []⟩) (fun _ R s => s.heap.get? l = some { cls := .type "tuple", dict := dd, data := .seq items n, slots := sl } ∧
      R (.ok (.ret (Value.ref s.heap.objs.size))) { s with heap := s.heap.push { cls := Value.type "tuple", data := Data.seq #[] } }) :=
  .of_wp fun prog w A R s h => by
    obtain ⟨hp, g, d, tk, os⟩ := s
    obtain ⟨hl, h⟩ := h
    have f1 := AutoSeq1.idx_int
    have c0 : (decide ((0 : Int) < -(2 ^ 63)) || decide ((0 : Int) ≥ 2 ^ 63)) = false := by decide
    have c1 : (items.isEmpty || (0 : Int) == 1) = false := by rw [hne]; rfl
    have c2 : (decide ((0 : Int) ≤ 0) || items.isEmpty) = true := by simp
    wp_walk using wpAny_loadPart' hl
    repeat (first
      | (refine wpAny_ite_false (decide_eq_false (by rw [c0]; exact Bool.false_ne_true)) ?_; wp_walk using wpAny_loadPart' hl)
      | (refine wpAny_ite_false (decide_eq_false (by rw [c1]; exact Bool.false_ne_true)) ?_; wp_walk using wpAny_loadPart' hl)
      | (refine wpAny_ite_true (decide_eq_true c2) ?_; wp_walk using wpAny_loadPart' hl))
    exact ⟨_, rfl, h⟩
def rRep01 (K : PySem.W.Frag) : R2 := fun x y H Q => ∃ l k xs, x = .ref l ∧ y = .int k ∧ SqT K H l xs ∧ xs ≠ [] ∧ ((k = 1 ∧ Q (.ref l) H) ∨ (k = 0 ∧ ∀ p, H p = none → Q (.ref p) (upd H p (.tup []))))
section
variable {X : Cx}
theorem op_rep01 : OpR X (binaryOp .Mult) (rRep01 X.K) := by
  intro pins s σ H x y v u Q I rx ry h
  obtain ⟨l, k, xs, rfl, rfl, hT, hne, h⟩ := h
  cases rx
  obtain ⟨t, rfl⟩ := ry
  obtain ⟨its, r, ⟨⟨cls, dd, data, sl⟩, ho, hc, n, hd⟩, hs⟩ := I.tuple hT
  simp only at hc hd
  subst hc hd
  have hle : its.length = xs.length := r.length.symm
  have hn : its ≠ [] := fun e => hne (by
    rw [e] at hle
    exact List.eq_nil_of_length_eq_zero hle.symm)
  have hi : its.toArray.isEmpty = false := by
    cases its with
    | nil => exact absurd rfl hn
    | cons a b => rfl
  rcases h with ⟨rfl, q⟩ | ⟨rfl, q⟩
  · exact wpAny_binaryOp_repeat_ref (T := "tuple") (U := "int") (by decide) ⟨_, ho, rfl⟩ (fun s' => typeIs_int s' 1 t) noFill_tuple_mul F.fills_int_mul F.slot_int_rmul repeat_tuple F.slot_int_index.lookup
      (call_meets F.slot_int_rmul (typeIs_int s 1 t) F.entry_int_rmul (F.args_int_rmul_2 _ _) (int_rmul_tuple 1 t l its.toArray n dd sl)
        ⟨ho, rfl, ⟨_, ho, rfl⟩, call_meets F.slot_tuple_mul ⟨_, ho, rfl⟩ F.entry_tuple_mul (F.args_tuple_mul_2 _ _) (tuple_mul1 l its.toArray n dd sl t) ⟨ho, .ref l, H, I, rfl, q⟩⟩)
  · refine wpAny_binaryOp_repeat_ref (T := "tuple") (U := "int") (by decide) ⟨_, ho, rfl⟩ (fun s' => typeIs_int s' 0 t) noFill_tuple_mul F.fills_int_mul F.slot_int_rmul repeat_tuple F.slot_int_index.lookup
      (call_meets F.slot_int_rmul (typeIs_int s 0 t) F.entry_int_rmul (F.args_int_rmul_2 _ _) (int_rmul_tuple 0 t l its.toArray n dd sl)
        ⟨ho, rfl, ⟨_, ho, rfl⟩, call_meets F.slot_tuple_mul ⟨_, ho, rfl⟩ F.entry_tuple_mul (F.args_tuple_mul_2 _ _) (tuple_mul0 l its.toArray n dd sl t hi) ⟨ho, ?_⟩⟩)
    refine ⟨.ref s.heap.objs.size, _, I.laid (t' := s.toks) (o := .tup []) (fun b ob q => Heap.get?_push_of_some _ q) (Nat.le_refl _) ?_, rfl, q _ (I.hok.fresh (Nat.le_refl _))⟩
    exact ⟨Nat.zero_le _, [], .nil, IsTup.new _ _⟩
/-! ## What is never reached -/
theorem pss_dead {b : List Stmt} : PSs X b (fun _ _ _ => False) := ⟨fun _ _ _ _ _ _ h => h.elim⟩
theorem pg_dead {e : Expr} : PG X e (fun _ _ _ _ => False) := ⟨fun _ _ _ _ _ _ _ _ _ h => h.elim⟩
/-! ## C(e, ..) in a try -/
def tMakeS (C : Addr) (sp : Sp) (E : L2.St → XK) (t : TA) : TE := fun σ H Q => t σ H fun vs H1 => ∀ x dx, H1 x = none → H1 dx = none → dx ≠ x →
  sp (.ref x :: vs) (upd (upd H1 dx (.own x)) x (.ins C dx [])) (fun v H2 => v = .non ∧ Q (.ref x) H2) (E σ)
theorem pe_makeS {CX : CXT} {k : Nat} {C f : Addr} {fd : FuncData} {ps : List Str} {sp : Sp} {E : L2.St → XK} {x : Str} {p pos : Pos} {e : Expr} {es : List Expr} {t : TA}
    (M : Mk X.K C f) (F : FnOk X.prog X.w X.K X.mg X.base CX k f fd ps sp) (hr : Room (k + 1) X.A) (hg : Gl X x) (hm : X.mg x = some (.ref C)) (hb : Binds X.K fd ps []) (hx : ∀ σ, PassesAt CX X σ (E σ))
    (ha : PA X (e :: es) t) (hdb : (x == ("__debug__" : Str)) = false := by decide) (he : starEach (e :: es) X.env = (false, eval e X.env) :: starEach es X.env := by rfl) (hpl : (backTo pos (starEach es X.env)).any (·.1) = false := by rfl) :
    PE X (.Call (.Name x p) (e :: es) [] pos) (tMakeS C sp E t) := by
  refine ⟨fun pins s0 σ H0 Q I0 h0 => ?_⟩
  refine wpAny_Call_Name_kw (ld_glob I0 hg hm ?_ hdb)
  refine PySem.W.callWith_K (h₀ := X.base) I0.ok.mod.kin M.kp (thn (ha.run pos pins s0 σ H0 _ I0 h0) fun us s ⟨vs, H, I, r, h⟩ => ⟨I.kIn, ?_⟩) he hpl
  have hq := h (s.heap.objs.size + 1) s.heap.objs.size (I.hok.fresh (Nat.le_succ _)) (I.hok.fresh (Nat.le_refl _)) (Nat.ne_of_lt (Nat.lt_succ_self _))
  have I2 := Inv.made (C := C) I
  have r2 : Vals (V.ref (s.heap.objs.size + 1) :: vs) (Value.ref (s.heap.objs.size + 1) :: us) := .cons rfl r
  have hl : (Value.ref (s.heap.objs.size + 1) :: us).length = ps.length := by
    have e := r2.length
    rw [F.len _ _ _ _ hq] at e
    exact e.symm
  refine wpAny_call (make_map (f := f) I.kIn M.makes M.init (beq_iff_eq.mp M.fn) (codeAny_mono (F.run _ X.stack _ _ ⟨Value.ref (s.heap.objs.size + 1) :: us, []⟩ (Value.ref (s.heap.objs.size + 1) :: us) _ _ (E σ) (hr.make C us [])
    (I2.env0.make C us []) (by
      have z := hb _ (Value.ref (s.heap.objs.size + 1) :: us) I2.kIn (by rw [List.append_nil]; exact hl)
      rw [List.append_nil] at z
      exact z) r2 hq) fun r s' hq' => ?_))
  cases r with
  | error e => exact hx σ pins _ _ e s' I2 hq'
  | ok fl =>
    cases fl with
    | ret u =>
      obtain ⟨v, H', I3, rv, ev, q3⟩ := I2.after hq'
      subst ev
      exact ⟨rv, ⟨V.ref (s.heap.objs.size + 1), H', I3, rfl, q3⟩⟩
    | next => exact False.elim hq'
    | brk => exact False.elim hq'
    | cont => exact False.elim hq'
/-! ## len(o), o of an own class -/
structure LenC (K : PySem.W.Frag) (C f : Addr) : Prop where
  at_ : PySem.W.findIn K (.ref C) "__len__" = some (some (.ref f))
  fn : PySem.W.isFn K (.ref f) = true
def rLenI (C : Addr) (sp : Sp) : List V → Hp → VK → Prop := fun xs H Q => ∃ a dx fs, xs = [.ref a] ∧ H a = some (.ins C dx fs) ∧ sp [.ref a] H (fun v H' => ∃ n : Int, v = .int n ∧ 0 ≤ n ∧ n < 2 ^ 63 ∧ Q (.int n) H') E0
theorem call_lenI {k : Nat} {C f : Addr} {fd : FuncData} {ps : List Str} {sp : Sp} (c : LenC X.K C f) (F : FnOk X.prog X.w X.K X.mg X.base CX0 k f fd ps sp) (hr : Room (k + 1) X.A) (hb : Binds X.K fd ps []) : CallR X (.builtin "len") (rLenI C sp) := by
  intro pins s σ H xs us Q I rv h
  obtain ⟨a, dx, fs, rfl, ha, hsp⟩ := h
  obtain ⟨u, rfl, ru⟩ := vals1 rv
  cases ru
  obtain ⟨mA, J, _⟩ := ins_get I.hok ha
  obtain ⟨od, J, _⟩ := J.look
  refine Calls.call_function_entry kind_len plain_len entry_len (args_len1 _) ?_
  unfold Builtin.«len»
  refine wpAny_bind (m := oneArg "len" _) (wpAny_pure ?_)
  refine wpAny_bind (m := callSpecial? (.ref a) (Str.ofString "__len__")) (PySem.W.special_fn I.kIn J c.at_ (beq_iff_eq.mp c.fn) ?_)
  have e0 : Env0 X.prog X.w X.K X.mg X.base X.A.in1 X.stack s H := by
    have e := I.env0
    exact ⟨e.frames, e.mod, e.bs, e.bsz, e.funs, e.frf, e.hok, e.bare⟩
  have hl := F.len _ _ _ _ hsp
  have r2 : Vals [V.ref a] [Value.ref a] := .cons rfl .nil
  refine wpAny_call (codeAny_mono (F.run X.A.in1 X.stack s H ⟨[.ref a], []⟩ [.ref a] [.ref a] _ _ hr.in1 e0 (by
    have := hb s [.ref a] I.kIn (by simpa using hl)
    simpa using this) r2 hsp) fun r s' hq => ?_)
  cases r with
  | error e => exact hq.elim
  | ok fl =>
    cases fl with
    | ret u =>
      obtain ⟨v, H', I3, rv, n, rfl, h0, h1, q3⟩ := I.after hq
      obtain ⟨t, rfl⟩ := rv
      refine wpAny_bind (wpAny_holding (wpAny_pure ?_))
      refine wpAny_bind (wpAny_letGo ?_)
      show wpAny _ _ (if n < 0 then _ else _) _ _ _
      rw [if_neg (by omega)]
      show wpAny _ _ (if n ≥ 2 ^ 63 then _ else _) _ _ _
      rw [if_neg (by omega)]
      exact wpAny_bind (wpAny_mkInt (wpAny_pure ⟨_, rfl, .int n, H', I3.tok _, ⟨_, rfl⟩, q3⟩))
    | next => exact False.elim hq
    | brk => exact False.elim hq
    | cont => exact False.elim hq
end
end Lc
set_option Elab.async false
set_option linter.all false
set_option maxRecDepth 100000
set_option maxHeartbeats 4000000
namespace Lc
open PySem PySem.Spec PyProof.Rows L2
/-! ## Names that are drawn are names -/
theorem name_of {l : List Nat} {x : Str} (e : x.cps.toList = l) (ne : l ≠ []) (ln : l.length ≤ 12) (h1 : ∀ c r, l = c :: r → inL c = true) (h2 : ∀ c ∈ l, inS c = true) : nameB (.str x) = true := by
  show nameL x.cps.toList = true
  rw [e]
  cases l with
  | nil => exact absurd rfl ne
  | cons c r =>
    show (decide ((c :: r).length ≤ 12) && (inL c && (c :: r).all inS)) = true
    rw [decide_eq_true ln, h1 c r rfl, List.all_eq_true.mpr h2]
    rfl
theorem name_has {x : Str} (h : nameB (.str x) = true) : x.cps.toList ≠ [] ∧ x.cps.toList.length ≤ 12 ∧ (∀ c r, x.cps.toList = c :: r → inL c = true) ∧ ∀ c ∈ x.cps.toList, inS c = true := by
  have h : nameL x.cps.toList = true := h
  generalize x.cps.toList = l at h
  cases l with
  | nil => cases h
  | cons c r =>
    have h : (decide ((c :: r).length ≤ 12) && (inL c && (c :: r).all inS)) = true := h
    obtain ⟨a, h⟩ := Bool.and_eq_true_iff.mp h
    obtain ⟨b, h⟩ := Bool.and_eq_true_iff.mp h
    exact ⟨List.cons_ne_nil _ _, of_decide_eq_true a, fun c' r' e => by cases e; exact b, List.all_eq_true.mp h⟩
theorem app_list (x y : Str) : (x ++ y).cps.toList = x.cps.toList ++ y.cps.toList := by
  show (x.cps ++ y.cps).toList = _
  simp
theorem mul_list (i : Int) : (Txt.mul (PySem.Str.ofString "a") i).cps.toList = List.replicate i.toNat 97 := by
  have ea : (PySem.Str.ofString "a").cps.toList = [97] := by decide +kernel
  have el : ((PySem.Str.ofString "a").length == 0) = false := by decide +kernel
  unfold Txt.mul
  by_cases h1 : i < 1
  · rw [if_pos h1, show i.toNat = 0 by omega]
    rfl
  · rw [if_neg h1, el, Bool.or_false]
    by_cases h2 : (i == 1) = true
    · rw [if_pos h2, ea, show i.toNat = 1 by have := beq_iff_eq.mp h2; omega]
      rfl
    · rw [if_neg h2]
      show ((List.replicate i.toNat (PySem.Str.ofString "a").cps).foldl (· ++ ·) #[]).toList = _
      rw [foldl_app]
      simp only [List.map_replicate, ea]
      generalize i.toNat = n
      induction n with
      | zero => rfl
      | succ n ih =>
        rw [List.replicate_succ, List.replicate_succ]
        simpa using ih
theorem sgn_at {i : Int} (h0 : 0 ≤ i) (h1 : i < 36) : ∃ c, atI signs.cps.toList i = some c ∧ c ∈ signs.cps.toList ∧ inS c = true ∧ (i < 26 → inL c = true) := by
  obtain ⟨n, rfl⟩ : ∃ n : Nat, i = (n : Int) := ⟨i.toNat, by omega⟩
  have h : n < signs.cps.toList.length := by rw [signs_len]; omega
  have m := List.getElem_mem h
  refine ⟨signs.cps.toList[n], atI_nat (List.getElem?_eq_getElem h), m, decide_eq_true m, fun l => ?_⟩
  have all : ∀ k : Fin 26, (signs.cps.toList[k.1]?).all inL = true := by decide +kernel
  have z := all ⟨n, by omega⟩
  rw [List.getElem?_eq_getElem h] at z
  exact z
theorem in97 : inL 97 = true ∧ inS 97 = true := by decide +kernel
theorem name_one {k m : Int} {c : Nat} (h0 : 0 ≤ k) (hm : 0 ≤ m) (l : k + m ≤ 11) (hs : inS c = true) (hl : k = 0 → inL c = true) : nameB (.str (Txt.mul (PySem.Str.ofString "a") k ++ ⟨#[c]⟩ ++ Txt.mul (PySem.Str.ofString "a") m)) = true := by
  have e : (Txt.mul (PySem.Str.ofString "a") k ++ (⟨#[c]⟩ : Str) ++ Txt.mul (PySem.Str.ofString "a") m).cps.toList = List.replicate k.toNat 97 ++ [c] ++ List.replicate m.toNat 97 := by
    rw [app_list, app_list, mul_list, mul_list]
  refine name_of e (by simp) (by simp; omega) (fun c' r' q => ?_) (fun c' q => ?_)
  · by_cases z : k = 0
    · subst z
      have q : c :: List.replicate m.toNat 97 = c' :: r' := q
      cases q
      exact hl rfl
    · obtain ⟨n, hn⟩ : ∃ n, k.toNat = n + 1 := ⟨k.toNat - 1, by omega⟩
      rw [hn, List.replicate_succ] at q
      cases q
      exact in97.1
  · rcases List.mem_append.mp q with q | q
    · rcases List.mem_append.mp q with q | q
      · rw [List.eq_of_mem_replicate q]; exact in97.2
      · rw [List.mem_singleton.mp q]; exact hs
    · rw [List.eq_of_mem_replicate q]; exact in97.2
theorem glued_list : ∀ (cs : List Nat), (Str.join Str.empty (cs.map fun c => (⟨#[c]⟩ : Str))).cps.toList = cs
  | [] => rfl
  | [c] => rfl
  | c :: d :: r => by
    have ih := glued_list (d :: r)
    have e : Str.join Str.empty ((c :: d :: r).map fun c => (⟨#[c]⟩ : Str)) = (⟨#[c]⟩ : Str) ++ Str.empty ++ Str.join Str.empty ((d :: r).map fun c => (⟨#[c]⟩ : Str)) := rfl
    rw [e, app_list, app_list, ih]
    rfl
theorem name_join {cs : List Nat} (ne : cs ≠ []) (ln : cs.length ≤ 12) (h1 : ∀ c r, cs = c :: r → inL c = true) (h2 : ∀ c ∈ cs, inS c = true) : nameB (.str (Txt.join (PySem.Str.ofString "") (cs.map fun c => (⟨#[c]⟩ : Str)))) = true := by
  have e : Txt.join (PySem.Str.ofString "") (cs.map fun c => (⟨#[c]⟩ : Str)) = Str.join Str.empty (cs.map fun c => (⟨#[c]⟩ : Str)) := (StrLaws.glued_eq_join (PySem.Str.ofString "") _).trans rfl
  rw [e]
  exact name_of (glued_list cs) ne ln h1 h2
theorem cut_list (x : Str) : (cutS x none (some 11)).cps.toList = x.cps.toList.take 11 := by
  unfold cutS
  rw [lenL]
  simp [HT.sIx]
theorem name_cut {x : Str} {c : Nat} (h : nameB (.str x) = true) (hc : inS c = true) : nameB (.str (cutS x none (some 11) ++ ⟨#[c]⟩)) = true := by
  obtain ⟨a1, a2, a3, a4⟩ := name_has h
  have e : (cutS x none (some 11) ++ (⟨#[c]⟩ : Str)).cps.toList = x.cps.toList.take 11 ++ [c] := by rw [app_list, cut_list]
  refine name_of e (by simp) (by simp; omega) (fun c' r' q => ?_) (fun c' q => ?_)
  · cases z : x.cps.toList with
    | nil => exact absurd z a1
    | cons d r =>
      rw [z] at q
      have q : d :: (r.take 10 ++ [c]) = c' :: r' := q
      injection q with q1 _
      rw [← q1]
      exact a3 d r z
  · rcases List.mem_append.mp q with q | q
    · exact a4 c' (List.mem_of_mem_take q)
    · rw [List.mem_singleton.mp q]; exact hc
/-! ## Some letter is free -/
theorem pigeon {α : Type} [DecidableEq α] : ∀ {l m : List α}, l.Nodup → (∀ x ∈ l, x ∈ m) → l.length ≤ m.length
  | [], _, _, _ => Nat.zero_le _
  | x :: l, m, n, h => by
    obtain ⟨n1, n2⟩ := List.nodup_cons.mp n
    have hx := h x List.mem_cons_self
    have := pigeon (l := l) (m := m.erase x) n2 fun y hy => (List.mem_erase_of_ne (fun e => n1 (by rw [← e]; exact hy))).mpr (h y (List.mem_cons_of_mem _ hy))
    rw [List.length_erase_of_mem hx] at this
    have := List.length_pos_of_mem hx
    rw [List.length_cons]
    omega
theorem in_strs {z : Str} {ss : List Str} : inV (.str z) (ss.map V.str) = decide (z ∈ ss) := by
  rw [Bool.eq_iff_iff, decide_eq_true_iff]
  unfold inV
  rw [List.any_eq_true]
  constructor
  · rintro ⟨y, hy, e⟩
    obtain ⟨s, hs, rfl⟩ := List.mem_map.mp hy
    have : s = z := by simpa [eqV] using e
    rw [← this]; exact hs
  · intro h
    exact ⟨.str z, List.mem_map.mpr ⟨z, h, rfl⟩, by simp [eqV]⟩
theorem free_letter {x : Str} {ss : List Str} (l : ss.length < 36) (h : ∀ c ∈ signs.cps.toList, cutS x none (some 11) ++ (⟨#[c]⟩ : Str) ∈ ss) : False := by
  have inj : ∀ c d : Nat, cutS x none (some 11) ++ (⟨#[c]⟩ : Str) = cutS x none (some 11) ++ (⟨#[d]⟩ : Str) → c = d := fun c d e => by
    have e := congrArg (fun s : Str => s.cps.toList) e
    simp only [app_list] at e
    have := List.append_cancel_left e
    simpa using this
  have nd : signs.cps.toList.Nodup := by decide +kernel
  have := pigeon (l := signs.cps.toList.map fun c => cutS x none (some 11) ++ (⟨#[c]⟩ : Str)) (m := ss) (List.Pairwise.map _ (fun a b n e => n (inj a b e)) nd) fun y hy => by
    obtain ⟨c, hc, rfl⟩ := List.mem_map.mp hy
    exact h c hc
  rw [List.length_map, signs_len] at this
  omega
end Lc
set_option Elab.async false
set_option linter.all false
set_option maxRecDepth 100000
set_option maxHeartbeats 4000000
namespace Lc
open PySem PySem.Spec PyProof.Rows L2
/-! ## o.m(e, .., k = v, ..) -/
def tMethK (C : Addr) (m : Str) (n l : Nat) (sp : Sp) (gV : List V → List V → List V) (E : XK) (ta : TE) (t tk : TA) : TE := fun σ H Q => ta σ H fun x H1 => ∃ a dx fs, x = .ref a ∧ H1 a = some (.ins C dx fs) ∧ fs.lookup m = none ∧
  t σ H1 fun vs H2 => tk σ H2 fun zs H3 => vs.length = n ∧ zs.length = l ∧ sp (gV (x :: vs) zs) H3 Q E
section
variable {X : Cx} {CX : CXT} {k n : Nat} {f C : Addr} {fd : FuncData} {ps ks : List Str} {sp : Sp} {E : XK} {m : Str} {pos apos : Pos} {e o : Expr} {es : List Expr} {kws : List Keyword} {ta : TE} {t tk : TA} {g : List Value → List Value → List Value} {gV : List V → List V → List V}
theorem pe_methK {pl : Sem Bool} (he : PE X o ta) (c : Cls X.K C) (hm : Meth X.K C m f) (F : FnOk X.prog X.w X.K X.mg X.base CX k f fd ps sp) (hr : Room k X.A) (hb : KBn X.K fd ps (n + 1) ks g gV) (hx : Passes CX X E) (ha : PA X (e :: es) t) (hkw : PK X kws tk)
    (hall : (backToKw pos (keywordEach kws X.env)).all (·.1.isSome) = true := by rfl) (hks : (backToKw pos (keywordEach kws X.env)).filterMap (·.1) = ks := by rfl) (hst : starEach (e :: es) X.env = (false, eval e X.env) :: starEach es X.env := by rfl)
    (hpl : ((backTo pos (starEach (e :: es) X.env)).any (·.1) || (backToKw pos (keywordEach kws X.env)).any (·.1.isNone)) = false := by rfl)
    (ht : eval (.Call (.Attribute o m apos) (e :: es) kws pos) X.env = (do
      let ov ← eval o X.env
      standAt apos.atName
      let (f, first) ← holding [ov] (getMethod ov m pl)
      callWith pos f first (backTo pos (starEach (e :: es) X.env)) (backToKw pos (keywordEach kws X.env))) := by rfl) :
    PE X (.Call (.Attribute o m apos) (e :: es) kws pos) (tMethK C m n ks.length sp gV E ta t tk) := by
  refine ⟨fun pins s σ H Q I h => ?_⟩
  refine PySem.W.methodCall_KW (pl := pl) (thn (he.run pins s σ H _ I h) fun u s1 ⟨x, H1, I1, rx, a, dx, fs, ex, ea, l, q⟩ => ?_) ht
  subst ex
  obtain rfl : u = Value.ref a := rx
  refine getmeth_ok I1 ea c hm l ?_
  refine PySem.W.callWith_KW (first := [.ref a]) (h₀ := X.base) I.ok.mod.kin hm.kp hall (thn (ha.run pos pins s1 σ H1 _ I1 q) fun us s2 ⟨vs, H2, I2, r, q2⟩ => ?_) hpl hst
  refine thn (hkw.run pos pins s2 σ H2 _ I2 q2) fun ws s3 ⟨zs, H3, I3, rz, l1, l2, q3⟩ => ⟨I3.kIn, ?_⟩
  rw [hks]
  exact run_fnN (us := .ref a :: us) (vs := .ref a :: vs) F hr hb hx I3 (.cons rfl r) rz (by rw [List.length_cons, l1]) l2 q3
end
theorem kbN {K : PySem.W.Frag} {x qual : Str} {params : Arguments} {body : List Stmt} {scope : Scope} {kws : List (Str × V)} {f : Addr} {fd : FuncData} {ps ks : List Str} {n : Nat} (F : FunD K x qual params body scope [] kws f fd)
    (h : ∀ (kV doc pm : Value) (an : Option Addr) (cdv ct : Value) (us ws : List Value), us.length = n → ws.length = ks.length → bindArgs (PySem.W.fnOf x qual params body scope .none kV doc pm an cdv ct) ⟨us, ks.zip ws⟩ = pure (ps.zip (us ++ ws))) : KBn K fd ps n ks (fun us ws => us ++ ws) (fun vs zs => vs ++ zs) := by
  obtain ⟨oc, od, dV, kV, doc, pm, an, cdv, ct, osl, rfl, lk, hcd, hD, hK⟩ := F.ex
  rcases hD with ⟨_, rfl⟩ | ⟨e, _⟩
  · exact ⟨fun s us ws X l1 l2 => .of_eq (h kV doc pm an cdv ct us ws l1 l2), fun r1 r2 => r1.append r2⟩
  · exact absurd rfl e
/-! ## Data without lists: it stands as long as the tuples stand -/
def SameT (H H' : Hp) : Prop := ∀ b xs, H b = some (.tup xs) → H' b = some (.tup xs)
theorem SameT.refl (H : Hp) : SameT H H := fun _ _ e => e
theorem SameT.trans {H H1 H2 : Hp} (a : SameT H H1) (b : SameT H1 H2) : SameT H H2 := fun c xs e => b c xs (a c xs e)
theorem SameT.of {H H' : Hp} (s : Same H H') : SameT H H' := fun b xs e => s _ _ e
theorem SameT.b {t : Addr} {H H' : Hp} (T : Tape H t) (s : SameB t H H') : SameT H H' := fun b xs e => s _ _ (T.neT e) e
theorem SameT.at {a : Addr} {H H' : Hp} {o : HO} (h : H a = some o) (n : ∀ xs, o ≠ .tup xs) (s : SameB a H H') : SameT H H' := fun b xs e => s _ _ (fun z => by rw [z, h] at e; exact n xs (Option.some.inj e)) e
theorem SameT.lst {H : Hp} {a : Addr} {ys : List V} {o : HO} (h : H a = some (.lst ys)) : SameT H (upd H a o) := fun b xs e => by rw [upd_ne (ne_of e h nofun)]; exact e
mutual
def noL : PyData → Bool
  | .list _ => false
  | .dict _ => false
  | .tuple ds => noLs ds
  | _ => true
def noLs : List PyData → Bool
  | [] => true
  | d :: ds => noL d && noLs ds
end
mutual
theorem Dh.t {H H' : Hp} (s : SameT H H') : ∀ {v : V} {d : PyData}, Dh H v d → noL d = true → Dh H' v d
  | _, _, .non, _ => .non
  | _, _, .bl b, _ => .bl b
  | _, _, .int i, _ => .int i
  | _, _, .str x, _ => .str x
  | _, _, .tup e h, n => .tup (s _ _ e) (DhAll.t s h (by simpa [noL] using n))
  | _, _, .lst e h, n => by simp [noL] at n
  | _, _, .dct e, n => by simp [noL] at n
theorem DhAll.t {H H' : Hp} (s : SameT H H') : ∀ {vs : List V} {ds : List PyData}, DhAll H vs ds → noLs ds = true → DhAll H' vs ds
  | _, _, .nil, _ => .nil
  | _, _, .cons h r, n => by
    rw [noLs, Bool.and_eq_true_iff] at n
    exact .cons (Dh.t s h n.1) (DhAll.t s r n.2)
end
theorem noLs_app {a b : List PyData} : noLs (a ++ b) = (noLs a && noLs b) := by
  induction a with
  | nil => rfl
  | cons x a ih => rw [List.cons_append, noLs, noLs, ih, Bool.and_assoc]
theorem noLs_all {a : List PyData} : noLs a = true ↔ ∀ d ∈ a, noL d = true := by
  induction a with
  | nil => exact ⟨fun _ => nofun, fun _ => rfl⟩
  | cons x a ih =>
    rw [noLs, Bool.and_eq_true_iff, ih]
    constructor
    · rintro ⟨h1, h2⟩ d hd
      rcases List.mem_cons.mp hd with rfl | hd
      · exact h1
      · exact h2 d hd
    · exact fun h => ⟨h x List.mem_cons_self, fun d hd => h d (List.mem_cons_of_mem _ hd)⟩
end Lc
set_option Elab.async false
set_option linter.all false
set_option maxRecDepth 100000
set_option maxHeartbeats 4000000
namespace Lc
open PySem PySem.Spec PyProof.Rows L2
/-! ## a dict comprehension that is stored in a local name -/
section
variable {X : Cx}
theorem sw_dict {e1 e2 : Expr} {cs : List Comprehension} {sc : Scope} {p1 p2 : Pos} {nm : Str} {ln : Nat} {en : Env} (h1 : en.scope.kind = .function) (h2 : en.scope.names.lookup nm = some .local) (h3 : (p2.line == p1.line) = true)
    (h4 : (sc.names.any fun (a, b) => a == nm && (b == .local || b == .cell)) = false) : swapsWith (.DictComp e1 e2 cs sc p1) (some (.Name nm p2)) ln en = pure true := by
  have k1 : en.kindOf nm = some .local := h2
  have k2 : en.blockKind = .function := by
    unfold Env.blockKind
    rw [h1]
    rfl
  unfold swapsWith
  simp only [k2, k1, h4, Expr.pos, h3]
  rfl
theorem ps_setDc {i : Nat} {nm : Str} {p2 p1 p3 : Pos} {kx vx tg it : Expr} {ifs : List Expr} {sc : Scope} {own : List (Str × Nat)} {wi : TI} {g : TG} {tt : TT} {tk tv : TE} (calm : X.calm = true) (nd : X.N.Nodup) (at_ : X.N[i]? = some nm) (loc : X.env.scope.names.lookup nm = some .local)
    (sw : swapsWith (.DictComp kx vx [⟨tg, it, ifs, 0⟩] sc p1) (some (.Name nm p2)) p3.line X.env = pure true) (hi : PI X tg it wi) (ok : BlkOk X.N X.env.scope sc own)
    (hg : ∀ (s : Shared) (H : Hp) (C : Addr) (cl : List (Str × Addr)) (fp : List Addr), PG (X.blk s H sc (compEnvC sc cl C X.env) fp) tg g) (ht : ∀ (s : Shared) (H : Hp) (C : Addr) (cl : List (Str × Addr)) (fp : List Addr), PTs (X.blk s H sc (compEnvC sc cl C X.env) fp) ifs tt)
    (hk : ∀ (s : Shared) (H : Hp) (C : Addr) (cl : List (Str × Addr)) (fp : List Addr), PE (X.blk s H sc (compEnvC sc cl C X.env) fp) kx tk) (hv : ∀ (s : Shared) (H : Hp) (C : Addr) (cl : List (Str × Addr)) (fp : List Addr), PE (X.blk s H sc (compEnvC sc cl C X.env) fp) vx tv) (hs : ∀ x, foldedSetIterable it X.env x = pure x := by intro _; rfl) :
    PS X (.Assign [.Name nm p2] (.DictComp kx vx [⟨tg, it, ifs, 0⟩] sc p1) p3) (tAsg (tDc wi g tt tk tv (own.map (·.2))) (gName i)) := by
  refine ⟨fun pins st σ H D I q0 => ?_⟩
  rw [exec_Assign_Name_used _ _ _ _ sw]
  refine wpAny_bind (wpAny_standAt (wpAny_bind ?_))
  show wpAny _ X.A (do let _ ← comprehension (.DictComp kx vx [⟨tg, it, ifs, 0⟩] sc p1) sc X.env (firstIterPos [⟨tg, it, ifs, 0⟩] p1) newDict false (eval it X.env) (some (assign (.Name nm p2) X.env))) _ _ st
  have q1 : tDc wi g tt tk tv (own.map (·.2)) σ H (fun x H1 => gName i x σ H1 D.nx) := q0
  refine wpAny_bind (thn (dc_core (Qf := fun _ s' => SP X pins D .next s') calm nd I hi ok hg ht hk hv hs q1 fun L C s' mm H' I' qq hn fr => ?_) fun _ s' z => wpAny_pure (wpAny_pure z))
  show wpAny _ _ (assign (.Name nm p2) X.env (.ref L)) _ _ _
  refine wpAny_assign_Name (store_ok2 (v := V.ref L) I' nd at_ (.inl loc) rfl (fun s2 I2 ⟨a, sb, ha⟩ => ?_) (.inr loc))
  obtain ⟨g0, g1, _, g3, g4, g5⟩ := fr
  have ne : C ≠ a := by
    rcases ha with z | z
    · exact z ▸ g1
    · exact fun e => g4 nm a z e.symm
  refine ⟨mm, hn.sameBut sb ne, fun h3 sb3 => ?_⟩
  refine ⟨_, H', I2.turned (t' := s2.toks) (fun b o hb e => ?_) g0 g1 g3 g4 g5, qq⟩
  exact (sb3.2 b hb).trans e
end
/-- a dict comprehension over zip of two tuples of one length -/
theorem dc_zip {K : PySem.W.Frag} {a b : Addr} {xs ys : List V} {g : TG} {tt : TT} {tk tv : TE} {vs : List Nat} {σ : L2.St} {H1 : Hp} {D : Addr} {Qd : Hp → Prop} (hl : xs.length = ys.length) (Pv : Nat → Hp → Prop) (h0 : Pv 0 (upd H1 D (.dK []))) (hq : ∀ i H, Pv i H → SqT K H a xs ∧ SqT K H b ys)
    (hs : ∀ (i : Nat) (x y : V) (T : Addr) (H : Hp), xs[i]? = some x → ys[i]? = some y → Pv i H → H T = none → g (.ref T) (wipe σ vs) (upd H T (.tup [x, y])) fun σ2 H2 => wipe σ2 vs = wipe σ vs ∧ tt σ2 H2 fun c H3 =>
      if c = true then tk σ2 H3 fun k H4 => tv σ2 H4 fun z H5 => ∃ kvs kk, k = kV kk ∧ H5 D = some (.dK kvs) ∧ kvs.length < sizeLine ∧ Pv (i + 1) (upd H5 D (.dK (putK kvs kk z))) else Pv (i + 1) H3) (hd : ∀ H, Pv xs.length H → Qd H) :
    ∃ W : Nat → Nat → Hp → Prop, (∃ m, W 0 m (upd H1 D (.dK []))) ∧ ∀ i m H, W i m H →
      ((RZ.ItzT K a b).stop i H ∧ Qd H) ∨ ((RZ.ItzT K a b).go i H ∧ ∃ N : Hp → Prop, (∀ H', N H' → ∃ m', m' < m ∧ W (i + 1) m' H') ∧ ∀ v H', (RZ.ItzT K a b).yld i H v H' → g v (wipe σ vs) H' fun σ2 H2 => wipe σ2 vs = wipe σ vs ∧ tt σ2 H2 fun c H3 =>
        if c = true then tk σ2 H3 fun k H4 => tv σ2 H4 fun z H5 => ∃ kvs kk, k = kV kk ∧ H5 D = some (.dK kvs) ∧ kvs.length < sizeLine ∧ N (upd H5 D (.dK (putK kvs kk z))) else N H3) := by
  refine ⟨fun i m H => i + m = xs.length ∧ Pv i H, ⟨xs.length, Nat.zero_add _, h0⟩, ?_⟩
  rintro i m H ⟨em, pv⟩
  obtain ⟨q1, q2⟩ := hq i H pv
  cases m with
  | zero =>
    obtain rfl : i = xs.length := by omega
    exact .inl ⟨⟨xs, ys, q1, q2, .inl (Nat.le_refl _)⟩, hd H pv⟩
  | succ m =>
    have l1 : i < xs.length := by omega
    have l2 : i < ys.length := by omega
    refine .inr ⟨⟨xs, ys, _, _, q1, q2, List.getElem?_eq_getElem l1, List.getElem?_eq_getElem l2⟩, Pv (i + 1), fun H' p' => ⟨m, by omega, by omega, p'⟩, fun v H' yl => ?_⟩
    obtain ⟨T, x', y', rfl, hT, rfl, f1, f2⟩ := yl
    exact hs i x' y' T H (f1 xs q1) (f2 ys q2) pv hT
section
variable {X : Cx} {k : Nat} {f : Addr} {fd : FuncData} {ps : List Str} {sp : Sp} {x : Str} {p pos : Pos}
/-- f(), f kept under FnG -/
theorem pe_callG0 (F : FnG X.prog X.w X.K X.mg X.base k f fd ps sp) (gg : X.A.guards = some []) (hr : Room k X.A) (hg : Gl X x) (hm : X.mg x = some (.ref f)) (hk : PySem.W.keepIn X.K (.ref f) = true) (hb : Binds X.K fd ps []) (hdb : (x == ("__debug__" : Str)) = false := by decide) :
    PE X (.Call (.Name x p) [] [] pos) (tCall sp [] E0 tNil) := by
  refine ⟨fun pins s σ H Q I h => wpAny_Call_Name_kw (ld_glob I hg hm ?_ hdb)⟩
  refine PySem.W.callWith_K0 I.kIn hk ?_
  have q : sp [] H Q E0 := h
  have hl : ([] : List V).length = ps.length := F.len _ _ _ _ q
  have b := hb s [] I.kIn hl
  refine wpAny_call (codeAny_mono (F.run X.A X.stack s H ⟨[], []⟩ [] [] Q E0 gg hr I.env0 b .nil q) fun rr s' hq => ?_)
  cases rr with
  | error er => exact hq.elim
  | ok fl =>
    cases fl with
    | ret u => exact I.after hq
    | next => exact hq.elim
    | brk => exact hq.elim
    | cont => exact hq.elim
end
/-- a list comprehension over zip of two tuples of one length -/
theorem lc_zip {K : PySem.W.Frag} {a b : Addr} {xs ys : List V} {g : TG} {tt : TT} {te : TE} {vs : List Nat} {σ : L2.St} {H1 : Hp} {D : Addr} {Qd : Hp → Prop} (hl : xs.length = ys.length) (Pv : Nat → Hp → Prop) (h0 : Pv 0 (upd H1 D (.lst []))) (hq : ∀ i H, Pv i H → SqT K H a xs ∧ SqT K H b ys)
    (hs : ∀ (i : Nat) (x y : V) (T : Addr) (H : Hp), xs[i]? = some x → ys[i]? = some y → Pv i H → H T = none → g (.ref T) (wipe σ vs) (upd H T (.tup [x, y])) fun σ2 H2 => wipe σ2 vs = wipe σ vs ∧ tt σ2 H2 fun c H3 =>
      if c = true then te σ2 H3 fun z H4 => ∃ acc, H4 D = some (.lst acc) ∧ acc.length < sizeLine ∧ Pv (i + 1) (upd H4 D (.lst (acc ++ [z]))) else Pv (i + 1) H3) (hd : ∀ H, Pv xs.length H → Qd H) :
    ∃ W : Nat → Nat → Hp → Prop, (∃ m, W 0 m (upd H1 D (.lst []))) ∧ ∀ i m H, W i m H →
      ((RZ.ItzT K a b).stop i H ∧ Qd H) ∨ ((RZ.ItzT K a b).go i H ∧ ∃ N : Hp → Prop, (∀ H', N H' → ∃ m', m' < m ∧ W (i + 1) m' H') ∧ ∀ v H', (RZ.ItzT K a b).yld i H v H' → g v (wipe σ vs) H' fun σ2 H2 => wipe σ2 vs = wipe σ vs ∧ tt σ2 H2 fun c H3 =>
        if c = true then te σ2 H3 fun z H4 => ∃ acc, H4 D = some (.lst acc) ∧ acc.length < sizeLine ∧ N (upd H4 D (.lst (acc ++ [z]))) else N H3) := by
  refine ⟨fun i m H => i + m = xs.length ∧ Pv i H, ⟨xs.length, Nat.zero_add _, h0⟩, ?_⟩
  rintro i m H ⟨em, pv⟩
  obtain ⟨q1, q2⟩ := hq i H pv
  cases m with
  | zero =>
    obtain rfl : i = xs.length := by omega
    exact .inl ⟨⟨xs, ys, q1, q2, .inl (Nat.le_refl _)⟩, hd H pv⟩
  | succ m =>
    have l1 : i < xs.length := by omega
    have l2 : i < ys.length := by omega
    refine .inr ⟨⟨xs, ys, _, _, q1, q2, List.getElem?_eq_getElem l1, List.getElem?_eq_getElem l2⟩, Pv (i + 1), fun H' p' => ⟨m, by omega, by omega, p'⟩, fun v H' yl => ?_⟩
    obtain ⟨T, x', y', rfl, hT, rfl, f1, f2⟩ := yl
    exact hs i x' y' T H (f1 xs q1) (f2 ys q2) pv hT
theorem paired_snoc {α β : Type} {R : α → β → Prop} {a : α} {b : β} (h : R a b) : ∀ {l : List α} {m : List β}, Paired R l m → Paired R (l ++ [a]) (m ++ [b])
  | _, _, .nil => .cons h .nil
  | _, _, .cons g r => .cons g (paired_snoc h r)
theorem paired_imp {α β : Type} {R S : α → β → Prop} (h : ∀ a b, R a b → S a b) : ∀ {l : List α} {m : List β}, Paired R l m → Paired S l m
  | _, _, .nil => .nil
  | _, _, .cons g r => .cons (h _ _ g) (paired_imp h r)
end Lc
set_option Elab.async false
set_option linter.all false
set_option maxRecDepth 100000
set_option maxHeartbeats 4000000
namespace Lc
open PySem PySem.Spec PyProof.Rows L2 PySem.NumText
/-! ## Digits -/
def digs (m : Nat) : List Nat := (Nat.toDigits 10 m).map Char.toNat
theorem digs_small {m : Nat} (h : m < 10) : digs m = [48 + m] := by
  unfold digs
  rw [Nat.toDigits_of_lt_base h]
  have : ∀ k < 10, (Nat.digitChar k).toNat = 48 + k := by decide
  show [(Nat.digitChar m).toNat] = _
  rw [this m h]
theorem digs_big {m : Nat} (h : 10 ≤ m) : digs m = digs (m / 10) ++ [48 + m % 10] := by
  have hm : m % 10 < 10 := Nat.mod_lt m (by decide)
  have t : Nat.toDigits 10 (m / 10) ++ Nat.toDigits 10 (m % 10) = Nat.toDigits 10 (10 * (m / 10) + m % 10) := Nat.toDigits_append_toDigits (by decide) (by omega) hm
  rw [Nat.div_add_mod] at t
  have e := digs_small hm
  unfold digs at e ⊢
  rw [← t, List.map_append, e]
theorem digs_val (m : Nat) : digitsVal (digs m) = m := W.KIN.val_back m
theorem digs_all : ∀ m, AllDigits (digs m) := by
  intro m
  induction m using Nat.strongRecOn with
  | _ m ih =>
    by_cases h : m < 10
    · rw [digs_small h]
      intro c hc
      have : c = 48 + m := by simpa using hc
      omega
    · rw [digs_big (by omega)]
      intro c hc
      rcases List.mem_append.mp hc with hc | hc
      · exact ih (m / 10) (by omega) c hc
      · have : c = 48 + m % 10 := by simpa using hc
        omega
theorem digs_head : ∀ m, ∃ c r, digs m = c :: r ∧ (c = 48 → r = []) := by
  intro m
  have key : ∀ m, ∃ c r, digs m = c :: r ∧ (0 < m → 49 ≤ c) := by
    intro m
    induction m using Nat.strongRecOn with
    | _ m ih =>
      by_cases h : m < 10
      · exact ⟨48 + m, [], digs_small h, fun _ => by omega⟩
      · obtain ⟨c, r, e, g⟩ := ih (m / 10) (by omega)
        refine ⟨c, r ++ [48 + m % 10], ?_, fun _ => g (by omega)⟩
        rw [digs_big (by omega), e]
        rfl
  by_cases z : m = 0
  · exact ⟨48, [], by rw [z]; exact digs_small (by decide), fun _ => rfl⟩
  · obtain ⟨c, r, e, g⟩ := key m
    exact ⟨c, r, e, fun h => by have := g (by omega); omega⟩
theorem digs_len : ∀ (p m : Nat), 0 < p → m < 10 ^ p → (digs m).length ≤ p := by
  intro p
  induction p with
  | zero => intro m h; omega
  | succ p ih =>
    intro m _ h
    by_cases z : m < 10
    · rw [digs_small z]
      simp
    · rw [digs_big (by omega), List.length_append]
      have hp : 0 < p := by
        cases p with
        | zero => omega
        | succ q => omega
      have : m / 10 < 10 ^ p := by
        rw [Nat.div_lt_iff_lt_mul (by decide)]
        rw [Nat.pow_succ] at h
        exact h
      have := ih (m / 10) hp this
      simp only [List.length_cons, List.length_nil]
      omega
def zf (p r : Nat) : List Nat := List.replicate (p - (digs r).length) 48 ++ digs r
theorem zf_len {p r : Nat} (hp : 0 < p) (h : r < 10 ^ p) : (zf p r).length = p := by
  have := digs_len p r hp h
  unfold zf
  rw [List.length_append, List.length_replicate]
  omega
theorem zf_all (p r : Nat) : AllDigits (zf p r) := by
  intro c hc
  rcases List.mem_append.mp hc with hc | hc
  · have := List.eq_of_mem_replicate hc
    omega
  · exact digs_all r c hc
theorem val_from (l : List Nat) : ∀ a : Nat, l.foldl (fun acc c => acc * 10 + (c - 48)) a = a * 10 ^ l.length + digitsVal l := by
  induction l with
  | nil => intro a; simp [digitsVal]
  | cons c l ih =>
    intro a
    show l.foldl _ (a * 10 + (c - 48)) = _
    have e2 : digitsVal (c :: l) = l.foldl (fun acc c => acc * 10 + (c - 48)) (0 * 10 + (c - 48)) := rfl
    rw [ih, e2, ih, List.length_cons, Nat.pow_succ, Nat.zero_mul, Nat.zero_add, Nat.add_mul, Nat.mul_assoc, Nat.mul_comm 10]
    omega
theorem val_app (a b : List Nat) : digitsVal (a ++ b) = digitsVal a * 10 ^ b.length + digitsVal b := by
  unfold digitsVal
  rw [List.foldl_append]
  exact val_from b _
theorem val_zeros (k : Nat) : digitsVal (List.replicate k 48) = 0 := by
  induction k with
  | zero => rfl
  | succ k ih =>
    rw [List.replicate_succ, digitsVal_zero]
    exact ih
theorem zf_val (p r : Nat) : digitsVal (zf p r) = r := by
  unfold zf
  rw [val_app, val_zeros, digs_val]
  omega
/-! ## A text cut at the point -/
def jl : List (List Nat) → List Nat
  | [] => []
  | [x] => x
  | x :: y :: r => x ++ 46 :: jl (y :: r)
theorem cut_eq : ∀ {a b x y : List Nat}, 46 ∉ a → 46 ∉ b → a ++ 46 :: x = b ++ 46 :: y → a = b ∧ x = y
  | [], [], _, _, _, _, e => ⟨rfl, (List.cons.inj e).2⟩
  | [], c :: b, _, _, _, hb, e => absurd (List.cons.inj e).1 (fun z => hb (by rw [z]; exact List.mem_cons_self))
  | c :: a, [], _, _, ha, _, e => absurd (List.cons.inj e).1.symm (fun z => ha (by rw [z]; exact List.mem_cons_self))
  | c :: a, d :: b, x, y, ha, hb, e => by
    obtain ⟨e1, e2⟩ := List.cons.inj e
    obtain ⟨h1, h2⟩ := cut_eq (fun z => ha (List.mem_cons_of_mem _ z)) (fun z => hb (List.mem_cons_of_mem _ z)) e2
    exact ⟨by rw [e1, h1], h2⟩
theorem jl_one {ps : List (List Nat)} {a : List Nat} (hne : a ≠ []) (ha : 46 ∉ a) (e : jl ps = a) : ps = [a] := by
  match ps, e with
  | [], e => exact absurd e.symm hne
  | [x], e => rw [← show x = a from e]
  | x :: y :: r, e => exact absurd (by rw [← show x ++ 46 :: jl (y :: r) = a from e]; simp) ha
theorem jl_two {ps : List (List Nat)} {a b : List Nat} (hf : ∀ p ∈ ps, 46 ∉ p) (ha : 46 ∉ a) (hb : 46 ∉ b) (hne : b ≠ []) (e : jl ps = a ++ 46 :: b) : ps = [a, b] := by
  match ps, hf, e with
  | [], _, e => exact absurd e (by simp [jl])
  | [x], hf, e => exact absurd (by rw [show x = a ++ 46 :: b from e]; simp) (hf x List.mem_cons_self)
  | x :: y :: r, hf, e =>
    obtain ⟨h1, h2⟩ := cut_eq (hf x List.mem_cons_self) ha (show x ++ 46 :: jl (y :: r) = a ++ 46 :: b from e)
    rw [h1, jl_one hne hb h2]
theorem toL_join : ∀ ps : List Str, (Str.join ⟨#[46]⟩ ps).cps.toList = jl (ps.map fun p => p.cps.toList)
  | [] => rfl
  | [x] => rfl
  | x :: y :: r => by
    have ih := toL_join (y :: r)
    have e : Str.join ⟨#[46]⟩ (x :: y :: r) = x ++ ⟨#[46]⟩ ++ Str.join ⟨#[46]⟩ (y :: r) := rfl
    rw [e]
    show (x.cps ++ #[46] ++ (Str.join ⟨#[46]⟩ (y :: r)).cps).toList = _
    rw [Array.toList_append, Array.toList_append, ih]
    show x.cps.toList ++ [46] ++ jl (y.cps.toList :: r.map fun p => p.cps.toList) = x.cps.toList ++ 46 :: jl (y.cps.toList :: r.map fun p => p.cps.toList)
    rw [List.append_assoc]
    rfl
theorem dot_eq : PySem.Str.ofString "." = ⟨#[46]⟩ := by decide +kernel
theorem map_toL {ps : List Str} {ls : List (List Nat)} (h : ps.map (fun p => p.cps.toList) = ls) : ps = ls.map fun l => (⟨l.toArray⟩ : Str) := by
  rw [← h, List.map_map]
  have : ((fun l => (⟨l.toArray⟩ : Str)) ∘ fun p : Str => p.cps.toList) = id := by
    funext p
    obtain ⟨⟨l⟩⟩ := p
    rfl
  rw [this, List.map_id]
theorem split_jl (x : Str) : jl ((Txt.split x ⟨#[46]⟩).map fun p => p.cps.toList) = x.cps.toList := by
  rw [← toL_join, StrLaws.join_split]
theorem split_one {x : Str} (h : 46 ∉ x.cps.toList) (hne : x.cps.toList ≠ []) : Txt.split x ⟨#[46]⟩ = [x] := by
  have e := map_toL (jl_one hne h (split_jl x))
  rw [e]
  obtain ⟨⟨l⟩⟩ := x
  rfl
theorem split_two {x : Str} {a b : List Nat} (e : x.cps.toList = a ++ 46 :: b) (ha : 46 ∉ a) (hb : 46 ∉ b) (hne : b ≠ []) : Txt.split x ⟨#[46]⟩ = [⟨a.toArray⟩, ⟨b.toArray⟩] := by
  refine map_toL (jl_two (fun p hp => ?_) ha hb hne ((split_jl x).trans e))
  obtain ⟨q, hq, rfl⟩ := List.mem_map.mp hp
  exact StrLaws.split_free x 46 q hq
/-! ## Rounding -/
def ab (n : Int) : Int := if n < 0 then -n else n
def nu (n d s : Int) : Int := if n < 0 then -((2 * ab n * s + d) / (2 * d)) else (2 * ab n * s + d) / (2 * d)
theorem ab_nonneg (n : Int) : 0 ≤ ab n := by unfold ab; split <;> omega
theorem ab_nat (n : Int) : ab n = (n.natAbs : Int) := by unfold ab; split <;> omega
theorem nu_ab {n d s : Int} (hd : 0 < d) (hs : 0 < s) : ab (nu n d s) = (2 * ab n * s + d) / (2 * d) ∧ (nu n d s < 0 → n < 0) := by
  have h0 : 0 ≤ (2 * ab n * s + d) / (2 * d) := Int.ediv_nonneg (by have := Int.mul_nonneg (Int.mul_nonneg (by decide : (0:Int) ≤ 2) (ab_nonneg n)) (Int.le_of_lt hs); omega) (by omega)
  unfold nu
  generalize (2 * ab n * s + d) / (2 * d) = q at h0
  split
  · exact ⟨by unfold ab; split <;> omega, fun _ => by assumption⟩
  · exact ⟨by unfold ab; split <;> omega, fun h => by omega⟩
theorem nu_near {n d s : Int} (hd : 0 < d) (hs : 0 < s) : 2 * (ab (nu n d s) * d) ≤ 2 * (ab n * s) + d ∧ 2 * (ab n * s) < 2 * (ab (nu n d s) * d) + d := by
  rw [(nu_ab hd hs).1]
  have e := Int.mul_ediv_add_emod (2 * ab n * s + d) (2 * d)
  have r0 := Int.emod_nonneg (2 * ab n * s + d) (by omega : 2 * d ≠ 0)
  have r1 := Int.emod_lt_of_pos (2 * ab n * s + d) (by omega : 0 < 2 * d)
  generalize (2 * ab n * s + d) / (2 * d) = q at e
  generalize (2 * ab n * s + d) % (2 * d) = r at e r0 r1
  rw [Int.mul_assoc 2 d q, Int.mul_comm d q, Int.mul_assoc 2 (ab n) s] at e
  omega
/-- the same units again -/
theorem nu_again {u s a b : Int} (hs : 0 < s) (hb : 0 < b) (h : a * s = u * b) (hsg : (a < 0) ↔ (u < 0)) : nu a b s = u := by
  have e1 : ab a * s = ab u * b := by
    unfold ab
    by_cases z : a < 0
    · rw [if_pos z, if_pos (hsg.mp z), Int.neg_mul, Int.neg_mul, h]
    · rw [if_neg z, if_neg (fun q => z (hsg.mpr q)), h]
  have e2 : (2 * ab a * s + b) / (2 * b) = ab u := by
    have : 2 * ab a * s + b = b + 2 * b * ab u := by
      rw [Int.mul_assoc, e1, Int.mul_comm (ab u) b, ← Int.mul_assoc]
      omega
    rw [this, Int.add_mul_ediv_left _ _ (by omega : 2 * b ≠ 0), Int.ediv_eq_zero_of_lt (by omega) (by omega)]
    omega
  unfold nu
  rw [e2]
  unfold ab
  by_cases z : a < 0
  · rw [if_pos z, if_pos (hsg.mp z)]
    omega
  · rw [if_neg z, if_neg (fun q => z (hsg.mpr q))]
/-! ## What a decimal looks like -/
def tenP (p : Nat) : Nat := 10 ^ p
def decB (u : Int) (p : Nat) : List Nat := digs (u.natAbs / 10 ^ p) ++ (if p = 0 then [] else 46 :: zf p (u.natAbs % 10 ^ p))
def decL (u : Int) (p : Nat) : List Nat := (if u < 0 then [45] else []) ++ decB u p
end Lc
namespace Lc
open PySem PySem.Spec PyProof.Rows L2 PySem.NumText
theorem appL (x y : Str) : (x ++ y).cps.toList = x.cps.toList ++ y.cps.toList := by
  show (x.cps ++ y.cps).toList = _
  simp
theorem numL (m : Nat) : (PySem.Str.ofString (toString ((m : Nat) : Int))).cps.toList = digs m := W.KIN.signs_num m
theorem zfillL {a : Str} {k r : Nat} (h : a.cps.toList = digs r) : (Txt.zfill a (k : Int)).cps.toList = zf k r := by
  have ln : a.length = (digs r).length := by rw [lenL, h]
  unfold Txt.zfill
  by_cases z : (k : Int) ≤ a.length
  · rw [if_pos z, h]
    unfold zf
    rw [show k - (digs r).length = 0 by omega]
    rfl
  · rw [if_neg z]
    obtain ⟨c, rr, e, _⟩ := digs_head r
    have c0 : a.cps[0]? = some c := by
      rw [← Array.getElem?_toList, h, e]
      rfl
    have cd := digs_all r c (by rw [e]; exact List.mem_cons_self)
    have e2 : zfilled a ((k : Int).toNat - a.length) = Builtin.Str.padded a ((k : Int).toNat - a.length) 0 48 := by
      unfold zfilled
      rw [c0]
      split
      · rename_i q
        injection q with q
        omega
      · rename_i q
        injection q with q
        omega
      · rfl
    rw [e2]
    unfold Builtin.Str.padded zf
    show (Array.replicate ((k : Int).toNat - a.length) 48 ++ a.cps ++ Array.replicate 0 48).toList = _
    rw [Array.toList_append, Array.toList_append, Array.toList_replicate, Array.toList_replicate, h, ln]
    simp
theorem nu_le {n d s : Int} (hd : 0 < d) (hs : 0 < s) : ab (nu n d s) ≤ ab n * s := by
  have h := (nu_near (n := n) hd hs).1
  have N0 : 0 ≤ ab n * s := Int.mul_nonneg (ab_nonneg n) (Int.le_of_lt hs)
  generalize ab n * s = N at h N0
  generalize ab (nu n d s) = U at h
  rcases (by omega : N < U ∨ U ≤ N) with z | z
  · have a1 : (N + 1) * d ≤ U * d := Int.mul_le_mul_of_nonneg_right (by omega) (by omega)
    have a2 : N * 1 ≤ N * d := Int.mul_le_mul_of_nonneg_left (by omega) N0
    rw [Int.add_mul, Int.one_mul] at a1
    omega
  · exact z
inductive Pk (H : Hp) : V → Prop
  | ty {v : V} {t : String} (h : TyN H v t) (n : t ≠ "int") : Pk H v
  | out {k : Int} (h : k < 0 ∨ 9 < k) : Pk H (.int k)
theorem Pk.same {H H' : Hp} {v : V} (h : Pk H v) (s : Same H H') : Pk H' v := by
  cases h with
  | ty h n => exact .ty (h.same s) n
  | out h => exact .out h
theorem pad9 {k : Nat} (h : k ≤ 9) : PadOk (k : Int) = true := by
  have : ∀ k ≤ 9, PadOk ((k : Nat) : Int) = true := by decide +kernel
  exact this k h
theorem ten_pos (k : Nat) : (0 : Int) < 10 ^ k := Int.pow_pos (by decide)
theorem ten_small {k : Nat} (h : k ≤ 9) : ((10 : Int) ^ k).natAbs < 2 ^ 40 := by
  have : ∀ k ≤ 9, ((10 : Int) ^ k).natAbs < 2 ^ 40 := by decide +kernel
  exact this k h
end Lc
namespace Lc
open PySem PySem.Spec PyProof.Rows L2 PySem.NumText
theorem cut_first (x : Str) : (cutS x none (some 1)).cps.toList = x.cps.toList.take 1 := by
  have e : HT.sIx x.length 0 none = 0 := rfl
  have e2 : HT.sIx x.length x.length (some 1) = min 1 x.length := rfl
  unfold cutS
  rw [e, e2]
  show (x.cps.toList.drop 0).take (min 1 x.length - 0) = _
  rw [List.drop_zero, Nat.sub_zero, lenL]
  cases x.cps.toList with
  | nil => rfl
  | cons c r => simp
theorem cut_rest (x : Str) : (cutS x (some 1) none).cps.toList = x.cps.toList.drop 1 := by
  have e : HT.sIx x.length 0 (some 1) = min 1 x.length := rfl
  have e2 : HT.sIx x.length x.length none = x.length := rfl
  unfold cutS
  rw [e, e2]
  show (x.cps.toList.drop (min 1 x.length)).take (x.length - min 1 x.length) = _
  rw [lenL]
  cases x.cps.toList with
  | nil => rfl
  | cons c r => simp
theorem str_ext {x y : Str} (h : x.cps.toList = y.cps.toList) : x = y := by
  obtain ⟨⟨l⟩⟩ := x
  obtain ⟨⟨m⟩⟩ := y
  have : l = m := h
  rw [this]
theorem dec_head (u : Int) (k : Nat) : ∃ c r, decB u k = c :: r ∧ 48 ≤ c ∧ c ≤ 57 := by
  obtain ⟨c, r, e, _⟩ := digs_head (u.natAbs / 10 ^ k)
  have h := digs_all (u.natAbs / 10 ^ k) c (by rw [e]; exact List.mem_cons_self)
  exact ⟨c, _, by unfold decB; rw [e]; rfl, h.1, h.2⟩
theorem minus_is {x : Str} {u : Int} {k : Nat} (h : x.cps.toList = decL u k) : decide (V.str (cutS x none (some 1)) = V.str "-") = decide (u < 0) := by
  rw [Bool.eq_iff_iff, decide_eq_true_iff, decide_eq_true_iff]
  have e45 : (PySem.Str.ofString "-").cps.toList = [45] := by decide +kernel
  constructor
  · intro q
    injection q with q
    have z := cut_first x
    rw [q, h, e45] at z
    rcases (by omega : u < 0 ∨ ¬ u < 0) with g | g
    · exact g
    · obtain ⟨c, r, e, h1, h2⟩ := dec_head u k
      unfold decL at z
      rw [if_neg g, e] at z
      have : (45 : Nat) = c := by simpa using z
      omega
  · intro q
    have : cutS x none (some 1) = PySem.Str.ofString "-" := by
      apply str_ext
      rw [cut_first, h, e45]
      unfold decL
      rw [if_pos q]
      rfl
    rw [this]
theorem below_is {x : Str} {u : Int} {k : Nat} (h : x.cps.toList = decL u k) (n : u < 0) : (cutS x (some 1) none).cps.toList = decB u k := by
  rw [cut_rest, h]
  unfold decL
  rw [if_pos n]
  rfl
theorem digs_len_le {m : Nat} (h : m < 2 ^ 1100) : (digs m).length ≤ 1921 := by
  rw [← numL, ← lenL]
  refine int_text_len_1921 ?_
  rw [Int.natAbs_natCast]
  by_cases z : m = 0
  · rw [z]
    decide
  · exact Nat.lt_of_lt_of_le ((Nat.log2_lt z).mpr h) (by decide)
theorem decL_len {u : Int} {k : Nat} (h : u.natAbs < 2 ^ 1100) (k9 : k ≤ 9) : (decL u k).length ≤ 1940 ∧ (decB u k).length ≤ 1939 := by
  have h1 := digs_len_le (Nat.lt_of_le_of_lt (Nat.div_le_self u.natAbs (10 ^ k)) h)
  have h2 : (decB u k).length ≤ 1939 := by
    unfold decB
    rw [List.length_append]
    split
    · simp; omega
    · have := zf_len (p := k) (r := u.natAbs % 10 ^ k) (by omega) (Nat.mod_lt _ (Nat.pow_pos (by decide)))
      rw [List.length_cons, this]
      omega
  refine ⟨?_, h2⟩
  unfold decL
  rw [List.length_append]
  split
  · simp only [List.length_cons, List.length_nil]; omega
  · simp only [List.length_nil]; omega
theorem joinL_toL (ys : List Str) : (Txt.join (PySem.Str.ofString "") ys).cps.toList = (ys.map fun y => y.cps.toList).flatten := by
  have e : Txt.join (PySem.Str.ofString "") ys = Str.join Str.empty ys := (StrLaws.glued_eq_join (PySem.Str.ofString "") ys).trans rfl
  rw [e]
  have key : ∀ ys : List Str, (Str.join Str.empty ys).cps.toList = (ys.map fun y => y.cps.toList).flatten := by
    intro ys
    induction ys with
    | nil => rfl
    | cons x r ih =>
      cases r with
      | nil =>
        show x.cps.toList = _
        simp
      | cons y r =>
        have e : Str.join Str.empty (x :: y :: r) = x ++ Str.empty ++ Str.join Str.empty (y :: r) := rfl
        rw [e, appL, appL, ih]
        simp [Str.empty]
  exact key ys
def ten10 : Str := "0123456789"
theorem index_ten {c : Nat} (h : 48 ≤ c ∧ c ≤ 57) : Builtin.Str.occurrences ten10 ⟨#[c]⟩ 0 ten10.length 1 = [c - 48] := by
  have key : ∀ d < 10, Builtin.Str.occurrences ten10 ⟨#[48 + d]⟩ 0 ten10.length 1 = [d] := by decide +kernel
  have := key (c - 48) (by omega)
  rw [show 48 + (c - 48) = c by omega] at this
  exact this
theorem in_ten {c : Nat} (h : 48 ≤ c ∧ c ≤ 57) : decide (c ∈ ten10.cps.toList) = true := by
  have key : ∀ d < 10, decide (48 + d ∈ ten10.cps.toList) = true := by decide +kernel
  have := key (c - 48) (by omega)
  rw [show 48 + (c - 48) = c by omega] at this
  exact this
end Lc
set_option Elab.async false
set_option linter.all false
set_option maxRecDepth 100000
set_option maxHeartbeats 4000000
namespace Lc
open PySem PySem.Spec PyProof.Rows L2
theorem ud_entry : entryFor table "dict.update.loop" = some Builtin.«dict.update.loop» := entryFor_of_tree (by kernel_rfl)
theorem ud_plain : plainId "dict.update.loop" = true := by decide +kernel
section
variable {prog : Program} {w : World} {A : Around} {E : Value → Shared → Prop}
/-- the walk over the pairs -/
theorem upd_loopT {R : Result → Shared → Prop} {S I l : Addr} {items : Array Value} {res : Value} (hh : A.handled = none) (hlI : l ≠ I) (hSI : S ≠ I) (hSl : S ≠ l) :
    ∀ (rest : List (Key × Value)) (i : Nat) (acc : List (Key × Value)) (ix : Int) (t : Tok) (s : Shared), items.size = i + rest.length → acc.length + rest.length ≤ sizeLine →
      (∀ (j : Nat) (q : Key × Value), rest[j]? = some q → ∃ (b : Addr) (u : Value), items[i + j]? = some (.ref b) ∧ b ≠ S ∧ b ≠ I ∧ IsTup s.heap b #[u, q.2] ∧ keyIs q.1 u = true) →
      s.heap.IsTupleIter I l i → s.heap.IsTuple l items → s.heap.DictOf (mixKind prog w) S acc →
      (∀ h' tk, h'.DictOf (mixKind prog w) S (merged acc rest) → (∀ b o, b ≠ S → b ≠ I → s.heap.get? b = some o → h'.get? b = some o) → R (.ok (.ret res)) { s with heap := h', toks := tk }) →
      codeAny (model prog w) A (.builtin "dict.update.loop" ⟨[.ref S, .ref I, .int ix t, res], []⟩) R s
  | [], i, acc, ix, t, s, hsz, hln, ht, hit, hl, hm, hR => by
    refine codeAny_builtin ud_entry ?_
    rw [Around.under_plainId ud_plain _]
    show wpAny _ A.in1 (pyNext (.ref I) >>= _) _ _ s
    refine wpAny_bind (wpAny_pyNext_tuple_end (A := A.in1) hh hit hl (by first | exact Array.getElem?_eq_none (Nat.le_of_eq hsz) | (simp at hsz; simp; omega)) fun h' he => ?_)
    show wpAny _ A.in1 (Builtin.Dict.addKeywords S [] >>= _) _ _ _
    refine wpAny_bind (wpAny_pure (wpAny_pure ?_))
    exact hR h' s.toks (hm.extBut he hSI) fun b o _ hb e => he b o hb e
  | q :: rest, i, acc, ix, t, s, hsz, hln, ht, hit, hl, hm, hR => by
    obtain ⟨b, u, hb, hbS, hbI, htup, hk⟩ := ht 0 q rfl
    rw [List.length_cons] at hsz hln
    refine codeAny_builtin ud_entry ?_
    rw [Around.under_plainId ud_plain _]
    show wpAny _ A.in1 (pyNext (.ref I) >>= _) _ _ s
    refine wpAny_bind (wpAny_pyNext_tuple_item (x := .ref b) hit hl (by simpa using hb) fun h1 hit1 hs1 => ?_)
    have ht1 : IsTup h1 b #[u, q.2] := htup.extBut hs1.extBut hbI
    have hl1 : h1.IsTuple l items := hl.extBut hs1.extBut hlI
    have hm1 : h1.DictOf (mixKind prog w) S acc := hm.extBut hs1.extBut hSI
    obtain ⟨o, ho, hc, n, hd⟩ := id ht1
    show wpAny _ A.in1 (holding [Value.ref b] _ >>= _) _ _ _
    refine wpAny_bind (wpAny_holding ?_)
    refine wpAny_bind (wpAny_tryCatch ?_)
    unfold Builtin.Dict.pairItems
    refine wpAny_bind (wpAny_typeOf (T := "tuple") ⟨o, ho, hc⟩ ?_)
    rw [if_pos (by first | decide | rfl | simp)]
    refine wpAny_bind (wpAny_seqItems ho hd (wpAny_pure ?_))
    show wpAny _ A.in1 (holding [u, q.2] (dictSet S u q.2)) _ _ _
    refine wpAny_holding (wpAny_dictSet_pairs (knd := mixKind prog w) (k := q.1) hk hm1 (fun h2 hm2 hs2 => ?_) (by omega))
    refine wpAny_pure ⟨plainId_quiet ud_plain _, upd_loopT (items := items) hh hlI hSI hSl rest (i + 1) (stored acc q.1 q.2) (ix + 1) 0 _ (show items.size = i + 1 + rest.length by omega) ?_ (fun j q' e => ?_) ?_ ?_ hm2 fun h' tk hd' k => ?_⟩
    · have z := stored_length_le acc q.1 q.2
      omega
    · obtain ⟨b', u', hb', hbS', hbI', htup', hk'⟩ := ht (j + 1) q' (by simpa using e)
      refine ⟨b', u', ?_, hbS', hbI', (htup'.extBut hs1.extBut hbI').extBut hs2.extBut hbS', hk'⟩
      rw [show i + 1 + j = i + (j + 1) by omega]
      exact hb'
    · exact hit1.at fun o' e => hs2.extBut I o' (Ne.symm hSI) e
    · exact hl1.extBut hs2.extBut (Ne.symm hSl)
    · exact hR h' tk hd' fun c oc h3 h4 e => k c oc h3 h4 (hs2.extBut c oc h3 (hs1.extBut c oc h4 e))
/-- dict(t) of a tuple of pairs -/
theorem call_dict_pairsT {s : Shared} {l : Addr} {ol : Obj} {items : Array Value} {n : Nat} {prs : List (Key × Value)} {Q : Value → Shared → Prop} (hh : A.handled = none) (hl : s.heap.get? l = some ol) (hc : ol.cls = .type "tuple") (hd : ol.dict = none)
    (hdat : ol.data = .seq items n) (hsz : items.size = prs.length) (hln : prs.length ≤ sizeLine)
    (ht : ∀ (j : Nat) (q : Key × Value), prs[j]? = some q → ∃ (b : Addr) (u : Value), items[j]? = some (.ref b) ∧ IsTup s.heap b #[u, q.2] ∧ keyIs q.1 u = true)
    (h : ∀ h' tk, h'.DictOf (mixKind prog w) s.heap.objs.size (merged [] prs) → (∀ b o, s.heap.get? b = some o → h'.get? b = some o) → Q (.ref s.heap.objs.size) { s with heap := h', toks := tk }) :
    wpAny (model prog w) A (call (.type "dict") [.ref l]) Q E s := by
  refine callType_codes (Q₁ := fun obj s₁ => obj = .ref s.heap.objs.size ∧ s₁ = { s with heap := s.heap.push { cls := .type "dict", data := .dict #[] } }) PySem.F.kt_called_dict (PySem.F.kt_typeCall_dict_1 _) PySem.F.entry_dict_init (kt_code_dict_new _ ⟨rfl, rfl⟩) ?_
  rintro obj s₁ ⟨rfl, rfl⟩
  have hnew : (s.heap.push { cls := .type "dict", data := .dict #[] }).DictOf (mixKind prog w) s.heap.objs.size [] := Heap.DictOf.new s.heap
  have k0 : ∀ b o, s.heap.get? b = some o → (s.heap.push { cls := .type "dict", data := .dict #[] }).get? b = some o := fun b o e => Heap.get?_push_of_some _ e
  refine ⟨hnew.typeIs, PySem.F.args_dict_init_2 _ _, ?_⟩
  unfold Builtin.«dict.__init__»
  refine wpAny_bind ?_
  unfold Builtin.Dict.selfAndRest
  refine wpAny_bind (wpAny_notOrdered_dict hnew.typeIs ?_)
  show wpAny _ _ (pure (s.heap.objs.size, [Value.ref l])) _ _ _
  refine wpAny_pure ?_
  show wpAny _ _ (Builtin.Dict.updateFrom "dict.__init__" s.heap.objs.size (.ref l) [] .none) _ _ _
  unfold Builtin.Dict.updateFrom
  refine wpAny_bind (wpAny_typeOf (T := "tuple") ⟨ol, k0 _ _ hl, hc⟩ ?_)
  rw [if_pos (by first | decide | rfl | simp)]
  refine wpAny_bind (getAttrOr_miss_tuple (k0 _ _ hl) hc hdat hd tuple_no_keys (by decide +kernel) hh fun h1 tk1 hk1 => ?_)
  rw [if_pos (show (none : Option Value).isNone = true from rfl)]
  refine wpAny_bind (wpAny_rule ?_)
  have hl1 : h1.IsTuple l items := ⟨ol, hk1 _ _ (k0 _ _ hl), hc, n, hdat⟩
  have hS1 : s.heap.objs.size < h1.objs.size := by
    have e : (s.heap.push { cls := .type "dict", data := .dict #[] }).get? s.heap.objs.size = some { cls := .type "dict", data := .dict #[] } := Heap.get?_push_size _ rfl
    exact Heap.lt_size (hk1 _ _ e)
  refine wpAny_bind (wpAny_pyIter_tuple hl1 ?_)
  have k2 : ∀ b o, h1.get? b = some o → (h1.push { cls := .type "tuple_iterator", data := .fields #[.ref l, .int 0 0] }).get? b = some o := fun b o e => Heap.get?_push_of_some _ e
  have hlt : l < s.heap.objs.size := Heap.lt_size hl
  have key := upd_loopT (prog := prog) (w := w) (A := A.in1) (R := wants (fun r s₂ => r = .none ∧ Q (.ref s.heap.objs.size) s₂) E) (S := s.heap.objs.size) (I := h1.objs.size) (l := l) (items := items) (res := Value.none) hh
    (Nat.ne_of_lt (Nat.lt_trans hlt hS1)) (Nat.ne_of_lt hS1) (Nat.ne_of_gt hlt) prs 0 [] 0 0
    { s with heap := h1.push { cls := .type "tuple_iterator", data := .fields #[.ref l, .int 0 0] }, toks := tk1 } (by rw [hsz, Nat.zero_add]) (by rw [List.length_nil, Nat.zero_add]; exact hln)
    (fun j q e => by
      obtain ⟨b, u, e1, e2, e3⟩ := ht j q e
      have hb : b < s.heap.objs.size := e2.lt
      exact ⟨b, u, by rw [Nat.zero_add]; exact e1, Nat.ne_of_lt hb, Nat.ne_of_lt (Nat.lt_trans hb hS1), e2.keeps fun c o z => k2 _ _ (hk1 _ _ (k0 _ _ z)), e3⟩)
    ⟨_, Heap.get?_push_size _ rfl, rfl, rfl⟩ (hl1.at fun o e => k2 _ _ e) ((hnew.at fun o e => hk1 _ _ e).at fun o e => k2 _ _ e)
    (fun h' tk hd' k => ⟨rfl, h h' tk hd' fun b o e => k b o (Nat.ne_of_lt (Heap.lt_size e)) (Nat.ne_of_lt (Nat.lt_trans (Heap.lt_size e) hS1)) (k2 _ _ (hk1 _ _ (k0 _ _ e)))⟩)
  first
    | exact wpAny_pure ⟨plainId_quiet ud_plain _, key⟩
    | exact wpAny_bind (wpAny_pure (wpAny_pure ⟨plainId_quiet ud_plain _, key⟩))
end
/-! ## tuples whose very object is known: they have no table of their own -/
def ZT (H : Hp) (a : Addr) (xs : List V) : Prop := ∃ ob : Obj, ob.cls = .type "tuple" ∧ ob.dict = none ∧ H a = some (.frz ob (.tup xs))
theorem ZT.rd {H : Hp} {a : Addr} {xs : List V} (h : ZT H a xs) : Rd H a (.tup xs) := let ⟨ob, _, _, e⟩ := h; .inr ⟨ob, e⟩
theorem ZT.sq {K : PySem.W.Frag} {H : Hp} {a : Addr} {xs : List V} (h : ZT H a xs) : SqT K H a xs := .inl h.rd
theorem ZT.same {H H' : Hp} {a : Addr} {xs : List V} (h : ZT H a xs) (s : Same H H') : ZT H' a xs := let ⟨ob, c, d, e⟩ := h; ⟨ob, c, d, s _ _ e⟩
theorem _root_.L2.Rd.same {H H' : Hp} {a : Addr} {xs : List V} (h : Rd H a (.tup xs)) (s : Same H H') : Rd H' a (.tup xs) := by
  rcases h with h | ⟨o, h⟩
  · exact .inl (s _ _ h)
  · exact .inr ⟨o, s _ _ h⟩
theorem _root_.L2.Rd.sq {K : PySem.W.Frag} {H : Hp} {a : Addr} {xs : List V} (h : Rd H a (.tup xs)) : SqT K H a xs := .inl h
theorem Tape.neR {t p : Addr} {H : Hp} {xs : List V} (h : Tape H t) (e : Rd H p (.tup xs)) : p ≠ t := by
  intro z
  subst z
  obtain ⟨_, _, _, _, _, h1, _⟩ := h
  rcases e with e | ⟨o, e⟩ <;> (rw [h1] at e; cases e)
theorem _root_.L2.Rd.b {t : Addr} {H H' : Hp} {a : Addr} {xs : List V} (h : Rd H a (.tup xs)) (T : Tape H t) (s : SameB t H H') : Rd H' a (.tup xs) := by
  have n := T.neR h
  rcases h with h | ⟨o, h⟩
  · exact .inl (s _ _ n h)
  · exact .inr ⟨o, s _ _ n h⟩
theorem ZT.b {t : Addr} {H H' : Hp} {a : Addr} {xs : List V} (h : ZT H a xs) (T : Tape H t) (s : SameB t H H') : ZT H' a xs := by
  have n := T.neR h.rd
  obtain ⟨ob, c, d, e⟩ := h
  exact ⟨ob, c, d, s _ _ n e⟩
section
variable {X : Cx}
theorem zt_new {pins : List (Addr × Obj)} {σ : L2.St} {H : Hp} {s : Shared} {ys : List V} {its : List Value} (I : Inv X pins σ H s) (hz : ys.length ≤ sizeLine) (r : Vals ys its) :
    Inv X pins σ (upd H s.heap.objs.size (.frz { cls := .type "tuple", data := .seq its.toArray } (.tup ys))) { s with heap := s.heap.push { cls := .type "tuple", data := .seq its.toArray } } :=
  I.laid (t' := s.toks) (fun b o e => Heap.get?_push_of_some _ e) (Nat.le_refl _) (show ObjOk X.prog X.w _ _ _ (.frz _ (.tup ys)) from ⟨Heap.get?_push_size _ rfl, hz, its, r, IsTup.new _ _⟩)
/-- tuple(list): what is made is known to be plain -/
theorem call_tupleZ : CallR X (.type "tuple") (fun xs H Q => ∃ p ys, xs = [.ref p] ∧ SqL X.K H p ys ∧ ∀ l ob, H l = none → ob.cls = .type "tuple" → ob.dict = none → Q (.ref l) (upd H l (.frz ob (.tup ys)))) := by
  intro pins s σ H xs us Q I r h
  obtain ⟨p, ys, rfl, hq, q⟩ := h
  obtain ⟨u, rfl, rx⟩ := vals1 r
  cases rx
  obtain ⟨its, r', pl, hz⟩ := I.list hq
  have hlen := r'.length
  refine call_tuple_list pl.isList (fun h' kp => ?_) (by simp only [List.size_toArray] <;> omega)
  have I1 : Inv X pins σ H { s with heap := h' } := I.kept (t' := s.toks) kp
  exact ⟨.ref h'.objs.size, _, zt_new I1 hz r', rfl, q _ _ (I1.hok.fresh (Nat.le_refl _)) rfl rfl⟩
abbrev rCatZ (K : PySem.W.Frag) : V → V → Hp → VK → Prop := fun x y H Q => ∃ (a b : Addr) (xs ys : List V), x = .ref a ∧ y = .ref b ∧ SqT K H a xs ∧ SqT K H b ys ∧ xs ≠ [] ∧ xs.length + ys.length ≤ sizeLine ∧ (ys = [] → Q (.ref a) H) ∧ (ys ≠ [] → ∀ p ob, H p = none → ob.cls = .type "tuple" → ob.dict = none → Q (.ref p) (upd H p (.frz ob (.tup (xs ++ ys)))))
theorem op_catZ : OpR X (binaryOp .Add) (rCatZ X.K) := by
  intro pins s σ H x y v u Q I rx ry h
  obtain ⟨a, b, xs, ys, rfl, rfl, ha, hb, hx, hz, q1, q2⟩ := h
  cases rx
  cases ry
  obtain ⟨its, r1, p1, _⟩ := I.tuple ha
  obtain ⟨its2, r2, p2, _⟩ := I.tuple hb
  refine HT.cat_tup p1 p2 (fun z => hx (r1.nil_iff.mp z)) (fun z => ⟨.ref a, H, I, rfl, q1 (r2.nil_iff.mp z)⟩) (fun z => ?_) (by rw [← r1.length, ← r2.length]; exact hz)
  exact ⟨.ref s.heap.objs.size, _, zt_new I (by rw [List.length_append]; exact hz) (r1.append r2), rfl, q2 (fun w => z (r2.nil_iff.mpr w)) _ _ (I.hok.fresh (Nat.le_refl _)) rfl rfl⟩
/-- dict(t) of a plain tuple of pairs: later pairs win -/
theorem call_dictZ (hcalm : X.calm = true) : CallR X (.type "dict") (fun xs H Q => ∃ (a : Addr) (ps : List Addr) (kvs : List (Key × V)), xs = [.ref a] ∧ ZT H a (ps.map V.ref) ∧ Paired (fun p kv => SqT X.K H p [kV kv.1, kv.2]) ps kvs ∧
    ∀ p, H p = none → Q (.ref p) (upd H p (.dK (mergeK [] kvs)))) := by
  intro pins s σ H xs us Q I r q
  obtain ⟨a, ps, kvs, ex, ⟨o, hc, hd, hq⟩, hp, q⟩ := q
  subst ex
  obtain ⟨u, eu, rx⟩ := vals1 r
  subst eu
  cases rx
  obtain ⟨ho, hz, its, rv, o', ho', _, n, hdat⟩ := I.hok a _ hq
  rw [ho] at ho'
  cases ho'
  have ei := refs_at rv
  subst ei
  rw [List.length_map] at hz
  obtain ⟨prs, rel, hl, hpr⟩ := pairs_of I hp
  refine call_dict_pairsT (prs := prs) (I.ok.hd hcalm) ho hc hd hdat (by simp [hl]) (by rw [hl]; exact hz) (fun j q' e => ?_) fun h' tk hd' k => ?_
  · obtain ⟨b, u, e1, e2, e3⟩ := hpr j q' e
    exact ⟨b, u, by simp [e1], e2, e3⟩
  · have hm : (s.heap.objs.size == sysModules) = false := beq_eq_false_iff_ne.mpr (Nat.ne_of_gt I.big)
    have hlen : (mergeK [] kvs).length ≤ sizeLine := by
      refine Nat.le_trans (length_mergeK kvs []) ?_
      rw [List.length_nil, Nat.zero_add, rel.length, hl]
      exact hz
    exact ⟨.ref s.heap.objs.size, upd H s.heap.objs.size (.dK (mergeK [] kvs)), I.laid (t' := tk) k (Nat.le_refl _) (show ObjOk X.prog X.w _ _ _ (.dK (mergeK [] kvs)) from ⟨hlen, hm, merged [] prs, KV.merge rel .nil, hd'⟩), rfl, q _ (I.hok.fresh (Nat.le_refl _))⟩
end
end Lc
namespace Lc
open PySem PySem.Spec PyProof.Rows L2
/-- a tuple, or a list -/
def LT (H : Hp) (a : Addr) (xs : List V) : Prop := H a = some (.tup xs) ∨ H a = some (.lst xs)
theorem LT.same {H H' : Hp} {a : Addr} {xs : List V} (h : LT H a xs) (s : Same H H') : LT H' a xs := h.imp (s _ _) (s _ _)
theorem LT.sq {K : PySem.W.Frag} {H : Hp} {a : Addr} {xs : List V} (h : LT H a xs) : SqL K H a xs ∨ SqT K H a xs := h.symm.imp SqL.of SqT.of
end Lc
set_option Elab.async false
set_option linter.all false
set_option maxRecDepth 100000
set_option maxHeartbeats 4000000
namespace Lc
open PySem PySem.Spec PyProof.Rows L2
/-! ## sets of texts: made of a list, sorted -/
def keyX (e : Int × Value) : Str := match e.2 with | .str k _ => k | _ => Str.empty
def GoodX (w : World) (e : Int × Value) : Prop := ∃ k tk, e.2 = Value.str k tk ∧ e.1 = hashStr w k
/-- the set of the texts ks at a -/
def SetX (w : World) (h : Heap) (a : Addr) (ks : List Str) : Prop :=
  ∃ o es ep t, h.get? a = some o ∧ o.ExactSet ∧ o.data = .set es ep t ∧ (∀ e ∈ es.toList, GoodX w e) ∧ (es.toList.map keyX).Nodup ∧ (∀ k, k ∈ ks ↔ k ∈ es.toList.map keyX) ∧
    es.size < scanBound ∧ es.size ≤ ks.length ∧ t.fits es.size = true ∧ Ris t.place.toList ∧ (w.params.followText "set-order" = true ∨ t.led = true)
section
variable {P : Program} {w : World} {h h' : Heap} {a : Addr} {ks : List Str}
theorem SetX.at (R : SetX w h a ks) (k : ∀ o, h.get? a = some o → h'.get? a = some o) : SetX w h' a ks := by
  obtain ⟨o, es, ep, t, ho, r⟩ := R
  exact ⟨o, es, ep, t, k o ho, r⟩
theorem goodX_elems {l : List (Int × Value)} (g : ∀ e ∈ l, GoodX w e) : ElemsOf (strKind P w) l := fun e he => by
  obtain ⟨k, tk, h1, h2⟩ := g e he
  exact ⟨⟨k, by rw [h1]; exact strKind_is _ _ _ _, h2⟩, by rw [h1] <;> rfl⟩
theorem goodX_is {e : Int × Value} (g : GoodX w e) (k : Str) : (strKind P w).is k e.2 = true ↔ keyX e = k := by
  obtain ⟨k0, tk, h1, _⟩ := g
  unfold keyX
  rw [h1]
  constructor
  · intro q
    exact (strKind P w).inj (.str k0 tk) k0 k (strKind_is _ _ _ _) q
  · intro q
    rw [← q]
    exact strKind_is _ _ _ _
theorem goodX_mem {l : List (Int × Value)} (g : ∀ e ∈ l, GoodX w e) (k : Str) : k ∈ l.map keyX ↔ ∃ e ∈ l, (strKind P w).is k e.2 = true := by
  rw [List.mem_map]
  constructor
  · rintro ⟨e, he, q⟩
    exact ⟨e, he, (goodX_is (g e he) k).2 q⟩
  · rintro ⟨e, he, q⟩
    exact ⟨e, he, (goodX_is (g e he) k).1 q⟩
end
section
variable {P : Program} {w : World} {A : Around} {E : Value → Shared → Prop} {s : Shared} {a : Addr} {ks : List Str}
theorem setX_tail {g : Bool → Sem Unit} (hg : ∀ (b : Bool) (s₁ : Shared) (Q' : Unit → Shared → Prop), Q' () s₁ → wpAny (model P w) A (g b) Q' E s₁)
    {o : Obj} {es : Array (Int × Value)} {ep : Nat} {t : SetTable} (ho : s.heap.get? a = some o) (hex : o.ExactSet) (hd : o.data = .set es ep t)
    {es1 : Array (Int × Value)} {t2 : SetTable} {ks' : List Str} (g1 : ∀ e ∈ es1.toList, GoodX w e) (nd1 : (es1.toList.map keyX).Nodup) (m1 : ∀ k, k ∈ ks' ↔ k ∈ es1.toList.map keyX)
    (hb1 : es1.size < scanBound) (hl1 : es1.size ≤ ks'.length) (hf2 : t2.fits es1.size = true) (hr : Ris t2.place.toList) (hl : w.params.followText "set-order" = true ∨ t2.led = true) {wasDummy : Bool} {R : Option Bool → Shared → Prop}
    (hR : ∀ h', Heap.SameBut a s.heap h' → SetX w h' a ks' → R (some true) { s with heap := h' }) :
    wpAny (model P w) A (do
        storeSet a es1 t2
        if (!wasDummy && t2.tooFull) = true then do
            g (relayAll t2 es1 (SetTable.grown es1.size)).2.2
            storeSet a (relayAll t2 es1 (SetTable.grown es1.size)).1 (relayAll t2 es1 (SetTable.grown es1.size)).2.1
            pure (some true)
          else pure (some true)) R E s := by
  refine wpAny_bind (wpAny_storeSet_of ho hd ?_ (fits_of_scanBound hb1))
  have ho1 := store_at (es' := es1) (t' := t2) ho hd
  have sb1 := Heap.SameBut.update s.heap a (Obj.putSet es1 t2)
  split
  · have pm := relayAll_perm t2 es1 (SetTable.grown es1.size)
    have hf3 := relayAll_fits t2 es1 (SetTable.grown es1.size)
    have hr3 := relayAll_ris t2 es1 (SetTable.grown es1.size)
    have hl3 := relayAll_led t2 es1 (SetTable.grown es1.size)
    generalize relayAll t2 es1 (SetTable.grown es1.size) = Z at pm hf3 hr3 hl3 ⊢
    obtain ⟨es2, t3, gave⟩ := Z
    dsimp only at pm hf3 hr3 hl3 ⊢
    have hsz : es2.size = es1.size := by rw [← Array.length_toList, pm.length_eq, Array.length_toList]
    refine wpAny_bind (hg _ _ _ ?_)
    refine wpAny_bind (wpAny_storeSet_of ho1 rfl ?_ (fits_of_scanBound (by rw [hsz]; exact hb1)))
    have ho2 := store_at (es' := es2) (t' := t3) ho1 rfl
    refine wpAny_pure (hR _ (sb1.trans (Heap.SameBut.update _ a _)) ?_)
    exact ⟨_, es2, _, t3, ho2, hex, rfl, fun e he => g1 e (pm.mem_iff.mp he), (pm.map keyX).nodup_iff.mpr nd1, fun k => (m1 k).trans (pm.map keyX).mem_iff.symm, by rw [hsz]; exact hb1, by rw [hsz]; exact hl1, hf3, hr3,
      hl.imp id fun z => by rw [hl3]; exact z⟩
  · exact wpAny_pure (hR _ sb1 ⟨_, es1, _, t2, ho1, hex, rfl, g1, nd1, m1, hb1, hl1, hf2, hr, hl⟩)
theorem setX_add {k : Str} {tk : Tok} {Q : Bool → Shared → Prop} (R : SetX w s.heap a ks) (room : ks.length + 1 < scanBound)
    (hQ : ∀ b h', Heap.SameBut a s.heap h' → SetX w h' a (ks ++ [k]) → Q b { s with heap := h' }) :
    wpAny (model P w) A (setAddHashed a (.str k tk) ((strKind P w).hash k)) Q E s := by
  obtain ⟨o, es, ep, t, ho, hex, hd, g, nd, hm, hb, hlen, hf, hr, hl⟩ := R
  have hkey : (strKind P w).is k (.str k tk) = true := strKind_is _ _ _ _
  have hsc : (Value.str k tk).scannable = true := rfl
  have hel : ElemsOf (strKind P w) es.toList := goodX_elems g
  unfold setAddHashed setAddHashedIn
  refine wpAny_holding (wpAny_bind (wpAny_setState_of ho hd hf ?_))
  dsimp only
  rw [byScan_of hsc hb hel]
  simp only [↓reduceIte]
  unfold setAddByScan
  refine wpAny_bind ?_
  refine wpAny_bind (wpAny_rule ?_)
  refine wpAny_bind (wpAny_setScan_of hkey ho hd hf hel ?_)
  cases hfi : List.findIdx? (fun e => (strKind P w).is k e.2) es.toList with
  | some j =>
    dsimp only
    obtain ⟨hj, pj, _⟩ := List.findIdx?_eq_some_iff_getElem.mp hfi
    have hk : k ∈ es.toList.map keyX := (goodX_mem (P := P) (w := w) g k).2 ⟨es.toList[j], List.getElem_mem hj, pj⟩
    refine wpAny_pure (wpAny_pure ?_)
    exact hQ _ s.heap (Heap.SameBut.refl a s.heap) ⟨o, es, ep, t, ho, hex, hd, g, nd, fun i => by
      rw [List.mem_append, List.mem_singleton, hm i]
      exact ⟨fun z => z.elim id (fun e => e ▸ hk), .inl⟩, hb, by rw [List.length_append]; omega, hf, hr, hl⟩
  | none =>
    dsimp only
    have hnk : k ∉ es.toList.map keyX := fun z => by
      obtain ⟨e, he, q⟩ := (goodX_mem (P := P) (w := w) g k).1 z
      have c := List.findIdx?_eq_none_iff.mp hfi e he
      rw [q] at c
      cases c
    have hgw : ∀ (b : Bool) {s₁ : Shared} {Q' : Unit → Shared → Prop}, Q' () s₁ → wpAny (model P w) A (match b with | true => rule "set.scan.the-table-gave-way" | false => pure ()) Q' E s₁ :=
      fun b s₁ Q' q => by cases b <;> first | exact wpAny_pure q | exact wpAny_rule q
    have pm := layNew_perm t es ((strKind P w).hash k) (.str k tk)
    have hf1 := layNew_fits t es ((strKind P w).hash k) (.str k tk)
    have hr1 := layNew_ris t es ((strKind P w).hash k) (.str k tk) hr
    have hl1 := layNew_led t es ((strKind P w).hash k) (.str k tk)
    generalize layNew t es ((strKind P w).hash k) (.str k tk) = Z at pm hf1 hr1 hl1 ⊢
    obtain ⟨es1, t1, wasDummy, gave⟩ := Z
    dsimp only at pm hf1 hr1 hl1 ⊢
    rw [Array.toList_push] at pm
    have pc : es1.toList.Perm (((strKind P w).hash k, Value.str k tk) :: es.toList) := pm.trans (List.perm_append_singleton _ _)
    have pk : (es1.toList.map keyX).Perm (k :: es.toList.map keyX) := pc.map keyX
    have g1 : ∀ e ∈ es1.toList, GoodX w e := fun e he => by
      rcases List.mem_cons.mp (pc.mem_iff.mp he) with z | z
      · rw [z]; exact ⟨k, tk, rfl, rfl⟩
      · exact g e z
    have nd1 : (es1.toList.map keyX).Nodup := pk.nodup_iff.mpr (List.nodup_cons.mpr ⟨hnk, nd⟩)
    have m1 : ∀ i, i ∈ ks ++ [k] ↔ i ∈ es1.toList.map keyX := fun i => by
      rw [List.mem_append, List.mem_singleton, hm i, pk.mem_iff, List.mem_cons]
      exact Or.comm
    have hsz : es1.size = es.size + 1 := by rw [← Array.length_toList, pc.length_eq, List.length_cons, Array.length_toList]
    have hb1 : es1.size < scanBound := by omega
    have hln : es1.size ≤ (ks ++ [k]).length := by rw [List.length_append]; show _ ≤ _ + 1; omega
    have hled : w.params.followText "set-order" = true ∨ t1.led = true := hl.imp id fun z => by rw [hl1]; exact z
    refine wpAny_bind (hgw _ ?_)
    split
    · refine wpAny_bind ?_
      rw [hashByValue_scannable 8 hsc]
      refine wpAny_pure ?_
      refine setX_tail ?_ ho hex hd g1 nd1 m1 hb1 hln ?_ ?_ ?_ ?_
      · intro b s₁ Q' q; cases b <;> first | exact wpAny_pure q | exact wpAny_rule q
      · first | (split <;> first | exact hf1 | exact SetTable.fits_plain_off hf1) | exact hf1
      · first | (split <;> exact hr1) | exact hr1
      · first | (split <;> exact hled) | exact hled
      · intro h' sb r; dsimp only; exact wpAny_pure (hQ _ h' sb r)
    · refine wpAny_bind (wpAny_pure ?_)
      simp only [↓reduceIte]
      refine setX_tail ?_ ho hex hd g1 nd1 m1 hb1 hln hf1 hr1 hled ?_
      · intro b s₁ Q' q; cases b <;> first | exact wpAny_pure q | exact wpAny_rule q
      · intro h' sb r; dsimp only; exact wpAny_pure (hQ _ h' sb r)
theorem setX_fresh {h : Heap} {a : Addr} (ho : h.get? a = some { cls := .type "set", dict := none, data := .set #[] 0 (.fresh 0 0 (!w.params.followText "set-order")) }) : SetX w h a [] :=
  ⟨_, #[], 0, _, ho, ⟨rfl, rfl, rfl⟩, rfl, (fun e he => by simp at he), (by simp), (fun k => by simp), (by decide), Nat.le_refl _, (by rfl), List.Pairwise.nil, by
    show _ ∨ (!w.params.followText "set-order") = true
    cases w.params.followText "set-order"
    · exact .inr rfl
    · exact .inl rfl⟩
end
/-! ### set(xs) -/
section
variable {P : Program} {w : World} {A : Around} {R : Result → Shared → Prop} {I : Addr} {fp wr : List Addr} {G : Array GenState → Array GenState → Prop} {n : Nat} {Pv : Nat → Value → Prop} {St : Nat → Shared → Prop}
theorem setX_loop (W : WalksS P w A.in1 I fp wr G n Pv St) (S : Addr) (hSf : S ∉ fp) (ks : List Str) (hn : n = ks.length) (hfew : ks.length < 1000) (hval : ∀ i v, Pv i v → ∃ x t, ks[i]? = some x ∧ v = .str x t) :
    ∀ (k i : Nat) (s : Shared), n - i = k → i ≤ n → St i s → SetX w s.heap S (ks.take i) →
      (∀ s', Moved (S :: wr) G s s' → SetX w s'.heap S ks → R (.ok (.ret .none)) s') →
      codeAny (model P w) A (.builtin "set.update.loop" ⟨[.ref S, .ref I], []⟩) R s := by
  have hSw : S ∉ wr := fun h => hSf (W.sub _ h)
  have hsub : ∀ b ∈ wr, b ∈ S :: wr := fun b hb => List.mem_cons_of_mem _ hb
  intro k
  induction k with
  | zero =>
    intro i s hk hi hst hS hR
    have hin : i = n := by omega
    subst hin
    refine codeAny_builtin F.entry_set_update_loop ?_
    rw [Around.under_plainId F.plain_set_update_loop _]
    show wpAny _ A.in1 (pyNext (.ref I) >>= _) _ _ s
    refine wpAny_bind (W.done s _ _ hst fun s' hm => ?_)
    show wpAny _ A.in1 (ret Value.none) _ _ s'
    rw [hn, List.take_length] at hS
    exact wpAny_pure (hR s' (hm.mono hsub) (hS.at fun o e => hm.heap S o hSw e))
  | succ k ih =>
    intro i s hk hi hst hS hR
    have hlt : i < n := by omega
    refine codeAny_builtin F.entry_set_update_loop ?_
    rw [Around.under_plainId F.plain_set_update_loop _]
    show wpAny _ A.in1 (pyNext (.ref I) >>= _) _ _ s
    refine wpAny_bind (W.item i s _ _ hlt hst fun v s' hP hst' hm => ?_)
    obtain ⟨x, t, ex, rfl⟩ := hval i v hP
    have hS' : SetX w s'.heap S (ks.take i) := hS.at fun o e => hm.heap S o hSw e
    show wpAny _ A.in1 (holding [Value.str x t] (setAdd S (.str x t)) >>= _) _ _ s'
    refine wpAny_bind (wpAny_holding ?_)
    unfold setAdd
    refine wpAny_holding ?_
    refine wpAny_bind ((strKind P w).pyHash (k := x) (strKind_is _ _ _ _) ?_)
    refine setX_add (s := { s' with toks := s'.toks + 1 }) hS' (by rw [List.length_take]; unfold scanBound; omega) fun b h' hsb hS2 => ?_
    have e2 : ks.take i ++ [x] = ks.take (i + 1) := by rw [List.take_add_one, ex] <;> rfl
    rw [e2] at hS2
    refine wpAny_pure ⟨plainId_quiet F.plain_set_update_loop _, ih (i + 1) _ (by omega) hlt (W.frame _ s' _ _ hst' (Nat.le_succ _) fun b hb o e => ?_) hS2 fun s'' hm'' hS'' => ?_⟩
    · rw [hsb.2 b (fun h : b = S => hSf (by rw [← h]; exact hb))]; exact e
    · refine hR s'' (Moved.trans W.gtrans ((hm.mono hsub).then_heap (Nat.le_succ _) fun b o hb e => ?_) hm'') hS''
      rw [hsb.2 b (fun h : b = S => hb (by rw [h]; exact List.mem_cons_self))]; exact e
end
section
variable {P : Program} {w : World} {A : Around} {E : Value → Shared → Prop} {s : Shared}
theorem call_setX {l : Addr} {items : Array Value} {ks : List Str} {Q : Value → Shared → Prop} (hh : A.handled = none) (hl : s.heap.IsList l items) (hit : StrsAre items.toList ks) (hfew : ks.length < 1000)
    (h : ∀ (h' : Heap) (tk : Nat), SetX w h' s.heap.objs.size ks → (∀ b o, s.heap.get? b = some o → h'.get? b = some o) → Q (.ref s.heap.objs.size) { s with heap := h', toks := tk }) :
    wpAny (model P w) A (call (.type "set") [.ref l]) Q E s := by
  have hisz : items.size = ks.length := by rw [← Array.length_toList]; exact StrsAre.len_eq hit
  obtain ⟨c, tl, hmro⟩ := F.called_set.mro
  have hmade := F.called_set.made
  have hsub := F.called_set.sub
  refine wpAny_call (codeAny_of_tree ?_)
  show wpAny _ _ (callAny (.type "set") _) _ _ _
  refine wpAny_pure ⟨Code.quiet_builtin _ (by decide +kernel), codeAny_builtin F.entry_type_call ?_⟩
  rw [Around.under_plain (weight_type_call_type "set" [.ref l] []) rfl]
  have h1 := F.called_set.notType
  have h2 := F.called_set.canCreate
  have hct := F.typeCall_set_1 (.ref l)
  repeat (any_goals (first | assumption | wp_step))
  refine codeAny_mono (code_set_led1 (.ref l) (E := E) (Q₁ := fun obj s₁ => obj = .ref s.heap.objs.size ∧ s₁ = { s with heap := s.heap.push { cls := .type "set", dict := none, data := .set #[] 0 (.fresh 0 0 (!w.params.followText "set-order")) } }) ⟨rfl, rfl⟩) fun r s₁ hr => ?_
  cases r with
  | error e => exact hr
  | ok fl =>
    cases fl with
    | ret obj =>
      obtain ⟨rfl, rfl⟩ := hr
      have hS : (s.heap.push { cls := .type "set", dict := none, data := .set #[] 0 (.fresh 0 0 (!w.params.followText "set-order")) }).get? s.heap.objs.size = some { cls := .type "set", dict := none, data := .set #[] 0 (.fresh 0 0 (!w.params.followText "set-order")) } := Heap.get?_push_size _ rfl
      have hT : Shared.TypeIs { s with heap := s.heap.push { cls := .type "set", dict := none, data := .set #[] 0 (.fresh 0 0 (!w.params.followText "set-order")) } } (.ref s.heap.objs.size) "set" := ⟨_, hS, rfl⟩
      have hli := F.called_set.init.lookup
      have hbi := F.called_set.init.bind (.ref s.heap.objs.size)
      repeat (any_goals (first | assumption | wp_step))
      refine codeAny_mono (codeAny_call_builtin (R := wants (fun r s₂ => r = .none ∧ ∃ h' tk, s₂ = { s with heap := h', toks := tk } ∧ SetX w h' s.heap.objs.size ks ∧ (∀ b o, s.heap.get? b = some o → h'.get? b = some o)) E) F.called_set.init.plain F.entry_set_init (check_set_init_1 hT ?_)) fun r₂ s₂ hr₂ => ?_
      · obtain ⟨ol, hol, hcl, nl, hdl⟩ := hl
        obtain ⟨ocls, odict, odata, oslots⟩ := ol
        simp only at hcl hdl
        subst hcl; subst hdl
        have hol' : (s.heap.push { cls := .type "set", dict := none, data := .set #[] 0 (.fresh 0 0 (!w.params.followText "set-order")) }).get? l = some { cls := .type "list", dict := odict, data := .seq items nl, slots := oslots } := Heap.get?_push_of_some _ hol
        have hsls := F.sub_list_set
        have hslf := F.sub_list_frozenset
        have hne : (Value.type "list" == Value.type "dict") = false := by decide
        have hl1 : (s.heap.push { cls := .type "set", dict := none, data := .set #[] 0 (.fresh 0 0 (!w.params.followText "set-order")) }).IsList l items := ⟨_, hol', rfl, nl, rfl⟩
        unfold Builtin.«set.__init__» noKeywords Builtin.Frozenset.updateFrom
        generalize hPI : pyIter = PI
        wp_walk
        subst hPI
        refine wpAny_pyIter_list hl1 ?_
        refine wpAny_bind (wpAny_runValue ?_)
        have hlS : l < s.heap.objs.size := Heap.lt_size hol
        have hh3 : A.in1.in1.in1.handled = none := by simp [hh]
        have hneI : l ≠ (s.heap.push { cls := .type "set", dict := none, data := .set #[] 0 (.fresh 0 0 (!w.params.followText "set-order")) }).objs.size := by
          rw [Heap.size_push]; exact Nat.ne_of_lt (Nat.lt_succ_of_lt hlS)
        have hSf : s.heap.objs.size ∉ [(s.heap.push { cls := .type "set", dict := none, data := .set #[] 0 (.fresh 0 0 (!w.params.followText "set-order")) }).objs.size, l] := by
          rw [Heap.size_push]; simp only [List.mem_cons, List.mem_singleton, List.not_mem_nil, or_false, not_or]
          exact ⟨Nat.ne_of_lt (Nat.lt_succ_self _), Nat.ne_of_gt hlS⟩
        have hval : ∀ (i : Nat) (v : Value), items[i]? = some v → ∃ x t, ks[i]? = some x ∧ v = .str x t := fun i v hv => by
          obtain ⟨t, e⟩ := SS.strs_at hit i v (by rw [Array.getElem?_toList]; exact hv)
          have hi : i < ks.length := by rw [← hisz]; exact (Array.getElem?_eq_some_iff.mp hv).1
          refine ⟨_, t, List.getElem?_eq_getElem hi, ?_⟩
          rw [e, List.getD_eq_getElem?_getD, List.getElem?_eq_getElem hi] <;> rfl
        refine setX_loop ((Walks.list hh3 _ l hneI items).toS) s.heap.objs.size hSf ks hisz hfew hval (items.size - 0) 0 _ (by omega) (Nat.zero_le _)
          ⟨⟨_, Heap.get?_push_size _ rfl, rfl, rfl⟩, (hl1.push _)⟩ ?hS0 ?hR
        case hS0 =>
          exact setX_fresh (Heap.get?_push_of_some _ hS)
        case hR =>
          intro s' hm hS'
          obtain ⟨h', g2, d', tk', os'⟩ := s'
          have eg : g2 = s.gens := hm.gens
          have ed : d' = s.drawn := hm.drawn
          have eo : os' = s.os := hm.os
          subst eg; subst ed; subst eo
          show wpAny _ _ _ _ _ _
          refine wpAny_pure ?_
          show wpAny _ _ (ret Value.none) _ _ _
          refine wpAny_pure ⟨rfl, h', tk', rfl, hS', fun b o e => ?_⟩
          have hb := Heap.lt_size e
          have hb1 : b ≠ s.heap.objs.size := Nat.ne_of_lt hb
          have hb2 : b ≠ (s.heap.push { cls := .type "set", dict := none, data := .set #[] 0 (.fresh 0 0 (!w.params.followText "set-order")) }).objs.size := by
            rw [Heap.size_push]; exact Nat.ne_of_lt (Nat.lt_succ_of_lt hb)
          exact hm.heap b o (by simp only [List.mem_cons, List.mem_singleton, List.not_mem_nil, or_false, not_or]; exact ⟨hb1, hb2⟩) (Heap.get?_push_of_some _ (Heap.get?_push_of_some _ e))
      · cases r₂ with
        | error e => exact hr₂
        | ok fl₂ =>
          cases fl₂ with
          | ret r =>
            obtain ⟨rfl, h', tk, rfl, hS', hk'⟩ := hr₂
            repeat (any_goals (first | assumption | wp_step))
            exact h _ _ hS' hk'
          | _ => exact hr₂.elim
    | _ => exact hr.elim
end
end Lc
set_option Elab.async false
set_option linter.all false
set_option maxRecDepth 100000
set_option maxHeartbeats 4000000
namespace Lc
open PySem PySem.Spec PyProof.Rows L2
/-! ## sorted(set(xs)), xs a list of texts -/
def SetXO (w : World) (a : Addr) (ks : List Str) : HO := .ext fun h => SetX w h a ks
theorem setXO_new {P : Program} {w : World} {H : Hp} {h : Heap} {a : Addr} {ks : List Str} (R : SetX w h a ks) : ObjOk P w H h a (SetXO w a ks) := by
  have ⟨o, es, ep, t, ho, r⟩ := R
  refine ⟨R, ⟨o, ho⟩, fun h1 h2 p k => ?_⟩
  exact SetX.at (show SetX w h1 a ks from p) k
theorem strs_vals : ∀ {ks : List Str} {us : List Value}, Vals (ks.map V.str) us → StrsAre us ks
  | [], _, .nil => .nil
  | k :: ks, _, .cons r t => by
    obtain ⟨tk, rfl⟩ := r
    exact .cons _ _ (strs_vals t)
section
variable {P : Program} {w : World} {A : Around} {E : Value → Shared → Prop} {s : Shared} {a : Addr} {ks : List Str}
theorem strs_key : ∀ (l : List Value), (∀ v ∈ l, ∃ k tk, v = Value.str k tk) → StrsAre l (l.map fun v => keyX (0, v))
  | [], _ => .nil
  | v :: l, h => by
    obtain ⟨k, tk, rfl⟩ := h v List.mem_cons_self
    exact .cons k tk (strs_key l fun u hu => h u (List.mem_cons_of_mem _ hu))
theorem sorted_setX {Q : Value → Shared → Prop} (R : SetX w s.heap a ks) (hh : A.handled = none) (h64 : ks.length < 64)
    (hQ : ∀ s' p (out : Array Value) (c : Nat) (ys : List Str), (∀ b o, s.heap.get? b = some o → s'.heap.get? b = some o) → s'.gens = s.gens → s'.os = s.os → s.heap.objs.size ≤ p →
      s'.heap.get? p = some (seqObj "list" out c) → StrsAre out.toList ys → sortedS ys = true → ys.Nodup → (∀ k, k ∈ ys ↔ k ∈ ks) → ys.length < 64 → Q (.ref p) s') :
    wpAny (model P w) A (call (.builtin "sorted") [.ref a]) Q E s := by
  obtain ⟨o, es, ep, t, ho, hex, hd, g, nd, hm, hb, hlen, hf, hr, hl⟩ := R
  refine Calls.call_function_entry kind_sorted plain_sorted entry_sorted (args_sorted1 _) ?_
  unfold Builtin.«sorted»
  refine wpAny_bind (m := checkCount "sorted" 1 1 _) (wpAny_pure ?_)
  refine wpAny_bind (collect_set (A := A.in1) hh ⟨o, ho, hex.1, hd⟩ hf hb hr hl fun s1 vs k1 hz g1 o1 pm => ?_)
  have hvl : vs.length = es.size := by rw [pm.length_eq, List.length_map, Array.length_toList]
  have hI : StrsAre vs (vs.map fun v => keyX (0, v)) := strs_key vs fun v hv => by
    obtain ⟨e, he, q⟩ := List.mem_map.mp (pm.mem_iff.mp hv)
    obtain ⟨k, tk, h1, _⟩ := g e he
    exact ⟨k, tk, by rw [← q]; exact h1⟩
  have pk : (vs.map fun v => keyX (0, v)).Perm (es.toList.map keyX) := by
    have q := pm.map fun v => keyX (0, v)
    rw [List.map_map] at q
    exact q
  refine wpAny_bind (wpAny_newList ?_ (by rw [hvl, sizeLine_eq]; omega))
  have hoL : (s1.heap.push (seqObj "list" vs.toArray 0)).get? s1.heap.objs.size = some (seqObj "list" vs.toArray 0) := Heap.get?_push_size _ rfl
  refine wpAny_bind (wpAny_holding (wpAny_call_entry slot_list_sort ⟨_, hoL, rfl⟩ entry_list_sort
    (list_sort_treeK strKind_oneLt (s := { s1 with heap := s1.heap.push (seqObj "list" vs.toArray 0) }) hoL hI.keysOf (fun v₁ v₂ rest e => keyKind_strs (by rw [← e]; exact hI)) (by rw [hvl]; omega) fun st' hp hs => ⟨_, rfl, ?_⟩) (args_list_sort _)))
  obtain ⟨ys, q1, q2, q3⟩ := sorted_out_str hI hp hs
  obtain ⟨c, hc⟩ := sortedHeap_at (vs := vs) (out := (arrOf st').map (·.2)) hoL
  have pn : ys.Perm (es.toList.map keyX) := q2.trans pk
  refine wpAny_pure ⟨_, rfl, hQ _ s1.heap.objs.size ((arrOf st').map (·.2)) c ys (fun b u e => ?_) g1 o1 hz hc q1 q3 (pn.nodup_iff.mpr nd) (fun k => by rw [pn.mem_iff, ← hm k]) ?_⟩
  · have q := k1 b u e
    have hlt := Heap.lt_size q
    rw [sortedHeap_old (Nat.ne_of_lt hlt) (by rw [size_push']; exact Nat.lt_succ_of_lt hlt)]
    exact Heap.get?_push_of_some _ q
  · rw [pn.length_eq, List.length_map, Array.length_toList]; omega
end
section
variable {X : Cx}
def rSetX (K : PySem.W.Frag) (w : World) : List V → Hp → VK → Prop := fun xs H Q => ∃ (l : Addr) (ks : List Str), xs = [V.ref l] ∧ SqL K H l (ks.map V.str) ∧ ks.length < 1000 ∧ ∀ a, H a = none → Q (.ref a) (upd H a (SetXO w a ks))
theorem cr_setX (hc : X.calm = true) : CallR X (.type "set") (rSetX X.K X.w) := by
  intro pins s σ H xs us Q I r h
  obtain ⟨l, ks, rfl, hl, hf, q⟩ := h
  rw [Vals.ref1 r]
  obtain ⟨its, rv, pl, hz⟩ := I.list hl
  have hn : H s.heap.objs.size = none := I.hok.fresh (Nat.le_refl _)
  refine call_setX (P := X.prog) (w := X.w) (I.ok.hd hc) pl.isList (by simpa using strs_vals rv) hf fun h' tk R k => ?_
  exact ⟨.ref s.heap.objs.size, upd H s.heap.objs.size (SetXO X.w s.heap.objs.size ks), I.laid (t' := tk) k (Nat.le_refl _) (setXO_new R), rfl, q _ hn⟩
def rSortX (w : World) : List V → Hp → VK → Prop := fun vs H Q => ∃ (a : Addr) (ks : List Str), vs = [V.ref a] ∧ H a = some (SetXO w a ks) ∧ ks.length < 64 ∧
  ∀ (ys : List Str) (p : Addr), sortedS ys = true → ys.Nodup → (∀ k, k ∈ ys ↔ k ∈ ks) → H p = none → Q (.ref p) (upd H p (.lst (ys.map V.str)))
theorem cr_sortX (hc : X.calm = true) : CallR X (.builtin "sorted") (rSortX X.w) := by
  intro pins s σ H vs us Q I r h
  obtain ⟨a, ks, rfl, ha, h64, q⟩ := h
  have R0 : SetX X.w s.heap a ks := (I.hok a _ ha).1
  rw [Vals.ref1 r]
  refine sorted_setX R0 (I.ok.hd hc) h64 fun s' p out c ys k g o hp hg hout so nd mem few => ?_
  have hlen : (ys.map V.str).length ≤ sizeLine := by rw [List.length_map, sizeLine_eq]; omega
  have hn : H p = none := I.hok.fresh hp
  have J : Inv X pins σ (upd H p (.lst (ys.map V.str))) { s with heap := s'.heap, gens := s'.gens, drawn := s'.drawn, toks := s'.toks } :=
    I.call (ch := []) (Un.laid k hp hn) (I.hok.laid k hp ⟨hlen, out.toList, c, vals_of_strs hout, hg⟩) (by rw [g]; exact I.bare) (fun _ z => nomatch z)
  have e : s' = { s with heap := s'.heap, gens := s'.gens, drawn := s'.drawn, toks := s'.toks } := by
    cases s'
    cases s
    cases o
    rfl
  rw [e]
  exact ⟨.ref p, _, J, rfl, q ys p so nd mem hn⟩
end
end Lc
set_option Elab.async false
set_option linter.all false
set_option maxRecDepth 100000
set_option maxHeartbeats 4000000
namespace Lc
open PySem PySem.Spec PyProof.Rows L2
/-! ## len(set(xs)), xs a list of texts: as many as there are different ones -/
theorem nodup_of_len {α : Type} [DecidableEq α] : ∀ {ks l : List α}, l.Nodup → (∀ k ∈ l, k ∈ ks) → l.length = ks.length → ks.Nodup
  | [], _, _, _, _ => List.nodup_nil
  | x :: r, l, n, s, e => by
    have xr : x ∉ r := fun hx => by
      have := List.Nodup.length_le_of_subset n (l₂ := r) fun k hk => by
        rcases List.mem_cons.mp (s k hk) with q | q
        · rw [q]; exact hx
        · exact q
      rw [List.length_cons] at e
      omega
    have xl : x ∈ l := Classical.byContradiction fun hx => by
      have := List.Nodup.length_le_of_subset n (l₂ := r) fun k hk => by
        rcases List.mem_cons.mp (s k hk) with q | q
        · rw [q] at hk; exact absurd hk hx
        · exact q
      rw [List.length_cons] at e
      omega
    refine List.nodup_cons.mpr ⟨xr, nodup_of_len (l := l.erase x) (n.erase x) (fun k hk => ?_) ?_⟩
    · have hk2 := (List.Nodup.mem_erase_iff n).mp hk
      rcases List.mem_cons.mp (s k hk2.2) with q | q
      · exact absurd q hk2.1
      · exact q
    · rw [List.length_erase_of_mem xl, e, List.length_cons]
      rfl
def rLenX (w : World) : List V → Hp → VK → Prop := fun xs H Q => ∃ (S : Addr) (ks : List Str), xs = [.ref S] ∧ H S = some (SetXO w S ks) ∧ ∀ n : Nat, n ≤ ks.length → (n = ks.length ↔ ks.Nodup) → Q (.int n) H
theorem call_lenX {X : Cx} : CallR X (.builtin "len") (rLenX X.w) := by
  intro pins s σ H xs us Q I r h
  obtain ⟨S, ks, rfl, hS, q⟩ := h
  obtain ⟨u, rfl, ru⟩ := vals1 r
  obtain rfl : u = Value.ref S := ru
  obtain ⟨R, _⟩ := (show ObjOk X.prog X.w H s.heap S (SetXO X.w S ks) from I.hok S _ hS)
  obtain ⟨o, es, ep, t, ho, hex, hd, g, nd, hm, hb, hlen, hf, hr, hl⟩ := (show SetX X.w s.heap S ks from R)
  have e0 : (es.toList.map keyX).length = es.size := by rw [List.length_map, Array.length_toList]
  refine call_len_set ho hex hd hf (by unfold scanBound at hb; omega) ⟨.int es.size, H, I.tok _, ⟨_, rfl⟩, q es.size hlen ⟨fun e => ?_, fun n => ?_⟩⟩
  · exact nodup_of_len nd (fun k hk => (hm k).mpr hk) (by rw [e0, e])
  · have := List.Nodup.length_le_of_subset n (l₂ := es.toList.map keyX) fun k hk => (hm k).mp hk
    omega
end Lc
set_option Elab.async false
set_option linter.all false
set_option maxRecDepth 100000
set_option maxHeartbeats 4000000
namespace Lc
open PySem PySem.Spec PyProof.Rows L2
/-! ## repr of deep data that may hold empty dicts -/
section
variable {X : Cx} {pins : List (Addr × Obj)} {σ : L2.St} {H : Hp} {s : Shared}
mutual
theorem Dh.reads (I : Inv X pins σ H s) (sm : H sysModules = none) : ∀ (d : PyData) (v : V) (u : Value), Dh H v d → RelV v u → ∃ as, Reads s.heap u d as ∧ sysModules ∉ as
  | .none, _, _, h, r => by
    cases h
    cases r
    exact ⟨_, Reads.none, List.not_mem_nil⟩
  | .bool b, _, _, h, r => by
    cases h
    cases r
    exact ⟨_, Reads.bool b, List.not_mem_nil⟩
  | .int i, _, _, h, r => by
    cases h
    obtain ⟨t, rfl⟩ := r
    exact ⟨_, Reads.int i t, List.not_mem_nil⟩
  | .str x, _, _, h, r => by
    cases h
    obtain ⟨t, rfl⟩ := r
    exact ⟨_, Reads.str x t, List.not_mem_nil⟩
  | .list ds, _, _, h, r => by
    cases h with
    | @lst a xs _ e ha =>
      cases r
      obtain ⟨its, rv, ⟨o, n, ho, hc, _, hd⟩, _⟩ := I.list (SqL.of e)
      obtain ⟨as, hr, hn⟩ := Dh.readsAll I sm ds _ its ha rv
      refine ⟨_, Reads.list ho hc hd hr, fun hm => ?_⟩
      rcases List.mem_cons.mp hm with q | q
      · rw [q, e] at sm; cases sm
      · exact hn q
  | .tuple ds, _, _, h, r => by
    cases h with
    | @tup a xs _ e ha =>
      cases r
      obtain ⟨its, rv, ⟨o, ho, hc, n, hd⟩, _⟩ := I.tuple (SqT.of e)
      obtain ⟨as, hr, hn⟩ := Dh.readsAll I sm ds _ its ha rv
      exact ⟨_, Reads.tuple ho hc hd hr, hn⟩
  | .dict kv, _, u, h, r => by
    cases h with
    | @dct a e =>
      obtain rfl : u = Value.ref a := r
      obtain ⟨_, ns, vs, kv, o, es, ep, h1, h2, h3, h4⟩ := (show ObjOk X.prog X.w H s.heap a (.dK []) from I.hok a _ e)
      cases kv
      have es0 : es.toList = [] := by
        obtain ⟨_, hp, _⟩ := h4
        generalize es.toList = l at hp
        cases hp
        rfl
      have rd : Reads s.heap (.ref a) (.dict []) (a :: [] ++ []) := Reads.dict h1 h2.1 h3 (by rw [es0]; exact .nil) (by rw [es0]; exact .nil)
      refine ⟨_, rd, fun hm => ?_⟩
      have : sysModules = a := by simpa using hm
      rw [this, e] at sm
      cases sm
theorem Dh.readsAll (I : Inv X pins σ H s) (sm : H sysModules = none) : ∀ (ds : List PyData) (vs : List V) (us : List Value), DhAll H vs ds → Vals vs us → ∃ as, ReadsAll s.heap us ds as ∧ sysModules ∉ as
  | [], _, _, h, r => by
    cases h
    cases r
    exact ⟨_, ReadsAll.nil, List.not_mem_nil⟩
  | d :: ds, _, _, h, r => by
    cases h with
    | cons h1 h2 =>
      cases r with
      | cons r1 r2 =>
        obtain ⟨as, q1, n1⟩ := Dh.reads I sm d _ _ h1 r1
        obtain ⟨bs, q2, n2⟩ := Dh.readsAll I sm ds _ _ h2 r2
        exact ⟨_, ReadsAll.cons q1 q2, fun hm => (List.mem_append.mp hm).elim n1 n2⟩
end
end
def rReprF : List V → Hp → VK → Prop := fun xs H Q => ∃ (v : V) (d : PyData), xs = [v] ∧ Dh H v d ∧ d.showable = true ∧ d.depth ≤ 60 ∧ d.shown.length ≤ sizeLine ∧ Q (.str d.shown) H
def SmK (K : PySem.W.Frag) : Prop := ∃ o, K.lookup sysModules = some o
theorem call_reprF {X : Cx} (sm : SmK X.K) (hg : X.A.guards = some []) (hu : X.A.units + 64 < cLine) : CallR X (.builtin "repr") rReprF := by
  intro pins s σ H xs us Q I r h
  obtain ⟨v, d, rfl, hd, h1, h3, h4, q⟩ := h
  obtain ⟨u, rfl, ru⟩ := vals1 r
  obtain ⟨o, sm⟩ := sm
  have sm1 : H sysModules = none := (I.bs _ _ (I.ok.mod.kin _ _ sm)).2
  obtain ⟨as, rd, ns⟩ := Dh.reads I sm1 d _ _ hd ru
  cases hd with
  | non =>
    obtain rfl : u = Value.none := ru
    exact P.repr_of_none ⟨.str _, H, I.tok _, ⟨_, rfl⟩, q⟩
  | bl b =>
    obtain rfl : u = Value.bool b := ru
    exact P.repr_of_bool ⟨.str _, H, I.tok _, ⟨_, rfl⟩, q⟩
  | int i =>
    obtain ⟨t, rfl⟩ := (show ∃ t, u = Value.int i t from ru)
    exact P.repr_of_int (of_decide_eq_true (by simpa [PyData.showable] using h1)) ⟨.str _, H, I.tok _, ⟨_, rfl⟩, q⟩
  | str x =>
    obtain ⟨t, rfl⟩ := (show ∃ t, u = Value.str x t from ru)
    exact P.repr_of_str ⟨.str _, H, I.tok _, ⟨_, rfl⟩, q⟩ h4
  | @lst a xs ds e1 e2 =>
    obtain rfl : u = Value.ref a := ru
    exact repr_of_reads' rd h1 (fun _ => ns) hg (by omega) (fun _ _ e => e) (fun h' u tk hk => ⟨.str _, H, I.kept (t' := tk) hk, ⟨u, rfl⟩, q⟩) h4
  | @tup a xs ds e1 e2 =>
    obtain rfl : u = Value.ref a := ru
    exact repr_of_reads' rd h1 (fun _ => ns) hg (by omega) (fun _ _ e => e) (fun h' u tk hk => ⟨.str _, H, I.kept (t' := tk) hk, ⟨u, rfl⟩, q⟩) h4
  | @dct a e =>
    obtain rfl : u = Value.ref a := ru
    exact repr_of_reads' rd h1 (fun _ => ns) hg (by omega) (fun _ _ e => e) (fun h' u tk hk => ⟨.str _, H, I.kept (t' := tk) hk, ⟨u, rfl⟩, q⟩) h4
end Lc
set_option Elab.async false
set_option linter.all false
set_option maxRecDepth 100000
set_option maxHeartbeats 4000000
namespace Lc
open PySem PySem.Spec PyProof.Rows L2
/-! ## repr of lists and tuples that hold dicts with text keys, read-only tuples among them -/
mutual
inductive De (H : Hp) : V → PyData → Prop
  | base {v : V} {d : PyData} (h : Dh H v d) : De H v d
  | rtp {a : Addr} {xs : List V} {ds : List PyData} (e : Rd H a (.tup xs)) (h : DhAll H xs ds) : De H (.ref a) (.tuple ds)
  | dct {a : Addr} {kvs : List (Key × V)} {es : List (PyData × PyData)} (e : H a = some (.dK kvs)) (h : DeKv H kvs es) : De H (.ref a) (.dict es)
  | lst {a : Addr} {xs : List V} {ds : List PyData} (e : H a = some (.lst xs)) (h : DeAll H xs ds) : De H (.ref a) (.list ds)
  | tup {a : Addr} {xs : List V} {ds : List PyData} (e : H a = some (.tup xs)) (h : DeAll H xs ds) : De H (.ref a) (.tuple ds)
inductive DeAll (H : Hp) : List V → List PyData → Prop
  | nil : DeAll H [] []
  | cons {v : V} {vs : List V} {d : PyData} {ds : List PyData} (h : De H v d) (r : DeAll H vs ds) : DeAll H (v :: vs) (d :: ds)
inductive DeKv (H : Hp) : List (Key × V) → List (PyData × PyData) → Prop
  | nil : DeKv H [] []
  | cons {z : Str} {v : V} {kvs : List (Key × V)} {d : PyData} {es : List (PyData × PyData)} (h : De H v d) (r : DeKv H kvs es) : DeKv H ((Sum.inr z, v) :: kvs) ((.str z, d) :: es)
end
section
variable {X : Cx} {pins : List (Addr × Obj)} {σ : L2.St} {H : Hp} {s : Shared}
mutual
theorem De.reads (I : Inv X pins σ H s) (sm : H sysModules = none) : ∀ {v : V} {d : PyData}, De H v d → ∀ u : Value, RelV v u → ∃ as, Reads s.heap u d as ∧ sysModules ∉ as
  | v, d, .base h, u, r => Dh.reads I sm d v u h r
  | .ref a, .tuple ds, .rtp (xs := xs) e h, u, r => by
    obtain rfl : u = Value.ref a := r
    have q : SqT X.K H a xs := e.sq
    obtain ⟨its, rv, ⟨o, ho, hc, n, hd⟩, _⟩ := I.tuple q
    obtain ⟨as, hr, hn⟩ := Dh.readsAll I sm ds xs its h rv
    exact ⟨_, Reads.tuple ho hc hd hr, hn⟩
  | .ref a, .dict es, .dct e h, u, r => by
    obtain rfl : u = Value.ref a := r
    obtain ⟨_, ns, vs, kv, o, de, ep, h1, h2, h3, _, hp, _⟩ := (show ObjOk X.prog X.w H s.heap a (.dK _) from I.hok a _ e)
    obtain ⟨as, bs, q1, q2, n1, n2⟩ := DeKv.reads I sm h vs kv de.toList hp
    refine ⟨_, Reads.dict h1 h2.1 h3 q1 q2, fun hm => ?_⟩
    rcases List.mem_append.mp hm with hm | hm
    · rcases List.mem_cons.mp hm with hm | hm
      · rw [hm, e] at sm; cases sm
      · exact n1 hm
    · exact n2 hm
  | .ref a, .list ds, .lst e h, u, r => by
    obtain rfl : u = Value.ref a := r
    obtain ⟨its, rv, ⟨o, n, ho, hc, _, hd⟩, _⟩ := I.list (SqL.of e)
    obtain ⟨as, hr, hn⟩ := DeAll.reads I sm h its rv
    refine ⟨_, Reads.list ho hc hd hr, fun hm => ?_⟩
    rcases List.mem_cons.mp hm with q | q
    · rw [q, e] at sm; cases sm
    · exact hn q
  | .ref a, .tuple ds, .tup e h, u, r => by
    obtain rfl : u = Value.ref a := r
    obtain ⟨its, rv, ⟨o, ho, hc, n, hd⟩, _⟩ := I.tuple (SqT.of e)
    obtain ⟨as, hr, hn⟩ := DeAll.reads I sm h its rv
    exact ⟨_, Reads.tuple ho hc hd hr, hn⟩
theorem DeAll.reads (I : Inv X pins σ H s) (sm : H sysModules = none) : ∀ {vs : List V} {ds : List PyData}, DeAll H vs ds → ∀ us : List Value, Vals vs us → ∃ as, ReadsAll s.heap us ds as ∧ sysModules ∉ as
  | _, _, .nil, us, r => by
    cases r
    exact ⟨_, ReadsAll.nil, List.not_mem_nil⟩
  | _, _, .cons h1 h2, us, r => by
    cases r with
    | cons r1 r2 =>
      obtain ⟨as, q1, n1⟩ := De.reads I sm h1 _ r1
      obtain ⟨bs, q2, n2⟩ := DeAll.reads I sm h2 _ r2
      exact ⟨_, ReadsAll.cons q1 q2, fun hm => (List.mem_append.mp hm).elim n1 n2⟩
theorem DeKv.reads (I : Inv X pins σ H s) (sm : H sysModules = none) : ∀ {kvs : List (Key × V)} {es : List (PyData × PyData)}, DeKv H kvs es → ∀ (vs : List (Key × Value)), KV kvs vs → ∀ l : List DictEntry, Pairs (mixKind X.prog X.w) l vs →
    ∃ as bs, ReadsAll s.heap (l.map (·.key)) (es.map (·.1)) as ∧ ReadsAll s.heap (l.map (·.val)) (es.map (·.2)) bs ∧ sysModules ∉ as ∧ sysModules ∉ bs
  | _, _, .nil, vs, kv, l, hp => by
    cases kv
    cases hp
    exact ⟨_, _, ReadsAll.nil, ReadsAll.nil, List.not_mem_nil, List.not_mem_nil⟩
  | _, _, @DeKv.cons _ z _ _ _ _ h1 h2, vs, kv, l, hp => by
    cases kv with
    | cons k1 k2 =>
      cases hp with
      | @cons e _ _ _ p1 p2 p3 =>
        obtain ⟨as, bs, q1, q2, n1, n2⟩ := DeKv.reads I sm h2 _ k2 _ p3
        obtain ⟨cs, q3, n3⟩ := De.reads I sm h1 _ k1.2
        have p1' := p1
        rw [← k1.1] at p1'
        have p1' : keyIs (Sum.inr z) e.key = true := p1'
        have ek : ∃ t, e.key = Value.str z t := by
          rcases keyIs_shape p1' with ⟨i, t, e1, e2⟩ | ⟨x, t, e1, e2⟩
          · cases e1
          · cases e1
            exact ⟨t, e2⟩
        obtain ⟨t, ek⟩ := ek
        rw [← p2] at q3
        refine ⟨_, _, ReadsAll.cons (show Reads s.heap e.key (.str z) [] by rw [ek]; exact Reads.str _ t) q1, ReadsAll.cons q3 q2, ?_, fun hm => (List.mem_append.mp hm).elim n3 n2⟩
        exact fun hm => (List.mem_append.mp hm).elim (fun z => by cases z) n1
end
end
def rReprE2 : List V → Hp → VK → Prop := fun xs H Q => ∃ (a : Addr) (d : PyData), xs = [.ref a] ∧ De H (.ref a) d ∧ d.showable = true ∧ d.depth ≤ 60 ∧ d.shown.length ≤ sizeLine ∧ Q (.str d.shown) H
theorem call_reprE2 {X : Cx} (sm : SmK X.K) (hg : X.A.guards = some []) (hu : X.A.units + 64 < cLine) : CallR X (.builtin "repr") rReprE2 := by
  intro pins s σ H xs us Q I r h
  obtain ⟨a, d, rfl, hd, h1, h3, h4, q⟩ := h
  obtain ⟨u, rfl, ru⟩ := vals1 r
  obtain ⟨o, sm⟩ := sm
  have sm1 : H sysModules = none := (I.bs _ _ (I.ok.mod.kin _ _ sm)).2
  obtain ⟨as, rd, ns⟩ := De.reads I sm1 hd _ ru
  obtain rfl : u = Value.ref a := ru
  exact repr_of_reads' rd h1 (fun _ => ns) hg (by omega) (fun _ _ e => e) (fun h' u tk hk => ⟨.str _, H, I.kept (t' := tk) hk, ⟨u, rfl⟩, q⟩) h4
end Lc
set_option Elab.async false
set_option linter.all false
set_option maxRecDepth 100000
set_option maxHeartbeats 4000000
namespace Lc
open PySem PySem.Spec PyProof.Rows L2
/-! ## An error that leaves a list comprehension -/
theorem inv_xe {X : Cx} {pins : List (Addr × Obj)} {σ : L2.St} {H : Hp} {s : Shared} (I : Inv X pins σ H s) (e : Value → Shared → Prop) : Inv { X with xe := e } pins σ H s :=
  ⟨I.ok.toTry X.pn e, I.os, I.bare, I.base, I.loc, I.cell, I.free, I.freeC, I.pin, I.hok, I.len⟩
/-- the block, with what it may let out -/
abbrev blkE (X : Cx) (s : Shared) (H : Hp) (scope : Scope) (ce : Env) (fp : List Addr) (ex : Value → Shared → Prop) : Cx := { X.blk s H scope ce fp with xe := ex }
/-- what a call in the block raised -/
def OutB (X : Cx) (s : Shared) (H : Hp) (scope : Scope) (ce : Env) (fp : List Addr) (F : XK) (u : Value) (s' : Shared) : Prop :=
  ∃ (pb : List (Addr × Obj)) (σb : L2.St) (Hb : Hp) (sb : Shared), Inv (X.blk s H scope ce fp) pb σb Hb sb ∧ L2.CX X.prog X.w X.stack Hb sb F u s'
theorem none_sub {B B' : Heap} (sub : ∀ b o, B'.get? b = some o → B.get? b = some o) {b : Addr} (e : B.get? b = none) : B'.get? b = none := by
  cases q : B'.get? b with
  | none => rfl
  | some o => rw [sub _ _ q] at e; cases e
theorem traced_sub {h B B' : Heap} {a : Addr} {Z : Obj → Prop} {fl : Value} (t : HandSPX.TracedZ h B a Z fl) (sub : ∀ b o, B'.get? b = some o → B.get? b = some o) : HandSPX.TracedZ h B' a Z fl := by
  obtain ⟨oe, vs, T, oT, ts, x1, x2, x3, x4, x5, x6⟩ := t
  exact ⟨oe, vs, T, oT, ts, x1, x2, x3, x4, none_sub sub x5, x6⟩
theorem frames_sub {h B B' : Heap} (sub : ∀ b o, B'.get? b = some o → B.get? b = some o) : ∀ {l : List Env}, h.FunFrames B l → h.FunFrames B' l
  | [], _ => trivial
  | env :: rest, ⟨x1, ⟨L, o, y1, y2, y3⟩, x3⟩ => ⟨x1, ⟨L, o, y1, none_sub sub y2, y3⟩, frames_sub sub x3⟩
section
variable {X : Cx} {W : WX} {pins : List (Addr × Obj)} {σ : L2.St} {Hi : Hp} {si : Shared} {scope : Scope} {ce : Env} {fp : List Addr}
/-- the block is let go, the error goes on in the def's own frame -/
theorem blk_fails (hs : X.stack = X.env :: X.outer) (hf : X.env.frame = some X.env.locals) (tk : Takes X W) (I : Inv X pins σ Hi si) (cf : ce.frame = X.env.frame) (cL : ce.locals = si.heap.objs.size)
    (hfp : ∀ b ∈ fp, FpOk X pins Hi b) {use : Option (Value → Sem Unit)} {Qf : Value → Shared → Prop} {acc : Value} {u : Value} {s' : Shared} (ob : OutB X si Hi scope ce fp (fun cls d H' => W cls d σ H') u s') :
    notedBy (model X.prog X.w) X.A ce (fun e s' => compEnds (model X.prog X.w) X.A X.xe use Qf acc ce (.error e) s') u s' := by
  obtain ⟨pb, σb, Hb, sb, Ib, a, B, H', cls, d, rfl, fl, hok, ub, na, os, ag, hE⟩ := ob
  -- the def's own view of the state at the call
  have IX : Inv X pins σ Hb sb := I.call' (ch := fp) Ib.os Ib.base Ib.hok Ib.bare fun b hb => by
    obtain ⟨_, k2, _, k4, k5, k6⟩ := hfp b hb
    exact ⟨k4, k2, k5, k6⟩
  have nC : Hb ce.locals = none := Ib.free
  have fC : FpOk X pins Hb ce.locals := I.fpOk (by rw [cL]; exact Nat.le_refl _) nC
  obtain ⟨_, c2, c3, c4, c5, c6⟩ := fC
  have nfC : ce.locals ∉ frs X.stack := fun z => (List.mem_cons.mp (I.stkSub _ z)).elim c2 c3
  obtain ⟨m, ⟨oC, es, ep, hoC, rC⟩, _⟩ := Ib.loc
  have hoC : sb.heap.get? ce.locals = some oC := hoC
  have B0 : B.get? ce.locals = some oC := ub.keep _ _ hoC nC nfC
  have H0 : H' ce.locals = none := ub.free _ _ hoC nC
  have ns' : s'.heap.Ns ce.locals m := ⟨oC, es, ep, fl.1 _ _ B0, rC⟩
  -- the ground without the block
  obtain ⟨B', b1, b2⟩ := restrict B fun b => !decide (b = ce.locals)
  have bn : B'.get? ce.locals = none := b2 _ (by simp)
  have bk : ∀ b, b ≠ ce.locals → B'.get? b = B.get? b := fun b n => b1 b (by simp [n])
  have sub : ∀ b o, B'.get? b = some o → B.get? b = some o := fun b o e => by
    by_cases z : b = ce.locals
    · rw [z, bn] at e; cases e
    · rw [← bk b z]; exact e
  have hok' : HOk X.prog X.w H' B' := fun b o q => (hok b o q).stay (fun c v hc r => by
    refine (bk c fun z => ?_).trans r
    rcases hc with hc | hc
    · rw [← hc, z, H0] at q; cases q
    · rw [z, H0] at hc; cases hc) (fun _ r => r) fun _ _ r => r
  obtain ⟨G, g1, g2⟩ := restrict s'.heap fun b => (B'.get? b).isSome || decide (b ∈ frs X.stack)
  have gB : ∀ b o, B'.get? b = some o → G.get? b = some o := fun b o e => by
    rw [g1 b (by rw [e]; rfl)]
    exact fl.1 b o (sub b o e)
  have gF : ∀ b, b ∈ frs X.stack → G.get? b = s'.heap.get? b := fun b hb => g1 b (by rw [decide_eq_true hb, Bool.or_true])
  have gO : ∀ b o, G.get? b = some o → s'.heap.get? b = some o ∧ b ≠ ce.locals ∧ (b ∉ frs X.stack → B'.get? b = some o) := fun b o e => by
    cases q : ((B'.get? b).isSome || decide (b ∈ frs X.stack)) with
    | false => rw [g2 b q] at e; cases e
    | true =>
      rw [g1 b q] at e
      refine ⟨e, fun z => ?_, fun hb => ?_⟩
      · rw [z, bn, decide_eq_false nfC] at q; cases q
      · rw [decide_eq_false hb, Bool.or_false] at q
        obtain ⟨o2, q2⟩ := Option.isSome_iff_exists.mp q
        have w := fl.1 b o2 (sub b o2 q2)
        rw [e] at w
        cases w
        exact q2
  have flB : HandSPX.FlyingZ B' (X.env :: X.outer) a (Zc cls d) s'.heap := by
    have fl := fl
    rw [hs] at fl
    obtain ⟨y1, y2, y3, y4⟩ := fl
    exact ⟨fun b o e => y1 b o (sub b o e), none_sub sub y2, frames_sub sub y3, traced_sub y4 sub⟩
  have IG : Inv X pins σ H' { sb with heap := G, gens := s'.gens, drawn := s'.drawn, toks := s'.toks } := by
    have ne : ∀ {b : Addr}, b ∉ [ce.locals] → b ≠ ce.locals := fun h z => h (by rw [z]; exact List.mem_singleton.mpr rfl)
    refine IX.call (ch := [ce.locals]) ⟨fun b o e n hb hc => gB b o ((bk b (ne hc)).trans (ub.keep b o e n hb)), fun b o e n hb hc => ?_, fun b o e n hc => ub.free b o e n, fun b o e hc => ?_, ub.tups, ub.frzs, ub.tbls⟩ (hok'.kept gB) ag fun b hb => ?_
    · obtain ⟨sl, q⟩ := ub.slot b o e hb
      exact ⟨sl, (gF b hb).trans q⟩
    · by_cases hb : b ∈ frs X.stack
      · obtain ⟨sl, q⟩ := ub.slot b o e hb
        exact ⟨_, (gF b hb).trans q⟩
      · obtain ⟨o', q⟩ := ub.there b o e hb
        exact ⟨o', gB b o' ((bk b (ne hc)).trans q)⟩
    · obtain rfl := List.mem_singleton.mp hb
      exact ⟨c4, c2, c5, c6⟩
  have fr : X.A.frames = some (X.env :: X.outer) := IX.ok.frames.trans (congrArg some hs)
  show wpAny (model X.prog X.w) X.A (noteFrame (.ref a) ce) _ _ s'
  rw [noteFrame_env _ cf]
  refine HandSPX.looks_onZ Zc.steady fr hf flB fun h1 hh up1 => ?_
  obtain ⟨y1, y2, y3, y4⟩ := hh
  show CompFails (model X.prog X.w) X.A X.xe ce (.ref a) { s' with heap := h1 }
  have ns1 : h1.Ns ce.locals m := ns'.upToSlots up1
  refine ⟨m, ns1, fun h2 m2 n2 sb2 => ?_⟩
  have same2 : ∀ b, b ≠ ce.locals → h2.get? b = h1.get? b := sb2.2
  obtain ⟨oe, vs, T, oT, ts, he, hz, hd, hv, hnT, hTe, hT, hdT, h3⟩ := y4
  have notC : ∀ {b : Addr} {o : Obj} {vs : Array Value}, h1.get? b = some o → o.data = .fields vs → b ≠ ce.locals := fun {b o vs} e hd z => by
    obtain ⟨o1, es1, ep1, ho1, hd1, _⟩ := ns1
    rw [z, ho1] at e
    cases e
    rw [hd1] at hd
    cases hd
  have he2 := (same2 a (notC he hd)).trans he
  have tr2 : HandSPX.TracedZ h2 B' a (Zc cls d) (rawInt X.env.locals) := ⟨oe, vs, T, oT, ts, he2, hz, hd, hv, hnT, hTe, (same2 T (notC hT hdT)).trans hT, hdT, h3⟩
  unfold PySem.passOn
  refine wpAny_bind (wpAny_field he2 hd hv ?_)
  rw [if_neg (show ¬ ((Value.ref T == Value.none) = true) from by simp), cf, hf]
  refine wpAny_bind (HandSPX.setFlight_anyZ (l := X.env :: X.outer) (fr := some X.env.locals) (fun b o e => (same2 b fun z => by rw [z, bn] at e; cases e).trans (y1 b o e)) (Heap.FunFrames.sameBut sb2 n2 y3) tr2 fun h3' k1 k2 k3 k4 => wpAny_throw ?_)
  refine tk _ _ ⟨a, B', _, pins, σ, H', cls, d, rfl, IG, fun b o e hb => (gO b o e).2.2 hb, fun b o e hdo => ?_, .inr (.inr ?_), na, os, ag, hE⟩
  · obtain ⟨e1, nb, _⟩ := gO b o e
    obtain ⟨sl, e2⟩ := up1 b o e1 hdo
    obtain ⟨sl2, e3⟩ := k4 b _ ((same2 b nb).trans e2) hdo
    exact ⟨sl2, e3⟩
  · rw [hs]
    exact ⟨k1, y2, k2, k3⟩
end
section
variable {X : Cx}
/-- [elt for tg in iter if ifs], where what is called in elt may raise -/
theorem lc_coreE {elt tg iter : Expr} {ifs : List Expr} {scope : Scope} {own : List (Str × Nat)} {wi : TI} {g : TG} {tt : TT} {te : WX → TE} {W : WX} {pins : List (Addr × Obj)} {s : Shared} {σ : L2.St} {H : Hp} {Q : VK} {pos pos' : Pos} {use : Option (Value → Sem Unit)} {Qf : Value → Shared → Prop} (hs2 : X.stack = X.env :: X.outer) (hf : X.env.frame = some X.env.locals) (tk : Takes X W) (calm : X.calm = true) (nodup : X.N.Nodup) (hi : PI X tg iter wi) (ok : BlkOk X.N X.env.scope scope own)
    (hg : ∀ (s : Shared) (H : Hp) (C : Addr) (cl : List (Str × Addr)) (fp : List Addr) (ex : Value → Shared → Prop), PG (blkE X s H scope (compEnvC scope cl C X.env) fp ex) tg g)
    (ht : ∀ (s : Shared) (H : Hp) (C : Addr) (cl : List (Str × Addr)) (fp : List Addr) (ex : Value → Shared → Prop), PTs (blkE X s H scope (compEnvC scope cl C X.env) fp ex) ifs tt)
    (he : ∀ (s : Shared) (H : Hp) (C : Addr) (cl : List (Str × Addr)) (fp : List Addr) (ex : Value → Shared → Prop) (Wb : WX), (∀ σ, PassesAt (L2.CX X.prog X.w) (blkE X s H scope (compEnvC scope cl C X.env) fp ex) σ (WE Wb σ)) → PE (blkE X s H scope (compEnvC scope cl C X.env) fp ex) elt (te Wb))
    (fold : ∀ x, foldedSetIterable iter X.env x = pure x) (I : Inv X pins σ H s) (want : tLc wi g tt (te fun cls d _ H' => W cls d σ H') (own.map (·.2)) σ H Q)
    (done : ∀ (D : Addr) (ce : Env) (s' : Shared) (m : Str → Option Value) (H' : Hp), Inv X pins σ H' s' → Q (.ref D) H' → s'.heap.Ns ce.locals m → FpOk X pins H' ce.locals → compEnds (model X.prog X.w) X.A X.xe use Qf (.ref D) ce (.ok .next) s') :
    wpAny (model X.prog X.w) X.A (comprehension (.ListComp elt [⟨tg, iter, ifs, 0⟩] scope pos) scope X.env pos' (newList []) false (eval iter X.env) use) Qf X.xe s := by
  have cells : ∀ y ∈ scope.names, y.2 = .free → ∃ c, X.env.cells.lookup y.1 = some c := fun y hy e => I.ok.has _ ((ok.free y hy e).elim .inl .inr)
  refine comprehension_at (use := use) rfl fold (closure_ok cells) ok.kind (fun y hy e => (ok.uniq y hy).trans (by rw [e])) (thn (hi.run pins s σ H _ I want) fun xv s1 hx => thn hx fun itv s2 come => ?_)
  obtain ⟨it, fp, tn, J, H2, rfl, I2, T, st2, f2, turns⟩ := come
  refine wpAny_newObj_type (newEnv_comp ?_) (show 0 ≤ sizeLine from Nat.zero_le _)
  have new2 : H2 s2.heap.objs.size = none := I2.hok.fresh (Nat.le_refl _)
  obtain ⟨Iv, ⟨m0, start⟩, turn⟩ := turns _ new2
  -- the list is laid
  have I3 : Inv X pins σ (upd H2 s2.heap.objs.size (.lst [])) { s2 with heap := s2.heap.push { cls := .type "list", data := .seq ([] : List Value).toArray } } :=
    I2.laid (t' := s2.toks) (fun b o e => Heap.get?_push_of_some _ e) (Nat.le_refl _) ⟨Nat.zero_le _, [], 0, .nil, Heap.get?_push_size _ rfl⟩
  have grow : ∀ b o, s2.heap.get? b = some o → (s2.heap.push { cls := .type "list", data := .seq ([] : List Value).toArray }).get? b = some o := fun b o e => Heap.get?_push_of_some _ e
  have siz : (s2.heap.push { cls := .type "list", data := .seq ([] : List Value).toArray }).objs.size = s2.heap.objs.size + 1 := Heap.size_push _ _
  have low : ∀ b ∈ fp, b < s2.heap.objs.size := fun b hb => (T.obj _ _ st2 b hb).elim fun o e => Heap.lt_size e.1
  have st3 : tn 0 (s2.heap.push { cls := .type "list", data := .seq ([] : List Value).toArray }) := T.keep _ _ _ st2 fun b _ o e => grow b o e
  generalize hD : s2.heap.objs.size = D at *
  generalize hh3 : s2.heap.push { cls := .type "list", data := .seq ([] : List Value).toArray } = h3 at *
  generalize hs3 : ({ s2 with heap := h3 } : Shared) = s3 at I3 ⊢
  have e3 : s3.heap = h3 := by rw [← hs3]
  rw [← e3] at st3 siz grow
  have f3 : ∀ b ∈ fp, FpOk X pins (upd H2 D (.lst [])) b ∧ b < s3.heap.objs.size := fun b hb => by
    have lt := low b hb
    obtain ⟨k1, k2⟩ := f2 b hb
    exact ⟨⟨by rw [upd_ne (Nat.ne_of_lt lt)]; exact k1, k2⟩, by rw [siz]; exact Nat.lt_succ_of_lt lt⟩
  have I4 := block_start I3 ok nodup f3
  have none3 : ∀ b ∈ fp, (upd H2 D (.lst [])) b = none := fun b hb => (f3 b hb).1.1
  generalize upd H2 D (.lst []) = H3 at *
  generalize hcl : cellsFrom (s3.heap.objs.size + 1) scope.names (cloFrom X.env.cells scope.names []) = cl at *
  have fr3 : ∀ b ∈ fp, FpOk X pins H3 b := fun b hb => (f3 b hb).1
  have nC3 : ∀ {H' : Hp}, H' s3.heap.objs.size = none → FpOk X pins H' s3.heap.objs.size := fun h => I3.fpOk (Nat.le_refl _) h
  let ce := compEnvC scope cl s3.heap.objs.size X.env
  let ex : Value → Shared → Prop := OutB X s3 H3 scope ce fp fun cls d H' => W cls d σ H'
  have pg := hg s3 H3 s3.heap.objs.size cl fp ex
  have pt := ht s3 H3 s3.heap.objs.size cl fp ex
  have pe := he s3 H3 s3.heap.objs.size cl fp ex (fun cls d _ H' => W cls d σ H') fun σ' pb H s e s' Ib c => ⟨pb, σ', H, s, inv_xe Ib fun _ _ => False, c⟩
  have out : ∀ {u : Value} {s' : Shared}, ex u s' → notedBy (model X.prog X.w) X.A ce (fun e s' => compEnds (model X.prog X.w) X.A X.xe use Qf (.ref D) ce (.error e) s') u s' := fun {u s'} ob => blk_fails (ce := ce) hs2 hf tk I3 rfl rfl fr3 ob
  have J4 := inv_xe I4 ex
  generalize hh4 : pushCells (s3.heap.push { cls := .type "dict", data := .dict #[] }) scope.names = h4 at *
  have st4 : tn 0 h4 := T.keep _ _ _ st3 fun b _ o e => by rw [← hh4]; exact pushCells_keeps _ _ _ _ (Heap.get?_push_of_some _ e)
  have still : ∀ {σ' : L2.St} {H' : Hp} {s' : Shared}, Inv (blkE X s3 H3 scope ce fp ex) [] σ' H' s' → (∀ b ∈ fp, H' b = none) → ∀ b ∈ fp, FpOk (blkE X s3 H3 scope ce fp ex) [] H' b := fun {σ' H' s'} J n b hb =>
    ⟨n b hb, (J.ok.exf b hb).1, J.ok.exfs b hb, .inl hb, fun x c e => (J.ok.exf b hb).2 x c e, fun p hp => nomatch (show p ∈ ([] : List (Addr × Obj)) from hp)⟩
  let Rn : Nat → Shared → Prop := fun n s' => ∃ i H', Inv (blkE X s3 H3 scope ce fp ex) [] (wipe σ (own.map (·.2))) H' s' ∧ tn i s'.heap ∧ (∀ b ∈ fp, H' b = none) ∧ Iv i n H'
  have loop : codeAny (model X.prog X.w) X.A (.compLoop (.ListComp elt [⟨tg, iter, ifs, 0⟩] scope pos) 0 (.ref it) (.ref D) ce) (compEnds (model X.prog X.w) X.A X.xe use Qf (.ref D) ce) { s3 with heap := h4 } := by
    refine compLoop_any Rn ?_ m0 ⟨0, H3, J4, st4, none3, start⟩
    rintro n s5 ⟨i, H5, J5, st5, n5, w5⟩
    rcases turn i n H5 w5 with ⟨stop, fin⟩ | ⟨go, Nx, next, step⟩
    · -- the end: back in the def
      refine thn (T.done (blkE X s3 H3 scope ce fp ex) rfl rfl rfl calm i [] s5 _ H5 _ J5 (still J5 n5) st5 stop) fun r s6 ⟨er, J6⟩ => ?_
      subst er
      have nC : H5 s3.heap.objs.size = none := J6.free
      obtain ⟨m, ns, _⟩ := J6.loc
      have I7 : Inv X pins σ H5 s6 := I3.call' (ch := fp) J6.os J6.base J6.hok J6.bare fun b hb => by
        obtain ⟨_, k2, _, k4, k5, k6⟩ := fr3 b hb
        exact ⟨k4, k2, k5, k6⟩
      exact done D ce s6 m H5 I7 fin ns (nC3 nC)
    · refine thn (T.item (blkE X s3 H3 scope ce fp ex) rfl rfl rfl calm i [] s5 _ H5 _ J5 (still J5 n5) st5 go) fun r s6 ⟨u, er, h6⟩ => ?_
      subst er
      refine thn h6 fun _ s7 ⟨x, H7, J7, r7, y7, st7, n7⟩ => ?_
      have P7 := J7.pinned (still J7 n7) (T.obj _ _ st7)
      refine wpAny_mono (pg.run _ s7 _ H7 x u _ P7 r7 (step x H7 y7)) (fun _ s8 ⟨σ8, H8, J8, wp8, q8⟩ => ?_) fun _ _ z => out z
      refine wpAny_mono (pt.run _ s8 σ8 H8 _ J8 q8) (fun b s9 ⟨H9, J9, q9⟩ => ?_) fun _ _ z => out z
      have fin : ∀ {s' : Shared} {H' : Hp}, Inv (blkE X s3 H3 scope ce fp ex) ([] ++ pinsAt fp s7.heap) σ8 H' s' → Nx H' → ∃ m, m < n ∧ Rn m s' := fun {s' H'} J nx => by
        obtain ⟨m', lt, w'⟩ := next H' nx
        have held : ∀ b ∈ fp, ∀ o, s7.heap.get? b = some o → s'.heap.get? b = some o ∧ H' b = none := fun b hb o e => by
          obtain ⟨p1, p2, _⟩ := J.pin (b, o) (List.mem_append_right _ (List.mem_append_right _ (mem_pinsAt hb e)))
          exact ⟨p1, p2⟩
        refine ⟨m', lt, i + 1, H', (J.unpinned (pins := [])).weak (by rw [← wp8, wipe_length]) (fun j v e => ?_), T.keep _ _ _ st7 fun b hb o e => (held b hb o e).1, fun b hb => ?_, w'⟩
        · rw [← wp8] at e
          exact (wipe_some e).1
        · obtain ⟨o, e, _⟩ := T.obj _ _ st7 b hb
          exact (held b hb o e).2
      cases b with
      | false => exact fin J9 q9
      | true =>
        refine wpAny_mono (pe.run _ s9 σ8 H9 _ J9 q9) (fun z s10 ⟨yv, H10, J10, r10, acc, hacc, lacc, nx⟩ => ?_) fun _ _ z => out z
        exact app_ok (X := blkE X s3 H3 scope ce fp ex) J10 hacc lacc r10 fun s11 J11 => fin J11 nx
  exact codeAny_compStart_list loop (T.self X.A 0 _ _ _ st4 loop)
theorem pe_lcE {elt tg iter : Expr} {ifs : List Expr} {scope : Scope} {own : List (Str × Nat)} {wi : TI} {g : TG} {tt : TT} {te : WX → TE} {W : WX} {pos : Pos} (hs2 : X.stack = X.env :: X.outer) (hf : X.env.frame = some X.env.locals) (tk : Takes X W) (calm : X.calm = true) (nodup : X.N.Nodup) (hi : PI X tg iter wi) (ok : BlkOk X.N X.env.scope scope own)
    (hg : ∀ (s : Shared) (H : Hp) (C : Addr) (cl : List (Str × Addr)) (fp : List Addr) (ex : Value → Shared → Prop), PG (blkE X s H scope (compEnvC scope cl C X.env) fp ex) tg g)
    (ht : ∀ (s : Shared) (H : Hp) (C : Addr) (cl : List (Str × Addr)) (fp : List Addr) (ex : Value → Shared → Prop), PTs (blkE X s H scope (compEnvC scope cl C X.env) fp ex) ifs tt)
    (he : ∀ (s : Shared) (H : Hp) (C : Addr) (cl : List (Str × Addr)) (fp : List Addr) (ex : Value → Shared → Prop) (Wb : WX), (∀ σ, PassesAt (L2.CX X.prog X.w) (blkE X s H scope (compEnvC scope cl C X.env) fp ex) σ (WE Wb σ)) → PE (blkE X s H scope (compEnvC scope cl C X.env) fp ex) elt (te Wb))
    (fold : ∀ x, foldedSetIterable iter X.env x = pure x := by intro _; rfl) :
    PE X (.ListComp elt [⟨tg, iter, ifs, 0⟩] scope pos) (fun σ H Q => tLc wi g tt (te fun cls d _ H' => W cls d σ H') (own.map (·.2)) σ H Q) := by
  refine ⟨fun pins s σ H Q I want => ?_⟩
  rw [eval_ListComp]
  refine lc_coreE hs2 hf tk calm nodup hi ok hg ht he fold I want fun D ce s' m H' I' q ns fC => ⟨m, ns, fun h'' sb => ⟨.ref D, H', ?_, rfl, q⟩⟩
  obtain ⟨k1, k2, _, k4, k5, k6⟩ := fC
  exact I'.turned (t' := s'.toks) (fun b o hb e => (sb.2 b hb).trans e) k1 k2 k4 k5 k6
/-- y = [..] on one line, y a local -/
theorem ps_setLcE {elt tg iter : Expr} {ifs : List Expr} {scope : Scope} {own : List (Str × Nat)} {wi : TI} {g : TG} {tt : TT} {te : WX → TE} {W : WX} {i : Nat} {y : Str} {py pos spos : Pos} (hs2 : X.stack = X.env :: X.outer) (hf : X.env.frame = some X.env.locals) (tk : Takes X W) (calm : X.calm = true) (nodup : X.N.Nodup) (hi : PI X tg iter wi) (ok : BlkOk X.N X.env.scope scope own)
    (hg : ∀ (s : Shared) (H : Hp) (C : Addr) (cl : List (Str × Addr)) (fp : List Addr) (ex : Value → Shared → Prop), PG (blkE X s H scope (compEnvC scope cl C X.env) fp ex) tg g)
    (ht : ∀ (s : Shared) (H : Hp) (C : Addr) (cl : List (Str × Addr)) (fp : List Addr) (ex : Value → Shared → Prop), PTs (blkE X s H scope (compEnvC scope cl C X.env) fp ex) ifs tt)
    (he : ∀ (s : Shared) (H : Hp) (C : Addr) (cl : List (Str × Addr)) (fp : List Addr) (ex : Value → Shared → Prop) (Wb : WX), (∀ σ, PassesAt (L2.CX X.prog X.w) (blkE X s H scope (compEnvC scope cl C X.env) fp ex) σ (WE Wb σ)) → PE (blkE X s H scope (compEnvC scope cl C X.env) fp ex) elt (te Wb))
    (hy : X.N[i]? = some y) (hyl : X.env.scope.names.lookup y = some .local) (sw : swapsWith (.ListComp elt [⟨tg, iter, ifs, 0⟩] scope pos) (some (.Name y py)) spos.line X.env = pure true)
    (fold : ∀ x, foldedSetIterable iter X.env x = pure x := by intro _; rfl) :
    PS X (.Assign [.Name y py] (.ListComp elt [⟨tg, iter, ifs, 0⟩] scope pos) spos) (tAsg (fun σ H Q => tLc wi g tt (te fun cls d _ H' => W cls d σ H') (own.map (·.2)) σ H Q) (gName i)) := by
  refine ⟨fun pins s σ H D I want => ?_⟩
  rw [exec_Assign_Name_used _ _ _ _ sw]
  refine wpAny_bind (wpAny_standAt (wpAny_bind ?_))
  have want : tLc wi g tt (te fun cls d _ H' => W cls d σ H') (own.map (·.2)) σ H (fun x H1 => gName i x σ H1 D.nx) := want
  refine wpAny_bind (thn (lc_coreE (use := some (assign (.Name y py) X.env)) (Qf := fun _ s' => SP X pins D .next s') hs2 hf tk calm nodup hi ok hg ht he fold I want fun L ce s' m H' I' q ns fC => ?_) fun _ s' hq => wpAny_pure (wpAny_pure hq))
  show wpAny _ _ (assign (.Name y py) X.env (.ref L)) _ _ _
  obtain ⟨k1, k2, _, k4, k5, k6⟩ := fC
  refine wpAny_assign_Name (store_ok2 (v := V.ref L) I' nodup hy (.inl hyl) rfl (fun s2 I2 ⟨a, sb, ha⟩ => ⟨m, ns.sameBut sb fun z => ?_, fun h3 sb3 => ⟨_, H', I2.turned (t' := s2.toks) (fun b o hb e => (sb3.2 b hb).trans e) k1 k2 k4 k5 k6, q⟩⟩) (.inr hyl))
  rcases ha with e | e
  · exact k2 (z.trans e)
  · exact k5 y a e z.symm
end
end Lc
set_option Elab.async false
set_option linter.all false
set_option maxRecDepth 100000
set_option maxHeartbeats 4000000
namespace Lc
open PySem PySem.Spec PyProof.Rows L2
/-! ## An error that is kept behind its clause -/
/-- a field of an error that is pinned -/
theorem pe_xfP {Y : Cx} {a C : Addr} {ob : Obj} {cls : Value} {d : Option Addr} {e : Expr} {te : TE} {pos : Pos} {n : Str} (T : XfC Y.K C) (own : PySem.W.findIn Y.K (.ref C) n = some none) (pinned : (a, ob) ∈ Y.pn) (hz : Zc cls d ob) (rec : ∃ vs, ob.data = .fields vs) (he : PE Y e te)
    (base : attributeBase e n Y.env (eval e Y.env) = eval e Y.env := by rfl) : PE Y (.Attribute e n pos) (tXf a cls d C n te) := by
  refine ⟨fun pins s σ H Q I want => attr_of base (thn (he.run pins s σ H _ I want) fun u s1 hu => ?_)⟩
  obtain ⟨x, H1, J, ru, rfl, rfl, dd, fs, v, rfl, hdd, lk, q⟩ := hu
  obtain rfl : u = Value.ref a := ru
  have there := (J.pin (a, ob) (List.mem_append_left _ pinned)).1
  obtain ⟨vs, hrec⟩ := rec
  obtain ⟨mA, names, rel⟩ := (show ObjOk Y.prog Y.w H1 s1.heap dd (.xd fs) from J.hok dd _ hdd)
  obtain ⟨od, hod, look⟩ := lookIn_ns names
  obtain ⟨w, hw, rw_⟩ := RelO.some_of (v := v) (o := mA n) (lk ▸ rel n)
  have nc : PySem.W.notCls ob = true := by unfold PySem.W.notCls; rw [hrec]
  have at_ : PySem.W.InstAt s1.heap a ob C (some od) := ⟨there, hz.1, nc, by rw [hz.2]; exact hod⟩
  exact HandSPX.exc_get J.kIn at_ T.ga T.gg T.exC (PySem.W.findObj_own T.hdC own rfl (by rw [look, hw])) (handed_of rw_) ⟨v, H1, J.tok _, rw_, q⟩
theorem call_isP {Y : Cx} {a C : Addr} {ob : Obj} {cls : Value} {d : Option Addr} (T : XisC Y.K C) (pinned : (a, ob) ∈ Y.pn) (hz : Zc cls d ob) (rec : ∃ vs, ob.data = .fields vs) : CallR Y (.builtin "isinstance") (rIsX Y.K cls d C a) := by
  intro pins s σ H xs us Q I r h
  obtain ⟨ec, c, cv, b, rfl, hcv, hd, e, q⟩ := h
  obtain ⟨u1, u2, rfl, r1, r2⟩ := vals2 r
  have e2 := hcv.eq r2
  subst e2 ec
  obtain rfl : u1 = Value.ref a := r1
  obtain ⟨vs, hv⟩ := rec
  obtain ⟨hget, _⟩ := I.pin (a, ob) (List.mem_append_left _ pinned)
  have nc : PySem.W.notCls ob = true := by unfold PySem.W.notCls; rw [hv]
  have key : ∃ od, PySem.W.InstAt s.heap a ob C od := by
    cases d with
    | none => exact ⟨none, hget, hz.1, nc, by rw [hz.2]; trivial⟩
    | some dd =>
      obtain ⟨fs, hfs⟩ := hd dd rfl
      obtain ⟨mA, ⟨o, _, _, ho, _⟩, _⟩ := (show ObjOk Y.prog Y.w H s.heap dd (.xd fs) from I.hok dd _ hfs)
      exact ⟨some o, hget, hz.1, nc, by rw [hz.2]; exact ho⟩
  obtain ⟨od, J⟩ := key
  exact PySem.W.kia_one (PySem.W.kitx_exc T.hc T.ga T.gt T.sb T.cl T.sp T.tk T.mo) I.kIn J e (fun z => nomatch z) fun tk => ⟨.bl b, H, I.kept (t' := tk) fun _ _ z => z, rfl, q⟩
/-- the end of a clause, behind which the error stays pinned -/
def endP (i : Nat) (tr : Addr → Value → Option Addr → TS) (a : Addr) (cls : Value) (d : Option Addr) (D : Ends) : Ends := ⟨fun σ H => tr a cls d D (σ.set i none) H, D.rt, fun σ H => D.bk (σ.set i none) H, fun σ H => D.ct (σ.set i none) H⟩
def wKeep (K : PySem.W.Frag) (c : Value) (i : Nat) (ts tr : Addr → Value → Option Addr → L2.TS) (Wout : WX) (D : Ends) : WX := fun cls d σ H => ∃ b, PySem.W.exmOne K cls c = some b ∧ (b = true → ∀ a, H a = none → ts a cls d (endP i tr a cls d D) (σ.set i (some (.ref a))) H) ∧ (b = false → Wout cls d σ H)
section
variable {X : Cx}
theorem pss_keep {body rest sts : List Stmt} {st : Stmt} {x n : Str} {c : Value} {i : Nat} {p1 p2 pos : Pos} {tb : WX → TS} {u : TS} {ts tr : Addr → Value → Option Addr → L2.TS} {Wout : WX} (hs : X.stack = X.env :: X.outer) (hf : X.env.frame = some X.env.locals) (tk : Takes X Wout) (nm : Names X x c) (nodup : X.N.Nodup) (hi : X.N[i]? = some n) (hn : X.env.kindOf n = some .local)
    (hb : ∀ (W : WX) (pn : List (Addr × Obj)) (xe : Value → Shared → Prop), Takes (X.tr pn xe) W → PassesOwn (model X.prog X.w) X.A X.env xe → PSs (X.tr pn xe) body (tb W)) (su : SuiteOk X (st :: sts) ts) (hr : PSs X rest u)
    (hk : ∀ (a : Addr) (ob : Obj) (cls : Value) (d : Option Addr) (pn : List (Addr × Obj)), Zc cls d ob → (∃ vs, ob.data = .fields vs) → PSs (X.tr ((a, ob) :: pn) X.xe) rest (tr a cls d)) :
    PSs X (.Try body [.ExceptHandler (some (.Name x p1)) (some n) (st :: sts) p2] [] [] pos :: rest) (fun D σ H => tb (wKeep X.K c i ts tr Wout D) { D with nx := u D } σ H) := by
  refine ⟨fun pins s σ H D I want => wpAny_execs_cons ?_⟩
  have ok := I.ok
  have fr : X.A.frames = some (X.env :: X.outer) := ok.frames.trans (congrArg some hs)
  let Post : Flow → Shared → Prop := fun f s1 => match f with
    | .next => wpAny (model X.prog X.w) X.A (execs rest X.env) (SP X pins D) X.xe s1
    | f => SP X pins D f s1
  have goal : wpAny (model X.prog X.w) X.A (exec (.Try body [.ExceptHandler (some (.Name x p1)) (some n) (st :: sts) p2] [] [] pos) X.env) Post X.xe s := by
    refine wpAny_Try_except (wpAny_mono ((hb (wKeep X.K c i ts tr Wout D) (X.pn ++ pins) (fun e s₁ => wpAny (model X.prog X.w) X.A (noteFrame e X.env) (fun _ s₂ => wpAny (model X.prog X.w) X.A (setFlight e none)
      (fun _ s₃ => wpAny (model X.prog X.w) X.A (handleBy e X.env [.ExceptHandler (some (.Name x p1)) (some n) (st :: sts) p2]) Post X.xe s₃) X.xe s₂) X.xe s₁) (fun w s' air => ?_) PassesOwn.looking).run [] s σ H _ (I.toTry _) want) (fun f s1 hsp => ?_) (fun _ _ he => he))
    · obtain ⟨a, B, sI, _, σ1, H1, cls, d, rfl, J', nb, up, sky, na, os, ag, wi⟩ := air
      have J := J'.ofTry ok
      rw [hs] at sky
      refine Sky.land Zc.steady fr hf sky fun h3 fl3 up3 => ?_
      -- the state on the ground, with the error pinned
      have land : ∀ {h4 : Heap}, HandSPX.FlyingZ B (X.env :: X.outer) a (Zc cls d) h4 → sI.heap.UpToSlots h4 → Inv X pins σ1 H1 { s' with heap := h4 } ∧ ∃ ob vs, Zc cls d ob ∧ ob.data = .fields vs ∧ h4.get? a = some ob ∧ Inv (X.suite a ((a, ob) :: (X.pn ++ pins))) [] σ1 H1 { s' with heap := h4 } := by
        intro h4 f4 u4
        have J4 : Inv X pins σ1 H1 { s' with heap := h4 } := J.landed nb f4.1 u4 os ag
        obtain ⟨ob, vs, hob, hz, hd⟩ := f4.there
        have out : a ∉ frs (X.env :: X.outer) := fun hm => by
          obtain ⟨_, o2, e2, nf⟩ := f4.2.2.1.mem hm
          rw [hob] at e2
          cases e2
          exact nf _ hd
        have nL : a ≠ X.env.locals := fun z => out (List.mem_filterMap.mpr ⟨X.env, List.mem_cons_self, by rw [hf, z]⟩)
        have nF : a ∉ X.fs := fun hm => by
          obtain ⟨en, hen, qq⟩ := List.mem_filterMap.mp hm
          exact out (List.mem_filterMap.mpr ⟨en, List.mem_cons_of_mem _ hen, qq⟩)
        exact ⟨J4, ob, vs, hz, hd, hob, J4.suite hob hd na nL nF⟩
      obtain ⟨J3, o3, vs3, hz3, hd3, ho3, S3⟩ := land fl3 (up.trans up3)
      have ty : PySem.W.Looks (model X.prog X.w) h3 (typeOf (.ref a)) cls := fun _ _ _ _ kk qq => wpAny_typeOf_ref (kk _ _ ho3) (by rw [hz3.1]; exact qq)
      have tst : ∀ {Q : Value → Shared → Prop} {E : Value → Shared → Prop}, Q c { s' with heap := h3 } → wpAny (model X.prog X.w) (X.A.mark (some (.ref a))) (eval (.Name x p1) X.env) Q E { s' with heap := h3 } := by
        intro Q E hq
        obtain ⟨hg, hdb, hm | ⟨hm, hv, hne⟩⟩ := nm
        · exact ld_glob (X := X.suite a ((a, o3) :: (X.pn ++ pins))) S3 hg hm hq hdb
        · exact ld_blt (X := X.suite a ((a, o3) :: (X.pn ++ pins))) S3 hg hm hv hq hne hdb
      obtain ⟨b, hbm, yes, no⟩ := wi
      refine wpAny_handleBy_cons (codeAny_handlers_test (tst ((PySem.W.exm_one (M := model X.prog X.w) J3.kIn ty hbm).here ?_))) (by intro z; cases z)
      cases b with
      | false =>
        -- not of this clause: it goes on
        refine wpAny_handleBy_nil ?_
        obtain ⟨_, _, _, ox, vx, T, _, _, hox, _, hdx, h1, _⟩ := id fl3
        have away : wpAny (model X.prog X.w) X.A (setFlight (.ref a) X.env.frame) (fun _ s4 => wpAny (model X.prog X.w) X.A (throw (.ref a) : Sem Flow) Post X.xe s4) X.xe { s' with heap := h3 } := by
          rw [hf]
          exact HandSPX.setFlight_upZ fl3 fun h4 f4 u4 => wpAny_throw (tk _ _ ⟨a, B, sI, pins, σ1, H1, cls, d, rfl, J, nb, (up.trans up3).trans u4, .inr (.inr (by rw [hs]; exact f4)), na, os, ag, no rfl⟩)
        unfold PySem.passOn
        refine wpAny_bind (wpAny_field hox hdx h1 ?_)
        rw [if_neg (by simp : ¬ ((Value.ref T == Value.none) = true))]
        first
          | exact wpAny_bind away
          | exact wpAny_bind (wpAny_pure (wpAny_bind away))
      | true =>
        refine codeAny_handlers_suite_as (HandSPX.lands_againZ fl3 fun h4 f4 u4 => ?_)
        obtain ⟨J4, o4, vs4, hz4, hd4, ho4, S4⟩ := land f4 ((up.trans up3).trans u4)
        have yy := yes rfl a na
        refine store_ok (X := X.suite a ((a, o4) :: (X.pn ++ pins))) (v := .ref a) S4 nodup hi (.inl hn) rfl (fun s5 S5 => ?_) (.inr hn)
        refine wpAny_mono ((su a o4 cls d (X.pn ++ pins) hz4 ⟨_, hd4⟩).run [] s5 _ H1 _ S5 yy) (fun f s6 hsp => ?_) (fun _ _ z => z.elim)
        -- the state behind the suite, the error pinned, the clause's name gone
        have keep : ∀ {σ6 : L2.St} {H6 : Hp} {Q : Shared → Prop}, Inv (X.suite a ((a, o4) :: (X.pn ++ pins))) [] σ6 H6 s6 → (∀ s7, Inv (X.tr ((a, o4) :: (X.pn ++ pins)) X.xe) [] (σ6.set i none) H6 s7 → Q s7) →
            wpAny (model X.prog X.w) X.A (do bindName X.env n .none; unbindBehindTheSuite X.env n p2) (fun _ s7 => Q s7) X.xe s6 := fun {σ6 H6 Q} S6 k =>
          gone_ok (X := X.tr ((a, o4) :: (X.pn ++ pins)) X.xe) (pins := []) ⟨ok.toTry _ _, S6.os, S6.bare, S6.base, S6.loc, S6.cell, S6.free, S6.freeC, S6.pin, S6.hok, S6.len⟩ nodup hi hn k
        have drop : ∀ {σ7 : L2.St} {H7 : Hp} {s7 : Shared}, Inv (X.tr ((a, o4) :: (X.pn ++ pins)) X.xe) [] σ7 H7 s7 → Inv X pins σ7 H7 s7 := fun J => ⟨ok, J.os, J.bare, J.base, J.loc, J.cell, J.free, J.freeC, fun p hp => J.pin p (List.mem_append_left _ (List.mem_cons_of_mem _ hp)), J.hok, J.len⟩
        cases f with
        | ret w =>
          obtain ⟨v6, σ6, H6, S6, r6, q6⟩ := hsp
          exact keep S6 fun s7 J7 => ⟨_, _, _, drop J7, r6, q6⟩
        | next =>
          obtain ⟨σ6, H6, S6, q6⟩ := hsp
          refine keep S6 fun s7 J7 => ?_
          refine thn ((hk a o4 cls d (X.pn ++ pins) hz4 ⟨_, hd4⟩).run [] s7 _ H6 D J7 q6) fun f8 s8 q8 => ?_
          cases f8 with
          | ret w =>
            obtain ⟨v8, σ8, H8, J8, r8, q8⟩ := q8
            exact ⟨v8, σ8, H8, drop J8, r8, q8⟩
          | next => obtain ⟨σ8, H8, J8, q8⟩ := q8; exact ⟨σ8, H8, drop J8, q8⟩
          | brk => obtain ⟨σ8, H8, J8, q8⟩ := q8; exact ⟨σ8, H8, drop J8, q8⟩
          | cont => obtain ⟨σ8, H8, J8, q8⟩ := q8; exact ⟨σ8, H8, drop J8, q8⟩
        | brk => obtain ⟨σ6, H6, S6, q6⟩ := hsp; exact keep S6 fun s7 J7 => ⟨_, _, drop J7, q6⟩
        | cont => obtain ⟨σ6, H6, S6, q6⟩ := hsp; exact keep S6 fun s7 J7 => ⟨_, _, drop J7, q6⟩
    · cases f with
      | ret w =>
        obtain ⟨v1, σ1, H1, J1, r1, q1⟩ := hsp
        exact ⟨v1, σ1, H1, J1.ofTry ok, r1, q1⟩
      | next =>
        obtain ⟨σ1, H1, J1, q1⟩ := hsp
        exact wpAny_execs_nil (hr.run pins s1 σ1 H1 D (J1.ofTry ok) q1)
      | brk => obtain ⟨σ1, H1, J1, q1⟩ := hsp; exact ⟨σ1, H1, J1.ofTry ok, q1⟩
      | cont => obtain ⟨σ1, H1, J1, q1⟩ := hsp; exact ⟨σ1, H1, J1.ofTry ok, q1⟩
  refine thn goal fun f s1 q => ?_
  cases f with
  | next => exact q
  | ret w => exact q
  | brk => exact q
  | cont => exact q
end
end Lc
set_option Elab.async false
set_option linter.all false
set_option maxRecDepth 100000
set_option maxHeartbeats 4000000
namespace Lc
open PySem PySem.Spec PyProof.Rows L2
/-! ## f(k = v, ..), keywords only -/
section
variable {X : Cx} {CX : CXT} {k : Nat} {f : Addr} {fd : FuncData} {ps ks : List Str} {sp : Sp} {E : XK} {x : Str} {p pos : Pos} {kws : List Keyword} {tk : TA} {g : List Value → List Value → List Value} {gV : List V → List V → List V}
theorem pe_callKO (F : FnOk X.prog X.w X.K X.mg X.base CX k f fd ps sp) (hr : Room k X.A) (hg : Gl X x) (hm : X.mg x = some (.ref f)) (hk : PySem.W.keepIn X.K (.ref f) = true) (hb : KBinds X.K fd ps ks g gV) (hx : Passes CX X E)
    (hkw : PK X kws tk) (hall : (backToKw pos (keywordEach kws X.env)).all (·.1.isSome) = true := by rfl) (hks : (backToKw pos (keywordEach kws X.env)).filterMap (·.1) = ks := by rfl)
    (hdb : (x == ("__debug__" : Str)) = false := by decide) (hpl : ((backTo pos (starEach [] X.env)).any (·.1) || (backToKw pos (keywordEach kws X.env)).any (·.1.isNone)) = false := by rfl) : PE X (.Call (.Name x p) [] kws pos) (tCallK sp gV E tNil tk) := by
  refine ⟨fun pins s σ H Q I h => ?_⟩
  refine wpAny_Call_Name_kw (ld_glob I hg hm ?_ hdb)
  refine PySem.W.callWith_KW0 (h₀ := X.base) I.ok.mod.kin hk hall (thn (hkw.run pos pins s σ H _ I h) fun ws s2 ⟨zs, H2, I2, rz, q2⟩ => ⟨I2.kIn, ?_⟩) hpl
  rw [hks]
  exact run_fnk F hr hb hx I2 .nil rz q2
end
end Lc
set_option Elab.async false
set_option linter.all false
set_option maxRecDepth 100000
set_option maxHeartbeats 4000000
namespace Lc
open PySem PySem.Spec PyProof.Rows L2
/-! ## f(e, .., k = v, ..), f a def of the module that may raise -/
def tCallKS (sp : Sp) (gV : List V → List V → List V) (E : L2.St → XK) (t tk : TA) : TE := fun σ H Q => t σ H fun vs H1 => tk σ H1 fun zs H2 => sp (gV vs zs) H2 Q (E σ)
section
variable {X : Cx} {CX : CXT} {k : Nat} {f : Addr} {fd : FuncData} {ps ks : List Str} {sp : Sp} {E : L2.St → XK} {x : Str} {p pos : Pos} {e : Expr} {es : List Expr} {kws : List Keyword} {t tk : TA} {g : List Value → List Value → List Value} {gV : List V → List V → List V}
theorem pe_callKS (F : FnOk X.prog X.w X.K X.mg X.base CX k f fd ps sp) (hr : Room k X.A) (hg : Gl X x) (hm : X.mg x = some (.ref f)) (hk : PySem.W.keepIn X.K (.ref f) = true) (hb : KBinds X.K fd ps ks g gV) (hx : ∀ σ, PassesAt CX X σ (E σ))
    (ha : PA X (e :: es) t) (hkw : PK X kws tk) (hall : (backToKw pos (keywordEach kws X.env)).all (·.1.isSome) = true := by rfl) (hks : (backToKw pos (keywordEach kws X.env)).filterMap (·.1) = ks := by rfl)
    (hdb : (x == ("__debug__" : Str)) = false := by decide) (he : starEach (e :: es) X.env = (false, eval e X.env) :: starEach es X.env := by rfl)
    (hpl : ((backTo pos (starEach (e :: es) X.env)).any (·.1) || (backToKw pos (keywordEach kws X.env)).any (·.1.isNone)) = false := by rfl) :
    PE X (.Call (.Name x p) (e :: es) kws pos) (tCallKS sp gV E t tk) := by
  refine ⟨fun pins s σ H Q I h => ?_⟩
  refine wpAny_Call_Name_kw (ld_glob I hg hm ?_ hdb)
  refine PySem.W.callWith_KW (h₀ := X.base) I.ok.mod.kin hk hall (thn (ha.run pos pins s σ H _ I h) fun us s1 ⟨vs, H1, I1, r, q⟩ => ?_) hpl he
  refine thn (hkw.run pos pins s1 σ H1 _ I1 q) fun ws s2 ⟨zs, H2, I2, rz, q2⟩ => ⟨I2.kIn, ?_⟩
  rw [hks]
  have r2 := hb.rel r rz
  have hl : (g us ws).length = ps.length := by rw [← r2.length]; exact F.len _ _ _ _ q2
  refine wpAny_call (codeAny_mono (F.run X.A X.stack s2 H2 ⟨us, ks.zip ws⟩ (g us ws) (gV vs zs) Q (E σ) hr I2.env0 (hb.to s2 us ws I2.kIn hl) r2 q2) fun r s' hq => ?_)
  match r, hq with
  | .error er, hq => exact hx σ pins H2 s2 er s' I2 hq
  | .ok (.ret u), hq => exact I2.after hq
  | .ok .next, hq => exact False.elim hq
  | .ok .brk, hq => exact False.elim hq
  | .ok .cont, hq => exact False.elim hq
end
/-- a call that leaves the defaults -/
theorem kb_of {K : PySem.W.Frag} {fd : FuncData} {ps : List Str} {ds : List Value} {dvs : List V} (b : Binds K fd ps ds) (v : Vals dvs ds) : KBinds K fd ps [] (fun us _ => us ++ ds) (fun vs _ => vs ++ dvs) :=
  ⟨fun s us ws hk hl => b s us hk (by simpa [List.length_append] using hl), fun r _ => r.append v⟩
def gKw : {α : Type} → List α → List α → List α → List α := fun a _ c => a ++ c
/-- all keywords given, behind n values -/
def gAt {α : Type} (n m : Nat) (us ws : List α) : List α := if us.length = n ∧ ws.length = m then us ++ ws else []
theorem kb_at {K : PySem.W.Frag} {fd : FuncData} {ps ks : List Str} {n : Nat} (h : KBn K fd ps n ks (fun us ws => us ++ ws) (fun vs zs => vs ++ zs)) (hp : ps.length ≠ 0) : KBinds K fd ps ks (gAt n ks.length) (gAt n ks.length) := by
  refine ⟨fun s us ws X l => ?_, fun {vs us zs ws} r rz => ?_⟩
  · unfold gAt at l ⊢
    by_cases q : us.length = n ∧ ws.length = ks.length
    · rw [if_pos q]
      exact h.to s us ws X q.1 q.2
    · rw [if_neg q] at l
      exact absurd l.symm hp
  · unfold gAt
    by_cases q : us.length = n ∧ ws.length = ks.length
    · rw [if_pos q, if_pos (by rw [r.length, rz.length]; exact q)]
      exact r.append rz
    · rw [if_neg q, if_neg (by rw [r.length, rz.length]; exact q)]
      exact .nil
end Lc
set_option Elab.async false
set_option linter.all false
set_option maxRecDepth 100000
set_option maxHeartbeats 4000000
namespace Lc
open PySem PySem.Spec PyProof.Rows L2 He
/-! ## The head's facts, with one more Bool -/
abbrev AlE : Type := AlD × Bool
def obsE (n : Nat) (fa : List Fa) (fn : List DefD) (ex : PySem.W.Frag → Bool) (g : Addr → Option Obj) : AlE := (obsD fa fn (frG g (asD g n)), ex (frG g (asD g n)))
def hookE (n : Nat) (fa : List Fa) (fn : List DefD) (ex : PySem.W.Frag → Bool) : PySem.W.Hook where
  α := AlE
  obs := fun s => obsE n fa fn ex s.heap.get?
  val := fun _ => (valD fn, true)
  says := fun _ h => ∃ K : PySem.W.Frag, K.In h ∧ SaysD fa fn K ∧ ex K = true
  of := fun _ _ e => ⟨_, frG_in, congrArg (fun z : AlE => z.1) e, congrArg (fun z : AlE => z.2) e⟩
  keeps := fun _ _ _ ⟨K, hK, c⟩ k => ⟨K, PySem.W.Frag.In.keeps hK k, c⟩
theorem obsE_eq {n : Nat} {fa : List Fa} {fn : List DefD} {ex : PySem.W.Frag → Bool} {g : Addr → Option Obj} {s : Shared} (h : ∀ a, g a = s.heap.get? a) : obsE n fa fn ex g = (hookE n fa fn ex).obs s := by
  have e : g = s.heap.get? := funext h
  rw [e] <;> rfl
/-! ## What is asked of the error classes -/
def optB (a b : Option Bool) : Bool := decide (a = b)
def optV (a b : Option Value) : Bool := decide (a = b)
def oexB (K : PySem.W.Frag) (C : Addr) : Bool := (match K.lookup C with
  | some ⟨.type "type", _, .cls cd, sl⟩ => (match cd.mro, sl.toList with
    | .ref C' :: bm, [_, _, _, _, some (.builtin n), _] => C' == C && n == "ValueError.__new__" && !cd.hasDel && cd.hasDict && PySem.HandSPX.refsVE bm
    | _, _ => false)
  | _ => false) && (eqO (PySem.W.findIn K (.ref C) "__setattr__") (some (some (.builtin "object.__setattr__"))) && (optB (PySem.W.subIn K (.ref C) (.type "BaseException")) (some true) && (optV (PySem.W.typeIn K (.ref C)) (some (.type "type")) && PySem.W.keepIn K (.ref C))))
theorem oexB_ok {K : PySem.W.Frag} {C : Addr} (h : oexB K C = true) : OexC K C := by
  obtain ⟨q, h⟩ := ba h
  obtain ⟨h1, h⟩ := ba h
  obtain ⟨h2, h⟩ := ba h
  obtain ⟨h3, h4⟩ := ba h
  refine ⟨?_, eqO_ok h1, of_decide_eq_true h2, of_decide_eq_true h3, h4⟩
  split at q
  · rename_i dd cd sl ho
    split at q
    · rename_i C' bm k0 k1 k2 k3 n k5 hm hs
      simp only [Bool.and_eq_true, beq_iff_eq, Bool.not_eq_true'] at q
      obtain ⟨⟨⟨⟨rfl, rfl⟩, hdel⟩, hdi⟩, ht⟩ := q
      obtain ⟨nm, bs, mro, ns, qn, hd, sn, sub, ab, col, del⟩ := cd
      dsimp only at hm hdel hdi
      subst hm hdel hdi
      have hsl : sl = #[k0, k1, k2, k3, some (.builtin "ValueError.__new__"), k5] := by
        obtain ⟨l⟩ := sl
        simp only at hs
        rw [hs]
      subst hsl
      exact ⟨nm, qn, ns, bs, bm, sn, sub, ab, col, dd, k0, k1, k2, k3, k5, ho, ht⟩
    · cases q
  · cases q
def xisB (K : PySem.W.Frag) (C : Addr) : Bool := (PySem.W.clsIn K C).isSome && (eqO (PySem.W.findIn K (.ref C) "__getattribute__") (some (some (.builtin "BaseException.__getattribute__"))) && (eqO (PySem.W.findIn K (.ref C) "__getattr__") (some none) &&
  (optB (PySem.W.subIn K (.ref C) (.type "BaseException")) (some true) && (eqO (PySem.W.findIn K (.ref C) "__class__") (some (some (.builtin "object.__class__"))) && (eqO (PySem.W.specialIn K (.builtin "object.__class__") "__get__") (some (some (.builtin "getset_descriptor.__get__"))) &&
  (optB (PySem.W.takesIn K (.builtin "object.__class__")) (some true) && optB (PySem.W.mroIn K C (.type "object")) (some true)))))))
theorem xisB_ok {K : PySem.W.Frag} {C : Addr} (h : xisB K C = true) : XisC K C := by
  obtain ⟨h1, h⟩ := ba h
  obtain ⟨h2, h⟩ := ba h
  obtain ⟨h3, h⟩ := ba h
  obtain ⟨h4, h⟩ := ba h
  obtain ⟨h5, h⟩ := ba h
  obtain ⟨h6, h⟩ := ba h
  obtain ⟨h7, h8⟩ := ba h
  exact ⟨h1, eqO_ok h2, eqO_ok h3, of_decide_eq_true h4, eqO_ok h5, eqO_ok h6, of_decide_eq_true h7, of_decide_eq_true h8⟩
/-- a def without defaults -/
theorem fun_of {K : PySem.W.Frag} {x qual : Str} {st : Stmt} {f : Addr} {fd : FuncData} (F : FunD K x qual (defArgs st) (defBody st) (defScope st) [] [] f fd) : Fun K x qual st f fd := by
  obtain ⟨oc, od, dV, kV, doc, pm, an, cdv, ct, osl, rfl, lk, hcd, hD, hK⟩ := F.ex
  rcases hD with ⟨_, rfl⟩ | ⟨e, _⟩
  · exact ⟨⟨oc, od, kV, doc, pm, an, cdv, ct, osl, rfl, lk, hcd⟩, F.kp⟩
  · exact absurd rfl e
/-! ## The end of a law whose defs are promised where no repr is under way -/
theorem walk_GE {l : PySem.W.OpenLaw} {n k : Nat} {q : Program} {loose : List Str} {XP : (Str → Option Value) → Heap → Prop} {YP : World → Heap → Prop} {d : DefRec} {x : Str}
    (hn : l.most = some n) (hn2 : n ≤ sizeLine) (hdf : d.params.defaults = []) (hr : Room k callerA)
    (F : ∀ (w : World) (mg : Str → Option Value) (fa : Addr) (h : Heap), YP w h → h.Ns mainGlobals mg → mg d.name = some (.ref fa) →
      ∃ (K : PySem.W.Frag) (fd : FuncData) (sp : Sp), K.In h ∧ (∀ (s : Shared) (u : Value), BindsTo s fd ⟨[u], []⟩ [(x, u)]) ∧
        (∀ (H : Hp) (a : Addr) (ns : List Int), ns.length ≤ n → SqL K H a (ns.map V.int) → sp [.ref a] H (fun v _ => v = .bl true) fun _ _ _ => False) ∧
        ∀ base : Heap, K.In base → base.Ns mainGlobals mg → FnG l.prog w K mg base k fa fd [x] sp) :
    PySem.W.WalkO q loose XP YP l.row.toRowW d [] (fun f vs => PySem.call f vs) := by
  refine Att.attach_call hn hdf fun w _ s mg mb fa _ _ _ _ a vs ns G Y _ _ _ hmg hobj hints hlen hg => ?_
  obtain ⟨K, fd, sp, KX, hb, hsp, hF⟩ := F w mg fa _ Y G.T.g hmg
  exact law_callG KX G.T.g G.T.b G.T.builtins G.T.nolimit hg hobj hints (Nat.le_trans hlen hn2) hr hF hb fun H hS => hsp H a ns hlen hS
end Lc
namespace Lc
theorem all_at {l : List Bool} (h : l.all id = true) (i : Nat) {b : Bool} (e : l[i]? = some b := by rfl) : b = true := List.all_eq_true.mp h b (List.mem_of_getElem? e)
end Lc
set_option Elab.async false
set_option linter.all false
set_option maxRecDepth 100000
set_option maxHeartbeats 4000000
namespace Lc
open PySem PySem.Spec PyProof.Rows L2 He
/-! ## The head's facts, with dicts of the module that have text keys -/
abbrev AlF : Type := AlE × List (Option (List (Option (Str × Int))))
def obsF (n : Nat) (fa : List Fa) (fn : List DefD) (ex : PySem.W.Frag → Bool) (ts : List Tab) (g : Addr → Option Obj) : AlF := (obsE n fa fn ex g, ts.map fun t => dicW (frG g (asD g n)) (t.1 (frG g (asD g n))))
def TabsOk (ts : List Tab) (w : World) (K : PySem.W.Frag) : Prop := ∀ (i : Nat) (t : Tab), ts[i]? = some t → ∃ es n, KDict K w (t.1 K) es n
theorem tabs_of {ts : List Tab} {w : World} {K : PySem.W.Frag} (e : ts.map (fun t => dicW K (t.1 K)) = ts.map fun t => some (keysIn w.params t.2)) : TabsOk ts w K := by
  intro i t h
  have e2 : (ts.map fun t => dicW K (t.1 K))[i]? = (ts.map fun t => some (keysIn w.params t.2))[i]? := congrArg (fun l => l[i]?) e
  rw [List.getElem?_map, h, List.getElem?_map, h] at e2
  exact dicW_ok (Option.some.inj e2)
def hookF (n : Nat) (fa : List Fa) (fn : List DefD) (ex : PySem.W.Frag → Bool) (ts : List Tab) : PySem.W.Hook where
  α := AlF
  obs := fun s => obsF n fa fn ex ts s.heap.get?
  val := fun w => ((valD fn, true), ts.map fun t : Tab => some (keysIn w.params t.2))
  says := fun w h => ∃ K : PySem.W.Frag, K.In h ∧ SaysD fa fn K ∧ ex K = true ∧ TabsOk ts w K
  of := fun _ _ e => ⟨_, frG_in, congrArg (fun z : AlF => z.1.1) e, congrArg (fun z : AlF => z.1.2) e, tabs_of (show _ = _ from congrArg (fun z : AlF => z.2) e)⟩
  keeps := fun _ _ _ ⟨K, hK, c⟩ k => ⟨K, PySem.W.Frag.In.keeps hK k, c⟩
theorem obsF_eq {n : Nat} {fa : List Fa} {fn : List DefD} {ex : PySem.W.Frag → Bool} {ts : List Tab} {g : Addr → Option Obj} {s : Shared} (h : ∀ a, g a = s.heap.get? a) : obsF n fa fn ex ts g = (hookF n fa fn ex ts).obs s := by
  have e : g = s.heap.get? := funext h
  rw [e] <;> rfl
/-! ## what stands in such a dict -/
def atD (K : PySem.W.Frag) (d : Addr) (x : Str) : Addr := match PySem.W.nsIn K d x with
  | some (some (.ref a)) => a
  | _ => 0
def tupA (K : PySem.W.Frag) (a : Addr) (vs : List Dv) : Bool := match K.lookup a with
  | some ⟨.type c, _, .seq its _, _⟩ => decide (c = "tuple") && (decide (its.size ≤ sizeLine) && relAll (vs.map (Dv.v K)) its.toList)
  | _ => false
theorem tupA_ok {K : PySem.W.Frag} {a : Addr} {vs : List Dv} (h : tupA K a vs = true) (H : Hp) : SqT K H a (vs.map (Dv.v K)) := by
  unfold tupA at h
  split at h
  · rename_i c od its n osl q
    obtain ⟨h1, h2⟩ := ba h
    obtain ⟨h3, h4⟩ := ba h2
    exact .inr ⟨_, its, n, q, congrArg Value.type (of_decide_eq_true h1), rfl, of_decide_eq_true h3, relAll_ok h4⟩
  · cases h
/-- at the key x a tuple of these -/
def dtB (K : PySem.W.Frag) (d : Addr) (x : Str) (vs : List Dv) : Bool := eqO (PySem.W.nsIn K d x) (some (some (.ref (atD K d x)))) && tupA K (atD K d x) vs
theorem kdct_of {K : PySem.W.Frag} {w : World} {d a : Addr} {x : Str} (D : ∃ es n, KDict K w d es n) (h : PySem.W.nsIn K d x = some (some (.ref a))) : KDct K w d x (.ref a) := by
  obtain ⟨es, n, D⟩ := D
  exact ⟨es, n, _, D.at_, D.lit, h, rfl⟩
theorem dt_ok {K : PySem.W.Frag} {w : World} {d : Addr} {x : Str} {vs : List Dv} (D : ∃ es n, KDict K w d es n) (h : dtB K d x vs = true) : ∃ a, KDct K w d x (.ref a) ∧ PySem.W.nsIn K d x = some (some (.ref a)) ∧ ∀ H, SqT K H a (vs.map (Dv.v K)) := by
  obtain ⟨h1, h2⟩ := ba h
  exact ⟨_, kdct_of D (eqO_ok h1), eqO_ok h1, fun H => tupA_ok h2 H⟩
/-- at the key x the def y -/
def dfB (K : PySem.W.Frag) (d : Addr) (x y : Str) : Bool := eqO (PySem.W.nsIn K d x) (some (some (.ref (ga K y))))
def dnB (K : PySem.W.Frag) (d : Addr) (x : Str) : Bool := eqO (PySem.W.nsIn K d x) (some none)
end Lc
set_option Elab.async false
set_option linter.all false
set_option maxRecDepth 100000
set_option maxHeartbeats 4000000
namespace Lc
open PySem PySem.Spec PyProof.Rows L2 He
/-! ## The head's facts from a few globals alone: what is reached from the named ones, but not through the globals' own dict -/
def growN (g : Addr → Option Obj) (as : List Addr) : List Addr := ((as ++ as.flatMap fun a => match g a with
  | some o => refsD o
  | none => []).filter fun a => !Nat.beq a mainGlobals).eraseDups
def asN (names : List Str) (g : Addr → Option Obj) : Nat → List Addr
  | 0 => (names.map fun x => ga (frG g [mainGlobals]) x).eraseDups
  | n + 1 => growN g (asN names g n)
def asM (sm : Bool) (names : List Str) (g : Addr → Option Obj) (n : Nat) : List Addr := mainGlobals :: (if sm = true then [sysModules] else []) ++ asN names g n
def obsK (fa : List Fa) (fn : List DefD) (ex : PySem.W.Frag → Bool) (ts : List Tab) (K : PySem.W.Frag) : AlF := ((obsD fa fn K, ex K), ts.map fun t => dicW K (t.1 K))
def obsN (sm : Bool) (names : List Str) (n : Nat) (fa : List Fa) (fn : List DefD) (ex : PySem.W.Frag → Bool) (ts : List Tab) (g : Addr → Option Obj) : AlF := obsK fa fn ex ts (frG g (asM sm names g n))
def hookN (sm : Bool) (names : List Str) (n : Nat) (fa : List Fa) (fn : List DefD) (ex : PySem.W.Frag → Bool) (ts : List Tab) : PySem.W.Hook where
  α := AlF
  obs := fun s => obsN sm names n fa fn ex ts s.heap.get?
  val := fun w => ((valD fn, true), ts.map fun t : Tab => some (keysIn w.params t.2))
  says := fun w h => ∃ K : PySem.W.Frag, K.In h ∧ SaysD fa fn K ∧ ex K = true ∧ TabsOk ts w K
  of := fun _ _ e => ⟨_, frG_in, congrArg (fun z : AlF => z.1.1) e, congrArg (fun z : AlF => z.1.2) e, tabs_of (show _ = _ from congrArg (fun z : AlF => z.2) e)⟩
  keeps := fun _ _ _ ⟨K, hK, c⟩ k => ⟨K, PySem.W.Frag.In.keeps hK k, c⟩
theorem obsN_eq {sm : Bool} {names : List Str} {n : Nat} {fa : List Fa} {fn : List DefD} {ex : PySem.W.Frag → Bool} {ts : List Tab} {g : Addr → Option Obj} {s : Shared} (h : ∀ a, g a = s.heap.get? a) : obsN sm names n fa fn ex ts g = (hookN sm names n fa fn ex ts).obs s := by
  have e : g = s.heap.get? := funext h
  rw [e] <;> rfl
theorem smN_of {K : PySem.W.Frag} (h : (K.lookup sysModules).isSome = true) : ∃ o, K.lookup sysModules = some o := Option.isSome_iff_exists.mp h
end Lc
set_option Elab.async false
set_option linter.all false
set_option maxRecDepth 100000
set_option maxHeartbeats 4000000
namespace Lc
open PySem PySem.Spec PyProof.Rows L2 He
/-! ## an int in a dict of the module with text keys -/
def diB (K : PySem.W.Frag) (d : Addr) (x : Str) (n : Int) : Bool := match PySem.W.nsIn K d x with
  | some (some (.int m _)) => decide (m = n)
  | _ => false
theorem di_ok {K : PySem.W.Frag} {w : World} {d : Addr} {x : Str} {n : Int} (D : ∃ es n, KDict K w d es n) (h : diB K d x n = true) : KDct K w d x (.int n) ∧ ∃ u, PySem.W.nsIn K d x = some (some u) := by
  unfold diB at h
  split at h
  · rename_i m t q
    obtain ⟨es, k, D⟩ := D
    have e : m = n := of_decide_eq_true h
    exact ⟨⟨es, k, _, D.at_, D.lit, q, ⟨t, by rw [e]⟩⟩, _, q⟩
  · cases h
end Lc
set_option Elab.async false
set_option linter.all false
set_option maxRecDepth 100000
set_option maxHeartbeats 4000000
namespace K13
open PySem PySem.Spec PyProof.Rows L2 Lc
def top (i : Nat) : Stmt := PySem.Challenge.pw_liveclaims_k13_checked_columns.main.body.getD i (.Pass ⟨0, 0, 0, 0⟩)
/-! ## is_whole, common_divisor, is_rational -/
abbrev sWhole : Stmt := top 5
abbrev sCd : Stmt := top 6
abbrev sIsR : Stmt := top 7
def spWhole : Sp := fun vs H Q _ => ∃ (v : V) (t : String), vs = [v] ∧ TyN H v t ∧ Q (.bl (t == "int")) H
def spCd : Sp := fun vs H Q _ => ∃ a b : Int, vs = [.int a, .int b] ∧ 0 ≤ a ∧ 0 ≤ b ∧ Q (.int (gd a b)) H
def spIsR : Sp := fun vs H Q _ => ∃ (v : V) (b : Bool), vs = [v] ∧ Rk H v b ∧ Q (.bl b) H
section
variable {P : Program} {w : World} {K : PySem.W.Frag} {mg : Str → Option Value} {base : Heap} {f C : Addr} {fd : FuncData}
theorem scWhole : FnScope ["value"] ["value"] (defScope sWhole) := ⟨rfl, rfl, rfl, by decide +kernel, rfl, by decide +kernel, by decide +kernel⟩
theorem ok_whole (F : Fun K "is_whole" "is_whole" sWhole f fd) (T : Bt mg) : FnOk P w K mg base CX0 1 f fd ["value"] spWhole := by
  refine F.ok scWhole (fun vs H Q E h => ?_) (fun cdv A outer s H vs Q E hr h => ?_)
  · obtain ⟨v, t, rfl, _⟩ := h
    rfl
  · obtain ⟨v, t, rfl, ty, k⟩ := h
    refine ⟨_, pss_one (ps_ret (pe_and (pe_callB call_isi (by rfl) T.isi boot_isinstance (pa_cons (pv 0) (pa_cons (pe_bltn (v := .ty "int") (by rfl) T.int boot_int rfl) pa_nil)))
      (pe_one (pe_not (pe_callB call_isi (by rfl) T.isi boot_isinstance (pa_cons (pv 0) (pa_cons (pe_bltn (v := .ty "bool") (by rfl) T.bool boot_bool rfl) pa_nil))))))), ?_⟩
    refine ⟨_, rfl, v, .ty "int", _, _, _, rfl, .ty "int", ty.x, kit_int ty.mem, _, rfl, ?_⟩
    refine ite2 (fun hi => ?_) (fun hi => ?_)
    · refine ⟨_, rfl, v, .ty "bool", _, _, _, rfl, .ty "bool", ty.x, kit_bool ty.mem, _, rfl, ?_⟩
      have e : (!(t == "bool")) = (t == "int") := by cases ty <;> first | rfl | exact absurd hi (by decide)
      show Q (.bl (!(t == "bool"))) H
      rw [e]
      exact k
    · have e : false = (t == "int") := by cases ty <;> first | rfl | exact absurd rfl hi
      show Q (.bl false) H
      rw [e]
      exact k
theorem scCd : FnScope ["a", "b"] ["a", "b"] (defScope sCd) := ⟨rfl, rfl, rfl, by decide +kernel, rfl, by decide +kernel, by decide +kernel⟩
theorem ok_cd (F : Fun K "common_divisor" "common_divisor" sCd f fd) : FnOk P w K mg base CX0 1 f fd ["a", "b"] spCd := by
  refine F.ok scCd (fun vs H Q E h => ?_) (fun cdv A outer s H vs Q E hr h => ?_)
  · obtain ⟨a, b, rfl, _⟩ := h
    rfl
  · obtain ⟨a, b, rfl, ha, hb, k⟩ := h
    refine ⟨_, pss_cons (ps_while PassesOwn.never (pt_cmpR op_ne (pv 1) pe_int (nomark _)) (pss_one (ps_par (i := 0) (j := 1) (by rfl) scCd.nd rfl rfl (by decide) rfl rfl (pa_cons (pv 1) (pa_cons (pe_op op_mod (pv 0) (pv 1)) pa_nil)) (by rfl))))
      (pss_one (ps_ret (pv 0))), ?_⟩
    refine ⟨fun m σ H' => ∃ a' b' : Int, σ = [some (.int a'), some (.int b')] ∧ 0 ≤ a' ∧ 0 ≤ b' ∧ b'.toNat = m ∧ gd a' b' = gd a b ∧ H' = H, ⟨_, a, b, rfl, ha, hb, rfl, rfl, rfl⟩, ?_⟩
    rintro m σ H' ⟨a', b', rfl, ha', hb', rfl, e, rfl⟩
    refine ⟨_, rfl, rfl, _, rfl, ?_⟩
    rw [show (decide (V.int b' = V.int 0)) = decide (b' = 0) from dec_int.trans (by rw [Bool.eq_iff_iff]; simp)]
    by_cases z : b' = 0
    · rw [decide_eq_true z]
      refine iteF ⟨_, rfl, ?_⟩
      rw [← e, z, gd_zero ha'] at k
      exact k
    · rw [decide_eq_false z]
      have pb : 0 < b' := by omega
      refine iteT ⟨fun σ' H'' => ∃ a2 b2 : Int, σ' = [some (.int a2), some (.int b2)] ∧ 0 ≤ a2 ∧ 0 ≤ b2 ∧ b2.toNat < b'.toNat ∧ gd a2 b2 = gd a b ∧ H'' = H', ?_, ?_⟩
      · rintro σ' H'' ⟨a2, b2, h1, h2, h3, h4, h5, h6⟩
        exact ⟨_, h4, a2, b2, h1, h2, h3, rfl, h5, h6⟩
      · refine ⟨_, rfl, _, rfl, _, rfl, _, _, rfl, rfl, pb, _, _, rfl, b', a' % b', rfl, hb', Int.emod_nonneg _ (by omega), ?_, ?_, rfl⟩
        · have := Int.emod_lt_of_pos a' pb
          have := Int.emod_nonneg a' (by omega : b' ≠ 0)
          omega
        · rw [gd_step ha' pb]
          exact e
theorem scIsR : FnScope ["value", "n", "d"] ["value"] (defScope sIsR) := ⟨rfl, rfl, rfl, by decide +kernel, rfl, by decide +kernel, by decide +kernel⟩
theorem ok_isr {fW fC : Addr} {fdW fdC : FuncData} (F : Fun K "is_rational" "is_rational" sIsR f fd) (T : Bt mg) (GW : FnOk P w K mg base CX0 1 fW fdW ["value"] spWhole) (mW : mg "is_whole" = some (.ref fW)) (kW : PySem.W.keepIn K (.ref fW) = true) (bW : Binds K fdW ["value"] [])
    (GC : FnOk P w K mg base CX0 1 fC fdC ["a", "b"] spCd) (mC : mg "common_divisor" = some (.ref fC)) (kC : PySem.W.keepIn K (.ref fC) = true) (bC : Binds K fdC ["a", "b"] []) : FnOk P w K mg base CX0 2 f fd ["value"] spIsR := by
  refine F.ok scIsR (fun vs H Q E h => ?_) (fun cdv A outer s H vs Q E hr h => ?_)
  · obtain ⟨v, b, rfl, _⟩ := h
    rfl
  · obtain ⟨v, b, rfl, hk, k⟩ := h
    refine ⟨_, pss_cons (ps_if (PW.pt (pw_or (pt_not (pt_val (pe_callB call_isi (by rfl) T.isi boot_isinstance (pa_cons (pv 0) (pa_cons (pe_bltn (v := .ty "tuple") (by rfl) T.tuple boot_tuple rfl) pa_nil)))))
        (pw_or1 (pt_cmpR op_ne (pe_callB call_len_seq (by rfl) T.len PySem.boot_len (pa_cons (pv 0) pa_nil)) pe_int (nomark _))))) (pss_one (ps_ret pe_bl)) pss_nil)
      (pss_cons (ps_asg (pv 0) (pg_tup rfl (pgs_cons (pg_name (i := 1) scIsR.nd rfl (.inl rfl)) (pgs_cons (pg_name (i := 2) scIsR.nd rfl (.inl rfl)) pgs_nil))))
      (pss_cons (ps_if (PW.pt (pw_or (pt_not (pt_val (pe_call GW hr (by rfl) mW kW bW .nil pass0 (pa_cons (pv 1) pa_nil)))) (pw_or (pt_not (pt_val (pe_call GW hr (by rfl) mW kW bW .nil pass0 (pa_cons (pv 2) pa_nil))))
        (pw_or1 (pt_cmpR op_lt (pv 2) pe_int (nomark _)))))) (pss_one (ps_ret pe_bl)) pss_nil)
      (pss_one (ps_ret (pe_cmpR op_eq (pe_call GC hr (by rfl) mC kC bC .nil pass0 (pa_cons (pe_callB call_abs (by rfl) T.abs boot_abs (pa_cons (pv 1) pa_nil)) (pa_cons (pv 2) pa_nil))) pe_int (nomark _)))))), ?_⟩
    cases hk with
    | @other _ t ty n =>
      refine ⟨_, rfl, v, .ty "tuple", _, _, _, rfl, .ty "tuple", ty.x, kit_tuple ty.mem, _, rfl, ?_⟩
      have e : (t == "tuple") = false := by simpa using n
      rw [e]
      exact iteT (iteT k)
    | @len a xs e n =>
      refine ⟨_, rfl, .ref a, .ty "tuple", _, _, _, rfl, .ty "tuple", (TyN.tup e).x, kit_tuple (by decide), _, rfl, ?_⟩
      refine iteF ⟨_, rfl, a, xs, rfl, .inr (SqT.of e), rfl, _, rfl, ?_⟩
      have z : decide (V.int (xs.length : Int) = V.int 2) = false := decide_eq_false (fun q => n (by injection q with q; omega))
      rw [z]
      exact iteT k
    | @pair a x y tx ty e hx hy =>
      refine ⟨_, rfl, .ref a, .ty "tuple", _, _, _, rfl, .ty "tuple", (TyN.tup e).x, kit_tuple (by decide), _, rfl, ?_⟩
      refine iteF ⟨_, rfl, a, _, rfl, .inr (SqT.of e), rfl, _, rfl, ?_⟩
      refine iteF ?_
      refine ⟨_, rfl, a, _, rfl, SqT.of e, rfl, _, _, rfl, _, _, rfl, rfl, ?_⟩
      refine ⟨_, rfl, x, tx, rfl, hx, _, rfl, ?_⟩
      by_cases ix : tx = "int"
      · obtain ⟨n, rfl⟩ := hx.isInt ix
        subst ix
        · refine iteF ⟨_, rfl, y, ty, rfl, hy, _, rfl, ?_⟩
          by_cases iy : ty = "int"
          · obtain ⟨d, rfl⟩ := hy.isInt iy
            subst iy
            · refine iteF ⟨_, rfl, _, _, rfl, rfl, _, rfl, ?_⟩
              by_cases hd : d < 1
              · rw [decide_eq_true hd]
                have z : ratB (.int n) (.int d) = false := by
                  show (decide (0 < d) && _) = false
                  rw [decide_eq_false (by omega : ¬ 0 < d)]
                  rfl
                rw [z] at k
                exact iteT k
              · rw [decide_eq_false hd]
                refine iteF ?_
                refine ⟨_, rfl, n, rfl, _, rfl, _, d, rfl, by split <;> omega, by omega, rfl, ?_⟩
                have z : ratB (.int n) (.int d) = decide (V.int (gd (if n < 0 then -n else n) d) = V.int 1) := by
                  show (decide (0 < d) && decide (gd n d = 1)) = _
                  rw [decide_eq_true (by omega : 0 < d), gd_abs]
                  rw [Bool.eq_iff_iff]
                  simp
                rw [z] at k
                exact k
          · have z : (ty == "int") = false := by simpa using iy
            have z2 : ratB (.int n) y = false := by
              cases hy <;> first | rfl | exact absurd rfl iy
            rw [z2] at k
            rw [z]
            exact iteT (iteT k)
      · have z : (tx == "int") = false := by simpa using ix
        have z2 : ratB x y = false := by
          cases hx <;> first | rfl | exact absurd rfl ix
        rw [z2] at k
        rw [z]
        exact iteT (iteT k)
end
abbrev sTape : Stmt := top 74
section
variable {P : Program} {w : World} {K : PySem.W.Frag} {mg : Str → Option Value} {base : Heap} {f : Addr} {fd : FuncData}
theorem scTape : FnScope ["_law_script"] ["_law_script"] (defScope sTape) := ⟨rfl, rfl, rfl, by decide +kernel, rfl, by decide +kernel, by decide +kernel⟩
theorem ok_tape (F : Fun K "_law_tape" "_law_tape" sTape f fd) (T : Bt mg) : FnOk P w K mg base CX0 1 f fd ["_law_script"] (spTape K) := by
  refine F.ok scTape (fun vs H Q E h => ?_) (fun cdv A outer s H vs Q E hr h => ?_)
  · obtain ⟨a, ns, rfl, _⟩ := h
    rfl
  · obtain ⟨a, ns, rfl, hS, k⟩ := h
    refine ⟨_, pss_one (ps_ret (pe_lst (pa_cons (pe_callTy call_list_of (by rfl) T.list boot_list (pa_cons (pe_slice sl_list (pv 0) po_none (po_some pe_int)) pa_nil)) (pa_cons pe_int (pa_cons pe_int (pa_cons pe_int pa_nil)))))), ?_⟩
    obtain ⟨ms, e⟩ := cut_ints ns none (some 63)
    refine ⟨_, rfl, _, rfl, a, _, rfl, hS, fun p hp => ⟨p, _, rfl, .inl (SqL.of upd_same), fun l hl => ⟨by show 4 ≤ sizeLine; decide, fun t ht => ?_⟩⟩⟩
    have s1 : Same H (upd H p (.lst (cutV (ns.map V.int) none (some 63)))) := Same.upd hp
    have s2 := Same.upd (o := .lst (cutV (ns.map V.int) none (some 63))) hl
    have s3 := Same.upd (o := .lst [.ref l, .int 0, .int 0, .int 17]) ht
    refine k t _ ((s1.trans s2).trans s3) ((s1.trans s2).free ht) ⟨l, ms, 0, 0, 17, upd_same, ?_, by decide, by decide, by decide, by decide⟩
    rw [← e]
    exact s3 _ _ upd_same
end
abbrev sDraw : Stmt := top 75
section
variable {P : Program} {w : World} {K : PySem.W.Frag} {mg : Str → Option Value} {base : Heap} {f : Addr} {fd : FuncData}
theorem scDraw : FnScope ["_law_tape_here", "_law_many", "_law_digit", "_law_cell", "_law_near"] ["_law_tape_here", "_law_many"] (defScope sDraw) := ⟨rfl, rfl, rfl, by decide +kernel, rfl, by decide +kernel, by decide +kernel⟩
theorem ok_draw (F : Fun K "_law_draw" "_law_draw" sDraw f fd) (T : Bt mg) : FnOk P w K mg base CX0 1 f fd ["_law_tape_here", "_law_many"] spDrawL := by
  refine F.ok scDraw (fun vs H Q E h => ?_) (fun cdv A outer s H vs Q E hr h => ?_)
  · obtain ⟨t, l, m, rfl, _⟩ := h
    rfl
  · obtain ⟨t, l, m, rfl, ⟨ns, pos, rest, mix, ht, hl, p0, r0, m0, m1⟩, hm, hm2, k⟩ := h
    refine ⟨_, pss_cons (ps_if (pt_cmpR op_gt (pe_ix ix_list (pv 0) pe_int (fun _ _ => rfl)) pe_int (nomark _))
        (pss_cons (ps_set (i := 2) scDraw.nd rfl (Or.inl rfl) (pe_op op_mod (pe_ix ix_list (pv 0) pe_int (fun _ _ => rfl)) (pv 1)))
        (pss_cons (ps_asg (pe_op op_fdivW (pe_ix ix_list (pv 0) pe_int (fun _ _ => rfl)) (pv 1)) (pg_sub (pv 0) pe_int set_list)) (pss_one (ps_ret (pv 2))))) pss_nil)
      (pss_cons (ps_set (i := 3) scDraw.nd rfl (Or.inl rfl) pe_int)
      (Evl.pss_cut (ps_if (pt_cmpR op_lt (pe_ix ix_list (pv 0) pe_int (fun _ _ => rfl)) (pe_callB call_len_seq (by rfl) T.len PySem.boot_len (pa_cons (pe_ix ix_list (pv 0) pe_int (fun _ _ => rfl)) pa_nil)) (nomark _))
        (pss_one (ps_set (i := 3) scDraw.nd rfl (Or.inl rfl) (pe_ix ix_list (pe_ix ix_list (pv 0) pe_int (fun _ _ => rfl)) (pe_ix ix_list (pv 0) pe_int (fun _ _ => rfl)) (fun _ _ => rfl)))) pss_nil)
      (pss_cons (ps_asg (pe_op op_add (pe_ix ix_list (pv 0) pe_int (fun _ _ => rfl)) pe_int) (pg_sub (pv 0) pe_int set_list))
      (pss_cons (ps_if (pt_cmpR op_ge (pv 3) (pe_op op_pow pe_int pe_int) (nomark _))
        (pss_cons (ps_asg (pe_op op_fdivW (pv 3) (pv 1)) (pg_sub (pv 0) pe_int set_list)) (pss_one (ps_ret (pe_op op_mod (pv 3) (pv 1))))) pss_nil)
      (pss_cons (ps_set (i := 4) scDraw.nd rfl (Or.inl rfl) (pe_op op_add (pe_op op_add (pe_op op_mod (pv 3) pe_int) (pe_op op_mul pe_int (pe_ix ix_list (pv 0) pe_int (fun _ _ => rfl)))) pe_int))
      (pss_cons (ps_asg (pe_op op_mod (pe_op op_add (pe_op op_mul (pe_ix ix_list (pv 0) pe_int (fun _ _ => rfl)) pe_int) (pv 4)) pe_int) (pg_sub (pv 0) pe_int set_list))
      (pss_one (ps_ret (pe_op op_mod (pe_op op_mod (pe_op op_pow (pe_ix ix_list (pv 0) pe_int (fun _ _ => rfl)) pe_int) pe_int) (pv 1)))))))))), ?_⟩
    have nl := tape_ne ht hl
    have dv : ∀ c : Int, CDivW c m := fun c => ⟨hm, log_lt' hm2⟩
    have M0 : (0 : Int) < 2147483647 := by decide
    refine ⟨_, rfl, t, _, _, _, rfl, rfl, SqL.of ht, rfl, _, _, rfl, rfl, _, rfl, ?_⟩
    refine ite2 (fun z => ?_) (fun z => ?_)
    · have z' : 0 < rest := of_decide_eq_true z
      refine ⟨_, rfl, t, _, _, _, rfl, rfl, SqL.of ht, rfl, _, rfl, _, _, rfl, rfl, hm, ?_⟩
      refine ⟨_, rfl, t, _, _, _, rfl, rfl, SqL.of ht, rfl, _, rfl, _, _, rfl, rfl, dv _, _, rfl, t, _, _, 2, rfl, rfl, ht, rfl, ?_⟩
      refine ⟨_, rfl, ?_⟩
      refine k _ _ (Int.emod_nonneg _ (by omega)) (Int.emod_lt_of_pos _ hm) ⟨ns, pos, rest / m, mix, upd_same, by rw [upd_ne nl]; exact hl, p0, Int.ediv_nonneg r0 (by omega), m0, m1⟩ SameB.upd
    · refine ⟨fun σ' H' => ∃ c : Int, σ' = [some (.ref t), some (.int m), none, some (.int c), none] ∧ H' = H, ?_, ?_⟩
      · refine ⟨_, rfl, t, _, _, _, rfl, rfl, SqL.of ht, rfl, _, rfl, t, _, _, _, rfl, rfl, SqL.of ht, rfl, l, _, rfl, .inl (SqL.of hl), _, _, rfl, rfl, _, rfl, ?_⟩
        refine ite2 (fun y => ?_) (fun y => ?_)
        · have y' : pos < ((ns.map V.int).length : Int) := of_decide_eq_true y
          rw [List.length_map] at y'
          have g : (ns.map V.int)[pos.toNat]? = some (.int (ns[pos.toNat]'(by omega))) := by
            rw [List.getElem?_map, List.getElem?_eq_getElem (by omega : pos.toNat < ns.length)]
            rfl
          exact ⟨_, rfl, t, _, _, _, rfl, rfl, SqL.of ht, rfl, _, rfl, t, _, _, _, rfl, rfl, SqL.of ht, rfl, l, _, _, _, rfl, rfl, SqL.of hl, at_of (by omega) g, _, rfl, rfl⟩
        · exact ⟨0, rfl, rfl⟩
      · rintro σ' H' ⟨c, rfl, rfl⟩
        refine ⟨_, rfl, t, _, _, _, rfl, rfl, SqL.of ht, rfl, _, _, rfl, rfl, _, rfl, t, _, _, 1, rfl, rfl, ht, rfl, ?_⟩
        refine ⟨_, rfl, _, _, rfl, rfl, ⟨by decide, by decide, by decide⟩, _, _, rfl, rfl, _, rfl, ?_⟩
        refine ite2 (fun y => ?_) (fun y => ?_)
        · have y' : (10 : Int) ^ (18 : Int).toNat ≤ c := of_decide_eq_true y
          have c0 : 0 ≤ c := Int.le_trans (by decide) y'
          refine ⟨_, rfl, _, rfl, _, _, rfl, rfl, dv _, _, rfl, t, _, _, 2, rfl, rfl, upd_same, rfl, ?_⟩
          refine ⟨_, rfl, _, rfl, _, _, rfl, rfl, hm, ?_⟩
          exact k _ _ (Int.emod_nonneg _ (by omega)) (Int.emod_lt_of_pos _ hm) ⟨ns, pos + 1, c / m, mix, upd_same, by rw [upd_ne nl, upd_ne nl]; exact hl, by omega, Int.ediv_nonneg c0 (by omega), m0, m1⟩ (SameB.upd.trans SameB.upd)
        · refine ⟨_, rfl, _, _, rfl, rfl, M0, _, rfl, t, _, _, _, rfl, rfl, SqL.of upd_same, rfl, _, _, rfl, rfl, .inl ⟨by decide, by decide⟩, _, _, rfl, rfl, _, _, rfl, rfl, ?_⟩
          refine ⟨_, rfl, t, _, _, _, rfl, rfl, SqL.of upd_same, rfl, _, _, rfl, rfl, .inl ⟨by omega, by omega⟩, _, rfl, _, _, rfl, rfl, _, _, rfl, rfl, M0, _, rfl, t, _, _, 3, rfl, rfl, upd_same, rfl, ?_⟩
          have q0 := Int.emod_nonneg (mix * 48271 + (c % 2147483647 + 7919 * (pos + 1) + 11)) (by decide : (2147483647 : Int) ≠ 0)
          have q1 := Int.emod_lt_of_pos (mix * 48271 + (c % 2147483647 + 7919 * (pos + 1) + 11)) M0
          refine ⟨_, rfl, t, _, _, _, rfl, rfl, SqL.of upd_same, rfl, _, _, rfl, rfl, ⟨by decide, by decide, ?_⟩, _, _, rfl, rfl, M0, _, rfl, _, _, rfl, rfl, hm, ?_⟩
          · omega
          · exact k _ _ (Int.emod_nonneg _ (by omega)) (Int.emod_lt_of_pos _ hm) ⟨ns, pos + 1, rest, _, upd_same, by rw [upd_ne nl, upd_ne nl]; exact hl, by omega, r0, q0, q1⟩ (SameB.upd.trans SameB.upd)
end
abbrev sLst : Stmt := top 76
section
variable {P : Program} {w : World} {K : PySem.W.Frag} {mg : Str → Option Value} {base : Heap} {f : Addr} {fd : FuncData}
theorem scLst : FnScope ["_law_n", "_law_d", "_law_a", "_law_b", "_law_rest"] ["_law_n", "_law_d"] (defScope sLst) := ⟨rfl, rfl, rfl, by decide +kernel, rfl, by decide +kernel, by decide +kernel⟩
theorem ok_lst (F : Fun K "_law_lowest" "_law_lowest" sLst f fd) (T : Bt mg) : FnOk P w K mg base CX0 1 f fd ["_law_n", "_law_d"] spLowest := by
  refine F.ok scLst (fun vs H Q E h => ?_) (fun cdv A outer s H vs Q E hr h => ?_)
  · obtain ⟨n, d, rfl, _⟩ := h
    rfl
  · obtain ⟨n, d, rfl, hd, hd2, k⟩ := h
    refine ⟨_, pss_cons (ps_set (i := 2) scLst.nd rfl (Or.inl rfl) (pe_callB call_abs (by rfl) T.abs boot_abs (pa_cons (pv 0) pa_nil)))
      (pss_cons (ps_set (i := 3) scLst.nd rfl (Or.inl rfl) (pv 1))
      (pss_cons (ps_while PassesOwn.never (pt_cmpR op_gt (pv 3) pe_int (nomark _))
        (pss_cons (ps_set (i := 4) scLst.nd rfl (Or.inl rfl) (pe_op op_mod (pv 2) (pv 3))) (pss_cons (ps_set (i := 2) scLst.nd rfl (Or.inl rfl) (pv 3)) (pss_one (ps_set (i := 3) scLst.nd rfl (Or.inl rfl) (pv 4))))))
      (pss_one (ps_ret (pe_tup (pa_cons (pe_op op_fdivW (pv 0) (pv 2)) (pa_cons (pe_op op_fdivW (pv 1) (pv 2)) pa_nil))))))), ?_⟩
    refine ⟨_, rfl, n, rfl, _, rfl, ?_⟩
    refine ⟨fun m σ H' => ∃ (a' b' : Int) (r : Option V), σ = [some (.int n), some (.int d), some (.int a'), some (.int b'), r] ∧ 0 ≤ a' ∧ 0 ≤ b' ∧ b'.toNat = m ∧ gd a' b' = gd n d ∧ H' = H, ⟨_, _, d, none, rfl, by split <;> omega, by omega, rfl, gd_abs n d, rfl⟩, ?_⟩
    rintro m σ H' ⟨a', b', r, rfl, ha', hb', rfl, e, rfl⟩
    refine ⟨_, rfl, _, _, rfl, rfl, _, rfl, ?_⟩
    refine ite2 (fun z => ?_) (fun z => ?_)
    · have pb : 0 < b' := of_decide_eq_true z
      refine ⟨fun σ' H'' => ∃ (a2 b2 : Int) (r : Option V), σ' = [some (.int n), some (.int d), some (.int a2), some (.int b2), r] ∧ 0 ≤ a2 ∧ 0 ≤ b2 ∧ b2.toNat < b'.toNat ∧ gd a2 b2 = gd n d ∧ H'' = H', ?_, ?_⟩
      · rintro σ' H'' ⟨a2, b2, r2, h1, h2, h3, h4, h5, h6⟩
        exact ⟨_, h4, a2, b2, r2, h1, h2, h3, rfl, h5, h6⟩
      · refine ⟨_, rfl, _, rfl, _, _, rfl, rfl, pb, _, rfl, _, rfl, b', a' % b', _, rfl, hb', Int.emod_nonneg _ (by omega), ?_, ?_, rfl⟩
        · have := Int.emod_lt_of_pos a' pb
          have := Int.emod_nonneg a' (by omega : b' ≠ 0)
          omega
        · rw [gd_step ha' pb]
          exact e
    · have zb : ¬ 0 < b' := fun q => z (decide_eq_true q)
      have z0 : b' = 0 := by omega
      rw [z0, gd_zero ha'] at e
      subst e
      have g0 : 0 < gd n d := gd_pos (by omega)
      have gl : (gd n d).natAbs < 2 ^ 4000 := Nat.lt_of_le_of_lt (gd_natAbs_le (by omega)) hd2
      exact ⟨_, rfl, _, rfl, _, _, rfl, rfl, ⟨g0, log_lt' gl⟩, _, rfl, _, rfl, _, _, rfl, rfl, ⟨g0, log_lt' gl⟩, by show 2 ≤ sizeLine; decide, k⟩
end
abbrev sName : Stmt := top 15
section
variable {P : Program} {w : World} {K : PySem.W.Frag} {mg : Str → Option Value} {base : Heap} {f : Addr} {fd : FuncData} {u1 u2 : Tok} {u3 : Tok}
theorem scName : FnScope ["value", "sign"] ["value"] (defScope sName) := ⟨rfl, rfl, rfl, by decide +kernel, rfl, by decide +kernel, by decide +kernel⟩
theorem ok_name (F : Fun K "is_name" "is_name" sName f fd) (T : Bt mg) (m1 : mg "LETTERS" = some (.str letters u1)) (m2 : mg "NAME_SIGNS" = some (.str signs u2)) (m3 : mg "LONGEST_NAME" = some (.int 12 u3)) : FnOk P w K mg base CX0 1 f fd ["value"] spName := by
  refine F.ok scName (fun vs H Q E h => ?_) (fun cdv A outer s H vs Q E hr h => ?_)
  · obtain ⟨v, t, rfl, _⟩ := h
    rfl
  · obtain ⟨v, t, rfl, ty, hl, k⟩ := h
    refine ⟨_, pss_cons (ps_if (PW.pt (pw_or (pt_not (pt_val (pe_callB call_isi (by rfl) T.isi boot_isinstance (pa_cons (pv 0) (pa_cons (pe_bltn (v := .ty "str") (by rfl) T.str boot_str rfl) pa_nil))))) (pw_or (pt_cmpR op_eq (pv 0) pe_str (nomark _))
        (pw_or1 (pt_cmpR op_gt (pe_callB call_len_str (by rfl) T.len PySem.boot_len (pa_cons (pv 0) pa_nil)) (pe_glob (v := .int 12) (by rfl) m3 ⟨_, rfl⟩) (nomark _)))))) (pss_one (ps_ret pe_bl)) pss_nil)
      (pss_one (ps_ret (pe_and (pe_cmpR op_in_sign (pe_ix ix_str (pv 0) pe_int (fun _ _ => rfl)) (pe_glob (v := .str letters) (by rfl) m1 ⟨_, rfl⟩) (by rfl))
        (pe_one (pe_callB (cr_all rfl) (by rfl) T.all (by decide +kernel) (pa_cons (pe_lc (own := [("sign", 1)]) (g := gName 1) (tt := tYes) (te := tOp rInS (tVar 1) (tC (.str signs))) (by rfl) scName.nd (pi_str (pv 0)) (blkOk_by (own := [("sign", 1)]) (N := ["value", "sign"]) (sc := defScope sName) (by decide +kernel))
          (fun _ _ _ _ _ => pg_name (i := 1) scName.nd rfl (Or.inl rfl)) (fun _ _ _ _ _ => pts_nil) (fun _ _ _ _ _ => pe_cmpR op_in_sign (pv 1) (pe_glob (v := .str signs) (by rfl) m2 ⟨_, rfl⟩) (by rfl))) pa_nil)))))), ?_⟩
    refine ⟨_, rfl, v, .ty "str", _, _, _, rfl, .ty "str", ty.x, kit_str ty.mem, _, rfl, ?_⟩
    by_cases ts : t = "str"
    · obtain ⟨x, rfl⟩ := ty.isStr ts
      subst ts
      have hx := hl x rfl
      refine iteF ⟨_, rfl, rfl, _, rfl, ?_⟩
      rw [dec_empty]
      cases e : x.cps.toList with
      | nil =>
        rw [decide_eq_true rfl]
        have k0 := k H (Same.refl H)
        rw [name_nil e] at k0
        exact iteT (iteT k0)
      | cons c r =>
        rw [decide_eq_false (by simp)]
        refine iteF ⟨_, rfl, x, rfl, hx, _, _, rfl, rfl, _, rfl, ?_⟩
        rw [lenL x]
        by_cases l12 : x.cps.toList.length ≤ 12
        · rw [decide_eq_false (by omega)]
          refine iteF ?_
          have ni := name_is e l12
          refine ⟨_, rfl, x, 0, c, rfl, rfl, hx, (show atI x.cps.toList ((0 : Nat) : Int) = some c from atI_nat (by rw [e]; rfl)), c, letters, rfl, rfl, _, rfl, ?_⟩
          show if inL c = true then _ else _
          refine ite2 (fun z => ?_) (fun z => ?_)
          · refine ⟨_, rfl, x, rfl, fun D hD => lc_it walk_str (fun i H' => H' = upd H D (.lst ((x.cps.toList.take i).map fun c => .bl (inS c)))) rfl (fun _ _ _ _ => True.intro) ?_ ?_⟩
            · rintro i y H' H'' hi rfl ⟨rfl, c', hc', rfl⟩
              refine ⟨rfl, ?_⟩
              change tOp rInS (tVar 1) (tC (.str signs)) _ _ _
              refine ⟨_, rfl, c', signs, rfl, rfl, _, upd_same, ?_, ?_⟩
              · rw [List.length_map, List.length_take]
                exact Nat.lt_of_le_of_lt (Nat.min_le_right _ _) (Nat.lt_of_le_of_lt l12 (by decide))
              · rw [upd_upd]
                exact congrArg (fun z => upd H D (.lst z)) (grow hc' inS)
            · rintro H' rfl
              have ez : x.cps.size = x.cps.toList.length := by simp
              refine ⟨D, x.cps.toList.map inS, rfl, SqL.of (by rw [upd_same, ez, List.take_length, List.map_map]; rfl), ?_⟩
              have k1 := k _ (Same.upd (o := .lst ((x.cps.toList.take x.cps.size).map fun c => .bl (inS c))) hD)
              rw [ni, z, ← e] at k1
              rw [List.all_map]
              exact k1
          · have k0 := k H (Same.refl H)
            rw [ni, show inL c = false by simpa using z] at k0
            exact k0
        · rw [decide_eq_true (by omega)]
          have k0 := k H (Same.refl H)
          rw [name_long l12] at k0
          exact iteT k0
    · have z : (t == "str") = false := by simpa using ts
      rw [z]
      have k0 := k H (Same.refl H)
      have nb : nameB v = false := by cases ty <;> first | rfl | exact absurd rfl ts
      rw [nb] at k0
      exact iteT (iteT k0)
end
end K13
set_option Elab.async false
set_option linter.all false
set_option maxRecDepth 100000
set_option maxHeartbeats 8000000
namespace K13
open PySem PySem.Spec PyProof.Rows L2 Lc He
/-! ## the head -/
def dOf (x : Str) (st : Stmt) : DefD := ⟨(x, none), x, x, defArgs st, defBody st, defScope st, [], []⟩
def dMt (c m q : Str) (st : Stmt) : DefD := ⟨(c, some m), m, q, defArgs st, defBody st, defScope st, [], []⟩
def dKw (x : Str) (st : Stmt) (kw : List (Str × Dv)) : DefD := ⟨(x, none), x, x, defArgs st, defBody st, defScope st, [], kw⟩
def dDf (x : Str) (st : Stmt) (df : List Dv) : DefD := ⟨(x, none), x, x, defArgs st, defBody st, defScope st, df, []⟩
def dMd (c m q : Str) (st : Stmt) (df : List Dv) : DefD := ⟨(c, some m), m, q, defArgs st, defBody st, defScope st, df, []⟩
def fn : List DefD := [dMt "BadStep" "__init__" "BadStep.__init__" (inClass (top 2) 0), dOf "is_whole" (top 5), dOf "common_divisor" (top 6), dOf "is_rational" (top 7), dOf "is_name" (top 15), dOf "within_limit" (top 16), dOf "is_value" (top 17), dOf "kind_of" (top 23), dOf "kind_or_none" (top 24), dOf "kind_at" (top 25), dOf "has_word" (top 26), dOf "leaf_kind" (top 27), dOf "kind_of_value" (top 28), dOf "check_operands" (top 29), dOf "result_kind" (top 30), dOf "names_of" (top 32), dOf "is_between" (top 46), dOf "is_tuple_of" (top 47), dOf "kind_in" (top 48), dOf "are_columns" (top 49), dOf "bounded" (top 50), dOf "behind_keep" (top 51), dOf "behind_set" (top 52), dOf "behind_select" (top 53), dOf "behind_rename" (top 54), dOf "behind_sort" (top 55), dOf "behind_first" (top 56), dOf "behind_sample" (top 57), dOf "behind_join" (top 58), dOf "behind_union" (top 59), dOf "is_total" (top 60), dOf "behind_group" (top 61), dOf "behind_distinct" (top 62), dOf "word_of" (top 65), dOf "columns_behind" (top 66), dOf "other_of" (top 67), dOf "check_step" (top 68), dOf "is_choose" (top 69), dOf "check_choose" (top 70), dOf "is_pipeline" (top 71), dKw "check" (top 72) [("long", .bl false)], dOf "_law_tape" (top 74), dOf "_law_draw" (top 75), dOf "_law_lowest" (top 76), dOf "_law_rational" (top 77), dOf "_law_name" (top 78), dOf "_law_fresh" (top 79), dOf "_law_columns" (top 80), dOf "_law_leaf" (top 81), dOf "_law_expression" (top 82), dOf "_law_pick" (top 83), dOf "_law_set_step" (top 84), dOf "_law_sort_step" (top 85), dOf "_law_sample_step" (top 86), dOf "_law_keeping_step" (top 87), dOf "_law_meeting_step" (top 88), dOf "_law_group_step" (top 89), dOf "_law_same_step" (top 90), dOf "_law_world" (top 91), dOf "_law_any_step" (top 92), dOf "_law_piped" (top 93), dOf "_law_choose_any" (top 94), dOf "_law_checked" (top 95), dOf "law" (top 96)]
def gl : List Str := (["BadStep", "UnknownName", "BadExpression", "LENGTHS", "BEHIND", "KINDS", "OPERANDS", "PAIRED", "ARITHMETIC", "ORDERS", "FUNCTIONS", "is_whole", "common_divisor", "is_rational", "is_name", "within_limit", "is_value", "kind_of", "kind_or_none", "kind_at"] : List Str) ++ (["has_word", "leaf_kind", "kind_of_value", "check_operands", "result_kind", "names_of", "is_between", "is_tuple_of", "kind_in", "are_columns", "bounded", "behind_keep", "behind_set", "behind_select", "behind_rename", "behind_sort", "behind_first", "behind_sample", "behind_join", "behind_union"] : List Str) ++ (["is_total", "behind_group", "behind_distinct", "word_of", "columns_behind", "other_of", "check_step", "is_choose", "check_choose", "is_pipeline", "check", "_law_tape", "_law_draw", "_law_lowest", "_law_rational", "_law_name", "_law_fresh", "_law_columns", "_law_leaf", "_law_expression"] : List Str) ++ (["_law_pick", "_law_set_step", "_law_sort_step", "_law_sample_step", "_law_keeping_step", "_law_meeting_step", "_law_group_step", "_law_same_step", "_law_world", "_law_any_step", "_law_piped", "_law_choose_any", "_law_checked"] : List Str)
def loose : List Str := gl ++ (["LETTERS", "NAME_SIGNS", "LONGEST_NAME", "LIMIT", "MOST_COLUMNS", "DEEPEST", "MOST_STEPS", "MOST_LONG_STEPS", "MOST_COUNT", "MOST_WHOLE", "MOST_SEED", "MOST_KEYS", "MOST_TOTALS", "LEAST_ALTERNATIVES", "MOST_ALTERNATIVES", "MOST_INNER_STEPS"] : List Str)
def fa : List Fa := (.glo "law") :: gl.map Fa.glo ++ (btNames ++ (["sorted", "any", "set"] : List Str)).map Fa.free ++ [.str "LETTERS" letters, .str "NAME_SIGNS" signs, .int "LONGEST_NAME" 12, .int "LIMIT" lim, .int "DEEPEST" 8, .int "MOST_COLUMNS" 8, .int "MOST_STEPS" 10, .int "MOST_LONG_STEPS" 40, .int "MOST_COUNT" 1000, .int "MOST_WHOLE" 1000, .int "MOST_SEED" 1000000000, .int "MOST_KEYS" 3, .int "MOST_TOTALS" 6, .int "LEAST_ALTERNATIVES" 2, .int "MOST_ALTERNATIVES" 4, .int "MOST_INNER_STEPS" 4]
def exL (K : PySem.W.Frag) : List Bool := [oexB K (ga K "BadStep"), eqO (PySem.W.findIn K (.ref (ga K "BadStep")) "__init__") (some (some (.ref (ma K (ga K "BadStep") "__init__")))), Lc.optV (PySem.W.typeIn K (.ref (ma K (ga K "BadStep") "__init__"))) (some (.type "function")), eqO (PySem.W.findIn K (.ref (ga K "BadStep")) "index") (some none), xfB K (ga K "BadStep"), xisB K (ga K "BadStep"), optB (PySem.W.exmOne K (.ref (ga K "BadStep")) (.ref (ga K "BadStep"))) (some true), optB (PySem.W.kitOne K (.ref (ga K "BadStep")) (.type "ValueError")) (some true), optB (PySem.W.kitOne K (.ref (ga K "BadStep")) (.ref (ga K "UnknownName"))) (some false), (K.lookup PySem.sysModules).isSome, tupB K "KINDS" [.str "number", .str "word", .str "flag"], tupB K "PAIRED" [.str "same", .str "if"], tupB K "ARITHMETIC" [.str "plus", .str "minus", .str "times", .str "over"], dtB K (ga K "OPERANDS") "plus" [.str "number", .str "number"], dtB K (ga K "OPERANDS") "minus" [.str "number", .str "number"], dtB K (ga K "OPERANDS") "times" [.str "number", .str "number"], dtB K (ga K "OPERANDS") "over" [.str "number", .str "number"], dtB K (ga K "OPERANDS") "less" [.str "number", .str "number"], dtB K (ga K "OPERANDS") "same" [.non, .non], dtB K (ga K "OPERANDS") "both" [.str "flag", .str "flag"], dtB K (ga K "OPERANDS") "either" [.str "flag", .str "flag"], dtB K (ga K "OPERANDS") "not" [.str "flag"], dtB K (ga K "OPERANDS") "missing" [.non], dtB K (ga K "OPERANDS") "if" [.str "flag", .non, .non], tupB K "ORDERS" [.str "up", .str "down"], tupB K "FUNCTIONS" [.str "count", .str "sum", .str "mean", .str "median", .str "least", .str "greatest"], diB K (ga K "LENGTHS") "keep" 2, diB K (ga K "LENGTHS") "set" 3, diB K (ga K "LENGTHS") "select" 2, diB K (ga K "LENGTHS") "rename" 3, diB K (ga K "LENGTHS") "sort" 3, diB K (ga K "LENGTHS") "first" 2, diB K (ga K "LENGTHS") "sample" 4, diB K (ga K "LENGTHS") "join" 3, diB K (ga K "LENGTHS") "union" 2, diB K (ga K "LENGTHS") "distinct" 1, diB K (ga K "LENGTHS") "group" 3, dfB K (ga K "BEHIND") "keep" "behind_keep", dfB K (ga K "BEHIND") "set" "behind_set", dfB K (ga K "BEHIND") "select" "behind_select", dfB K (ga K "BEHIND") "rename" "behind_rename", dfB K (ga K "BEHIND") "sort" "behind_sort", dfB K (ga K "BEHIND") "first" "behind_first", dfB K (ga K "BEHIND") "sample" "behind_sample", dfB K (ga K "BEHIND") "join" "behind_join", dfB K (ga K "BEHIND") "union" "behind_union", dfB K (ga K "BEHIND") "distinct" "behind_distinct", dfB K (ga K "BEHIND") "group" "behind_group"]
def ex (K : PySem.W.Frag) : Bool := (exL K).all id
def ts : List Tab := [((fun K => ga K "OPERANDS"), ["plus", "minus", "times", "over", "less", "same", "both", "either", "not", "missing", "if"]), ((fun K => ga K "LENGTHS"), ["keep", "set", "select", "rename", "sort", "first", "sample", "join", "union", "group", "distinct"]), ((fun K => ga K "BEHIND"), ["keep", "set", "select", "rename", "sort", "first", "sample", "join", "union", "group", "distinct"])]
abbrev R : PySem.W.OpenRow := PySem.W.OpenLaw.row PySem.Challenge.rw_liveclaims_k13_checked_columns
abbrev hk : PySem.W.Hook := hookN true ("law" :: gl) 4 fa fn ex ts
def ob (s : PySem.W.SharedT) : AlF := obsN true ("law" :: gl) 4 fa fn ex ts (HandSHeadRun.getT s)
theorem ob_eq (s : PySem.W.SharedT) : ob s = hk.obs s.abs := obsN_eq (HandSHeadRun.getT_eq s)
theorem run_false (w : World) : HandSHeadRun.RunEq R (PySem.W.view R.prog [96]) hk ob 20000 loose (w.withFollow "special-get-raises" false) := by
  intro os
  kernel_rfl
theorem run_true (w : World) : HandSHeadRun.RunEq R (PySem.W.view R.prog [96]) hk ob 20000 loose (w.withFollow "special-get-raises" true) := by
  intro os
  kernel_rfl
theorem run (w : World) : HandSHeadRun.RunEq R (PySem.W.view R.prog [96]) hk ob 20000 loose w := PySem.W.byRow2 "special-get-raises" (P := fun w => HandSHeadRun.RunEq R (PySem.W.view R.prog [96]) hk ob 20000 loose w) run_false run_true w
end K13
set_option Elab.async false
set_option linter.all false
set_option maxRecDepth 100000
set_option maxHeartbeats 4000000
namespace K13
open PySem PySem.Spec PyProof.Rows L2 Lc
def spLNm : Sp := fun vs H Q _ => ∃ (t l : Addr), vs = [.ref t] ∧ TapeL l H t ∧ ∀ (x : Str) (H' : Hp), Sh 12 x → nameB (.str x) = true → TapeL l H' t → SameB t H H' → Q (.str x) H'
abbrev sLnm : Stmt := top 78
section
variable {P : Program} {w : World} {K : PySem.W.Frag} {mg : Str → Option Value} {base : Heap} {f fD : Addr} {fd fdD : FuncData}
theorem scLnm : FnScope ["_law_tape_here", "_law_letters", "_law_size", "_law_place", "_law_sign", "_law_k"] ["_law_tape_here"] (defScope sLnm) := ⟨rfl, rfl, rfl, by decide +kernel, rfl, by decide +kernel, by decide +kernel⟩
theorem ok_lnm (F : Fun K "_law_name" "_law_name" sLnm f fd) (T : Bt mg) (GD : FnOk P w K mg base CX0 1 fD fdD ["_law_tape_here", "_law_many"] spDrawL) (mD : mg "_law_draw" = some (.ref fD)) (kD : PySem.W.keepIn K (.ref fD) = true) (bD : Binds K fdD ["_law_tape_here", "_law_many"] []) :
    FnOk P w K mg base CX0 2 f fd ["_law_tape_here"] spLNm := by
  refine F.ok scLnm (fun vs H Q E h => ?_) (fun cdv A outer s H vs Q E hr h => ?_)
  · obtain ⟨t, l, rfl, _⟩ := h
    rfl
  · obtain ⟨t, l, rfl, hT, k⟩ := h
    replace hT : TapeL l H t := hT
    refine ⟨_, pss_cons (ps_set (i := 1) scLnm.nd rfl (Or.inr rfl) pe_str)
      (pss_cons (ps_set (i := 2) scLnm.nd rfl (Or.inl rfl) (pe_op op_add pe_int (pe_call GD hr (by rfl) mD kD bD .nil pass0 (pa_cons (pv 0) (pa_cons pe_int pa_nil)))))
      (pss_cons (ps_if (pt_cmpR op_eq (pe_call GD hr (by rfl) mD kD bD .nil pass0 (pa_cons (pv 0) (pa_cons pe_int pa_nil))) pe_int (nomark _))
        (pss_cons (ps_set (i := 3) scLnm.nd rfl (Or.inl rfl) (pe_call GD hr (by rfl) mD kD bD .nil pass0 (pa_cons (pv 0) (pa_cons (pv 2) pa_nil))))
        (pss_cons (ps_set (i := 4) scLnm.nd rfl (Or.inl rfl) (pe_ix ix_str (pv 1) (pe_call GD hr (by rfl) mD kD bD .nil pass0 (pa_cons (pv 0) (pa_cons (pe_op op_add pe_int (pe_op op_mul pe_int (pe_callTy call_int1 (by rfl) T.int boot_int (pa_cons (pe_cmpR op_gt (pv 3) pe_int (nomark _)) pa_nil)))) pa_nil))) (fun _ _ => rfl)))
        (pss_one (ps_ret (pe_op op_add_str (pe_op op_add_str (pe_op op_mulS pe_str (pv 3)) (pv 4)) (pe_op op_mulS pe_str (pe_op op_sub (pe_op op_sub (pv 2) pe_int) (pv 3)))))))) pss_nil)
      (pss_one (ps_ret (pe_join pe_str (pe_lc (own := [("_law_k", 5)]) (g := gName 5) (tt := tYes) (te := tOp rIxS (tVar 1) (tCall spDrawL [] E0 (tCons (tVar 0) (tCons (tOp (rI0 fun i j => .int (i + j)) (tC (.int 26)) (tOp (rI CMul fun i j => .int (i * j)) (tC (.int 10)) (tCB (fun xs H Q => (∃ i, xs = [.int i] ∧ Q (.int i) H) ∨ ∃ k, xs = [.bl k] ∧ Q (.int (if k then 1 else 0)) H) (tCons (tOp (rI0 fun i j => .bl (decide (j < i))) (tVar 5) (tC (.int 0))) tNil)))) tNil)))) (by rfl) scLnm.nd (pi_range1 (by rfl) T.range (pa_cons (pv 2) pa_nil))
        (blkOk_by (own := [("_law_k", 5)]) (N := ["_law_tape_here", "_law_letters", "_law_size", "_law_place", "_law_sign", "_law_k"]) (sc := defScope sLnm) (by decide +kernel)) (fun _ _ _ _ _ => pg_name (i := 5) scLnm.nd rfl (Or.inl rfl)) (fun _ _ _ _ _ => pts_nil)
        (fun _ _ _ _ _ => pe_ix ix_str (pv 1) (pe_call GD hr (by rfl) mD kD bD .nil pass0 (pa_cons (pv 0) (pa_cons (pe_op op_add pe_int (pe_op op_mul pe_int (pe_callTy call_int1 (by rfl) T.int boot_int (pa_cons (pe_cmpR op_gt (pv 5) pe_int (nomark _)) pa_nil)))) pa_nil))) (fun _ _ => rfl)))))))), ?_⟩
    have big : ∀ z : Int, 0 ≤ z → z ≤ 1000 → z.natAbs < 2 ^ 4000 := fun z h1 h2 => big1000 h1 h2
    have sl : (signs.cps.toList.length : Int) = 36 := by rw [signs_len]; rfl
    have sz : signs.length ≤ sizeLine := by rw [lenL, signs_len]; decide
    refine ⟨_, rfl, t, l, _, rfl, hT, by decide, big _ (by decide) (by decide), fun k1 H1 u1 v1 T1 S1 => ⟨_, _, rfl, rfl, ?_⟩⟩
    refine ⟨_, rfl, t, l, _, rfl, T1, by decide, big _ (by decide) (by decide), fun k2 H2 u2 v2 T2 S2 => ⟨rfl, _, rfl, ?_⟩⟩
    refine ite2 (fun _ => ?_) (fun _ => ?_)
    · refine ⟨_, rfl, _, rfl, t, l, _, rfl, T2, by omega, big _ (by omega) (by omega), fun k3 H3 u3 v3 T3 S3 => ?_⟩
      refine ⟨_, rfl, _, rfl, _, rfl, _, _, rfl, rfl, .inr ⟨_, rfl, _, _, rfl, rfl, .inl ⟨by decide, by decide⟩, _, _, rfl, rfl, t, l, _, rfl, T3, by split <;> decide, big _ (by split <;> decide) (by split <;> decide), fun k4 H4 u4 v4 T4 S4 => ?_⟩⟩
      obtain ⟨c, hc, mc, isc, ilc⟩ := sgn_at (i := k4) u4 (by split at v4 <;> omega)
      refine ⟨signs, k4, c, rfl, rfl, sz, hc, ?_⟩
      have m1 : Sh k3.toNat (Txt.mul (PySem.Str.ofString "a") k3) := sh_mul sh_a (Nat.le_refl _) (Nat.le_refl _)
      have m2 : Sh 1 (⟨#[c]⟩ : Str) := sh_one (signs_ok c mc)
      have m3 : Sh (1 + k1 - 1 - k3).toNat (Txt.mul (PySem.Str.ofString "a") (1 + k1 - 1 - k3)) := sh_mul sh_a (Nat.le_refl _) (Nat.le_refl _)
      have ss : (100 : Nat) ≤ sizeLine := by decide
      refine ⟨_, rfl, _, _, rfl, rfl, mul_ok a_size (by omega) (by omega), _, rfl, _, _, rfl, rfl, ?_, _, rfl, _, _, rfl, rfl, _, rfl, _, _, rfl, rfl, _, _, rfl, rfl, mul_ok a_size (by omega) (by omega), _, _, rfl, rfl, ?_, ?_⟩
      · have := sh_len m1
        have := sh_len m2
        omega
      · have := sh_len (sh_app m1 m2)
        have := sh_len m3
        omega
      · exact k _ _ ((sh_app (sh_app m1 m2) m3).mono (by omega)) (name_one u3 (by omega) (by omega) isc (fun z => ilc (by rw [z] at v4; simpa using v4))) T4 (((S1.trans S2).trans S3).trans S4)
    · refine ⟨⟨_, rfl⟩, _, rfl, _, rfl, by omega, by omega, fun D hD => ?_⟩
      have nD : D ≠ t := T2.tape.ne hD
      have nL : D ≠ l := by
        obtain ⟨xs, z⟩ := T2.list
        exact Ne.symm (ne_of_none z hD)
      let one : Nat → Str := fun c => ⟨#[c]⟩
      refine lc_it walk_range (fun i H' => ∃ cs : List Nat, H' D = some (.lst ((cs.map one).map V.str)) ∧ cs.length = i ∧ (∀ c ∈ cs, c ∈ signs.cps.toList ∧ inS c = true) ∧ (∀ c r, cs = c :: r → inL c = true) ∧ TapeL l H' t ∧ SameB t H2 H') ⟨[], upd_same, rfl, by simp, nofun, T2.same (Same.upd hD), Same.b t (Same.upd hD)⟩ (fun _ _ _ _ => True.intro) ?_ ?_
      · rintro i y H' H'' hi ⟨cs, h1, h2, h3, h3b, h4, h5⟩ ⟨rfl, rfl⟩
        refine ⟨rfl, ?_⟩
        change tOp rIxS (tVar 1) _ _ _ _
        refine ⟨_, rfl, _, rfl, _, rfl, _, _, rfl, rfl, .inr ⟨_, rfl, _, _, rfl, rfl, .inl ⟨by decide, by decide⟩, _, _, rfl, rfl, t, l, _, rfl, h4, by split <;> decide, big _ (by split <;> decide) (by split <;> decide), fun k4 H4 u4 v4 T4 S4 => ?_⟩⟩
        obtain ⟨c, hc, mc, isc, ilc⟩ := sgn_at (i := k4) u4 (by split at v4 <;> omega)
        refine ⟨signs, k4, c, rfl, rfl, sz, hc, _, S4 _ _ nD h1, by rw [List.length_map, List.length_map, h2]; exact Nat.lt_trans hi (Nat.lt_of_le_of_lt (show (1 + k1).toNat ≤ 12 by omega) (by decide)), ?_⟩
        refine ⟨cs ++ [c], by rw [upd_same, List.map_append, List.map_append]; rfl, by rw [List.length_append, h2]; rfl, fun y hy => ?_, fun c' r' e => ?_, T4.upd nD nL, fun b o n e => ?_⟩
        · rcases List.mem_append.mp hy with hy | hy
          · exact h3 y hy
          · rw [List.mem_singleton.mp hy]
            exact ⟨mc, isc⟩
        · cases cs with
          | nil =>
            have e : c = c' := by injection e
            rw [← e]
            have i0 : i = 0 := by rw [← h2]; rfl
            subst i0
            exact ilc (by simpa using v4)
          | cons d r =>
            injection e with e _
            rw [← e]
            exact h3b d r rfl
        · rw [upd_ne (ne_of_none e hD)]
          exact (h5.trans S4) b o n e
      · rintro H' ⟨cs, h1, h2, h3, h3b, h4, h5⟩
        have e12 : cs.length ≤ 12 := by omega
        have s1 : ∀ y ∈ cs.map one, Sh 1 y := fun y hy => by
          obtain ⟨c, hc, rfl⟩ := List.mem_map.mp hy
          exact sh_one (signs_ok c (h3 c hc).1)
        have sum : ∀ l : List Str, (∀ y ∈ l, Sh 1 y) → (l.map (·.length)).sum ≤ l.length := by
          intro l
          induction l with
          | nil => intro _; simp
          | cons y l ih =>
            intro h
            have := ih fun z hz => h z (List.mem_cons_of_mem _ hz)
            have := sh_len (h y List.mem_cons_self)
            simp only [List.map_cons, List.sum_cons, List.length_cons]
            omega
        have lm : (cs.map one).length = cs.length := List.length_map ..
        refine ⟨_, D, cs.map one, rfl, rfl, .inl (SqL.of h1), by have := sum _ s1; show _ + (cs.map one).length * 0 ≤ _; omega, ?_⟩
        exact k _ _ ((join_sh _ s1).mono (by omega)) (name_join (fun z => by rw [z] at h2; have : (0 : Nat) = (1 + k1).toNat := h2; omega) e12 h3b (fun c hc => (h3 c hc).2)) h4 ((S1.trans S2).trans h5)
end
end K13
set_option Elab.async false
set_option linter.all false
set_option maxRecDepth 100000
set_option maxHeartbeats 4000000
namespace K13
open PySem PySem.Spec PyProof.Rows L2 Lc
abbrev sFr : Stmt := top 79
def spFr : Sp := fun vs H Q _ => ∃ (t c l : Addr) (ss : List Str), vs = [.ref t, .ref l] ∧ TapeL c H t ∧ H l = some (.lst (ss.map V.str)) ∧ ss.length < 36 ∧ ∀ (x : Str) (H' : Hp), Sh 12 x → nameB (.str x) = true → x ∉ ss → TapeL c H' t → SameB t H H' → Q (.str x) H'
theorem ne_tape {H : Hp} {t l : Addr} {ss : List Str} (T : Tape H t) (h : H l = some (.lst (ss.map V.str))) : l ≠ t := fun z => by
  obtain ⟨a, _, _, _, _, ht, _⟩ := T
  rw [z, ht] at h
  cases ss with
  | nil => cases h
  | cons x r =>
    injection h with h
    injection h with h
    injection h with h1 _
    cases h1
section
variable {P : Program} {w : World} {K : PySem.W.Frag} {mg : Str → Option Value} {base : Heap} {f fN : Addr} {fd fdN : FuncData}
theorem scFr : FnScope ["_law_tape_here", "_law_taken", "_law_name_here", "_law_letter"] ["_law_tape_here", "_law_taken"] (defScope sFr) := ⟨rfl, rfl, rfl, by decide +kernel, rfl, by decide +kernel, by decide +kernel⟩
theorem ok_fr (F : Fun K "_law_fresh" "_law_fresh" sFr f fd) (GN : FnOk P w K mg base CX0 2 fN fdN ["_law_tape_here"] spLNm) (mN : mg "_law_name" = some (.ref fN)) (kN : PySem.W.keepIn K (.ref fN) = true) (bN : Binds K fdN ["_law_tape_here"] []) :
    FnOk P w K mg base CX0 3 f fd ["_law_tape_here", "_law_taken"] spFr := by
  refine F.ok scFr (fun vs H Q E h => ?_) (fun cdv A outer s H vs Q E hr h => ?_)
  · obtain ⟨t, c, l, ss, rfl, _⟩ := h
    rfl
  · obtain ⟨t, tl, l, ss, rfl, hT, hl, l36, k⟩ := h
    refine ⟨_, pss_cons (ps_set (i := 2) scFr.nd rfl (Or.inl rfl) (pe_call GN hr (by rfl) mN kN bN .nil pass0 (pa_cons (pv 0) pa_nil)))
      (pss_cons (ps_if (pt_cmpR op_notIn_seq (pv 2) (pv 1) (by rfl)) (pss_one (ps_ret (pv 2))) pss_nil)
      (pss_cons (ps_for PassesOwn.never rfl (pi_str pe_str) (pg_name (i := 3) scFr.nd rfl (Or.inl rfl))
        (pss_one (ps_if (pt_cmpR op_notIn_seq (pe_op op_add_str (pe_slice sl_str (pv 2) po_none (po_some pe_int)) (pv 3)) (pv 1) (by rfl)) (pss_one (ps_ret (pe_op op_add_str (pe_slice sl_str (pv 2) po_none (po_some pe_int)) (pv 3)))) pss_nil)))
      (pss_one (ps_ret (pv 2))))), ?_⟩
    refine ⟨_, rfl, t, tl, rfl, hT, fun x H1 hx nx T1 S1 => ?_⟩
    have hl1 := S1 _ _ (ne_tape hT.tape hl) hl
    have fl : (ss.map V.str).all flatV = true := by simp [flatV]
    have ln := hx.line (by decide)
    refine ⟨_, rfl, _, rfl, l, _, rfl, .inl (SqL.of hl1), rfl, fl, _, rfl, ite2 (fun y => ?_) (fun y => ?_)⟩
    · refine ⟨_, rfl, k x H1 hx nx (fun m => ?_) T1 S1⟩
      rw [if_pos rfl, in_strs, decide_eq_true m] at y
      cases y
    · refine ⟨_, rfl, for_it walk_str (fun i σ H' => (∃ x3 : Option V, σ = [some (.ref t), some (.ref l), some (.str x), x3]) ∧ H' = H1 ∧ ∀ (j : Nat) (c : Nat), j < i → signs.cps[j]? = some c → cutS x none (some 11) ++ (⟨#[c]⟩ : Str) ∈ ss) ⟨⟨_, rfl⟩, rfl, fun j c h => absurd h (Nat.not_lt_zero _)⟩ (fun _ _ _ _ _ => trivial) ?_ ?_⟩
      · rintro i v σ Ha Hb hi ⟨⟨x3, rfl⟩, rfl, all⟩ ⟨rfl, c, hc, rfl⟩
        have hc : signs.cps[i]? = some c := hc
        have mc : c ∈ signs.cps.toList := Array.mem_toList_iff.mpr (Array.mem_of_getElem? hc)
        have isc : inS c = true := decide_eq_true mc
        have cs : c < 1114112 := signs_ok c mc
        have sc : Sh 11 (cutS x none (some 11)) := ⟨by rw [cut_list, List.length_take]; omega, (sh_cut none (some 11) hx).ok⟩
        have so : Sh 1 (⟨#[c]⟩ : Str) := sh_one cs
        have lt : (cutS x none (some 11)).length + (⟨#[c]⟩ : Str).length ≤ sizeLine := Nat.le_trans (Nat.add_le_add (sh_len sc) (sh_len so)) (by decide)
        refine ⟨_, rfl, 11, rfl, x, rfl, ln, _, rfl, _, _, rfl, rfl, lt, _, rfl, l, _, rfl, .inl (SqL.of hl1), rfl, fl, _, rfl, ite2 (fun y => ?_) (fun y => ?_)⟩
        · refine ⟨_, rfl, 11, rfl, x, rfl, ln, _, rfl, _, _, rfl, rfl, lt, k _ _ (sh_app sc so) (name_cut nx isc) (fun m => ?_) T1 S1⟩
          rw [if_pos rfl, in_strs, decide_eq_true m] at y
          cases y
        · refine ⟨⟨_, rfl⟩, rfl, fun j c' hj hc' => ?_⟩
          by_cases e : j = i
          · subst e
            rw [hc] at hc'
            cases hc'
            rw [if_pos rfl, in_strs] at y
            exact of_decide_eq_true (by simpa using y)
          · exact all j c' (by omega) hc'
      · rintro σ H' ⟨⟨x3, rfl⟩, rfl, all⟩
        refine (free_letter (x := x) l36 fun c mc => ?_).elim
        obtain ⟨j, hj⟩ := List.mem_iff_getElem?.mp mc
        rw [Array.getElem?_toList] at hj
        exact all j c (Array.getElem?_eq_some_iff.mp hj).1 hj
end
theorem Same.gone {H H' : Hp} {p : Addr} (s : Same H H') (e : H' p = none) : H p = none := by
  cases q : H p with
  | none => rfl
  | some o => rw [s p o q] at e; cases e
abbrev sCls : Stmt := top 80
/-! ## columns: pairs of texts -/
inductive Cols (H : Hp) : List V → List (Str × Str) → Prop
  | nil : Cols H [] []
  | cons {a : Addr} {z k : Str} {xs : List V} {ps : List (Str × Str)} (e : H a = some (.tup [.str z, .str k])) (r : Cols H xs ps) : Cols H (.ref a :: xs) ((z, k) :: ps)
theorem Cols.t {H H' : Hp} (s : SameT H H') : ∀ {xs : List V} {ps : List (Str × Str)}, Cols H xs ps → Cols H' xs ps
  | _, _, .nil => .nil
  | _, _, .cons e r => .cons (s _ _ e) (Cols.t s r)
theorem Cols.app {H : Hp} : ∀ {xs ys : List V} {ps qs : List (Str × Str)}, Cols H xs ps → Cols H ys qs → Cols H (xs ++ ys) (ps ++ qs)
  | _, _, _, _, .nil, r => r
  | _, _, _, _, .cons e h, r => .cons e (Cols.app h r)
theorem Cols.len {H : Hp} : ∀ {xs : List V} {ps : List (Str × Str)}, Cols H xs ps → xs.length = ps.length
  | _, _, .nil => rfl
  | _, _, .cons _ r => by rw [List.length_cons, List.length_cons, Cols.len r]
def colP (p : Str × Str) : PyData := .tuple [.str p.1, .str p.2]
theorem Cols.dh {H : Hp} : ∀ {xs : List V} {ps : List (Str × Str)}, Cols H xs ps → DhAll H xs (ps.map colP)
  | _, _, .nil => .nil
  | _, _, .cons e r => .cons (.tup e (.cons (.str _) (.cons (.str _) .nil))) (Cols.dh r)
def KindS (k : Str) : Prop := k = "number" ∨ k = "word" ∨ k = "flag"
theorem KindS.sh {k : Str} (h : KindS k) : Sh 100 k := by
  rcases h with rfl | rfl | rfl <;> exact ⟨by decide +kernel, by decide +kernel⟩
def spCls : Sp := fun vs H Q _ => ∃ (t c l n : Addr) (m : Int) (lead tk : List Str), vs = [.ref t, .ref l, .int m, .ref n] ∧ TapeL c H t ∧ LT H l (lead.map V.str) ∧ LT H n (tk.map V.str) ∧ tk.length ≤ 8 ∧ 0 ≤ m ∧ m ≤ 7 ∧ lead.length + m.toNat ≤ 8 ∧ (∀ k ∈ lead, KindS k) ∧
  ∀ (r : Addr) (xs : List V) (ps : List (Str × Str)) (H' : Hp), ZT H' r xs → Cols H' xs ps → (∀ p ∈ ps, Sh 12 p.1 ∧ nameB (.str p.1) = true ∧ KindS p.2) → (ps.map (·.1)).Nodup → (∀ p ∈ ps, p.1 ∉ tk) → lead.length ≤ ps.length → ps.length ≤ lead.length + m.toNat → TapeL c H' t → SameB t H H' → Q (.ref r) H'
section
variable {P : Program} {w : World} {K : PySem.W.Frag} {mg : Str → Option Value} {base : Heap} {f fD fF : Addr} {fd fdD fdF : FuncData}
theorem scCls : FnScope ["_law_tape_here", "_law_lead", "_law_many", "_law_taken", "_law_names", "_law_columns_here", "_law_kinds", "_law_k", "_law_kind"] ["_law_tape_here", "_law_lead", "_law_many", "_law_taken"] (defScope sCls) := ⟨rfl, rfl, rfl, by decide +kernel, rfl, by decide +kernel, by decide +kernel⟩
theorem ok_cls (F : Fun K "_law_columns" "_law_columns" sCls f fd) (T : Bt mg) (GD : FnOk P w K mg base CX0 1 fD fdD ["_law_tape_here", "_law_many"] spDrawL) (mD : mg "_law_draw" = some (.ref fD)) (kD : PySem.W.keepIn K (.ref fD) = true) (bD : Binds K fdD ["_law_tape_here", "_law_many"] [])
    (GF : FnOk P w K mg base CX0 3 fF fdF ["_law_tape_here", "_law_taken"] spFr) (mF : mg "_law_fresh" = some (.ref fF)) (kF : PySem.W.keepIn K (.ref fF) = true) (bF : Binds K fdF ["_law_tape_here", "_law_taken"] []) :
    FnOk P w K mg base CX0 4 f fd ["_law_tape_here", "_law_lead", "_law_many", "_law_taken"] spCls := by
  refine F.ok scCls (fun vs H Q E h => ?_) (fun cdv A outer s H vs Q E hr h => ?_)
  · obtain ⟨t, c, l, n, m, lead, tk, rfl, _⟩ := h
    rfl
  · obtain ⟨t, c, l, n, m, lead, tk, rfl, hT, hl, hn, tk8, m0, m7, ld8, hkl, k⟩ := h
    have hr1 : Room 1 _ := hr.mono (by decide)
    refine ⟨_, pss_cons (ps_set (i := 4) scCls.nd rfl (Or.inl rfl) (pe_callTy call_list_of (by rfl) T.list boot_list (pa_cons (pv 3) pa_nil)))
      (pss_cons (ps_set (i := 5) scCls.nd rfl (Or.inl rfl) (pe_lst pa_nil))
      (pss_cons (ps_set (i := 6) scCls.nd rfl (Or.inl rfl) (pe_callTy call_list_of (by rfl) T.list boot_list (pa_cons (pv 1) pa_nil)))
      (Evl.pss_cut (ps_for PassesOwn.never rfl (pi_range1 (by rfl) T.range (pa_cons (pe_call GD hr1 (by rfl) mD kD bD .nil pass0 (pa_cons (pv 0) (pa_cons (pe_op op_add (pv 2) pe_int) pa_nil))) pa_nil)) (pg_name (i := 7) scCls.nd rfl (Or.inl rfl))
        (pss_one (ps_expr (pe_bm PySem.F.plainAttrs_list PySem.F.slot_list_append PySem.F.type_list_append mt_append (pv 6) (pa_cons (pe_ix ix_list (pe_lst (pa_cons pe_str (pa_cons pe_str (pa_cons pe_str pa_nil)))) (pe_call GD hr1 (by rfl) mD kD bD .nil pass0 (pa_cons (pv 0) (pa_cons pe_int pa_nil))) (fun _ _ => rfl)) pa_nil)))))
      (pss_cons (ps_for PassesOwn.never rfl (pi_list (pv 6)) (pg_name (i := 8) scCls.nd rfl (Or.inl rfl))
        (pss_cons (ps_expr (pe_bm PySem.F.plainAttrs_list PySem.F.slot_list_append PySem.F.type_list_append mt_append (pv 4) (pa_cons (pe_call GF hr (by rfl) mF kF bF .nil pass0 (pa_cons (pv 0) (pa_cons (pv 4) pa_nil))) pa_nil)))
        (pss_one (ps_expr (pe_bm PySem.F.plainAttrs_list PySem.F.slot_list_append PySem.F.type_list_append mt_append (pv 5) (pa_cons (pe_tup (pa_cons (pe_ix ix_list (pv 4) (pe_un un_neg pe_int) (fun _ _ => rfl)) (pa_cons (pv 8) pa_nil))) pa_nil))))))
      (pss_one (ps_ret (pe_callTy call_tupleZ (by rfl) T.tuple boot_tuple (pa_cons (pv 5) pa_nil)))))))), ?_⟩
    refine ⟨_, rfl, n, _, rfl, hn.sq, fun L hL => ⟨by show 0 ≤ sizeLine; decide, fun M hM => ?_⟩⟩
    have yL := Same.upd (o := .lst (tk.map V.str)) hL
    have yM := Same.upd (o := .lst []) hM
    refine ⟨_, rfl, l, _, rfl, (hl.same (yL.trans yM)).sq, fun N hN => ?_⟩
    have yN := Same.upd (o := .lst (lead.map V.str)) hN
    have nLt := hT.tape.ne hL
    have nMt := (hT.same yL).tape.ne hM
    have nNt := (hT.same (yL.trans yM)).tape.ne hN
    obtain ⟨ys, hc⟩ := hT.list
    have nLc : L ≠ c := Ne.symm (ne_of_none hc hL)
    have nMc : M ≠ c := Ne.symm (ne_of_none (yL _ _ hc) hM)
    have nNc : N ≠ c := Ne.symm (ne_of_none ((yL.trans yM) _ _ hc) hN)
    have eL : upd H L (.lst (tk.map V.str)) L = some (.lst (tk.map V.str)) := upd_same
    have nML : L ≠ M := ne_of_none eL hM
    have nNL : L ≠ N := ne_of_none (yM _ _ eL) hN
    have nNM : M ≠ N := ne_of_none (show upd (upd H L (.lst (tk.map V.str))) M (.lst []) M = some (.lst []) from upd_same) hN
    have hL3 := (yM.trans yN) _ _ eL
    have hM3 := yN _ _ (show upd (upd H L (.lst (tk.map V.str))) M (.lst []) M = some (.lst []) from upd_same)
    have hN3 : upd (upd (upd H L (.lst (tk.map V.str))) M (.lst [])) N (.lst (lead.map V.str)) N = some (.lst (lead.map V.str)) := upd_same
    have s3 := yL.trans (yM.trans yN)
    have gM := Same.gone yL hM
    have gN := Same.gone (yL.trans yM) hN
    have hT3 := hT.same s3
    generalize upd (upd (upd H L (.lst (tk.map V.str))) M (.lst [])) N (.lst (lead.map V.str)) = H3 at hL3 hM3 hN3 s3 hT3 yN ⊢
    clear yN yM yL eL
    have o3 : 3 ≤ sizeLine := by decide
    let Md : Option V → Option V → List Str → L2.St → Hp → Prop := fun x7 x8 ks σ H' => σ = [some (.ref t), some (.ref l), some (.int m), some (.ref n), some (.ref L), some (.ref M), some (.ref N), x7, x8] ∧ H' N = some (.lst (ks.map V.str)) ∧ (∀ k ∈ ks, KindS k) ∧ TapeL c H' t ∧ SameB t H H'
    refine ⟨fun σ H' => ∃ x7 ks, Md x7 none ks σ H' ∧ H' L = some (.lst (tk.map V.str)) ∧ H' M = some (.lst []) ∧ lead.length ≤ ks.length ∧ ks.length ≤ lead.length + m.toNat, ?_, ?_⟩
    · refine ⟨_, rfl, _, rfl, _, _, rfl, rfl, t, c, _, rfl, hT3, by omega, big1000 (by omega) (by omega), fun k2 H4 u2 w2 T4 S4 => ⟨k2, rfl, by omega, by omega, for_range (n := k2.toNat) (fun i σ H' => ∃ x7 ks, Md x7 none ks σ H' ∧ H' L = some (.lst (tk.map V.str)) ∧ H' M = some (.lst []) ∧ ks.length = i + lead.length)
        ⟨_, lead, ⟨rfl, S4 _ _ nNt hN3, hkl, T4, (Same.b t s3).trans S4⟩, S4 _ _ nLt hL3, S4 _ _ nMt hM3, (Nat.zero_add _).symm⟩ ?_ ?_⟩⟩
      · rintro i σ H5 hi ⟨x7, ks, ⟨rfl, hN5, hk5, T5, S5⟩, hL5, hM5, e5⟩
        refine ⟨_, rfl, .inl ⟨rfl, _, SqL.of hN5⟩, o3, fun q hq => ?_⟩
        have zq := Same.upd (o := .lst [.str "number", .str "word", .str "flag"]) hq
        have nq := T5.tape.ne hq
        refine ⟨_, rfl, t, c, _, rfl, T5.same zq, by decide, big1000 (by decide) (by decide), fun k3 H6 u3 w3 T6 S6 => ?_⟩
        obtain ⟨kk, hkk, skk⟩ : ∃ kk : Str, ([.str "number", .str "word", .str "flag"] : List V)[k3.toNat]? = some (.str kk) ∧ KindS kk := by
          have : k3.toNat = 0 ∨ k3.toNat = 1 ∨ k3.toNat = 2 := by omega
          rcases this with e | e | e <;> rw [e]
          · exact ⟨_, rfl, .inl rfl⟩
          · exact ⟨_, rfl, .inr (.inl rfl)⟩
          · exact ⟨_, rfl, .inr (.inr rfl)⟩
        have S7 : SameB t H5 H6 := (Same.b t zq).trans S6
        have hN6 := S7 _ _ nNt hN5
        refine ⟨q, _, _, _, rfl, rfl, SqL.of (S6 _ _ nq upd_same), at_of (j := k3.toNat) (by omega) hkk, N, _, _, rfl, rfl, hN6, ?_, ?_⟩
        · rw [List.length_map, e5]
          exact Nat.lt_of_le_of_lt (show i + lead.length ≤ 8 by omega) (by decide)
        · refine ⟨_, ks ++ [kk], ⟨rfl, by rw [upd_same, List.map_append]; rfl, fun k hk => ?_, T6.upd nNt nNc, fun b o n e => ?_⟩, by rw [upd_ne nNL]; exact S7 _ _ nLt hL5, by rw [upd_ne nNM]; exact S7 _ _ nMt hM5, by rw [List.length_append, e5, List.length_singleton]; omega⟩
          · rcases List.mem_append.mp hk with hk | hk
            · exact hk5 k hk
            · rw [List.mem_singleton.mp hk]; exact skk
          · rw [upd_ne (fun z => by rw [z, gN] at e; cases e)]
            exact (S5.trans S7) b o n e
      · rintro σ H5 ⟨x7, ks, h5, hL5, hM5, e5⟩
        exact ⟨x7, ks, h5, hL5, hM5, by omega, by omega⟩
    · rintro σ H5 ⟨x7, ks, ⟨rfl, hN5, hk5, T5, S5⟩, hL5, hM5, e5, e6⟩
      refine ⟨_, rfl, N, rfl, ⟨_, SqL.of hN5⟩, for_list (K := K) (a := N) (xs := ks.map V.str) (fun i σ H' => ∃ (x8 : Option V) (ns : List Str) (xs : List V) (ps : List (Str × Str)), Md x7 x8 ks σ H' ∧ H' L = some (.lst ((tk ++ ns).map V.str)) ∧ H' M = some (.lst xs) ∧ Cols H' xs ps ∧ (∀ p ∈ ps, Sh 12 p.1 ∧ nameB (.str p.1) = true ∧ KindS p.2) ∧ ns.length = i ∧ ps.length = i ∧ ps.map (·.1) = ns ∧ ns.Nodup ∧ ∀ x ∈ ns, x ∉ tk)
        ⟨_, [], [], [], ⟨rfl, hN5, hk5, T5, S5⟩, by rw [List.append_nil]; exact hL5, hM5, .nil, nofun, rfl, rfl, rfl, List.nodup_nil, nofun⟩ (fun i σ H' _ p => by obtain ⟨_, _, _, _, ⟨_, z, _⟩, _⟩ := p; exact SqL.of z) ?_ ?_⟩
      · rintro i x σ H6 hx ⟨x8, ns, xs, ps, ⟨rfl, hN6, _, T6, S6⟩, hL6, hM6, hc6, hp6, e7, e8, en, nd, ntk⟩
        obtain ⟨kk, hkk, rfl⟩ : ∃ kk, ks[i]? = some kk ∧ V.str kk = x := by
          rw [List.getElem?_map] at hx
          cases q : ks[i]? with
          | none => rw [q] at hx; cases hx
          | some kk => rw [q] at hx; exact ⟨kk, rfl, Option.some.inj hx⟩
        have hi8 : i < 8 := Nat.lt_of_lt_of_le (List.getElem?_eq_some_iff.mp hkk).1 (show ks.length ≤ 8 by omega)
        have skk := hk5 kk (List.mem_of_getElem? hkk)
        have lim : ∀ {m : Nat}, m ≤ 8 → m < sizeLine := fun h => Nat.lt_of_le_of_lt h (by decide)
        refine ⟨_, rfl, .inl ⟨rfl, _, SqL.of hL6⟩, _, rfl, _, rfl, t, c, L, tk ++ ns, rfl, T6, hL6, by rw [List.length_append]; omega, fun z H7 hz nz fz T7 S7 => ?_⟩
        have hL7 := S7 _ _ nLt hL6
        have hM7 := S7 _ _ nMt hM6
        have hN7 := S7 _ _ nNt hN6
        have hc7 := hc6.t (SameT.b T6.tape S7)
        refine ⟨L, _, _, rfl, rfl, hL7, by rw [List.length_map, List.length_append, e7]; exact Nat.lt_of_le_of_lt (show _ ≤ 16 by omega) (by decide), ?_⟩
        have hc8 := hc7.t (SameT.lst (o := .lst ((tk ++ ns).map V.str ++ [.str z])) hL7)
        have T8 := T7.upd (o := .lst ((tk ++ ns).map V.str ++ [.str z])) nLt nLc
        have hL8 : upd H7 L (.lst ((tk ++ ns).map V.str ++ [.str z])) L = some (.lst ((tk ++ ns).map V.str ++ [.str z])) := upd_same
        have hM8 : upd H7 L (.lst ((tk ++ ns).map V.str ++ [.str z])) M = some (.lst xs) := by rw [upd_ne (Ne.symm nML)]; exact hM7
        have hN8 : upd H7 L (.lst ((tk ++ ns).map V.str ++ [.str z])) N = some (.lst (ks.map V.str)) := by rw [upd_ne (Ne.symm nNL)]; exact hN7
        have S8 : SameB t H (upd H7 L (.lst ((tk ++ ns).map V.str ++ [.str z]))) := fun b o n e => by
          rw [upd_ne (fun z => by rw [z, hL] at e; cases e)]
          exact (S6.trans S7) b o n e
        generalize upd H7 L (.lst ((tk ++ ns).map V.str ++ [.str z])) = H8 at hc8 T8 hL8 hM8 hN8 S8 ⊢
        refine ⟨_, rfl, .inl ⟨rfl, _, SqL.of hM8⟩, _, rfl, _, rfl, L, _, _, _, rfl, rfl, SqL.of hL8, (show atI ((tk ++ ns).map V.str ++ [.str z]) (-1) = some (.str z) from ?_), _, rfl, by show 2 ≤ sizeLine; decide, fun q hq => ?_⟩
        · unfold atI
          rw [show ixN ((tk ++ ns).map V.str ++ [V.str z]).length (-1) = some (tk ++ ns).length from ?_]
          · simp
          · have hl : ((tk ++ ns).map V.str ++ [V.str z]).length = (tk ++ ns).length + 1 := by rw [List.length_append, List.length_map]; rfl
            unfold ixN
            rw [hl, if_neg (by decide), if_pos (by omega)]
            exact congrArg some (by omega)
        have zq := Same.upd (o := .tup [.str z, .str kk]) hq
        have hM9 := zq _ _ hM8
        have lx := hc6.len
        refine ⟨M, _, _, rfl, rfl, hM9, lim (by omega), ?_⟩
        refine ⟨_, ns ++ [z], xs ++ [.ref q], ps ++ [(z, kk)], ⟨rfl, by rw [upd_ne (Ne.symm nNM)]; exact zq _ _ hN8, hk5, (T8.same zq).upd nMt nMc, fun b o n e => ?_⟩, by rw [upd_ne nML, zq _ _ hL8, ← List.append_assoc, List.map_append (l₁ := tk ++ ns)]; rfl, upd_same, ?_, ?_, by rw [List.length_append, e7]; rfl, by rw [List.length_append, e8]; rfl, by rw [List.map_append, en]; rfl, List.nodup_append.mpr ⟨nd, List.nodup_cons.mpr ⟨nofun, List.nodup_nil⟩, fun a ha b hb => by rw [List.mem_singleton.mp hb]; exact fun e => fz (List.mem_append_right _ (by rw [← e]; exact ha))⟩, fun x hx => ?_⟩
        · rw [upd_ne (fun z => by rw [z, gM] at e; cases e)]
          exact (S8.trans (Same.b t zq)) b o n e
        · have eq : upd H8 q (.tup [.str z, .str kk]) q = some (.tup [.str z, .str kk]) := upd_same
          have hc9 := (hc8.t (SameT.of zq)).app (.cons eq .nil)
          exact hc9.t (SameT.lst hM9)
        · intro p hp
          rcases List.mem_append.mp hp with hp | hp
          · exact hp6 p hp
          · rw [List.mem_singleton.mp hp]; exact ⟨hz, nz, skk⟩
        · rcases List.mem_append.mp hx with hx | hx
          · exact ntk x hx
          · rw [List.mem_singleton.mp hx]; exact fun q => fz (List.mem_append_left _ q)
      · rintro σ H6 ⟨x8, ns, xs, ps, ⟨rfl, hN6, _, T6, S6⟩, hL6, hM6, hc6, hp6, e7, e8, en, nd, ntk⟩
        rw [List.length_map] at e8
        refine ⟨_, rfl, M, xs, rfl, SqL.of hM6, fun r ob hr c1 c2 => ?_⟩
        have zr := Same.upd (o := .frz ob (.tup xs)) hr
        exact k r xs ps _ ⟨ob, c1, c2, upd_same⟩ (hc6.t (SameT.of zr)) hp6 (by rw [en]; exact nd) (fun p hp => ntk p.1 (by rw [← en]; exact List.mem_map_of_mem hp)) (by omega) (by omega) (T6.same zr) (S6.trans (Same.b t zr))
end
end K13
set_option Elab.async false
set_option linter.all false
set_option maxRecDepth 100000
set_option maxHeartbeats 4000000
namespace K13
open PySem PySem.Spec PyProof.Rows L2 Lc
def spRatL : Sp := fun vs H Q _ => ∃ (t c : Addr) (b : Bool), vs = [.ref t, .bl b] ∧ TapeL c H t ∧ ∀ (p : Addr) (n d : Int) (H' : Hp), Rt n d → n.natAbs ≤ 10000000000000000000000000000000000000000 → d.natAbs ≤ 10000000000000000000000000000000000000000 → H' p = some (.tup [.int n, .int d]) → H p = none → TapeL c H' t → SameB t H H' → Q (.ref p) H'
abbrev sRat : Stmt := top 77
section
variable {P : Program} {w : World} {K : PySem.W.Frag} {mg : Str → Option Value} {base : Heap} {f : Addr} {fd : FuncData}
theorem scRat : FnScope ["_law_tape_here", "_law_wide", "_law_size", "_law_number", "_law_edge"] ["_law_tape_here", "_law_wide"] (defScope sRat) := ⟨rfl, rfl, rfl, by decide +kernel, rfl, by decide +kernel, by decide +kernel⟩
theorem ok_rat {fD fL : Addr} {fdD fdL : FuncData} (F : Fun K "_law_rational" "_law_rational" sRat f fd) (T : Bt mg) (GD : FnOk P w K mg base CX0 1 fD fdD ["_law_tape_here", "_law_many"] spDrawL) (mD : mg "_law_draw" = some (.ref fD)) (kD : PySem.W.keepIn K (.ref fD) = true) (bD : Binds K fdD ["_law_tape_here", "_law_many"] [])
    (GL : FnOk P w K mg base CX0 1 fL fdL ["_law_n", "_law_d"] spLowest) (mL : mg "_law_lowest" = some (.ref fL)) (kL : PySem.W.keepIn K (.ref fL) = true) (bL : Binds K fdL ["_law_n", "_law_d"] []) : FnOk P w K mg base CX0 2 f fd ["_law_tape_here", "_law_wide"] spRatL := by
  refine F.ok scRat (fun vs H Q E h => ?_) (fun cdv A outer s H vs Q E hr h => ?_)
  · obtain ⟨t, c, b, rfl, _⟩ := h
    rfl
  · obtain ⟨t, c, b, rfl, hT, k⟩ := h
    refine ⟨_, pss_cons (ps_set (i := 2) scRat.nd rfl (Or.inl rfl) (pe_call GD hr (by rfl) mD kD bD .nil pass0 (pa_cons (pv 0) (pa_cons (pe_op op_add pe_int (pe_op op_mul pe_int (pe_callTy call_int1 (by rfl) T.int boot_int (pa_cons (pv 1) pa_nil)))) pa_nil))))
      (pss_cons (ps_if (pt_cmpR op_lt (pv 2) pe_int (nomark _)) (pss_one (ps_ret (pe_tup (pa_cons (pe_op op_sub (pe_call GD hr (by rfl) mD kD bD .nil pass0 (pa_cons (pv 0) (pa_cons pe_int pa_nil))) pe_int) (pa_cons pe_int pa_nil))))) pss_nil)
      (pss_cons (ps_if (pt_cmpR op_lt (pv 2) pe_int (nomark _)) (pss_one (ps_ret (pe_call GL hr (by rfl) mL kL bL .nil pass0 (pa_cons (pe_op op_sub (pe_call GD hr (by rfl) mD kD bD .nil pass0 (pa_cons (pv 0) (pa_cons pe_int pa_nil))) pe_int) (pa_cons (pe_op op_add pe_int (pe_call GD hr (by rfl) mD kD bD .nil pass0 (pa_cons (pv 0) (pa_cons pe_int pa_nil)))) pa_nil))))) pss_nil)
      (pss_cons (ps_if (pt_cmpR op_eq (pv 2) pe_int (nomark _)) (pss_cons (ps_set (i := 3) scRat.nd rfl (Or.inl rfl) (pe_op op_sub (pe_call GD hr (by rfl) mD kD bD .nil pass0 (pa_cons (pv 0) (pa_cons (pe_op op_add (pe_op op_mul pe_int (pe_op op_pow pe_int pe_int)) pe_int) pa_nil))) (pe_op op_pow pe_int pe_int)))
          (pss_one (ps_ret (pe_call GL hr (by rfl) mL kL bL .nil pass0 (pa_cons (pv 3) (pa_cons (pe_op op_add pe_int (pe_call GD hr (by rfl) mD kD bD .nil pass0 (pa_cons (pv 0) (pa_cons (pe_op op_pow pe_int pe_int) pa_nil)))) pa_nil)))))) pss_nil)
      (pss_cons (ps_set (i := 4) scRat.nd rfl (Or.inl rfl) (pe_op op_sub (pe_op op_pow pe_int pe_int) (pe_call GD hr (by rfl) mD kD bD .nil pass0 (pa_cons (pv 0) (pa_cons pe_int pa_nil)))))
      (pss_one (ps_ret (pe_ix ix_list (pe_lst (pa_cons (pe_tup (pa_cons (pv 4) (pa_cons pe_int pa_nil))) (pa_cons (pe_tup (pa_cons (pe_op op_sub pe_int (pv 4)) (pa_cons pe_int pa_nil))) (pa_cons (pe_tup (pa_cons pe_int (pa_cons (pv 4) pa_nil))) (pa_cons (pe_tup (pa_cons (pe_un un_neg pe_int) (pa_cons (pv 4) pa_nil))) pa_nil)))))
        (pe_call GD hr (by rfl) mD kD bD .nil pass0 (pa_cons (pv 0) (pa_cons pe_int pa_nil))) (fun _ _ => rfl)))))))), ?_⟩
    have two : 2 ≤ sizeLine := by decide
    have pw18 : CPow 10 18 := ⟨by decide, by decide, by decide⟩
    have pw40 : CPow 10 40 := ⟨by decide, by decide, by decide⟩
    have b140 : ∀ z : Int, -100000000000000000000000000000000000000000 ≤ z → z ≤ 100000000000000000000000000000000000000000 → z.natAbs < 2 ^ 140 := by
      intro z h1 h2
      have : (2 : Nat) ^ 140 = 1393796574908163946345982392040522594123776 := by decide
      omega
    have big : ∀ z : Int, -100000000000000000000000000000000000000000 ≤ z → z ≤ 100000000000000000000000000000000000000000 → z.natAbs < 2 ^ 4000 := fun z h1 h2 => Nat.lt_of_lt_of_le (b140 z h1 h2) (Nat.pow_le_pow_right (by decide) (by decide))
    have b40 : ∀ z : Int, -10000000000000000000000000000000000000000 ≤ z → z ≤ 10000000000000000000000000000000000000000 → z.natAbs ≤ 10000000000000000000000000000000000000000 := by
      intro z h1 h2
      omega
    refine ⟨_, rfl, _, rfl, .inr ⟨b, rfl, _, _, rfl, rfl, .inl ⟨by decide, by decide⟩, _, _, rfl, rfl, t, c, _, rfl, hT, by cases b <;> decide, by cases b <;> exact big _ (by decide) (by decide), fun k1 H1 u1 v1 T1 S1 => ?_⟩⟩
    refine ⟨_, rfl, _, _, rfl, rfl, _, rfl, ?_⟩
    refine ite2 (fun _ => ?_) (fun _ => ?_)
    · refine ⟨_, rfl, t, c, _, rfl, T1, by decide, big _ (by decide) (by decide), fun k2 H2 u2 v2 T2 S2 => ?_⟩
      refine ⟨_, _, rfl, rfl, two, fun p hp => ?_⟩
      exact k p (k2 - 7) 1 _ (rt_one _) (b40 _ (by omega) (by omega)) (b40 _ (by decide) (by decide)) upd_same ((S1.trans S2).free T2.tape hp) (T2.same (Same.upd hp)) ((S1.trans S2).trans (Same.b t (Same.upd hp)))
    · refine ⟨_, rfl, _, _, rfl, rfl, _, rfl, ?_⟩
      refine ite2 (fun _ => ?_) (fun _ => ?_)
      · refine ⟨_, rfl, t, c, _, rfl, T1, by decide, big _ (by decide) (by decide), fun k2 H2 u2 v2 T2 S2 => ?_⟩
        refine ⟨_, _, rfl, rfl, _, rfl, t, c, _, rfl, T2, by decide, big _ (by decide) (by decide), fun k3 H3 u3 v3 T3 S3 => ?_⟩
        refine ⟨_, _, rfl, rfl, _, _, rfl, by omega, big _ (by omega) (by omega), fun p hp => ?_⟩
        have le := low_le (n := k2 - 200) (d := 1 + k3) (by omega)
        exact k p _ _ _ (low_rt (by omega)) (Nat.le_trans le.1 (b40 _ (by omega) (by omega))) (Nat.le_trans le.2 (b40 _ (by omega) (by omega))) upd_same (((S1.trans S2).trans S3).free T3.tape hp) (T3.same (Same.upd hp)) (((S1.trans S2).trans S3).trans (Same.b t (Same.upd hp)))
      · refine ⟨_, rfl, rfl, _, rfl, ?_⟩
        refine ite2 (fun _ => ?_) (fun _ => ?_)
        · refine ⟨_, rfl, _, _, rfl, rfl, pw18, _, _, rfl, rfl, .inl ⟨by decide, by decide⟩, _, _, rfl, rfl, t, c, _, rfl, T1, ?_, ?_, fun k2 H2 u2 v2 T2 S2 => ?_⟩
          · rw [p18]
            decide
          · rw [p18]
            exact big _ (by decide) (by decide)
          rw [p18] at v2
          refine ⟨_, _, rfl, rfl, pw18, _, _, rfl, rfl, _, rfl, _, rfl, _, _, rfl, rfl, pw18, t, c, _, rfl, T2, ?_, ?_, fun k3 H3 u3 v3 T3 S3 => ?_⟩
          · rw [p18]
            decide
          · rw [p18]
            exact big _ (by decide) (by decide)
          rw [p18] at v3
          refine ⟨_, _, rfl, rfl, _, _, rfl, by omega, big _ (by omega) (by omega), fun p hp => ?_⟩
          have le := low_le (n := k2 - 10 ^ (18 : Int).toNat) (d := 1 + k3) (by omega)
          rw [p18] at le
          refine k p _ _ _ (low_rt (by omega)) ?_ (Nat.le_trans le.2 (b40 _ (by omega) (by omega))) upd_same (((S1.trans S2).trans S3).free T3.tape hp) (T3.same (Same.upd hp)) (((S1.trans S2).trans S3).trans (Same.b t (Same.upd hp)))
          exact Nat.le_trans le.1 (b40 _ (by omega) (by omega))
        · refine ⟨_, _, rfl, rfl, pw40, _, rfl, t, c, _, rfl, T1, by decide, big _ (by decide) (by decide), fun k2 H2 u2 v2 T2 S2 => ?_⟩
          refine ⟨_, _, rfl, rfl, ?_⟩
          rw [p40]
          obtain ⟨ed, he⟩ : ∃ ed : Int, ed = 10000000000000000000000000000000000000000 - k2 := ⟨_, rfl⟩
          rw [show (fun i j : Int => V.int (i - j)) 10000000000000000000000000000000000000000 k2 = V.int ed by rw [he]]
          refine ⟨_, rfl, two, fun a1 ha1 => ⟨_, rfl, _, _, rfl, rfl, two, fun a2 ha2 => ⟨_, rfl, two, fun a3 ha3 => ⟨_, rfl, _, rfl, two, fun a4 ha4 => ⟨by show 4 ≤ sizeLine; decide, fun a5 ha5 => ?_⟩⟩⟩⟩⟩
          have z1 := Same.upd (o := .tup [.int ed, .int 1]) ha1
          have z2 := Same.upd (o := .tup [.int (0 - ed), .int 1]) ha2
          have z3 := Same.upd (o := .tup [.int 1, .int ed]) ha3
          have z4 := Same.upd (o := .tup [.int (-1), .int ed]) ha4
          have z5 := Same.upd (o := .lst [.ref a1, .ref a2, .ref a3, .ref a4]) ha5
          have zz := z1.trans (z2.trans (z3.trans (z4.trans z5)))
          have T5 := T2.same zz
          refine ⟨_, rfl, t, c, _, rfl, T5, by decide, big _ (by decide) (by decide), fun k3 H3 u3 v3 T3 S3 => ?_⟩
          have n5 : a5 ≠ t := (T2.same (z1.trans (z2.trans (z3.trans z4)))).tape.ne ha5
          have n1 : a1 ≠ t := T2.tape.ne ha1
          have n2 : a2 ≠ t := (T2.same z1).tape.ne ha2
          have n3 : a3 ≠ t := (T2.same (z1.trans z2)).tape.ne ha3
          have n4 : a4 ≠ t := (T2.same (z1.trans (z2.trans z3))).tape.ne ha4
          have f0 := S1.trans S2
          have g1 : H a1 = none := f0.free T2.tape ha1
          have g2 : H a2 = none := f0.free T2.tape (z1.free ha2)
          have g3 : H a3 = none := f0.free T2.tape ((z1.trans z2).free ha3)
          have g4 : H a4 = none := f0.free T2.tape ((z1.trans (z2.trans z3)).free ha4)
          have sb := (f0.trans (Same.b t zz)).trans S3
          have e1 := S3 _ _ n1 ((z2.trans (z3.trans (z4.trans z5))) _ _ upd_same)
          have e2 := S3 _ _ n2 ((z3.trans (z4.trans z5)) _ _ upd_same)
          have e3 := S3 _ _ n3 ((z4.trans z5) _ _ upd_same)
          have e4 := S3 _ _ n4 (z5 _ _ upd_same)
          have hL := S3 _ _ n5 (upd_same)
          rcases (by omega : k3 = 0 ∨ k3 = 1 ∨ k3 = 2 ∨ k3 = 3) with rfl | rfl | rfl | rfl
          · exact ⟨a5, _, _, _, rfl, rfl, SqL.of hL, rfl, k a1 _ _ _ (rt_one _) (b40 _ (by omega) (by omega)) (b40 _ (by omega) (by omega)) e1 g1 T3 sb⟩
          · exact ⟨a5, _, _, _, rfl, rfl, SqL.of hL, rfl, k a2 _ _ _ (rt_one _) (b40 _ (by omega) (by omega)) (b40 _ (by omega) (by omega)) e2 g2 T3 sb⟩
          · exact ⟨a5, _, _, _, rfl, rfl, SqL.of hL, rfl, k a3 _ _ _ (rt_inv (by omega)) (b40 _ (by omega) (by omega)) (b40 _ (by omega) (by omega)) e3 g3 T3 sb⟩
          · exact ⟨a5, _, _, _, rfl, rfl, SqL.of hL, rfl, k a4 _ _ _ (rt_ninv (by omega)) (b40 _ (by omega) (by omega)) (b40 _ (by omega) (by omega)) e4 g4 T3 sb⟩
end
end K13
set_option Elab.async false
set_option linter.all false
set_option maxRecDepth 100000
set_option maxHeartbeats 4000000
namespace K13
open PySem PySem.Spec PyProof.Rows L2 Lc
inductive Vk : Str → PyData → Prop
  | non (k : Str) : Vk k .none
  | num {n d : Int} (h : Rt n d) (h1 : n.natAbs ≤ 10000000000000000000000000000000000000000) (h2 : d.natAbs ≤ 10000000000000000000000000000000000000000) : Vk "number" (.tuple [.int n, .int d])
  | flag (b : Bool) : Vk "flag" (.bool b)
  | word {x : Str} (h : Sh 12 x) (hn : nameB (.str x) = true) : Vk "word" (.str x)
inductive Vks : List Str → List PyData → Prop
  | nil : Vks [] []
  | cons {k : Str} {d : PyData} {ks : List Str} {ds : List PyData} (h : Vk k d) (r : Vks ks ds) : Vks (k :: ks) (d :: ds)
theorem Vks.app {k : Str} {d : PyData} (h : Vk k d) : ∀ {ks : List Str} {ds : List PyData}, Vks ks ds → Vks (ks ++ [k]) (ds ++ [d])
  | _, _, .nil => .cons h .nil
  | _, _, .cons a r => .cons a (Vks.app h r)
theorem Vks.len : ∀ {ks : List Str} {ds : List PyData}, Vks ks ds → ks.length = ds.length
  | _, _, .nil => rfl
  | _, _, .cons _ r => by rw [List.length_cons, List.length_cons, Vks.len r]
/-- v is d, all its parts are new since H -/
def DhF (H H' : Hp) (v : V) (d : PyData) : Prop := ∀ H2 : Hp, (∀ b o, H b = none → H' b = some o → H2 b = some o) → Dh H2 v d
theorem DhF.now {H H' : Hp} {v : V} {d : PyData} (h : DhF H H' v d) : Dh H' v d := h H' fun _ _ _ e => e
theorem Cols.get {H : Hp} : ∀ {xs : List V} {ps : List (Str × Str)}, Cols H xs ps → ∀ (i : Nat) (x : V), xs[i]? = some x → ∃ a z kk, x = .ref a ∧ H a = some (.tup [.str z, .str kk]) ∧ ps[i]? = some (z, kk)
  | _, _, .nil, i, x, e => by simp at e
  | _, _, .cons h r, 0, x, e => by
    obtain rfl := Option.some.inj e
    exact ⟨_, _, _, rfl, h, rfl⟩
  | _, _, .cons h r, i + 1, x, e => by
    obtain ⟨a, z, kk, h1, h2, h3⟩ := Cols.get r i x (by simpa using e)
    exact ⟨a, z, kk, h1, h2, by simpa using h3⟩
end K13
set_option Elab.async false
set_option linter.all false
set_option maxRecDepth 100000
set_option maxHeartbeats 4000000
namespace K13
open PySem PySem.Spec PyProof.Rows L2 Lc
abbrev sLf : Stmt := top 81
/-- words over one and over two operands: the operands' kind, the result's -/
def OneW (w k r : Str) : Prop := (w = "not" ∧ k = "flag" ∧ r = "flag") ∨ (w = "missing" ∧ KindS k ∧ r = "flag")
def TwoW (w k r : Str) : Prop := ((w = "plus" ∨ w = "minus" ∨ w = "times" ∨ w = "over") ∧ k = "number" ∧ r = "number") ∨ (w = "less" ∧ k = "number" ∧ r = "flag") ∨ (w = "same" ∧ KindS k ∧ r = "flag") ∨ ((w = "both" ∨ w = "either") ∧ k = "flag" ∧ r = "flag")
/-- valid expressions of a kind over the columns ps, at most n deep -/
inductive Xp (ps : List (Str × Str)) : Nat → Str → PyData → Prop
  | col {n : Nat} {z k : Str} (h : (z, k) ∈ ps) : Xp ps (n + 1) k (.tuple [.str "column", .str z])
  | val {n : Nat} {k : Str} {d : PyData} (h : Vk k d) (nn : d ≠ .none) : Xp ps (n + 1) k (.tuple [.str "value", d])
  | one {n : Nat} {w k r : Str} {a : PyData} (hw : OneW w k r) (ha : Xp ps n k a) : Xp ps (n + 1) r (.tuple [.str w, a])
  | two {n : Nat} {w k r : Str} {a b : PyData} (hw : TwoW w k r) (ha : Xp ps n k a) (hb : Xp ps n k b) : Xp ps (n + 1) r (.tuple [.str w, a, b])
  | iff {n : Nat} {k : Str} {a b c : PyData} (ha : Xp ps n "flag" a) (hb : Xp ps n k b) (hc : Xp ps n k c) : Xp ps (n + 1) k (.tuple [.str "if", a, b, c])
theorem Xp.mono {ps : List (Str × Str)} {n : Nat} {k : Str} {d : PyData} (h : Xp ps n k d) : ∀ {m : Nat}, n ≤ m → Xp ps m k d := by
  induction h with
  | col h => intro m l; obtain ⟨j, rfl⟩ : ∃ j, m = j + 1 := ⟨m - 1, by omega⟩; exact .col h
  | val h nn => intro m l; obtain ⟨j, rfl⟩ : ∃ j, m = j + 1 := ⟨m - 1, by omega⟩; exact .val h nn
  | one hw _ ia => intro m l; obtain ⟨j, rfl⟩ : ∃ j, m = j + 1 := ⟨m - 1, by omega⟩; exact .one hw (ia (by omega))
  | two hw _ _ ia ib => intro m l; obtain ⟨j, rfl⟩ : ∃ j, m = j + 1 := ⟨m - 1, by omega⟩; exact .two hw (ia (by omega)) (ib (by omega))
  | iff _ _ _ ia ib ic => intro m l; obtain ⟨j, rfl⟩ : ∃ j, m = j + 1 := ⟨m - 1, by omega⟩; exact .iff (ia (by omega)) (ib (by omega)) (ic (by omega))
theorem DhF.wide {t : Addr} {H Ha Hb : Hp} {v : V} {d : PyData} (h : DhF Ha Hb v d) (s : SameB t H Ha) (T : Tape Ha t) : DhF H Hb v d := fun H2 h2 => h H2 fun b o n e => h2 b o (s.free T n) e
theorem DhF.later {t : Addr} {H Hb Hc : Hp} {v : V} {d : PyData} (h : DhF H Hb v d) (T : Tape H t) (s : SameB t Hb Hc) : DhF H Hc v d := fun H2 h2 => h H2 fun b o e e' => h2 b o e (s b o (T.ne e) e')
theorem Cols.b {t : Addr} {H H' : Hp} {xs : List V} {ps : List (Str × Str)} (h : Cols H xs ps) (T : Tape H t) (s : SameB t H H') : Cols H' xs ps := h.t (SameT.b T s)
/-- what a drawn expression is -/
def NewF (H : Hp) (t c : Addr) (ps : List (Str × Str)) (n : Nat) (k : Str) (Q : VK) : Prop := ∀ (v : V) (d : PyData) (H' : Hp), DhF H H' v d → Xp ps n k d → TapeL c H' t → SameB t H H' → Q v H'
def spLf : Sp := fun vs H Q _ => ∃ (t c L : Addr) (kind : Str) (xs : List V) (ps : List (Str × Str)), vs = [.ref t, .ref L, .str kind] ∧ KindS kind ∧ TapeL c H t ∧ Rd H L (.tup xs) ∧ Cols H xs ps ∧ ps.length ≤ 8 ∧ NewF H t c ps 1 kind Q
abbrev ttLf : TT := tTest (tOp rEq (tVar 5) (tVar 2))
section
variable {P : Program} {w : World} {K : PySem.W.Frag} {mg : Str → Option Value} {base : Heap} {f fD fR fL : Addr} {fd fdD fdR fdL : FuncData}
abbrev nLf : List Str := ["_law_tape_here", "_law_columns_here", "_law_kind", "_law_same", "_law_name_here", "_law_other"]
theorem scLf : FnScope nLf ["_law_tape_here", "_law_columns_here", "_law_kind"] (defScope sLf) := ⟨rfl, rfl, rfl, by decide +kernel, rfl, by decide +kernel, by decide +kernel⟩
theorem ok_lf (F : Fun K "_law_leaf" "_law_leaf" sLf f fd) (T : Bt mg) (GD : FnOk P w K mg base CX0 1 fD fdD ["_law_tape_here", "_law_many"] spDrawL) (mD : mg "_law_draw" = some (.ref fD)) (kD : PySem.W.keepIn K (.ref fD) = true) (bD : Binds K fdD ["_law_tape_here", "_law_many"] [])
    (GR : FnOk P w K mg base CX0 2 fR fdR ["_law_tape_here", "_law_wide"] spRatL) (mR : mg "_law_rational" = some (.ref fR)) (kR : PySem.W.keepIn K (.ref fR) = true) (bR : Binds K fdR ["_law_tape_here", "_law_wide"] []) : FnOk P w K mg base CX0 3 f fd ["_law_tape_here", "_law_columns_here", "_law_kind"] spLf := by
  refine F.ok scLf (fun vs H Q E h => ?_) (fun cdv A outer s H vs Q E hr h => ?_)
  · obtain ⟨t, c, L, kind, xs, ps, rfl, _⟩ := h
    rfl
  · obtain ⟨t, c, L, kind, xs, ps, rfl, hk, hT, hL, hc, l8, k⟩ := h
    have hr1 : Room 1 _ := hr.mono (by decide)
    refine ⟨_, Evl.pss_cut (ps_setLc (i := 3) (own := [("_law_name_here", 4), ("_law_other", 5)]) (g := gTup K 2 (gCons (gName 4) (gCons (gName 5) gNil))) (tt := ttLf) (te := tVar 4) (by rfl) scLf.nd rfl rfl (sw_true rfl rfl rfl (by decide +kernel)) (pi_tup (pv 1)) (blkOk_by (own := [("_law_name_here", 4), ("_law_other", 5)]) (N := nLf) (sc := defScope sLf) (by decide +kernel))
          (fun _ _ _ _ _ => pg_tup rfl (pgs_cons (pg_name (i := 4) scLf.nd rfl (.inl rfl)) (pgs_cons (pg_name (i := 5) scLf.nd rfl (.inl rfl)) pgs_nil))) (fun _ _ _ _ _ => pts_one (pt_cmpR op_eq (pv 5) (pv 2) (nomark _))) (fun _ _ _ _ _ => pv 4))
      (Evl.pss_cut (ps_if (PW.pt (pw_and (pt_truth (pv 3) (fun _ => rfl)) (pw_and1 (pt_cmpR op_gt (pe_call GD hr1 (by rfl) mD kD bD .nil pass0 (pa_cons (pv 0) (pa_cons pe_int pa_nil))) pe_int (nomark _)))))
        (pss_one (ps_ret (pe_tup (pa_cons pe_str (pa_cons (pe_ix ix_list (pv 3) (pe_call GD hr1 (by rfl) mD kD bD .nil pass0 (pa_cons (pv 0) (pa_cons (pe_callB call_len_seq (by rfl) T.len PySem.boot_len (pa_cons (pv 3) pa_nil)) pa_nil))) (fun _ _ => rfl)) pa_nil))))) pss_nil)
      (pss_cons (ps_if (pt_cmpR op_eq (pv 2) pe_str (nomark _)) (pss_one (ps_ret (pe_tup (pa_cons pe_str (pa_cons (pe_call GR hr (by rfl) mR kR bR .nil pass0 (pa_cons (pv 0) (pa_cons pe_bl pa_nil))) pa_nil))))) pss_nil)
      (pss_cons (ps_if (pt_cmpR op_eq (pv 2) pe_str (nomark _)) (pss_one (ps_ret (pe_tup (pa_cons pe_str (pa_cons (pe_cmpR op_eq (pe_call GD hr1 (by rfl) mD kD bD .nil pass0 (pa_cons (pv 0) (pa_cons pe_int pa_nil))) pe_int (nomark _)) pa_nil))))) pss_nil)
      (pss_one (ps_ret (pe_tup (pa_cons pe_str (pa_cons (pe_ix ix_list (pe_lst (pa_cons pe_str (pa_cons pe_str (pa_cons pe_str (pa_cons pe_str pa_nil))))) (pe_call GD hr1 (by rfl) mD kD bD .nil pass0 (pa_cons (pv 0) (pa_cons pe_int pa_nil))) (fun _ _ => rfl)) pa_nil)))))))), ?_⟩
    have two : 2 ≤ sizeLine := by decide
    have four : 4 ≤ sizeLine := by decide
    have lx := hc.len
    -- the columns of the kind
    refine ⟨fun σ H' => ∃ (W : Addr) (ns : List Str) (x4 x5 : Option V), σ = [some (.ref t), some (.ref L), some (.str kind), some (.ref W), x4, x5] ∧ H' W = some (.lst (ns.map V.str)) ∧ H W = none ∧ ns.length ≤ 8 ∧ (∀ z ∈ ns, (z, kind) ∈ ps) ∧ Same H H', ?_, ?_⟩
    · refine ⟨_, rfl, L, rfl, ⟨_, hL.sq⟩, fun D hD => lc_tup (K := K) (a := L) (xs := xs) (fun i H' => ∃ ns : List Str, H' D = some (.lst (ns.map V.str)) ∧ ns.length ≤ i ∧ (∀ z ∈ ns, (z, kind) ∈ ps) ∧ Same H H') ⟨[], upd_same, Nat.le_refl _, nofun, Same.upd hD⟩ (fun i H' _ p => by obtain ⟨_, _, _, _, s'⟩ := p; exact (hL.same s').sq) ?_ ?_⟩
      · rintro i x H1 hx ⟨ns, hD1, ln, hn, s1⟩
        obtain ⟨a, z, kk, rfl, ea, ep⟩ := hc.get _ _ hx
        have hi : i < xs.length := (List.getElem?_eq_some_iff.mp hx).1
        refine ⟨a, _, rfl, SqT.of (s1 _ _ ea), rfl, _, _, rfl, _, _, rfl, rfl, rfl, ?_⟩
        change ttLf _ _ _
        refine ⟨_, rfl, _, rfl, rfl, _, rfl, ite2 (fun q => ?_) (fun q => ?_)⟩
        · have ek : kk = kind := by have := of_decide_eq_true q; injection this
          subst ek
          refine ⟨_, rfl, _, hD1, ?_, ns ++ [z], by rw [upd_same, List.map_append]; rfl, by rw [List.length_append]; show ns.length + 1 ≤ _; omega, fun y hy => ?_, fun b o e => by rw [upd_ne (ne_of_none e hD)]; exact s1 b o e⟩
          · rw [List.length_map]
            exact Nat.lt_of_le_of_lt (show _ ≤ 8 by omega) (by decide)
          · rcases List.mem_append.mp hy with hy | hy
            · exact hn y hy
            · rw [List.mem_singleton.mp hy]
              exact List.mem_of_getElem? ep
        · exact ⟨ns, hD1, by omega, hn, s1⟩
      · rintro H1 ⟨ns, hD1, ln, hn, s1⟩
        exact ⟨D, ns, _, _, rfl, hD1, hD, by omega, hn, s1⟩
    rintro σ H1 ⟨W, ns, x4, x5, rfl, hW, gW, ln, hn, s1⟩
    have T1 := hT.same s1
    have nW := hT.tape.ne gW
    have S1 := Same.b t s1
    -- a column
    refine ⟨fun σ H' => σ = [some (.ref t), some (.ref L), some (.str kind), some (.ref W), x4, x5] ∧ TapeL c H' t ∧ SameB t H H', ?_, ?_⟩
    · refine ⟨_, rfl, _, .inl ⟨_, SqL.of hW, rfl⟩, ite2 (fun ne => ?_) (fun _ => iteF ⟨rfl, T1, S1⟩)⟩
      have pos : 0 < ns.length := by
        cases ns with
        | nil => simp at ne
        | cons a r => exact Nat.succ_pos _
      refine ⟨_, rfl, t, c, _, rfl, T1, by decide, big1000 (by decide) (by decide), fun j H2 _ _ T2 S2 => ⟨_, _, rfl, rfl, _, rfl, ite2 (fun _ => ?_) (fun _ => ⟨rfl, T2, S1.trans S2⟩)⟩⟩
      have hW2 := S2 _ _ nW hW
      refine ⟨_, rfl, _, rfl, _, rfl, W, _, rfl, .inl (SqL.of hW2), t, c, _, rfl, T2, by rw [List.length_map]; omega, big1000 (by omega) (by rw [List.length_map]; omega), fun j H3 j0 j1 T3 S3 => ?_⟩
      rw [List.length_map] at j1
      have hj : j.toNat < ns.length := by omega
      have hm : (ns.map V.str)[j.toNat]? = some (.str ns[j.toNat]) := by rw [List.getElem?_map, List.getElem?_eq_getElem hj]; rfl
      refine ⟨W, _, _, _, rfl, rfl, SqL.of (S3 _ _ nW hW2), at_of (j := j.toNat) (by omega) hm, two, fun r hr' => ?_⟩
      have S13 := (S1.trans S2).trans S3
      have zr := Same.upd (o := .tup [.str "column", .str ns[j.toNat]]) hr'
      exact k _ _ _ (fun H5 h5 => .tup (h5 _ _ (S13.free T3.tape hr') upd_same) (.cons (.str _) (.cons (.str _) .nil))) (.col (n := 0) (hn _ (List.getElem_mem hj))) (T3.same zr) (S13.trans (Same.b t zr))
    clear hW gW hn s1 T1 nW S1
    rintro σ H1 ⟨rfl, T1, S1⟩
    have fin : ∀ {H3 : Hp} {v : V} {d : PyData}, DhF H H3 v d → Vk kind d → d ≠ .none → TapeL c H3 t → SameB t H H3 → ∀ r, H3 r = none → Q (.ref r) (upd H3 r (.tup [.str "value", v])) := fun {H3 v d} df vk nn T3 S3 r hr' => by
      have zr := Same.upd (o := .tup [.str "value", v]) hr'
      exact k _ _ _ (fun H5 h5 => .tup (h5 _ _ (S3.free T3.tape hr') upd_same) (.cons (.str _) (.cons ((df.later hT.tape (Same.b t zr)) H5 h5) .nil))) (.val (n := 0) vk nn) (T3.same zr) (S3.trans (Same.b t zr))
    refine ⟨_, rfl, rfl, _, rfl, ?_⟩
    rw [decide_eq_decide.mpr (show V.str kind = V.str "number" ↔ kind = "number" from ⟨fun e => by injection e, fun e => by rw [e]⟩)]
    by_cases k1 : kind = "number"
    · rw [decide_eq_true k1]
      subst k1
      refine iteT ⟨_, rfl, t, c, false, rfl, T1, fun p n d H2 rt h1 h2 e g T2 S2 => ⟨two, ?_⟩⟩
      have g0 := S1.free T1.tape g
      exact fin (fun H5 h5 => .tup (h5 _ _ g0 e) (.cons (.int n) (.cons (.int d) .nil))) (.num rt h1 h2) nofun T2 (S1.trans S2)
    rw [decide_eq_false k1]
    refine iteF ⟨_, rfl, rfl, _, rfl, ?_⟩
    rw [decide_eq_decide.mpr (show V.str kind = V.str "flag" ↔ kind = "flag" from ⟨fun e => by injection e, fun e => by rw [e]⟩)]
    by_cases k2 : kind = "flag"
    · rw [decide_eq_true k2]
      subst k2
      exact iteT ⟨_, rfl, t, c, _, rfl, T1, by decide, big1000 (by decide) (by decide), fun j H2 _ _ T2 S2 => ⟨rfl, two, fin (fun _ _ => .bl _) (.flag _) nofun T2 (S1.trans S2)⟩⟩
    rw [decide_eq_false k2]
    have k3 : kind = "word" := by rcases hk with z | z | z; exact absurd z k1; exact z; exact absurd z k2
    subst k3
    refine iteF ⟨four, fun Y hY => ?_⟩
    have zY := Same.upd (o := .lst [.str "a", .str "b", .str "ab", .str "b0"]) hY
    have nY := T1.tape.ne hY
    refine ⟨_, rfl, t, c, _, rfl, T1.same zY, by decide, big1000 (by decide) (by decide), fun j H2 j0 j4 T2 S2 => ?_⟩
    have S12 := S1.trans ((Same.b t zY).trans S2)
    have all : ∀ v ∈ ([.str "a", .str "b", .str "ab", .str "b0"] : List V), ∃ z : Str, v = .str z ∧ Sh 12 z ∧ nameB (.str z) = true := by
      intro v hv
      simp only [List.mem_cons, List.not_mem_nil, or_false] at hv
      rcases hv with rfl | rfl | rfl | rfl <;> exact ⟨_, rfl, ⟨by decide +kernel, by decide +kernel⟩, by decide +kernel⟩
    have hj : j.toNat < ([.str "a", .str "b", .str "ab", .str "b0"] : List V).length := by show j.toNat < 4; omega
    obtain ⟨z, ez, sz, nz⟩ := all _ (List.getElem_mem hj)
    refine ⟨Y, _, _, _, rfl, rfl, SqL.of (S2 _ _ nY upd_same), at_of (j := j.toNat) (by omega) ((List.getElem?_eq_getElem hj).trans (congrArg some ez)), two, ?_⟩
    exact fin (fun _ _ => .str z) (.word sz nz) nofun T2 S12
end
theorem fn_none {P : Program} {w : World} {K : PySem.W.Frag} {mg : Str → Option Value} {base : Heap} {f : Addr} {fd : FuncData} {ps : List Str} {k : Nat} : FnOk P w K mg base CX0 k f fd ps (fun _ _ _ _ => False) := ⟨fun _ _ _ _ h => h.elim, fun _ _ _ _ _ _ _ _ _ _ _ _ _ h => h.elim⟩
end K13
set_option Elab.async false
set_option linter.all false
set_option maxRecDepth 100000
set_option maxHeartbeats 4000000
namespace K13
open PySem PySem.Spec PyProof.Rows L2 Lc
/-! ## columns, and what a drawn step makes of them -/
inductive Ps where
  | keep (e : PyData)
  | set (x : Str) (e : PyData)
  | select (ns : List Str)
  | rename (a b : Str)
  | sort (a : Str) (u : Bool)
  | first (n : Nat)
  | sample (n w s : Nat)
  | join (t : Str) (ks : List Str)
  | union (t : Str)
  | distinct
  | group (ks : List Str) (ts : List (Str × Str × Str))
def updn (u : Bool) : Str := if u then "up" else "down"
def strT (ns : List Str) : PyData := .tuple (ns.map PyData.str)
def totS3 (t : Str × Str × Str) : PyData := .tuple [.str t.1, .str t.2.1, .str t.2.2]
def Ps.d : Ps → PyData
  | .keep e => .tuple [.str "keep", e]
  | .set x e => .tuple [.str "set", .str x, e]
  | .select ns => .tuple [.str "select", strT ns]
  | .rename a b => .tuple [.str "rename", .str a, .str b]
  | .sort a u => .tuple [.str "sort", .str a, .str (updn u)]
  | .first n => .tuple [.str "first", .int n]
  | .sample n w s => .tuple [.str "sample", .int n, .int w, .int s]
  | .join t ks => .tuple [.str "join", .str t, strT ks]
  | .union t => .tuple [.str "union", .str t]
  | .distinct => .tuple [.str "distinct"]
  | .group ks ts => .tuple [.str "group", strT ks, .tuple (ts.map totS3)]
def Ps.w : Ps → Str
  | .keep _ => "keep"
  | .set _ _ => "set"
  | .select _ => "select"
  | .rename _ _ => "rename"
  | .sort _ _ => "sort"
  | .first _ => "first"
  | .sample _ _ _ => "sample"
  | .join _ _ => "join"
  | .union _ => "union"
  | .distinct => "distinct"
  | .group _ _ => "group"
def Ps.more (_ : Ps) : List Nat := []
abbrev nmS (x : Str) : Prop := nameB (.str x) = true
def fnS : List Str := ["count", "sum", "mean", "median", "least", "greatest"]
structure GrpOk (ks : List Str) (ts : List (Str × Str × Str)) : Prop where
  k : ∀ x ∈ ks, nmS x
  t : ∀ x ∈ ts, nmS x.1 ∧ x.2.1 ∈ fnS ∧ nmS x.2.2
  nd : (ks ++ ts.map (·.1)).Nodup
  kl : ks.length ≤ 3
  tl : 1 ≤ ts.length ∧ ts.length ≤ 6
  al : ks.length + ts.length ≤ 8
def Ps.Ok : Ps → Prop
  | .keep e => noL e = true
  | .set x e => nmS x ∧ noL e = true
  | .select ns => (∀ x ∈ ns, nmS x) ∧ ns.Nodup ∧ 1 ≤ ns.length ∧ ns.length ≤ 8
  | .rename a b => nmS a ∧ nmS b
  | .sort a _ => nmS a
  | .first n => n ≤ 1000
  | .sample n w s => n ≤ w ∧ 1 ≤ w ∧ w ≤ 1000 ∧ s ≤ 1000000000
  | .join t ks => nmS t ∧ (∀ x ∈ ks, nmS x) ∧ ks.Nodup ∧ 1 ≤ ks.length ∧ ks.length ≤ 3
  | .union t => nmS t
  | .distinct => True
  | .group ks ts => GrpOk ks ts
def Ps.Sm (_ : Ps) (_ : Nat) : Prop := True
abbrev vS (ss : List Str) : List V := ss.map V.str
abbrev CsL : Type := List (Str × Str)
structure ColP (ps : CsL) : Prop where
  ok : ∀ p ∈ ps, Sh 12 p.1 ∧ nameB (.str p.1) = true ∧ KindS p.2
  nd : (ps.map (·.1)).Nodup
  l1 : 1 ≤ ps.length
  l8 : ps.length ≤ 8
abbrev nms (ps : CsL) : List Str := ps.map (·.1)
theorem ColP.nm {ps : CsL} (h : ColP ps) {x : Str} (hx : x ∈ nms ps) : Sh 12 x ∧ nmS x := by
  obtain ⟨p, hp, rfl⟩ := List.mem_map.mp hx
  exact ⟨(h.ok p hp).1, (h.ok p hp).2.1⟩
def kdOf (ps : CsL) (n : Str) : Str := ((ps.find? fun p => decide (p.1 = n)).map (·.2)).getD ""
theorem kdOf_mem {ps : CsL} (h : (ps.map (·.1)).Nodup) {p : Str × Str} (hp : p ∈ ps) : kdOf ps p.1 = p.2 := by
  induction ps with
  | nil => cases hp
  | cons q r ih =>
    unfold kdOf
    rw [List.find?_cons]
    rcases List.mem_cons.mp hp with rfl | hp
    · rw [decide_eq_true rfl]
      rfl
    · rw [List.map_cons, List.nodup_cons] at h
      have : ¬ q.1 = p.1 := fun e => h.1 (by rw [e]; exact List.mem_map_of_mem hp)
      rw [decide_eq_false this]
      exact ih h.2 hp
theorem ColP.kd {ps : CsL} (h : ColP ps) {x : Str} (hx : x ∈ nms ps) : (x, kdOf ps x) ∈ ps ∧ KindS (kdOf ps x) := by
  obtain ⟨p, hp, rfl⟩ := List.mem_map.mp hx
  rw [kdOf_mem h.nd hp]
  exact ⟨hp, (h.ok p hp).2.2⟩
theorem Vk.noL {k : Str} {d : PyData} (h : Vk k d) : noL d = true := by cases h <;> rfl
theorem Xp.noL {ps : List (Str × Str)} {n : Nat} {k : Str} {d : PyData} (h : Xp ps n k d) : noL d = true := by
  induction h with
  | col _ => rfl
  | val h _ => simp [Lc.noL, noLs, h.noL]
  | one _ _ ia => simp [Lc.noL, noLs, ia]
  | two _ _ _ ia ib => simp [Lc.noL, noLs, ia, ib]
  | iff _ _ _ ia ib ic => simp [Lc.noL, noLs, ia, ib, ic]
inductive Lead (os : List (Str × CsL)) (ps : CsL) : Ps → CsL → Prop
  | keep {e : PyData} (h : Xp ps 3 "flag" e) : Lead os ps (.keep e) ps
  | setO {x k : Str} {e : PyData} (hx : x ∈ nms ps) (hk : KindS k) (h : Xp ps 3 k e) : Lead os ps (.set x e) (ps.map fun p => (p.1, if p.1 = x then k else p.2))
  | setN {x k : Str} {e : PyData} (hx : x ∉ nms ps) (nx : Sh 12 x ∧ nmS x) (hk : KindS k) (h : Xp ps 3 k e) (l : ps.length < 8) : Lead os ps (.set x e) (ps ++ [(x, k)])
  | select {ns : List Str} (h : ∀ n ∈ ns, n ∈ nms ps) (nd : ns.Nodup) (l1 : 1 ≤ ns.length) (l8 : ns.length ≤ 8) : Lead os ps (.select ns) (ns.map fun n => (n, kdOf ps n))
  | rename {a b : Str} (ha : a ∈ nms ps) (nb : Sh 12 b ∧ nmS b) (hb : ∀ n ∈ nms ps, n ≠ a → b ≠ n) : Lead os ps (.rename a b) (ps.map fun p => (if p.1 = a then b else p.1, p.2))
  | sort {a : Str} {u : Bool} (ha : a ∈ nms ps) : Lead os ps (.sort a u) ps
  | first {n : Nat} (h : n ≤ 1000) : Lead os ps (.first n) ps
  | sample {n w s : Nat} (h1 : n ≤ w) (h2 : 1 ≤ w) (h3 : w ≤ 1000) (h4 : s ≤ 1000000000) : Lead os ps (.sample n w s) ps
  | distinct : Lead os ps .distinct ps
  | union {t : Str} (ht : (t, ps) ∈ os) : Lead os ps (.union t) ps
  | join {t : Str} {ks : List Str} {qs : CsL} (ht : (t, qs) ∈ os) (nd : ks.Nodup) (l1 : 1 ≤ ks.length) (l3 : ks.length ≤ 3) (h : ∀ k, k ∈ ks ↔ k ∈ nms qs ∧ k ∈ nms ps) (hk : ∀ k ∈ ks, kdOf ps k = kdOf qs k) (l8 : ps.length + (qs.filter fun p => decide (p.1 ∉ nms ps)).length ≤ 8) :
      Lead os ps (.join t ks) (ps ++ qs.filter fun p => decide (p.1 ∉ nms ps))
  | group {ks : List Str} {ts : List (Str × Str × Str)} (hk : ∀ k ∈ ks, k ∈ nms ps) (g : GrpOk ks ts) (ht : ∀ t ∈ ts, Sh 12 t.1 ∧ t.2.2 ∈ nms ps ∧ (t.2.1 ≠ "count" → kdOf ps t.2.2 = "number")) : Lead os ps (.group ks ts) (ks.map (fun n => (n, kdOf ps n)) ++ ts.map fun t => (t.1, ("number" : Str)))
theorem nodup_map {α β : Type} {f : α → β} {l : List α} (h : l.Nodup) (inj : ∀ a ∈ l, ∀ b ∈ l, f a = f b → a = b) : (l.map f).Nodup := by
  induction l with
  | nil => exact List.nodup_nil
  | cons a r ih =>
    rw [List.nodup_cons] at h
    rw [List.map_cons, List.nodup_cons]
    refine ⟨fun m => ?_, ih h.2 fun x hx y hy => inj x (List.mem_cons_of_mem _ hx) y (List.mem_cons_of_mem _ hy)⟩
    obtain ⟨b, hb, e⟩ := List.mem_map.mp m
    exact h.1 (by rw [← inj b (List.mem_cons_of_mem _ hb) a List.mem_cons_self e]; exact hb)
theorem Lead.go {os : List (Str × CsL)} {ps qs : CsL} {p : Ps} (h : Lead os ps p qs) (c : ColP ps) (ho : ∀ o ∈ os, nmS o.1 ∧ ColP o.2) : p.Ok ∧ p.Sm 3 ∧ ColP qs := by
  have noe : ∀ {p : Ps}, (∀ e, p ≠ .keep e) → (∀ x e, p ≠ .set x e) → p.Sm 3 := fun _ _ => True.intro
  have sel : ∀ {ns : List Str}, (∀ n ∈ ns, n ∈ nms ps) → ∀ p ∈ ns.map (fun n => (n, kdOf ps n)), Sh 12 p.1 ∧ nameB (.str p.1) = true ∧ KindS p.2 := fun {ns} h p hp => by
    obtain ⟨n, hn, rfl⟩ := List.mem_map.mp hp
    exact ⟨(c.nm (h n hn)).1, (c.nm (h n hn)).2, (c.kd (h n hn)).2⟩
  have idm : ∀ ns : List Str, (ns.map (fun n => (n, kdOf ps n))).map (·.1) = ns := fun ns => by rw [List.map_map]; exact List.map_id' ns
  cases h with
  | keep h => exact ⟨h.noL, True.intro, c⟩
  | @setO x k e hx hk h =>
    refine ⟨⟨(c.nm hx).2, h.noL⟩, True.intro, ?_, ?_, by rw [List.length_map]; exact c.l1, by rw [List.length_map]; exact c.l8⟩
    · intro p hp
      obtain ⟨q, hq, rfl⟩ := List.mem_map.mp hp
      obtain ⟨h1, h2, h3⟩ := c.ok q hq
      refine ⟨h1, h2, ?_⟩
      show KindS (if q.1 = x then k else q.2)
      split
      · exact hk
      · exact h3
    · rw [List.map_map]
      exact c.nd
  | @setN x k e hx nx hk h l =>
    refine ⟨⟨nx.2, h.noL⟩, True.intro, ?_, ?_, by rw [List.length_append]; show 1 ≤ _ + 1; omega, by rw [List.length_append]; show _ + 1 ≤ 8; omega⟩
    · intro p hp
      rcases List.mem_append.mp hp with hp | hp
      · exact c.ok p hp
      · rw [List.mem_singleton.mp hp]; exact ⟨nx.1, nx.2, hk⟩
    · rw [List.map_append, List.nodup_append]
      exact ⟨c.nd, List.nodup_cons.mpr ⟨nofun, List.nodup_nil⟩, fun a ha b hb e => hx (by rw [List.mem_singleton.mp hb] at e; rw [← show a = x from e]; exact ha)⟩
  | @select ns h nd l1 l8 =>
    exact ⟨⟨fun x hx => (c.nm (h x hx)).2, nd, l1, l8⟩, noe nofun nofun, sel h, by rw [idm]; exact nd, by rw [List.length_map]; exact l1, by rw [List.length_map]; exact l8⟩
  | @rename a b ha nb hb =>
    refine ⟨⟨(c.nm ha).2, nb.2⟩, noe nofun nofun, ?_, ?_, by rw [List.length_map]; exact c.l1, by rw [List.length_map]; exact c.l8⟩
    · intro p hp
      obtain ⟨q, hq, rfl⟩ := List.mem_map.mp hp
      obtain ⟨h1, h2, h3⟩ := c.ok q hq
      show Sh 12 (if q.1 = a then b else q.1) ∧ nameB (.str (if q.1 = a then b else q.1)) = true ∧ _
      split
      · exact ⟨nb.1, nb.2, h3⟩
      · exact ⟨h1, h2, h3⟩
    · have e : (ps.map fun p => (if p.1 = a then b else p.1, p.2)).map (·.1) = (nms ps).map fun n => if n = a then b else n := by
        rw [List.map_map, List.map_map]
        rfl
      rw [e]
      refine nodup_map c.nd fun x hx y hy exy => ?_
      by_cases h1 : x = a
      · by_cases h2 : y = a
        · rw [h1, h2]
        · rw [if_pos h1, if_neg h2] at exy
          exact absurd exy (hb y hy h2)
      · by_cases h2 : y = a
        · rw [if_neg h1, if_pos h2] at exy
          exact absurd exy.symm (hb x hx h1)
        · rw [if_neg h1, if_neg h2] at exy
          exact exy
  | sort ha => exact ⟨(c.nm ha).2, noe nofun nofun, c⟩
  | first h => exact ⟨h, noe nofun nofun, c⟩
  | sample h1 h2 h3 h4 => exact ⟨⟨h1, h2, h3, h4⟩, noe nofun nofun, c⟩
  | distinct => exact ⟨True.intro, noe nofun nofun, c⟩
  | union ht => exact ⟨(ho _ ht).1, noe nofun nofun, c⟩
  | @join t ks qs ht nd l1 l3 h hk l8 =>
    have cq := (ho _ ht).2
    refine ⟨⟨(ho _ ht).1, fun x hx => (c.nm ((h x).mp hx).2).2, nd, l1, l3⟩, noe nofun nofun, ?_, ?_, by rw [List.length_append]; have := c.l1; omega, by rw [List.length_append]; exact l8⟩
    · intro p hp
      rcases List.mem_append.mp hp with hp | hp
      · exact c.ok p hp
      · exact cq.ok p (List.mem_filter.mp hp).1
    · rw [List.map_append, List.nodup_append]
      refine ⟨c.nd, ?_, fun a ha b hb e => ?_⟩
      · exact (List.filter_sublist.map _).nodup cq.nd
      · obtain ⟨p, hp, rfl⟩ := List.mem_map.mp hb
        have := (List.mem_filter.mp hp).2
        exact (of_decide_eq_true this) (by rw [← e]; exact ha)
  | @group ks ts hk g ht =>
    refine ⟨g, noe nofun nofun, ?_, ?_, ?_, ?_⟩
    · intro p hp
      rcases List.mem_append.mp hp with hp | hp
      · exact sel hk p hp
      · obtain ⟨t, h1, rfl⟩ := List.mem_map.mp hp
        exact ⟨(ht t h1).1, (g.t t h1).1, .inl rfl⟩
    · rw [List.map_append, idm, List.map_map]
      exact g.nd
    · rw [List.length_append, List.length_map, List.length_map]
      have := g.tl
      omega
    · rw [List.length_append, List.length_map, List.length_map]
      exact g.al
/-! ## columns in the heap -/
def dl (t : Addr) (H : Hp) : Hp := fun b => if b = t then none else H b
theorem dl_at {t a : Addr} {H : Hp} {o : HO} (n : a ≠ t) (e : H a = some o) : dl t H a = some o := by
  unfold dl
  rw [if_neg n]
  exact e
theorem dl_of {t a : Addr} {H : Hp} {o : HO} (e : dl t H a = some o) : a ≠ t ∧ H a = some o := by
  unfold dl at e
  by_cases q : a = t
  · rw [if_pos q] at e; cases e
  · rw [if_neg q] at e; exact ⟨q, e⟩
theorem dl_same {t : Addr} {H H' : Hp} (s : SameB t H H') : Same (dl t H) (dl t H') := fun b o e => dl_at (dl_of e).1 (s b o (dl_of e).1 (dl_of e).2)
theorem dl_here {t : Addr} {H : Hp} : Same (dl t H) H := fun b o e => (dl_of e).2
abbrev DhT (t : Addr) (H : Hp) (v : V) (d : PyData) : Prop := Dh (dl t H) v d
theorem dts {t : Addr} {H H1 : Hp} {v : V} {d : PyData} (h : DhT t H v d) (s : Same H H1) : DhT t H1 v d := h.same (dl_same (Same.b t s))
theorem dtb {t : Addr} {H H1 : Hp} {v : V} {d : PyData} (h : DhT t H v d) (s : SameB t H H1) : DhT t H1 v d := h.same (dl_same s)
theorem dtsA {t : Addr} {H H1 : Hp} {vs : List V} {ds : List PyData} (h : DhAll (dl t H) vs ds) (s : Same H H1) : DhAll (dl t H1) vs ds := h.same (dl_same (Same.b t s))
theorem dtbA {t : Addr} {H H1 : Hp} {vs : List V} {ds : List PyData} (h : DhAll (dl t H) vs ds) (s : SameB t H H1) : DhAll (dl t H1) vs ds := h.same (dl_same s)
theorem DhF.t {t : Addr} {H H' : Hp} {v : V} {d : PyData} (T : Tape H t) (h : DhF H H' v d) : DhT t H' v d := h (dl t H') fun b o n e => dl_at (T.ne n) e
/-- a new tuple of data -/
theorem dh_tupT {t p : Addr} {H : Hp} {vs : List V} {ds : List PyData} (T : Tape H t) (h : DhAll (dl t H) vs ds) (hp : H p = none) : DhT t (upd H p (.tup vs)) (.ref p) (.tuple ds) := .tup (dl_at (T.ne hp) upd_same) (dtsA h (Same.upd hp))
def CA (H : Hp) (L : Addr) (ps : CsL) : Prop := ∃ xs, ZT H L xs ∧ Cols H xs ps
theorem CA.b {t : Addr} {H H' : Hp} {L : Addr} {ps : CsL} (h : CA H L ps) (T : Tape H t) (s : SameB t H H') : CA H' L ps := by
  obtain ⟨xs, z, c⟩ := h
  exact ⟨xs, z.b T s, c.b T s⟩
theorem CA.same {H H' : Hp} {L : Addr} {ps : CsL} (h : CA H L ps) (s : Same H H') : CA H' L ps := by
  obtain ⟨xs, z, c⟩ := h
  exact ⟨xs, z.same s, c.t (SameT.of s)⟩
theorem SameT.b2 {t : Addr} {H H' : Hp} (T : Tape H t) (s : SameB t H H') : SameT H H' := SameT.b T s
/-- a text of these columns as it is: the names -/
theorem cols_at {H : Hp} {xs : List V} {ps : CsL} (c : Cols H xs ps) {i : Nat} {x : V} (h : xs[i]? = some x) : ∃ a z k, x = .ref a ∧ H a = some (.tup [.str z, .str k]) ∧ ps[i]? = some (z, k) := c.get _ _ h
/-- what is new stays when the tape is drawn from and when a list is written -/
theorem dlT {t a : Addr} {H : Hp} {zs ys : List V} (e : H a = some (.lst zs)) : SameT (dl t H) (dl t (upd H a (.lst ys))) := fun b xs q => by
  obtain ⟨n, q⟩ := dl_of q
  exact dl_at n (by rw [upd_ne (ne_of q e nofun)]; exact q)
theorem DhT.upd {t a : Addr} {H : Hp} {zs ys : List V} {v : V} {d : PyData} (h : DhT t H v d) (n : noL d = true) (e : H a = some (.lst zs)) : DhT t (L2.upd H a (.lst ys)) v d := h.t (dlT e) n
theorem dhtA_upd {t a : Addr} {H : Hp} {zs ys vs : List V} {ds : List PyData} (h : DhAll (dl t H) vs ds) (n : ∀ d ∈ ds, noL d = true) (e : H a = some (.lst zs)) : DhAll (dl t (L2.upd H a (.lst ys))) vs ds := by
  induction ds generalizing vs with
  | nil => cases h; exact .nil
  | cons d ds ih =>
    cases h with
    | cons h r => exact .cons (DhT.upd h (n d List.mem_cons_self) e) (ih r fun x hx => n x (List.mem_cons_of_mem _ hx))
def NewX (H : Hp) (t c : Addr) (ps : List (Str × Str)) (n : Nat) (k : Str) (Q : VK) : Prop := ∀ (v : V) (d : PyData) (H' : Hp), DhT t H' v d → Xp ps n k d → TapeL c H' t → SameB t H H' → Q v H'
def spXp : Nat → Sp
  | 0 => fun _ _ _ _ => False
  | n + 1 => fun vs H Q _ => ∃ (t c L : Addr) (kind : Str) (xs : List V) (ps : List (Str × Str)), vs = [.ref t, .ref L, .str kind, .int ((n : Int) + 1)] ∧ KindS kind ∧ TapeL c H t ∧ Rd H L (.tup xs) ∧ Cols H xs ps ∧ ps.length ≤ 8 ∧ NewX H t c ps (n + 1) kind Q
end K13
set_option Elab.async false
set_option linter.all false
set_option maxRecDepth 100000
set_option maxHeartbeats 4000000
namespace K13
open PySem PySem.Spec PyProof.Rows L2 Lc
/-! ## some of the items, in a drawn order -/
theorem erase_perm {α : Type} : ∀ {l : List α} {k : Nat} {y : α}, l[k]? = some y → (y :: l.eraseIdx k).Perm l
  | [], k, y, h => by simp at h
  | a :: l, 0, y, h => by
    have e : a = y := by simpa using h
    subst e
    exact List.Perm.refl _
  | a :: l, k + 1, y, h => by
    have ih := erase_perm (l := l) (k := k) (y := y) (by simpa using h)
    show (y :: a :: l.eraseIdx k).Perm (a :: l)
    exact (List.Perm.swap a y _).trans (ih.cons a)
theorem map_er {α β : Type} (f : α → β) : ∀ (l : List α) (k : Nat), (l.map f).eraseIdx k = (l.eraseIdx k).map f
  | [], k => by cases k <;> rfl
  | a :: l, 0 => rfl
  | a :: l, k + 1 => by
    show f a :: (l.map f).eraseIdx k = f a :: (l.eraseIdx k).map f
    rw [map_er f l k]
def spPk : Sp := fun vs H Q _ => ∃ (t c L : Addr) (ss : List Str) (many : Int), vs = [.ref t, .ref L, .int many] ∧ TapeL c H t ∧ H L = some (.lst (vS ss)) ∧ ss.Nodup ∧ ss.length ≤ 8 ∧ 1 ≤ many ∧ many ≤ 8 ∧
  ∀ (G : Addr) (gs : List Str) (H' : Hp), H' G = some (.lst (vS gs)) → H G = none → (∀ x ∈ gs, x ∈ ss) → gs.Nodup → (ss ≠ [] → gs ≠ []) → (gs.length : Int) ≤ many → TapeL c H' t → SameB t H H' → Q (.ref G) H'
def spSmp : Sp := fun vs H Q _ => ∃ (t c : Addr), vs = [.ref t] ∧ TapeL c H t ∧ ∀ (v : V) (n w s : Nat) (H' : Hp), n ≤ w → 1 ≤ w → w ≤ 1000 → s ≤ 1000000000 → DhT t H' v (Ps.d (.sample n w s)) → TapeL c H' t → SameB t H H' → Q v H'
def spSrt : Sp := fun vs H Q _ => ∃ (t c L : Addr) (ps : CsL), vs = [.ref t, .ref L] ∧ TapeL c H t ∧ CA H L ps ∧ ColP ps ∧ ∀ (v : V) (a : Str) (u : Bool) (H' : Hp), a ∈ nms ps → DhT t H' v (Ps.d (.sort a u)) → TapeL c H' t → SameB t H H' → Q v H'
theorem nm_turn {H H1 : Hp} {D : Addr} {ps : CsL} {i : Nat} {z kk : Str} (hD : H D = none) (hD1 : H1 D = some (.lst (vS ((nms ps).take i)))) (ep : ps[i]? = some (z, kk)) (l8 : ps.length ≤ 8) (s1 : Same H H1) : ∃ acc, H1 D = some (.lst acc) ∧ acc.length < sizeLine ∧ (upd H1 D (.lst (acc ++ [.str z])) D = some (.lst (vS ((nms ps).take (i + 1)))) ∧ Same H (upd H1 D (.lst (acc ++ [.str z])))) := by
  refine ⟨_, hD1, ?_, ?_, fun b o e => by rw [upd_ne (ne_of_none e hD)]; exact s1 b o e⟩
  · rw [List.length_map, List.length_take, List.length_map]
    exact Nat.lt_of_le_of_lt (show _ ≤ 8 by omega) (by decide)
  · have : (nms ps)[i]? = some z := by rw [List.getElem?_map, ep]; rfl
    rw [upd_same, List.take_add_one, this]
    unfold vS
    rw [List.map_append]
    rfl
theorem seq_ix {n : Nat} {d : Int} (h0 : 0 ≤ d) (h1 : d < n) : seqIndex? d n = some d.toNat := by
  refine (ixN_seq (n := n) (i := d) (j := d.toNat) ?_).1
  unfold ixN
  rw [if_pos h0, if_pos h1]
theorem lt_size {n : Nat} (h : n ≤ 1000) : n < sizeLine := Nat.lt_of_le_of_lt h (by decide)
section
variable {P : Program} {w : World} {K : PySem.W.Frag} {mg : Str → Option Value} {base : Heap} {f : Addr} {fd : FuncData}
abbrev sPk : Stmt := top 83
abbrev nPk : List Str := ["_law_tape_here", "_law_items", "_law_many", "_law_rest", "_law_got", "_law_k"]
abbrev pPk : List Str := ["_law_tape_here", "_law_items", "_law_many"]
theorem scPk : FnScope nPk pPk (defScope sPk) := ⟨rfl, rfl, rfl, by decide +kernel, rfl, by decide +kernel, by decide +kernel⟩
section
variable {fA_ : Addr} {fdA_ : FuncData}
theorem ok_Pk (F : Fun K "_law_pick" "_law_pick" sPk f fd) (T : Bt mg)
    (GA_ : FnOk P w K mg base CX0 1 fA_ fdA_ ["_law_tape_here", "_law_many"] (spDrawL)) (mA_ : mg "_law_draw" = some (.ref fA_)) (kA_ : PySem.W.keepIn K (.ref fA_) = true) (bA_ : Binds K fdA_ ["_law_tape_here", "_law_many"] []) : FnOk P w K mg base CX0 2 f fd pPk (spPk) := by
  refine F.ok scPk (fun vs H Q E h => ?_) (fun cdv A outer s H vs Q E hr h => ?_)
  · obtain ⟨t, c, L, ss, many, rfl, _⟩ := h
    rfl
  · obtain ⟨t, c, L, ss, many, rfl, hT, hL, nd, l8, m1, m8, k⟩ := h
    have hrA_ : Room (1) _ := hr.mono (by first | decide | omega)
    refine ⟨_, (pss_cons (ps_set (i := 3) scPk.nd rfl (Or.inl rfl) (pe_callTy call_list_of (by rfl) T.list boot_list (pa_cons (pv 1) pa_nil)))
      (pss_cons (ps_set (i := 4) scPk.nd rfl (Or.inl rfl) (pe_lst pa_nil))
      (pss_cons (ps_for PassesOwn.never rfl (pi_range1 (by rfl) T.range (pa_cons (pe_callB (call_min2 rfl) (by rfl) T.min (by decide +kernel) (pa_cons (pe_callB call_len_seq (by rfl) T.len PySem.boot_len (pa_cons (pv 3) pa_nil)) (pa_cons (pv 2) pa_nil))) pa_nil)) (pg_name (i := 5) scPk.nd rfl (.inl rfl)) (pss_one (ps_if (PW.pt (pw_or (pt_cmpR op_eq (pv 5) pe_int (nomark _)) (pw_or1 (pt_cmpR op_gt (pe_call GA_ hrA_ (by rfl) mA_ kA_ bA_ .nil pass0 (pa_cons (pv 0) (pa_cons pe_int pa_nil))) pe_int (nomark _))))) (pss_one (ps_expr (pe_bm PySem.F.plainAttrs_list PySem.F.slot_list_append PySem.F.type_list_append mt_append (pv 4) (pa_cons (pe_bm PySem.F.plainAttrs_list PySem.F.slot_list_pop PySem.F.type_list_pop mt_popAt (pv 3) (pa_cons (pe_call GA_ hrA_ (by rfl) mA_ kA_ bA_ .nil pass0 (pa_cons (pv 0) (pa_cons (pe_callB call_len_seq (by rfl) T.len PySem.boot_len (pa_cons (pv 3) pa_nil)) pa_nil))) pa_nil)) pa_nil)))) pss_nil)))
      (pss_one (ps_ret (pv 4)))))), ?_⟩
    have two : 2 ≤ sizeLine := by decide
    have one : 1 ≤ sizeLine := by decide
    have three : 3 ≤ sizeLine := by decide
    have four : 4 ≤ sizeLine := by decide
    have nLt := ne_tape hT.tape hL
    refine ⟨_, rfl, L, _, rfl, .inl (SqL.of hL), fun R hR => ⟨Nat.zero_le _, fun G hG => ?_⟩⟩
    have zR := Same.upd (o := .lst (vS ss)) hR
    have zG := Same.upd (o := .lst []) hG
    have gG := Same.gone zR hG
    have nRt := hT.tape.ne hR
    have nGt := hT.tape.ne gG
    obtain ⟨ys, hc⟩ := hT.list
    have nRc : R ≠ c := Ne.symm (ne_of_none hc hR)
    have nGc : G ≠ c := Ne.symm (ne_of_none hc gG)
    have eR0 : upd H R (.lst (vS ss)) R = some (.lst (vS ss)) := upd_same
    have nRG : R ≠ G := ne_of_none eR0 hG
    have eR1 := zG _ _ eR0
    have eG1 : upd (upd H R (.lst (vS ss))) G (.lst []) G = some (.lst []) := upd_same
    have z2 := zR.trans zG
    have T2 := hT.same z2
    generalize upd (upd H R (.lst (vS ss))) G (.lst []) = H2 at eR1 eG1 z2 T2 ⊢
    clear zG eR0 zR
    refine ⟨_, rfl, R, _, rfl, .inl (SqL.of eR1), _, rfl, _, _, rfl, ?_⟩
    rw [List.length_map]
    generalize hn : (if many < (ss.length : Int) then many else (ss.length : Int)) = n
    have n1 : n ≤ many ∧ n ≤ ss.length ∧ 0 ≤ n ∧ (ss ≠ [] → 0 < n) := by
      have : ss ≠ [] → 0 < ss.length := fun h => List.length_pos_iff.mpr h
      by_cases q : many < (ss.length : Int)
      · rw [if_pos q] at hn; omega
      · rw [if_neg q] at hn
        refine ⟨by omega, by omega, by omega, fun h => ?_⟩
        have := this h
        omega
    clear hn
    refine ⟨n, rfl, by omega, by omega, for_range (n := n.toNat) (fun i σ H' => (∃ (x5 : Option V) (rs gs : List Str), σ = [some (.ref t), some (.ref L), some (.int many), some (.ref R), some (.ref G), x5] ∧ H' R = some (.lst (vS rs)) ∧ H' G = some (.lst (vS gs)) ∧ (gs ++ rs).Nodup ∧ (∀ x ∈ gs ++ rs, x ∈ ss) ∧ gs.length + rs.length = ss.length ∧ gs.length ≤ i ∧ (0 < i → gs ≠ [])) ∧ TapeL c H' t ∧ SameB t H H')
      ⟨⟨none, ss, [], rfl, eR1, eG1, nd, fun x hx => hx, Nat.zero_add _, Nat.le_refl _, fun h => absurd h (Nat.lt_irrefl 0)⟩, T2, Same.b t z2⟩ ?_ ?_⟩
    · clear eR1 eG1 T2
      rintro i σ H3 hi ⟨⟨x5, rs, gs, rfl, eR, eG, pnd, pin, len, gl, ge⟩, T3, S3⟩
      refine ⟨_, rfl, rfl, _, rfl, ?_⟩
      by_cases z : i = 0
      · rw [show decide (V.int ((0 : Int) + (i : Int)) = V.int 0) = true by rw [z]; rfl]
        refine iteT (iteT ?_)
        refine ⟨_, rfl, .inl ⟨rfl, _, SqL.of eG⟩, _, rfl, .inl ⟨rfl, _, SqL.of eR⟩, _, rfl, _, rfl, R, _, rfl, .inl (SqL.of eR), t, c, _, rfl, T3, by rw [List.length_map]; omega, big1000 (by omega) (by rw [List.length_map]; omega), fun d Hd d0 d1 Td Sd => ?_⟩
        rw [List.length_map] at d1
        have eR2 := Sd _ _ nRt eR
        have eG2 := Sd _ _ nGt eG
        have hd : d.toNat < rs.length := by omega
        obtain ⟨y, ey⟩ : ∃ y, rs[d.toNat]? = some y := ⟨_, List.getElem?_eq_getElem hd⟩
        have pm := erase_perm ey
        refine ⟨R, _, d, d.toNat, .str y, rfl, rfl, eR2, by omega, by omega, seq_ix d0 (by rw [List.length_map]; omega), by rw [List.getElem?_map, ey]; rfl, G, _, _, rfl, rfl, by rw [upd_ne (Ne.symm nRG)]; exact eG2, by rw [List.length_map]; exact lt_size (by omega), ?_⟩
        rw [map_er]
        have er := List.length_eraseIdx_of_lt hd
        refine ⟨⟨_, rs.eraseIdx d.toNat, gs ++ [y], rfl, by rw [upd_ne nRG, upd_same], by rw [upd_same]; unfold vS; rw [List.map_append]; rfl, ?_, ?_, by rw [List.length_append]; show _ + 1 + _ = _; omega, by rw [List.length_append]; show _ + 1 ≤ _; omega, fun _ => by simp⟩, (Td.upd nRt nRc).upd nGt nGc, ?_⟩
        · rw [List.append_assoc]
          exact pnd.perm ((List.Perm.append_left gs pm).symm)
        · intro x hx
          refine pin x ?_
          rw [List.append_assoc] at hx
          exact (List.Perm.append_left gs pm).mem_iff.mp hx
        · intro b o n e
          rw [upd_ne (fun z => by rw [z, gG] at e; cases e), upd_ne (fun z => by rw [z, hR] at e; cases e)]
          exact (S3.trans Sd) b o n e
      · rw [show decide (V.int ((0 : Int) + (i : Int)) = V.int 0) = false from decide_eq_false (fun h => z (by injection h with h; omega))]
        refine iteF ⟨_, rfl, t, c, _, rfl, T3, by decide, big1000 (by decide) (by decide), fun e He e0 e3 T4 S4 => ?_⟩
        replace eR := S4 _ _ nRt eR
        replace eG := S4 _ _ nGt eG
        have S34 := S3.trans S4
        refine ⟨_, _, rfl, rfl, _, rfl, ite2 (fun _ => ?_) (fun _ => ⟨⟨_, rs, gs, rfl, eR, eG, pnd, pin, len, by omega, fun _ => ge (by omega)⟩, T4, S34⟩)⟩
        refine ⟨_, rfl, .inl ⟨rfl, _, SqL.of eG⟩, _, rfl, .inl ⟨rfl, _, SqL.of eR⟩, _, rfl, _, rfl, R, _, rfl, .inl (SqL.of eR), t, c, _, rfl, T4, by rw [List.length_map]; omega, big1000 (by omega) (by rw [List.length_map]; omega), fun d Hd d0 d1 Td Sd => ?_⟩
        rw [List.length_map] at d1
        have eR2 := Sd _ _ nRt eR
        have eG2 := Sd _ _ nGt eG
        have hd : d.toNat < rs.length := by omega
        obtain ⟨y, ey⟩ : ∃ y, rs[d.toNat]? = some y := ⟨_, List.getElem?_eq_getElem hd⟩
        have pm := erase_perm ey
        refine ⟨R, _, d, d.toNat, .str y, rfl, rfl, eR2, by omega, by omega, seq_ix d0 (by rw [List.length_map]; omega), by rw [List.getElem?_map, ey]; rfl, G, _, _, rfl, rfl, by rw [upd_ne (Ne.symm nRG)]; exact eG2, by rw [List.length_map]; exact lt_size (by omega), ?_⟩
        rw [map_er]
        have er := List.length_eraseIdx_of_lt hd
        refine ⟨⟨_, rs.eraseIdx d.toNat, gs ++ [y], rfl, by rw [upd_ne nRG, upd_same], by rw [upd_same]; unfold vS; rw [List.map_append]; rfl, ?_, ?_, by rw [List.length_append]; show _ + 1 + _ = _; omega, by rw [List.length_append]; show _ + 1 ≤ _; omega, fun _ => by simp⟩, (Td.upd nRt nRc).upd nGt nGc, ?_⟩
        · rw [List.append_assoc]
          exact pnd.perm ((List.Perm.append_left gs pm).symm)
        · intro x hx
          refine pin x ?_
          rw [List.append_assoc] at hx
          exact (List.Perm.append_left gs pm).mem_iff.mp hx
        · intro b o n e
          rw [upd_ne (fun z => by rw [z, gG] at e; cases e), upd_ne (fun z => by rw [z, hR] at e; cases e)]
          exact (S34.trans Sd) b o n e
    · rintro σ H3 ⟨⟨x5, rs, gs, rfl, eR, eG, pnd, pin, len, gl, ge⟩, T3, S3⟩
      exact ⟨_, rfl, k G gs H3 eG gG (fun x hx => pin x (List.mem_append_left _ hx)) (List.nodup_append.mp pnd).1 (fun h => ge (by have := n1.2.2.2 h; omega)) (by omega) T3 S3⟩
end
abbrev sSmp : Stmt := top 86
abbrev nSmp : List Str := ["_law_tape_here", "_law_whole"]
abbrev pSmp : List Str := ["_law_tape_here"]
theorem scSmp : FnScope nSmp pSmp (defScope sSmp) := ⟨rfl, rfl, rfl, by decide +kernel, rfl, by decide +kernel, by decide +kernel⟩
section
variable {fA_ : Addr} {fdA_ : FuncData}
theorem ok_Smp (F : Fun K "_law_sample_step" "_law_sample_step" sSmp f fd) (T : Bt mg)
    (GA_ : FnOk P w K mg base CX0 1 fA_ fdA_ ["_law_tape_here", "_law_many"] (spDrawL)) (mA_ : mg "_law_draw" = some (.ref fA_)) (kA_ : PySem.W.keepIn K (.ref fA_) = true) (bA_ : Binds K fdA_ ["_law_tape_here", "_law_many"] []) : FnOk P w K mg base CX0 2 f fd pSmp (spSmp) := by
  refine F.ok scSmp (fun vs H Q E h => ?_) (fun cdv A outer s H vs Q E hr h => ?_)
  · obtain ⟨t, c, rfl, _⟩ := h
    rfl
  · obtain ⟨t, c, rfl, hT, k⟩ := h
    have hrA_ : Room (1) _ := hr.mono (by first | decide | omega)
    refine ⟨_, (pss_cons (ps_set (i := 1) scSmp.nd rfl (Or.inl rfl) (pe_ix ix_list (pe_lst (pa_cons pe_int (pa_cons pe_int (pa_cons pe_int (pa_cons pe_int pa_nil))))) (pe_call GA_ hrA_ (by rfl) mA_ kA_ bA_ .nil pass0 (pa_cons (pv 0) (pa_cons pe_int pa_nil))) (fun _ _ => rfl)))
      (pss_one (ps_ret (pe_tup (pa_cons pe_str (pa_cons (pe_call GA_ hrA_ (by rfl) mA_ kA_ bA_ .nil pass0 (pa_cons (pv 0) (pa_cons (pe_op op_add (pv 1) pe_int) pa_nil))) (pa_cons (pv 1) (pa_cons (pe_call GA_ hrA_ (by rfl) mA_ kA_ bA_ .nil pass0 (pa_cons (pv 0) (pa_cons (pe_op op_add (pe_op op_pow pe_int pe_int) pe_int) pa_nil))) pa_nil)))))))), ?_⟩
    have two : 2 ≤ sizeLine := by decide
    have one : 1 ≤ sizeLine := by decide
    have three : 3 ≤ sizeLine := by decide
    have four : 4 ≤ sizeLine := by decide
    have pw9 : CPow 10 9 := ⟨by decide, by decide, by decide⟩
    have p9 : (10 : Int) ^ (9 : Int).toNat = 1000000000 := by decide
    have bigx : ∀ z : Int, 0 ≤ z → z ≤ 1000000001 → z.natAbs < 2 ^ 4000 := fun z h1 h2 => Nat.lt_of_lt_of_le (show z.natAbs < 2 ^ 40 by omega) (Nat.pow_le_pow_right (by decide) (by decide))
    refine ⟨four, fun Y hY => ?_⟩
    have zY := Same.upd (o := .lst [.int 2, .int 3, .int 10, .int 1000]) hY
    have nY := hT.tape.ne hY
    refine ⟨_, rfl, t, c, _, rfl, hT.same zY, by decide, big1000 (by decide) (by decide), fun j H2 j0 j4 T2 S2 => ?_⟩
    obtain ⟨w, ew, w1, w2⟩ : ∃ w : Nat, ([.int 2, .int 3, .int 10, .int 1000] : List V)[j.toNat]? = some (.int w) ∧ 1 ≤ w ∧ w ≤ 1000 := by
      have : j.toNat = 0 ∨ j.toNat = 1 ∨ j.toNat = 2 ∨ j.toNat = 3 := by omega
      rcases this with e | e | e | e <;> rw [e]
      · exact ⟨2, rfl, by decide, by decide⟩
      · exact ⟨3, rfl, by decide, by decide⟩
      · exact ⟨10, rfl, by decide, by decide⟩
      · exact ⟨1000, rfl, by decide, by decide⟩
    have S02 := (Same.b t zY).trans S2
    refine ⟨Y, _, _, .int w, rfl, rfl, SqL.of (S2 _ _ nY upd_same), at_of (j := j.toNat) (by omega) ew, ?_⟩
    refine ⟨_, rfl, _, rfl, _, _, rfl, rfl, t, c, _, rfl, T2, by omega, bigx _ (by omega) (by omega), fun n H3 n0 n1 T3 S3 => ?_⟩
    refine ⟨_, rfl, _, rfl, _, _, rfl, rfl, pw9, _, _, rfl, rfl, t, c, _, rfl, T3, by rw [p9]; decide, by rw [p9]; exact bigx _ (by decide) (by decide), fun s H4 s0 s1 T4 S4 => ⟨four, fun r hr => ?_⟩⟩
    rw [p9] at s1
    obtain ⟨n, rfl⟩ : ∃ m : Nat, n = m := ⟨n.toNat, by omega⟩
    obtain ⟨s, rfl⟩ : ∃ m : Nat, s = m := ⟨s.toNat, by omega⟩
    exact k _ n w s _ (by omega) w1 w2 (by omega) (dh_tupT T4.tape (.cons (.str _) (.cons (.int _) (.cons (.int _) (.cons (.int _) .nil)))) hr) (T4.same (Same.upd hr)) ((S02.trans (S3.trans S4)).trans (Same.b t (Same.upd hr)))
end
abbrev sSrt : Stmt := top 85
abbrev nSrt : List Str := ["_law_tape_here", "_law_columns_here", "_law_names", "_law_name_here", "_law_kind"]
abbrev pSrt : List Str := ["_law_tape_here", "_law_columns_here"]
theorem scSrt : FnScope nSrt pSrt (defScope sSrt) := ⟨rfl, rfl, rfl, by decide +kernel, rfl, by decide +kernel, by decide +kernel⟩
section
variable {fA_ : Addr} {fdA_ : FuncData}
theorem ok_Srt (F : Fun K "_law_sort_step" "_law_sort_step" sSrt f fd) (T : Bt mg)
    (GA_ : FnOk P w K mg base CX0 1 fA_ fdA_ ["_law_tape_here", "_law_many"] (spDrawL)) (mA_ : mg "_law_draw" = some (.ref fA_)) (kA_ : PySem.W.keepIn K (.ref fA_) = true) (bA_ : Binds K fdA_ ["_law_tape_here", "_law_many"] []) : FnOk P w K mg base CX0 2 f fd pSrt (spSrt) := by
  refine F.ok scSrt (fun vs H Q E h => ?_) (fun cdv A outer s H vs Q E hr h => ?_)
  · obtain ⟨t, c, L, ps, rfl, _⟩ := h
    rfl
  · obtain ⟨t, c, L, ps, rfl, hT, hL, cp, k⟩ := h
    have hrA_ : Room (1) _ := hr.mono (by first | decide | omega)
    refine ⟨_, (pss_cons (ps_setLc (i := 2) (own := [("_law_name_here", 3), ("_law_kind", 4)]) (g := (gTup K 2 (gCons (gName 3) (gCons (gName 4) gNil)))) (tt := tYes) (te := tVar 3) (by rfl) scSrt.nd rfl rfl (sw_true rfl rfl rfl (by decide +kernel)) (pi_tup (pv 1)) (blkOk_by (own := [("_law_name_here", 3), ("_law_kind", 4)]) (N := nSrt) (sc := defScope sSrt) (by decide +kernel)) (fun _ _ _ _ _ => (pg_tup rfl (pgs_cons (pg_name (i := 3) scSrt.nd rfl (.inl rfl)) (pgs_cons (pg_name (i := 4) scSrt.nd rfl (.inl rfl)) pgs_nil)))) (fun _ _ _ _ _ => pts_nil) (fun _ _ _ _ _ => (pv 3)))
      (pss_one (ps_ret (pe_tup (pa_cons pe_str (pa_cons (pe_ix ix_list (pv 2) (pe_call GA_ hrA_ (by rfl) mA_ kA_ bA_ .nil pass0 (pa_cons (pv 0) (pa_cons (pe_callB call_len_seq (by rfl) T.len PySem.boot_len (pa_cons (pv 2) pa_nil)) pa_nil))) (fun _ _ => rfl)) (pa_cons (pe_ix ix_list (pe_lst (pa_cons pe_str (pa_cons pe_str pa_nil))) (pe_call GA_ hrA_ (by rfl) mA_ kA_ bA_ .nil pass0 (pa_cons (pv 0) (pa_cons pe_int pa_nil))) (fun _ _ => rfl)) pa_nil))))))), ?_⟩
    have two : 2 ≤ sizeLine := by decide
    have one : 1 ≤ sizeLine := by decide
    have three : 3 ≤ sizeLine := by decide
    have four : 4 ≤ sizeLine := by decide
    obtain ⟨xs, zL, cc⟩ := hL
    have l8 := cp.l8
    have l1 := cp.l1
    refine ⟨_, rfl, L, rfl, ⟨_, zL.sq⟩, fun W hW => lc_tup (K := K) (a := L) (xs := xs) (fun i H' => H' W = some (.lst (vS ((nms ps).take i))) ∧ Same H H') ⟨upd_same, Same.upd hW⟩ (fun i H' _ pr => (zL.same pr.2).sq) ?_ ?_⟩
    · rintro i x H1 hx ⟨hW1, s1⟩
      obtain ⟨a, z, kk, rfl, ea, ep⟩ := cc.get _ _ hx
      refine ⟨a, _, rfl, SqT.of (s1 _ _ ea), rfl, _, _, rfl, _, _, rfl, rfl, rfl, ?_⟩
      dsimp only [tYes]
      exact iteT ⟨_, rfl, nm_turn hW hW1 ep cp.l8 s1⟩
    rintro H1 ⟨hW1, s1⟩
    rw [show xs.length = (nms ps).length by rw [cc.len, List.length_map], List.take_length] at hW1
    have T1 := hT.same s1
    have nW := hT.tape.ne hW
    have ln : (vS (nms ps)).length = ps.length := by rw [List.length_map, List.length_map]
    refine ⟨_, rfl, _, rfl, _, rfl, W, _, rfl, .inl (SqL.of hW1), t, c, _, rfl, T1, by rw [ln]; omega, big1000 (by omega) (by rw [ln]; omega), fun j H2 j0 j1 T2 S2 => ?_⟩
    rw [ln] at j1
    have hj : j.toNat < (nms ps).length := by rw [List.length_map]; omega
    obtain ⟨z, ez⟩ : ∃ z, (nms ps)[j.toNat]? = some z := ⟨_, List.getElem?_eq_getElem hj⟩
    refine ⟨W, _, _, .str z, rfl, rfl, SqL.of (S2 _ _ nW hW1), at_of (j := j.toNat) (by omega) (by rw [List.getElem?_map, ez]; rfl), two, fun Y hY => ?_⟩
    have zY := Same.upd (o := .lst [.str "up", .str "down"]) hY
    have nY := T2.tape.ne hY
    refine ⟨_, rfl, t, c, _, rfl, T2.same zY, by decide, big1000 (by decide) (by decide), fun u H3 u0 u2 T3 S3 => ?_⟩
    obtain ⟨b, eb⟩ : ∃ b : Bool, ([.str "up", .str "down"] : List V)[u.toNat]? = some (.str (updn b)) := by
      have : u.toNat = 0 ∨ u.toNat = 1 := by omega
      rcases this with e | e <;> rw [e]
      · exact ⟨true, rfl⟩
      · exact ⟨false, rfl⟩
    refine ⟨Y, _, _, .str (updn b), rfl, rfl, SqL.of (S3 _ _ nY upd_same), at_of (j := u.toNat) (by omega) eb, three, fun r hr => ?_⟩
    have S := (Same.b t s1).trans (S2.trans ((Same.b t zY).trans S3))
    exact k _ z b _ (List.mem_of_getElem? ez) (dh_tupT T3.tape (.cons (.str _) (.cons (.str _) (.cons (.str _) .nil))) hr) (T3.same (Same.upd hr)) (S.trans (Same.b t (Same.upd hr)))
end
end
end K13
set_option Elab.async false
set_option linter.all false
set_option maxRecDepth 100000
set_option maxHeartbeats 4000000
namespace K13
open PySem PySem.Spec PyProof.Rows L2 Lc
/-! ## set: a column is written anew, or a new one -/
abbrev rI1 : List V → Hp → VK → Prop := fun xs H Q => (∃ i, xs = [.int i] ∧ Q (.int i) H) ∨ ∃ k, xs = [.bl k] ∧ Q (.int (if k then 1 else 0)) H
abbrev teSet (K : PySem.W.Frag) : TE := tTup (tCons (tVar 6) (tCons (tOp (rIxL K) (tLst (tCons (tVar 7) (tCons (tVar 4) tNil))) (tCB rI1 (tCons (tOp rEq (tVar 6) (tVar 3)) tNil))) tNil))
def spKs : Sp := fun vs H Q _ => ∃ (t c L : Addr) (ps : CsL), vs = [.ref t, .ref L] ∧ TapeL c H t ∧ CA H L ps ∧ ColP ps ∧ ∀ (r : Addr) (v : V) (C : Addr) (p : Ps) (qs : CsL) (H' : Hp), H' r = some (.tup [v, .ref C]) → DhT t H' v p.d → CA H' C qs → (∀ os, Lead os ps p qs) → TapeL c H' t → SameB t H H' → Q (.ref r) H'
theorem col_turn {H H1 H2 : Hp} {D p : Addr} {ys : List V} {qs : CsL} {z k : Str} (hD : H D = none) (e1 : H1 D = some (.lst ys)) (c1 : Cols H1 ys qs) (l : ys.length ≤ 100) (s1 : Same H H1) (s2 : Same H1 H2) (hp : H2 p = none) :
    ∃ acc, upd H2 p (.tup [.str z, .str k]) D = some (.lst acc) ∧ acc.length < sizeLine ∧ ((∃ ys', upd (upd H2 p (.tup [.str z, .str k])) D (.lst (acc ++ [.ref p])) D = some (.lst ys') ∧ Cols (upd (upd H2 p (.tup [.str z, .str k])) D (.lst (acc ++ [.ref p]))) ys' (qs ++ [(z, k)])) ∧ Same H (upd (upd H2 p (.tup [.str z, .str k])) D (.lst (acc ++ [.ref p])))) := by
  have zp := Same.upd (o := .tup [.str z, .str k]) hp
  have e3 := zp _ _ (s2 _ _ e1)
  refine ⟨ys, e3, lt_size (by omega), ⟨ys ++ [.ref p], upd_same, ?_⟩, fun b o e => by rw [upd_ne (ne_of_none e hD)]; exact zp _ _ (s2 _ _ (s1 _ _ e))⟩
  have c3 : Cols (upd H2 p (.tup [.str z, .str k])) ys qs := (c1.t (SameT.of s2)).t (SameT.of zp)
  exact (c3.app (.cons upd_same .nil)).t (SameT.lst e3)
section
variable {P : Program} {w : World} {K : PySem.W.Frag} {mg : Str → Option Value} {base : Heap} {f : Addr} {fd : FuncData}
abbrev sSst : Stmt := top 84
abbrev nSst : List Str := ["_law_tape_here", "_law_columns_here", "_law_names", "_law_name_here", "_law_kind", "_law_step", "_law_other", "_law_old"]
abbrev pSst : List Str := ["_law_tape_here", "_law_columns_here"]
theorem scSst : FnScope nSst pSst (defScope sSst) := ⟨rfl, rfl, rfl, by decide +kernel, rfl, by decide +kernel, by decide +kernel⟩
section
variable {fA_ fB_ fC_ : Addr} {fdA_ fdB_ fdC_ : FuncData}
theorem ok_Sst (F : Fun K "_law_set_step" "_law_set_step" sSst f fd) (T : Bt mg)
    (GA_ : FnOk P w K mg base CX0 1 fA_ fdA_ ["_law_tape_here", "_law_many"] (spDrawL)) (mA_ : mg "_law_draw" = some (.ref fA_)) (kA_ : PySem.W.keepIn K (.ref fA_) = true) (bA_ : Binds K fdA_ ["_law_tape_here", "_law_many"] [])
    (GB_ : FnOk P w K mg base CX0 3 fB_ fdB_ ["_law_tape_here", "_law_taken"] (spFr)) (mB_ : mg "_law_fresh" = some (.ref fB_)) (kB_ : PySem.W.keepIn K (.ref fB_) = true) (bB_ : Binds K fdB_ ["_law_tape_here", "_law_taken"] [])
    (GC_ : FnOk P w K mg base CX0 6 fC_ fdC_ ["_law_tape_here", "_law_columns_here", "_law_kind", "_law_depth"] (spXp 3)) (mC_ : mg "_law_expression" = some (.ref fC_)) (kC_ : PySem.W.keepIn K (.ref fC_) = true) (bC_ : Binds K fdC_ ["_law_tape_here", "_law_columns_here", "_law_kind", "_law_depth"] []) : FnOk P w K mg base CX0 7 f fd pSst (spKs) := by
  refine F.ok scSst (fun vs H Q E h => ?_) (fun cdv A outer s H vs Q E hr h => ?_)
  · obtain ⟨t, c, L, ps, rfl, _⟩ := h
    rfl
  · obtain ⟨t, c, L, ps, rfl, hT, hL, cp, k⟩ := h
    have hrA_ : Room (1) _ := hr.mono (by first | decide | omega)
    have hrB_ : Room (3) _ := hr.mono (by first | decide | omega)
    have hrC_ : Room (6) _ := hr.mono (by first | decide | omega)
    refine ⟨_, (Evl.pss_cut (ps_setLc (i := 2) (own := [("_law_name_here", 3), ("_law_kind", 4)]) (g := (gTup K 2 (gCons (gName 3) (gCons (gName 4) gNil)))) (tt := tYes) (te := tVar 3) (by rfl) scSst.nd rfl rfl (sw_true rfl rfl rfl (by decide +kernel)) (pi_tup (pv 1)) (blkOk_by (own := [("_law_name_here", 3), ("_law_kind", 4)]) (N := nSst) (sc := defScope sSst) (by decide +kernel)) (fun _ _ _ _ _ => (pg_tup rfl (pgs_cons (pg_name (i := 3) scSst.nd rfl (.inl rfl)) (pgs_cons (pg_name (i := 4) scSst.nd rfl (.inl rfl)) pgs_nil)))) (fun _ _ _ _ _ => pts_nil) (fun _ _ _ _ _ => (pv 3)))
      (pss_cons (ps_set (i := 4) scSst.nd rfl (Or.inr rfl) (pe_ix ix_list (pe_lst (pa_cons pe_str (pa_cons pe_str (pa_cons pe_str pa_nil)))) (pe_call GA_ hrA_ (by rfl) mA_ kA_ bA_ .nil pass0 (pa_cons (pv 0) (pa_cons pe_int pa_nil))) (fun _ _ => rfl)))
      (pss_cons (ps_set (i := 3) scSst.nd rfl (Or.inr rfl) (pe_ix ix_list (pv 2) (pe_call GA_ hrA_ (by rfl) mA_ kA_ bA_ .nil pass0 (pa_cons (pv 0) (pa_cons (pe_callB call_len_seq (by rfl) T.len PySem.boot_len (pa_cons (pv 2) pa_nil)) pa_nil))) (fun _ _ => rfl)))
      (Evl.pss_cut (ps_if (PW.pt (pw_and (pt_cmpR op_lt (pe_callB call_len_seq (by rfl) T.len PySem.boot_len (pa_cons (pv 1) pa_nil)) pe_int (nomark _)) (pw_and1 (pt_cmpR op_eq (pe_call GA_ hrA_ (by rfl) mA_ kA_ bA_ .nil pass0 (pa_cons (pv 0) (pa_cons pe_int pa_nil))) pe_int (nomark _))))) (pss_one (ps_set (i := 3) scSst.nd rfl (Or.inr rfl) (pe_call GB_ hrB_ (by rfl) mB_ kB_ bB_ .nil pass0 (pa_cons (pv 0) (pa_cons (pv 2) pa_nil))))) pss_nil)
      (Evl.pss_cut (ps_set (i := 5) scSst.nd rfl (Or.inl rfl) (pe_tup (pa_cons pe_str (pa_cons (pv 3) (pa_cons (pe_call GC_ hrC_ (by rfl) mC_ kC_ bC_ .nil pass0 (pa_cons (pv 0) (pa_cons (pv 1) (pa_cons (pv 4) (pa_cons pe_int pa_nil))))) pa_nil)))))
      (pss_cons (ps_if (pt_cmpR op_notIn_seq (pv 3) (pv 2) (by rfl)) (pss_one (ps_ret (pe_tup (pa_cons (pv 5) (pa_cons (pe_op op_catZ (pv 1) (pe_tup (pa_cons (pe_tup (pa_cons (pv 3) (pa_cons (pv 4) pa_nil))) pa_nil))) pa_nil))))) pss_nil)
      (pss_one (ps_ret (pe_tup (pa_cons (pv 5) (pa_cons (pe_callTy call_tupleZ (by rfl) T.tuple boot_tuple (pa_cons (pe_lc (own := [("_law_other", 6), ("_law_old", 7)]) (g := (gTup K 2 (gCons (gName 6) (gCons (gName 7) gNil)))) (tt := tYes) (te := teSet K) (by rfl) scSst.nd (pi_tup (pv 1)) (blkOk_by (own := [("_law_other", 6), ("_law_old", 7)]) (N := nSst) (sc := defScope sSst) (by decide +kernel)) (fun _ _ _ _ _ => (pg_tup rfl (pgs_cons (pg_name (i := 6) scSst.nd rfl (.inl rfl)) (pgs_cons (pg_name (i := 7) scSst.nd rfl (.inl rfl)) pgs_nil)))) (fun _ _ _ _ _ => pts_nil) (fun _ _ _ _ _ => (pe_tup (pa_cons (pv 6) (pa_cons (pe_ix ix_list (pe_lst (pa_cons (pv 7) (pa_cons (pv 4) pa_nil))) (pe_callTy call_int1 (by rfl) T.int boot_int (pa_cons (pe_cmpR op_eq (pv 6) (pv 3) (nomark _)) pa_nil)) (fun _ _ => rfl)) pa_nil))))) pa_nil)) pa_nil))))))))))), ?_⟩
    have two : 2 ≤ sizeLine := by decide
    have one : 1 ≤ sizeLine := by decide
    have three : 3 ≤ sizeLine := by decide
    have four : 4 ≤ sizeLine := by decide
    obtain ⟨xs, zL, cc⟩ := hL
    have l8 := cp.l8
    have l1 := cp.l1
    have lx := cc.len
    have lnm : (nms ps).length = ps.length := List.length_map _
    have ln : (vS (nms ps)).length = ps.length := by rw [List.length_map, lnm]
    have fl : (vS (nms ps)).all flatV = true := by simp [flatV]
    refine ⟨fun σ H' => ∃ W : Addr, σ = [some (.ref t), some (.ref L), some (.ref W), none, none, none, none, none] ∧ H' W = some (.lst (vS (nms ps))) ∧ H W = none ∧ Same H H', ?_, ?_⟩
    · refine ⟨_, rfl, L, rfl, ⟨_, zL.sq⟩, fun W hW => lc_tup (K := K) (a := L) (xs := xs) (fun i H' => H' W = some (.lst (vS ((nms ps).take i))) ∧ Same H H') ⟨upd_same, Same.upd hW⟩ (fun i H' _ pr => (zL.same pr.2).sq) ?_ ?_⟩
      · rintro i x H1 hx ⟨hW1, s1⟩
        obtain ⟨a, z, kk, rfl, ea, ep⟩ := cc.get _ _ hx
        refine ⟨a, _, rfl, SqT.of (s1 _ _ ea), rfl, _, _, rfl, _, _, rfl, rfl, rfl, ?_⟩
        dsimp only [tYes]
        exact iteT ⟨_, rfl, nm_turn hW hW1 ep cp.l8 s1⟩
      rintro H1 ⟨hW1, s1⟩
      rw [show xs.length = (nms ps).length by rw [cc.len, List.length_map], List.take_length] at hW1
      exact ⟨W, rfl, hW1, hW, s1⟩
    rintro σ H1 ⟨W, rfl, hW1, hW, s1⟩
    have T1 := hT.same s1
    have S1 := Same.b t s1
    have nW := hT.tape.ne hW
    refine ⟨three, fun Y hY => ?_⟩
    have zY := Same.upd (o := .lst [.str "number", .str "word", .str "flag"]) hY
    have nY := T1.tape.ne hY
    refine ⟨_, rfl, t, c, _, rfl, T1.same zY, by decide, big1000 (by decide) (by decide), fun j H2 j0 j3 T2 S2 => ?_⟩
    obtain ⟨kd, ekd, hk⟩ : ∃ kk : Str, ([.str "number", .str "word", .str "flag"] : List V)[j.toNat]? = some (.str kk) ∧ KindS kk := by
      have : j.toNat = 0 ∨ j.toNat = 1 ∨ j.toNat = 2 := by omega
      rcases this with e | e | e <;> rw [e]
      · exact ⟨_, rfl, .inl rfl⟩
      · exact ⟨_, rfl, .inr (.inl rfl)⟩
      · exact ⟨_, rfl, .inr (.inr rfl)⟩
    refine ⟨Y, _, _, .str kd, rfl, rfl, SqL.of (S2 _ _ nY upd_same), at_of (j := j.toNat) (by omega) ekd, ?_⟩
    have S02 := S1.trans ((Same.b t zY).trans S2)
    have hW2 := S2 _ _ nW (zY _ _ hW1)
    refine ⟨_, rfl, _, rfl, _, rfl, W, _, rfl, .inl (SqL.of hW2), t, c, _, rfl, T2, by rw [ln]; omega, big1000 (by omega) (by rw [ln]; omega), fun i H3 i0 i1 T3 S3 => ?_⟩
    rw [ln] at i1
    obtain ⟨z, ez⟩ : ∃ z, (nms ps)[i.toNat]? = some z := ⟨_, List.getElem?_eq_getElem (by omega)⟩
    have hW3 := S3 _ _ nW hW2
    refine ⟨W, _, _, .str z, rfl, rfl, SqL.of hW3, at_of (j := i.toNat) (by omega) (by rw [List.getElem?_map, ez]; rfl), ?_⟩
    have S03 := S02.trans S3
    have zm := List.mem_of_getElem? ez
    clear S1 S2 S3 S02 T1 T2 zY ekd ez hW1 hW2 s1 hY
    let M := fun (y5 : Option V) (σ : L2.St) (H' : Hp) (x : Str) => σ = [some (.ref t), some (.ref L), some (.ref W), some (.str x), some (.str kd), y5, none, none] ∧ H' W = some (.lst (vS (nms ps))) ∧ (x ∈ nms ps ∨ (x ∉ nms ps ∧ Sh 12 x ∧ nmS x ∧ ps.length < 8)) ∧ TapeL c H' t ∧ SameB t H H'
    refine ⟨fun σ H' => ∃ x, M none σ H' x, ?_, ?_⟩
    · refine ⟨_, rfl, L, _, rfl, .inr (zL.b hT.tape S03).sq, _, _, rfl, rfl, _, rfl, ite2 (fun q => ?_) (fun q => iteF ⟨z, rfl, hW3, .inl zm, T3, S03⟩)⟩
      have q := of_decide_eq_true q
      refine ⟨_, rfl, t, c, _, rfl, T3, by decide, big1000 (by decide) (by decide), fun d H4 d0 d2 T4 S4 => ⟨rfl, _, rfl, ite2 (fun _ => ?_) (fun _ => ⟨z, rfl, S4 _ _ nW hW3, .inl zm, T4, S03.trans S4⟩)⟩⟩
      have hW4 := S4 _ _ nW hW3
      exact ⟨_, rfl, _, rfl, t, c, W, nms ps, rfl, T4, hW4, by omega, fun x H5 hx nx fz T5 S5 => ⟨x, rfl, S5 _ _ nW hW4, .inr ⟨fz, hx, nx, by omega⟩, T5, (S03.trans S4).trans S5⟩⟩
    clear hW3 zm T3 S03 ln
    rintro σ H3 ⟨x, rfl, hW3, hx, T3, S03⟩
    refine ⟨fun σ H' => ∃ v e, M (some v) σ H' x ∧ DhT t H' v (Ps.d (.set x e)) ∧ Xp ps 3 kd e, ?_, ?_⟩
    · refine ⟨_, rfl, _, rfl, _, rfl, _, rfl, t, c, L, kd, xs, ps, rfl, hk, T3, (zL.b hT.tape S03).rd, cc.b hT.tape S03, l8, fun v e H4 df xp T4 S4 => ⟨three, fun r hr => ?_⟩⟩
      have zr := Same.upd (o := .tup [.str "set", .str x, v]) hr
      exact ⟨.ref r, e, ⟨rfl, zr _ _ (S4 _ _ nW hW3), hx, T4.same zr, (S03.trans S4).trans (Same.b t zr)⟩, dh_tupT T4.tape (.cons (.str _) (.cons (.str _) (.cons (df) .nil))) hr, xp⟩
    clear hW3 T3 S03
    rintro σ H4 ⟨v, e, ⟨rfl, hW4, hx, T4, S4⟩, dv, xp⟩
    have z4 := zL.b hT.tape S4
    have c4 := cc.b hT.tape S4
    refine ⟨_, rfl, _, rfl, W, _, rfl, .inl (SqL.of hW4), rfl, fl, _, rfl, ite2 (fun y => ?_) (fun y => ?_)⟩
    · have nx : x ∉ nms ps := fun m => by
        rw [if_pos rfl, in_strs, decide_eq_true m] at y
        cases y
      obtain ⟨_, h1, h2, h3⟩ : x ∉ nms ps ∧ Sh 12 x ∧ nmS x ∧ ps.length < 8 := by
        rcases hx with hx | hx
        · exact absurd hx nx
        · exact hx
      refine ⟨_, rfl, _, rfl, _, rfl, _, rfl, two, fun p hp => ⟨one, fun q hq => ?_⟩⟩
      have zp := Same.upd (o := .tup [.str x, .str kd]) hp
      have zq := Same.upd (o := .tup [.ref p]) hq
      have zpq := zp.trans zq
      refine ⟨L, q, xs, [.ref p], rfl, rfl, (z4.same zpq).sq, SqT.of upd_same, fun z => by rw [z] at lx; change 0 = _ at lx; omega, Nat.le_trans (show _ + 1 ≤ 9 by omega) (by decide), nofun, fun _ r ob hr d1 d2 => ⟨two, fun s hs => ?_⟩⟩
      have zr := Same.upd (o := .frz ob (.tup (xs ++ [.ref p]))) hr
      have zs := Same.upd (o := .tup [v, .ref r]) hs
      have zall := zpq.trans (zr.trans zs)
      refine k s v r (.set x e) _ _ upd_same (dts dv zall) ⟨xs ++ [.ref p], ⟨ob, d1, d2, zs _ _ upd_same⟩, (c4.t (SameT.of zall)).app (.cons (zs _ _ (zr _ _ (zq _ _ upd_same))) .nil)⟩ (fun os => .setN nx ⟨h1, h2⟩ hk xp h3) (T4.same zall) (S4.trans (Same.b t zall))
    · have mx : x ∈ nms ps := by
        rw [if_pos rfl, in_strs] at y
        exact of_decide_eq_true (by simpa using y)
      refine ⟨_, rfl, _, rfl, L, rfl, ⟨_, z4.sq⟩, fun D hD => lc_tup (K := K) (a := L) (xs := xs) (fun i H' => (∃ ys, H' D = some (.lst ys) ∧ Cols H' ys ((ps.take i).map fun p => (p.1, if p.1 = x then kd else p.2))) ∧ Same H4 H') ⟨⟨[], upd_same, .nil⟩, Same.upd hD⟩ (fun i H' _ pr => (z4.same pr.2).sq) ?_ ?_⟩
      · rintro i y H5 hi ⟨⟨ys, e5, c5⟩, s5⟩
        obtain ⟨a, z, kk, rfl, ea, ep⟩ := c4.get _ _ hi
        have l5 := c5.len
        rw [List.length_map, List.length_take] at l5
        refine ⟨a, _, rfl, SqT.of (s5 _ _ ea), rfl, _, _, rfl, _, _, rfl, rfl, rfl, ?_⟩
        dsimp only [tYes]
        refine iteT ?_
        change teSet K _ _ _
        refine ⟨_, rfl, _, rfl, _, rfl, two, fun q hq => ⟨_, rfl, _, rfl, rfl, .inr ⟨_, rfl, q, _, _, .str (if z = x then kd else kk), rfl, rfl, SqL.of upd_same, ?_, two, fun p hp => ?_⟩⟩⟩
        · by_cases zx : z = x
          · rw [if_pos zx, show decide (V.str z = V.str x) = true by rw [zx]; exact decide_eq_true rfl]
            rfl
          · rw [if_neg zx, show decide (V.str z = V.str x) = false from decide_eq_false (fun h => zx (by injection h))]
            rfl
        · rw [List.take_add_one, ep, List.map_append]
          exact col_turn hD e5 c5 (by omega) s5 (Same.upd hq) hp
      rintro H5 ⟨⟨ys, e5, c5⟩, s5⟩
      rw [lx, List.take_length] at c5
      refine ⟨D, ys, rfl, SqL.of e5, fun r ob hr d1 d2 => ⟨two, fun s hs => ?_⟩⟩
      have zr := Same.upd (o := .frz ob (.tup ys)) hr
      have zs := Same.upd (o := .tup [v, .ref r]) hs
      have zall := s5.trans (zr.trans zs)
      exact k s v r (.set x e) _ _ upd_same (dts dv zall) ⟨ys, ⟨ob, d1, d2, zs _ _ upd_same⟩, c5.t (SameT.of (zr.trans zs))⟩ (fun os => .setO mx hk xp) (T4.same zall) (S4.trans (Same.b t zall))
end
end
end K13
set_option Elab.async false
set_option linter.all false
set_option maxRecDepth 100000
set_option maxHeartbeats 4000000
namespace K13
open PySem PySem.Spec PyProof.Rows L2 Lc
/-! ## the kinds of columns as a dict -/
def dkc (ps : CsL) : List (Key × V) := ps.map fun p => ((Sum.inr p.1 : Key), V.str p.2)
theorem merge_new : ∀ (more acc : List (Key × V)), ((acc ++ more).map (·.1)).Nodup → mergeK acc more = acc ++ more
  | [], acc, _ => (List.append_nil acc).symm
  | e :: r, acc, h => by
    have hn : (acc.any fun kv => decide (kv.1 = e.1)) = false := by
      rw [List.any_eq_false]
      intro x hx
      rw [List.map_append, List.nodup_append] at h
      have := h.2.2 x.1 (List.mem_map_of_mem hx) e.1 (List.mem_map_of_mem List.mem_cons_self)
      simpa using this
    have e1 : putK acc e.1 e.2 = acc ++ [e] := by
      unfold putK
      rw [hn, if_neg (by decide)]
    show mergeK (putK acc e.1 e.2) r = _
    rw [e1, merge_new r (acc ++ [e]) (by rw [List.append_assoc]; exact h), List.append_assoc]
    rfl
theorem dkc_merge {ps : CsL} (h : (nms ps).Nodup) : mergeK [] (dkc ps) = dkc ps := by
  refine merge_new (dkc ps) [] ?_
  rw [List.nil_append]
  unfold dkc
  rw [List.map_map]
  have e : ((fun x : Key × V => x.1) ∘ fun p : Str × Str => ((Sum.inr p.1 : Key), V.str p.2)) = (Sum.inr : Str → Key) ∘ (fun p : Str × Str => p.1) := rfl
  rw [e, ← List.map_map]
  exact nodup_map h fun a _ b _ q => by injection q
theorem dkc_get (x : Str) : ∀ ps : CsL, valV (dkc ps) (Sum.inr x : Key) = (ps.find? fun p => decide (p.1 = x)).map fun p => .str p.2
  | [] => rfl
  | p :: ps => by
    have ih := dkc_get x ps
    unfold dkc at ih ⊢
    rw [List.map_cons, List.find?_cons]
    by_cases q : p.1 = x
    · rw [valV_pos (by rw [q]), decide_eq_true q]
      rfl
    · rw [valV_neg (fun w => q (by injection w)), decide_eq_false q]
      exact ih
theorem dkc_in {ps : CsL} {x : Str} (h : x ∈ nms ps) : valV (dkc ps) (Sum.inr x : Key) = some (.str (kdOf ps x)) := by
  rw [dkc_get]
  unfold kdOf
  obtain ⟨p, hp, rfl⟩ := List.mem_map.mp h
  cases e : ps.find? fun q => decide (q.1 = p.1) with
  | none => exact absurd (List.find?_eq_none.mp e p hp) (by simp)
  | some q => rfl
theorem dkc_no {ps : CsL} {x : Str} (h : x ∉ nms ps) : valV (dkc ps) (Sum.inr x : Key) = none := by
  rw [dkc_get]
  cases e : ps.find? fun q => decide (q.1 = x) with
  | none => rfl
  | some q =>
    have h1 := List.find?_some e
    have h2 := List.mem_of_find?_eq_some e
    exact absurd (by rw [← show q.1 = x by simpa using h1]; exact List.mem_map_of_mem h2) h
theorem cols_refs {K : PySem.W.Frag} {H : Hp} : ∀ {xs : List V} {ps : CsL}, Cols H xs ps → ∃ as : List Addr, xs = as.map V.ref ∧ Paired (fun (p : Addr) (kv : Key × V) => SqT K H p [kV kv.1, kv.2]) as (dkc ps)
  | _, _, .nil => ⟨[], rfl, .nil⟩
  | _, _, .cons (a := a) e r => by
    obtain ⟨as, h1, h2⟩ := cols_refs (K := K) r
    exact ⟨a :: as, by rw [h1]; rfl, .cons (SqT.of e) h2⟩
abbrev teSel : TE := tTup (tCons (tVar 4) (tCons (tDGet (tVar 7) (tVar 4)) tNil))
abbrev ttRen : TT := tTest (tOp rNe (tVar 4) (tVar 8))
abbrev teRen (K : PySem.W.Frag) : TE := tTup (tCons (tOp (rIxL K) (tLst (tCons (tVar 4) (tCons (tVar 9) tNil))) (tCB rI1 (tCons (tOp rEq (tVar 4) (tVar 8)) tNil))) (tCons (tVar 5) tNil))
theorem strsA {H : Hp} : ∀ (ns : List Str), DhAll H (vS ns) (ns.map PyData.str)
  | [] => .nil
  | z :: ns => .cons (.str _) (strsA ns)
section
variable {P : Program} {w : World} {K : PySem.W.Frag} {mg : Str → Option Value} {base : Heap} {f : Addr} {fd : FuncData}
abbrev sKsp : Stmt := top 87
abbrev nKsp : List Str := ["_law_tape_here", "_law_columns_here", "_law_turn", "_law_names", "_law_name_here", "_law_kind", "_law_picked", "_law_kinds", "_law_old", "_law_new"]
abbrev pKsp : List Str := ["_law_tape_here", "_law_columns_here"]
theorem scKsp : FnScope nKsp pKsp (defScope sKsp) := ⟨rfl, rfl, rfl, by decide +kernel, rfl, by decide +kernel, by decide +kernel⟩
section
variable {fA_ fB_ fC_ fD_ fE_ fF_ fG_ : Addr} {fdA_ fdB_ fdC_ fdD_ fdE_ fdF_ fdG_ : FuncData}
theorem ok_Ksp (F : Fun K "_law_keeping_step" "_law_keeping_step" sKsp f fd) (T : Bt mg)
    (GA_ : FnOk P w K mg base CX0 1 fA_ fdA_ ["_law_tape_here", "_law_many"] (spDrawL)) (mA_ : mg "_law_draw" = some (.ref fA_)) (kA_ : PySem.W.keepIn K (.ref fA_) = true) (bA_ : Binds K fdA_ ["_law_tape_here", "_law_many"] [])
    (GB_ : FnOk P w K mg base CX0 2 fB_ fdB_ ["_law_tape_here", "_law_items", "_law_many"] (spPk)) (mB_ : mg "_law_pick" = some (.ref fB_)) (kB_ : PySem.W.keepIn K (.ref fB_) = true) (bB_ : Binds K fdB_ ["_law_tape_here", "_law_items", "_law_many"] [])
    (GC_ : FnOk P w K mg base CX0 3 fC_ fdC_ ["_law_tape_here", "_law_taken"] (spFr)) (mC_ : mg "_law_fresh" = some (.ref fC_)) (kC_ : PySem.W.keepIn K (.ref fC_) = true) (bC_ : Binds K fdC_ ["_law_tape_here", "_law_taken"] [])
    (GD_ : FnOk P w K mg base CX0 6 fD_ fdD_ ["_law_tape_here", "_law_columns_here", "_law_kind", "_law_depth"] (spXp 3)) (mD_ : mg "_law_expression" = some (.ref fD_)) (kD_ : PySem.W.keepIn K (.ref fD_) = true) (bD_ : Binds K fdD_ ["_law_tape_here", "_law_columns_here", "_law_kind", "_law_depth"] [])
    (GE_ : FnOk P w K mg base CX0 2 fE_ fdE_ ["_law_tape_here"] (spSmp)) (mE_ : mg "_law_sample_step" = some (.ref fE_)) (kE_ : PySem.W.keepIn K (.ref fE_) = true) (bE_ : Binds K fdE_ ["_law_tape_here"] [])
    (GF_ : FnOk P w K mg base CX0 2 fF_ fdF_ ["_law_tape_here", "_law_columns_here"] (spSrt)) (mF_ : mg "_law_sort_step" = some (.ref fF_)) (kF_ : PySem.W.keepIn K (.ref fF_) = true) (bF_ : Binds K fdF_ ["_law_tape_here", "_law_columns_here"] [])
    (GG_ : FnOk P w K mg base CX0 7 fG_ fdG_ ["_law_tape_here", "_law_columns_here"] (spKs)) (mG_ : mg "_law_set_step" = some (.ref fG_)) (kG_ : PySem.W.keepIn K (.ref fG_) = true) (bG_ : Binds K fdG_ ["_law_tape_here", "_law_columns_here"] []) : FnOk P w K mg base CX0 8 f fd pKsp (spKs) := by
  refine F.ok scKsp (fun vs H Q E h => ?_) (fun cdv A outer s H vs Q E hr h => ?_)
  · obtain ⟨t, c, L, ps, rfl, _⟩ := h
    rfl
  · obtain ⟨t, c, L, ps, rfl, hT, hL, cp, k⟩ := h
    have hrA_ : Room (1) _ := hr.mono (by first | decide | omega)
    have hrB_ : Room (2) _ := hr.mono (by first | decide | omega)
    have hrC_ : Room (3) _ := hr.mono (by first | decide | omega)
    have hrD_ : Room (6) _ := hr.mono (by first | decide | omega)
    have hrE_ : Room (2) _ := hr.mono (by first | decide | omega)
    have hrF_ : Room (2) _ := hr.mono (by first | decide | omega)
    have hrG_ : Room (7) _ := hr.mono (by first | decide | omega)
    refine ⟨_, (pss_cons (ps_set (i := 2) scKsp.nd rfl (Or.inl rfl) (pe_call GA_ hrA_ (by rfl) mA_ kA_ bA_ .nil pass0 (pa_cons (pv 0) (pa_cons pe_int pa_nil))))
      (Evl.pss_cut (ps_setLc (i := 3) (own := [("_law_name_here", 4), ("_law_kind", 5)]) (g := (gTup K 2 (gCons (gName 4) (gCons (gName 5) gNil)))) (tt := tYes) (te := tVar 4) (by rfl) scKsp.nd rfl rfl (sw_true rfl rfl rfl (by decide +kernel)) (pi_tup (pv 1)) (blkOk_by (own := [("_law_name_here", 4), ("_law_kind", 5)]) (N := nKsp) (sc := defScope sKsp) (by decide +kernel)) (fun _ _ _ _ _ => (pg_tup rfl (pgs_cons (pg_name (i := 4) scKsp.nd rfl (.inl rfl)) (pgs_cons (pg_name (i := 5) scKsp.nd rfl (.inl rfl)) pgs_nil)))) (fun _ _ _ _ _ => pts_nil) (fun _ _ _ _ _ => (pv 4)))
      (pss_cons (ps_if (pt_cmpR op_eq (pv 2) pe_int (nomark _)) (pss_one (ps_ret (pe_tup (pa_cons (pe_call GE_ hrE_ (by rfl) mE_ kE_ bE_ .nil pass0 (pa_cons (pv 0) pa_nil)) (pa_cons (pv 1) pa_nil))))) pss_nil)
      (pss_cons (ps_if (pt_cmpR op_eq (pv 2) pe_int (nomark _)) (pss_one (ps_ret (pe_tup (pa_cons (pe_call GF_ hrF_ (by rfl) mF_ kF_ bF_ .nil pass0 (pa_cons (pv 0) (pa_cons (pv 1) pa_nil))) (pa_cons (pv 1) pa_nil))))) pss_nil)
      (pss_cons (ps_if (pt_cmpR op_eq (pv 2) pe_int (nomark _)) (pss_cons (ps_set (i := 6) scKsp.nd rfl (Or.inl rfl) (pe_call GB_ hrB_ (by rfl) mB_ kB_ bB_ .nil pass0 (pa_cons (pv 0) (pa_cons (pv 3) (pa_cons pe_int pa_nil)))))
      (pss_cons (ps_set (i := 7) scKsp.nd rfl (Or.inr rfl) (pe_callTy (call_dictZ rfl) (by rfl) T.dict boot_dict (pa_cons (pv 1) pa_nil)))
      (pss_one (ps_ret (pe_tup (pa_cons (pe_tup (pa_cons pe_str (pa_cons (pe_callTy call_tuple_of (by rfl) T.tuple boot_tuple (pa_cons (pv 6) pa_nil)) pa_nil))) (pa_cons (pe_callTy call_tupleZ (by rfl) T.tuple boot_tuple (pa_cons (pe_lc (own := [("_law_name_here", 4)]) (g := (gName 4)) (tt := tYes) (te := teSel) (by rfl) scKsp.nd (pi_list (pv 6)) (blkOk_by (own := [("_law_name_here", 4)]) (N := nKsp) (sc := defScope sKsp) (by decide +kernel)) (fun _ _ _ _ _ => (pg_name (i := 4) scKsp.nd rfl (.inl rfl))) (fun _ _ _ _ _ => pts_nil) (fun _ _ _ _ _ => (pe_tup (pa_cons (pv 4) (pa_cons (pe_dget (hu_of hr) (pv 7) (pv 4) (fun _ _ => rfl)) pa_nil))))) pa_nil)) pa_nil))))))) pss_nil)
      (pss_cons (ps_if (pt_cmpR op_eq (pv 2) pe_int (nomark _)) (pss_cons (ps_set (i := 8) scKsp.nd rfl (Or.inr rfl) (pe_ix ix_list (pv 3) (pe_call GA_ hrA_ (by rfl) mA_ kA_ bA_ .nil pass0 (pa_cons (pv 0) (pa_cons (pe_callB call_len_seq (by rfl) T.len PySem.boot_len (pa_cons (pv 3) pa_nil)) pa_nil))) (fun _ _ => rfl)))
      (pss_cons (ps_set (i := 9) scKsp.nd rfl (Or.inr rfl) (pe_call GC_ hrC_ (by rfl) mC_ kC_ bC_ .nil pass0 (pa_cons (pv 0) (pa_cons (pe_lc (own := [("_law_name_here", 4)]) (g := (gName 4)) (tt := ttRen) (te := tVar 4) (by rfl) scKsp.nd (pi_list (pv 3)) (blkOk_by (own := [("_law_name_here", 4)]) (N := nKsp) (sc := defScope sKsp) (by decide +kernel)) (fun _ _ _ _ _ => (pg_name (i := 4) scKsp.nd rfl (.inl rfl))) (fun _ _ _ _ _ => (pts_one (pt_cmpR op_ne (pv 4) (pv 8) (nomark _)))) (fun _ _ _ _ _ => (pv 4))) pa_nil))))
      (pss_one (ps_ret (pe_tup (pa_cons (pe_tup (pa_cons pe_str (pa_cons (pv 8) (pa_cons (pv 9) pa_nil)))) (pa_cons (pe_callTy call_tupleZ (by rfl) T.tuple boot_tuple (pa_cons (pe_lc (own := [("_law_name_here", 4), ("_law_kind", 5)]) (g := (gTup K 2 (gCons (gName 4) (gCons (gName 5) gNil)))) (tt := tYes) (te := teRen K) (by rfl) scKsp.nd (pi_tup (pv 1)) (blkOk_by (own := [("_law_name_here", 4), ("_law_kind", 5)]) (N := nKsp) (sc := defScope sKsp) (by decide +kernel)) (fun _ _ _ _ _ => (pg_tup rfl (pgs_cons (pg_name (i := 4) scKsp.nd rfl (.inl rfl)) (pgs_cons (pg_name (i := 5) scKsp.nd rfl (.inl rfl)) pgs_nil)))) (fun _ _ _ _ _ => pts_nil) (fun _ _ _ _ _ => (pe_tup (pa_cons (pe_ix ix_list (pe_lst (pa_cons (pv 4) (pa_cons (pv 9) pa_nil))) (pe_callTy call_int1 (by rfl) T.int boot_int (pa_cons (pe_cmpR op_eq (pv 4) (pv 8) (nomark _)) pa_nil)) (fun _ _ => rfl)) (pa_cons (pv 5) pa_nil))))) pa_nil)) pa_nil))))))) pss_nil)
      (pss_cons (ps_if (pt_cmpR op_eq (pv 2) pe_int (nomark _)) (pss_one (ps_ret (pe_call GG_ hrG_ (by rfl) mG_ kG_ bG_ .nil pass0 (pa_cons (pv 0) (pa_cons (pv 1) pa_nil))))) pss_nil)
      (pss_one (ps_ret (pe_tup (pa_cons (pe_tup (pa_cons pe_str (pa_cons (pe_call GD_ hrD_ (by rfl) mD_ kD_ bD_ .nil pass0 (pa_cons (pv 0) (pa_cons (pv 1) (pa_cons pe_str (pa_cons pe_int pa_nil))))) pa_nil))) (pa_cons (pv 1) pa_nil)))))))))))), ?_⟩
    have two : 2 ≤ sizeLine := by decide
    have one : 1 ≤ sizeLine := by decide
    have three : 3 ≤ sizeLine := by decide
    have four : 4 ≤ sizeLine := by decide
    obtain ⟨xs, zL, cc⟩ := hL
    have l8 := cp.l8
    have l1 := cp.l1
    have lx := cc.len
    have lnm : (nms ps).length = ps.length := List.length_map _
    have ln : (vS (nms ps)).length = ps.length := by rw [List.length_map, lnm]
    refine ⟨_, rfl, t, c, _, rfl, hT, by decide, big1000 (by decide) (by decide), fun u H0 u0 u7 T0 S0 => ?_⟩
    have z0 := zL.b hT.tape S0
    have c0 := cc.b hT.tape S0
    refine ⟨fun σ H' => ∃ W : Addr, σ = [some (.ref t), some (.ref L), some (.int u), some (.ref W), none, none, none, none, none, none] ∧ H' W = some (.lst (vS (nms ps))) ∧ W ≠ t ∧ TapeL c H' t ∧ SameB t H H', ?_, ?_⟩
    · refine ⟨_, rfl, L, rfl, ⟨_, z0.sq⟩, fun W hW => lc_tup (K := K) (a := L) (xs := xs) (fun i H' => H' W = some (.lst (vS ((nms ps).take i))) ∧ Same H0 H') ⟨upd_same, Same.upd hW⟩ (fun i H' _ pr => (z0.same pr.2).sq) ?_ ?_⟩
      · rintro i x H1 hx ⟨hW1, s1⟩
        obtain ⟨a, z, kk, rfl, ea, ep⟩ := c0.get _ _ hx
        refine ⟨a, _, rfl, SqT.of (s1 _ _ ea), rfl, _, _, rfl, _, _, rfl, rfl, rfl, ?_⟩
        dsimp only [tYes]
        exact iteT ⟨_, rfl, nm_turn hW hW1 ep cp.l8 s1⟩
      rintro H1 ⟨hW1, s1⟩
      rw [show xs.length = (nms ps).length by rw [c0.len, List.length_map], List.take_length] at hW1
      exact ⟨W, rfl, hW1, T0.tape.ne hW, T0.same s1, S0.trans (Same.b t s1)⟩
    clear z0 c0 T0 S0
    rintro σ H1 ⟨W, rfl, hW1, nW, T1, S1⟩
    have z1 := zL.b hT.tape S1
    have c1 := cc.b hT.tape S1
    have fin : ∀ {H' : Hp} {v : V} {p : Ps}, DhT t H' v p.d → (∀ os, Lead os ps p ps) → TapeL c H' t → SameB t H H' → ∀ r, H' r = none → Q (.ref r) (upd H' r (.tup [v, .ref L])) := fun {H' v p} dv ld T' S' r hr => by
      have zr := Same.upd (o := .tup [v, .ref L]) hr
      exact k r v L p ps _ upd_same (dts dv zr) ⟨xs, (zL.b hT.tape S').same zr, (cc.b hT.tape S').t (SameT.of zr)⟩ ld (T'.same zr) (S'.trans (Same.b t zr))
    refine ⟨_, rfl, rfl, _, rfl, ite2 (fun _ => ?_) (fun _ => ?_)⟩
    · exact ⟨_, rfl, t, c, rfl, T1, fun v n w s H2 h1 h2 h3 h4 dv T2 S2 => ⟨_, rfl, two, fun r hr => fin dv (fun os => .sample h1 h2 h3 h4) T2 (S1.trans S2) r hr⟩⟩
    refine ⟨_, rfl, rfl, _, rfl, ite2 (fun _ => ?_) (fun _ => ?_)⟩
    · exact ⟨_, rfl, _, rfl, t, c, L, ps, rfl, T1, ⟨xs, z1, c1⟩, cp, fun v a u H2 ha dv T2 S2 => ⟨_, rfl, two, fun r hr => fin dv (fun os => .sort ha) T2 (S1.trans S2) r hr⟩⟩
    refine ⟨_, rfl, rfl, _, rfl, ite2 (fun _ => ?_) (fun _ => ?_)⟩
    · refine ⟨_, rfl, _, rfl, t, c, W, nms ps, _, rfl, T1, hW1, cp.nd, by omega, by decide, by decide, fun G gs H2 eG gG gin gnd gne gl T2 S2 => ?_⟩
      have S02 := S1.trans S2
      have z2 := zL.b hT.tape S02
      have c2 := cc.b hT.tape S02
      obtain ⟨as, ex, pr⟩ := cols_refs (K := K) c2
      rw [ex] at z2
      refine ⟨_, rfl, L, as, dkc ps, rfl, z2, pr, fun d hd => ?_⟩
      rw [dkc_merge cp.nd]
      have zd := Same.upd (o := .dK (dkc ps)) hd
      have ed : upd H2 d (.dK (dkc ps)) d = some (.dK (dkc ps)) := upd_same
      have eG3 := zd _ _ eG
      have T3 := T2.same zd
      have S03 := S02.trans (Same.b t zd)
      generalize upd H2 d (.dK (dkc ps)) = H3 at ed eG3 T3 S03 ⊢
      refine ⟨_, rfl, G, _, rfl, .inl ⟨SqL.of eG3, fun p hp => ⟨two, fun q hq => ?_⟩⟩⟩
      have zp := Same.upd (o := .tup (vS gs)) hp
      have zq := Same.upd (o := .tup [.str "select", .ref p]) hq
      have zpq := zp.trans zq
      have dv : DhT t (upd (upd H3 p (.tup (vS gs))) q (.tup [.str "select", .ref p])) (.ref q) (Ps.d (.select gs)) := dh_tupT (T3.same zp).tape (.cons (.str _) (.cons (.tup (dl_at (T3.tape.ne hp) upd_same) (strsA gs)) .nil)) hq
      have T4 := T3.same zpq
      have S04 := S03.trans (Same.b t zpq)
      have ed4 := zpq _ _ ed
      have eG4 := zpq _ _ eG3
      generalize upd (upd H3 p (.tup (vS gs))) q (.tup [.str "select", .ref p]) = H4 at dv T4 S04 ed4 eG4 ⊢
      refine ⟨_, rfl, G, rfl, ⟨_, SqL.of eG4⟩, fun D hD => lc_list (K := K) (a := G) (xs := vS gs) (fun i H' => (∃ ys, H' D = some (.lst ys) ∧ Cols H' ys ((gs.take i).map fun n => (n, kdOf ps n))) ∧ Same H4 H') ⟨⟨[], upd_same, .nil⟩, Same.upd hD⟩ (fun i H' _ pr => SqL.of (pr.2 _ _ eG4)) ?_ ?_⟩
      · rintro i y H5 hi ⟨⟨ys, e5, c5⟩, s5⟩
        rw [List.getElem?_map] at hi
        obtain ⟨g, eg, rfl⟩ := Option.map_eq_some_iff.mp hi
        have l5 := c5.len
        rw [List.length_map, List.length_take] at l5
        have hg := gin g (List.mem_of_getElem? eg)
        have q := DGet.k (k := (Sum.inr g : Key)) (s5 _ _ ed4)
        rw [dkc_in hg] at q
        refine ⟨rfl, ?_⟩
        dsimp only [tYes]
        refine iteT ?_
        change teSel _ _ _
        refine ⟨_, rfl, _, rfl, _, rfl, d, _, rfl, q, two, fun p hp => ?_⟩
        rw [List.take_add_one, eg, List.map_append]
        exact col_turn hD e5 c5 (by omega) s5 (Same.refl _) hp
      rintro H5 ⟨⟨ys, e5, c5⟩, s5⟩
      rw [List.length_map, List.take_length] at c5
      refine ⟨D, ys, rfl, SqL.of e5, fun r ob hr d1 d2 => ⟨two, fun s hs => ?_⟩⟩
      have zr := Same.upd (o := .frz ob (.tup ys)) hr
      have zs := Same.upd (o := .tup [.ref q, .ref r]) hs
      have zall := s5.trans (zr.trans zs)
      have g1 : 1 ≤ gs.length := List.length_pos_iff.mpr (gne (fun e => by rw [e] at lnm; change 0 = _ at lnm; omega))
      exact k s (.ref q) r (.select gs) _ _ upd_same (dts dv zall) ⟨ys, ⟨ob, d1, d2, zs _ _ upd_same⟩, c5.t (SameT.of (zr.trans zs))⟩ (fun os => .select gin gnd g1 (by omega)) (T4.same zall) (S04.trans (Same.b t zall))
    refine ⟨_, rfl, rfl, _, rfl, ite2 (fun _ => ?_) (fun _ => ?_)⟩
    · refine ⟨_, rfl, _, rfl, _, rfl, W, _, rfl, .inl (SqL.of hW1), t, c, _, rfl, T1, by rw [ln]; omega, big1000 (by omega) (by rw [ln]; omega), fun j H2 j0 j1 T2 S2 => ?_⟩
      rw [ln] at j1
      obtain ⟨old, eo⟩ : ∃ z, (nms ps)[j.toNat]? = some z := ⟨_, List.getElem?_eq_getElem (by omega)⟩
      have hW2 := S2 _ _ nW hW1
      have om := List.mem_of_getElem? eo
      refine ⟨W, _, _, .str old, rfl, rfl, SqL.of hW2, at_of (j := j.toNat) (by omega) (by rw [List.getElem?_map, eo]; rfl), ?_⟩
      refine ⟨_, rfl, _, rfl, W, rfl, ⟨_, SqL.of hW2⟩, fun D hD => lc_list (K := K) (a := W) (xs := vS (nms ps)) (fun i H' => (∃ ss : List Str, H' D = some (.lst (vS ss)) ∧ ss.length ≤ i ∧ ∀ n ∈ (nms ps).take i, n ≠ old → n ∈ ss) ∧ Same H2 H') ⟨⟨[], upd_same, Nat.le_refl _, fun n hn => by simp at hn⟩, Same.upd hD⟩ (fun i H' _ pr => SqL.of (pr.2 _ _ hW2)) ?_ ?_⟩
      · rintro i y H5 hi ⟨⟨ss, e5, l5, c5⟩, s5⟩
        rw [List.getElem?_map] at hi
        obtain ⟨g, eg, rfl⟩ := Option.map_eq_some_iff.mp hi
        have ig : i < ps.length := by have := (List.getElem?_eq_some_iff.mp eg).1; omega
        refine ⟨rfl, ?_⟩
        change ttRen _ _ _
        refine ⟨_, rfl, _, rfl, rfl, _, rfl, ?_⟩
        by_cases zx : g = old
        · rw [show decide (V.str g = V.str old) = true by rw [zx]; exact decide_eq_true rfl]
          refine iteF ⟨⟨ss, e5, by omega, fun n hn ne => ?_⟩, s5⟩
          rw [List.take_add_one, eg] at hn
          rcases List.mem_append.mp hn with hn | hn
          · exact c5 n hn ne
          · rw [Option.toList_some, List.mem_singleton] at hn
            exact absurd (hn.trans zx) ne
        · rw [show decide (V.str g = V.str old) = false from decide_eq_false (fun h => zx (by injection h))]
          refine iteT ⟨_, rfl, _, e5, by rw [List.length_map]; exact lt_size (by omega), ⟨ss ++ [g], by rw [upd_same]; unfold vS; rw [List.map_append]; rfl, by rw [List.length_append]; show _ + 1 ≤ _; omega, fun n hn ne => ?_⟩, fun b o e => by rw [upd_ne (ne_of_none e hD)]; exact s5 b o e⟩
          rw [List.take_add_one, eg] at hn
          rcases List.mem_append.mp hn with hn | hn
          · exact List.mem_append_left _ (c5 n hn ne)
          · rw [Option.toList_some, List.mem_singleton] at hn
            rw [hn]
            exact List.mem_append_right _ List.mem_cons_self
      rintro H3 ⟨⟨ss, e3, l3, c3⟩, s3⟩
      rw [ln] at l3
      rw [ln, ← lnm, List.take_length] at c3
      refine ⟨t, c, D, ss, rfl, T2.same s3, e3, by omega, fun new H4 hx nx fz T4 S4 => ?_⟩
      have S04 := (S1.trans S2).trans ((Same.b t s3).trans S4)
      have z4 := zL.b hT.tape S04
      have c4 := cc.b hT.tape S04
      refine ⟨_, rfl, _, rfl, three, fun q hq => ?_⟩
      have zq := Same.upd (o := .tup [.str "rename", .str old, .str new]) hq
      have dv : DhT t (upd H4 q (.tup [.str "rename", .str old, .str new])) (.ref q) (Ps.d (.rename old new)) := dh_tupT T4.tape (.cons (.str _) (.cons (.str _) (.cons (.str _) .nil))) hq
      have T5 := T4.same zq
      have S05 := S04.trans (Same.b t zq)
      have z5 := z4.same zq
      have c5 := c4.t (SameT.of zq)
      generalize upd H4 q (.tup [.str "rename", .str old, .str new]) = H5 at dv T5 S05 z5 c5 ⊢
      refine ⟨_, rfl, L, rfl, ⟨_, z5.sq⟩, fun D hD => lc_tup (K := K) (a := L) (xs := xs) (fun i H' => (∃ ys, H' D = some (.lst ys) ∧ Cols H' ys ((ps.take i).map fun p => (if p.1 = old then new else p.1, p.2))) ∧ Same H5 H') ⟨⟨[], upd_same, .nil⟩, Same.upd hD⟩ (fun i H' _ pr => (z5.same pr.2).sq) ?_ ?_⟩
      · rintro i y H6 hi ⟨⟨ys, e6, c6⟩, s6⟩
        obtain ⟨a, z, kk, rfl, ea, ep⟩ := c5.get _ _ hi
        have l6 := c6.len
        rw [List.length_map, List.length_take] at l6
        refine ⟨a, _, rfl, SqT.of (s6 _ _ ea), rfl, _, _, rfl, _, _, rfl, rfl, rfl, ?_⟩
        dsimp only [tYes]
        refine iteT ?_
        change teRen K _ _ _
        refine ⟨_, rfl, _, rfl, two, fun q hq => ⟨_, rfl, _, rfl, rfl, .inr ⟨_, rfl, q, _, _, .str (if z = old then new else z), rfl, rfl, SqL.of upd_same, ?_, _, rfl, two, fun p hp => ?_⟩⟩⟩
        · by_cases zx : z = old
          · rw [if_pos zx, show decide (V.str z = V.str old) = true by rw [zx]; exact decide_eq_true rfl]
            rfl
          · rw [if_neg zx, show decide (V.str z = V.str old) = false from decide_eq_false (fun h => zx (by injection h))]
            rfl
        · rw [List.take_add_one, ep, List.map_append]
          exact col_turn hD e6 c6 (by omega) s6 (Same.upd hq) hp
      rintro H6 ⟨⟨ys, e6, c6⟩, s6⟩
      rw [lx, List.take_length] at c6
      refine ⟨D, ys, rfl, SqL.of e6, fun r ob hr d1 d2 => ⟨two, fun s hs => ?_⟩⟩
      have zr := Same.upd (o := .frz ob (.tup ys)) hr
      have zs := Same.upd (o := .tup [.ref q, .ref r]) hs
      have zall := s6.trans (zr.trans zs)
      exact k s (.ref q) r (.rename old new) _ _ upd_same (dts dv zall) ⟨ys, ⟨ob, d1, d2, zs _ _ upd_same⟩, c6.t (SameT.of (zr.trans zs))⟩ (fun os => .rename om ⟨hx, nx⟩ fun n hn ne e => fz (by rw [e]; exact c3 n hn ne)) (T5.same zall) (S05.trans (Same.b t zall))
    refine ⟨_, rfl, rfl, _, rfl, ite2 (fun _ => ?_) (fun _ => ?_)⟩
    · exact ⟨_, rfl, _, rfl, t, c, L, ps, rfl, T1, ⟨xs, z1, c1⟩, cp, fun r v C p qs H2 e1 dv ca ld T2 S2 => k r v C p qs H2 e1 dv ca ld T2 (S1.trans S2)⟩
    refine ⟨_, rfl, _, rfl, t, c, L, _, xs, ps, rfl, .inr (.inr rfl), T1, z1.rd, c1, l8, fun v e H2 df xp T2 S2 => ⟨two, fun q hq => ⟨_, rfl, two, fun r hr => ?_⟩⟩⟩
    have zq := Same.upd (o := .tup [.str "keep", v]) hq
    exact fin (p := .keep e) (dh_tupT T2.tape (.cons (.str _) (.cons (df) .nil)) hq) (fun os => .keep xp) (T2.same zq) ((S1.trans S2).trans (Same.b t zq)) r hr
end
end
end K13
set_option Elab.async false
set_option linter.all false
set_option maxRecDepth 100000
set_option maxHeartbeats 4000000
namespace K13
open PySem PySem.Spec PyProof.Rows L2 Lc
/-! ## steps that leave the columns as they are; chooses; groups -/
def SamP (ps : CsL) (p : Ps) : Prop := (∀ os, Lead os ps p ps) ∧ p.more = []
def spSas : Sp := fun vs H Q _ => ∃ (t c L : Addr) (ps : CsL), vs = [.ref t, .ref L] ∧ TapeL c H t ∧ CA H L ps ∧ ColP ps ∧ ∀ (v : V) (p : Ps) (H' : Hp), DhT t H' v p.d → SamP ps p → TapeL c H' t → SameB t H H' → Q v H'
theorem dhs_strs {H : Hp} : ∀ {ns : List Str} {vs : List V}, DhAll H vs (ns.map PyData.str) → vs = vS ns
  | [], _, .nil => rfl
  | n :: ns, _, .cons h r => by cases h; rw [dhs_strs r]; rfl
theorem dh_strs {H : Hp} {v : V} {ns : List Str} (h : Dh H v (strT ns)) : ∃ a, v = .ref a ∧ H a = some (.tup (vS ns)) := by
  cases h with
  | tup e hs => rw [dhs_strs hs] at e; exact ⟨_, rfl, e⟩
theorem totS3_dh {H : Hp} {v : V} {t : Str × Str × Str} (h : Dh H v (totS3 t)) : ∃ a, v = .ref a ∧ H a = some (.tup (vS [t.1, t.2.1, t.2.2])) := dh_strs (ns := [t.1, t.2.1, t.2.2]) h
abbrev teGr : TE := tTup (tCons (tVar 4) (tCons (tDGet (tVar 2) (tVar 4)) tNil))
abbrev teGt (K : PySem.W.Frag) : TE := tTup (tCons (tOp (rIxT K) (tVar 11) (tC (.int 0))) (tCons (tC (.str "number")) tNil))
theorem noL_strT (ns : List Str) : noL (strT ns) = true := by
  unfold strT
  rw [noL]
  refine noLs_all.mpr fun d hd => ?_
  obtain ⟨w, _, rfl⟩ := List.mem_map.mp hd
  rfl
theorem Ps.Ok.noL {p : Ps} (h : p.Ok) : Lc.noL p.d = true := by
  cases p with
  | keep e => show Lc.noL (.tuple [_, e]) = true; rw [Lc.noL, noLs, noLs, noLs, (show Lc.noL e = true from h)]; rfl
  | set x e => show Lc.noL (.tuple [_, _, e]) = true; rw [Lc.noL, noLs, noLs, noLs, noLs, h.2]; rfl
  | select ns => show Lc.noL (.tuple [_, strT ns]) = true; rw [Lc.noL, noLs, noLs, noLs, noL_strT]; rfl
  | join t ks => show Lc.noL (.tuple [_, _, strT ks]) = true; rw [Lc.noL, noLs, noLs, noLs, noLs, noL_strT]; rfl
  | group ks ts =>
    show Lc.noL (.tuple [_, strT ks, .tuple (ts.map totS3)]) = true
    have : noLs (ts.map totS3) = true := noLs_all.mpr fun d hd => by
      obtain ⟨w, _, rfl⟩ := List.mem_map.mp hd
      rfl
    rw [Lc.noL, noLs, noLs, noLs, noLs, noL_strT, Lc.noL, this]
    rfl
  | _ => rfl
theorem SamP.ok {ps : CsL} {p : Ps} (h : SamP ps p) (c : ColP ps) : p.Ok ∧ p.Sm 3 := by
  have := (h.1 []).go c nofun
  exact ⟨this.1, this.2.1⟩
theorem noLs_ps {a : List Ps} (h : ∀ p ∈ a, p.Ok) : noLs (a.map Ps.d) = true := noLs_all.mpr fun d hd => by
  obtain ⟨p, hp, rfl⟩ := List.mem_map.mp hd
  exact (h p hp).noL
theorem dl_sameT {t : Addr} {H H' : Hp} (s : SameT H H') : SameT (dl t H) (dl t H') := fun b xs e => dl_at (dl_of e).1 (s b xs (dl_of e).2)
theorem at_last {xs : List V} {x : V} : atI (xs ++ [x]) (-1) = some x := by
  unfold atI
  have hl : (xs ++ [x]).length = xs.length + 1 := by rw [List.length_append]; rfl
  rw [show ixN (xs ++ [x]).length (-1) = some xs.length from by
    unfold ixN
    rw [hl, if_neg (by decide), if_pos (by omega)]
    exact congrArg some (by omega)]
  simp
theorem upd_keep {H H1 : Hp} {D : Addr} {o : HO} (hD : H D = none) (s : ∀ b o, H b = some o → H1 b = some o) : ∀ b u, H b = some u → upd H1 D o b = some u := fun b u e => by rw [upd_ne (ne_of_none e hD)]; exact s b u e
theorem updB {t : Addr} {H H1 : Hp} {D : Addr} {o : HO} (hD : H D = none) (s : SameB t H H1) : SameB t H (upd H1 D o) := fun b u n e => by rw [upd_ne (ne_of_none e hD)]; exact s b u n e
section
variable {P : Program} {w : World} {K : PySem.W.Frag} {mg : Str → Option Value} {base : Heap} {f : Addr} {fd : FuncData}
abbrev sSas : Stmt := top 90
abbrev nSas : List Str := ["_law_tape_here", "_law_columns_here", "_law_turn"]
abbrev pSas : List Str := ["_law_tape_here", "_law_columns_here"]
theorem scSas : FnScope nSas pSas (defScope sSas) := ⟨rfl, rfl, rfl, by decide +kernel, rfl, by decide +kernel, by decide +kernel⟩
section
variable {fA_ fB_ fC_ fD_ : Addr} {fdA_ fdB_ fdC_ fdD_ : FuncData}
theorem ok_Sas (F : Fun K "_law_same_step" "_law_same_step" sSas f fd) (T : Bt mg)
    (GA_ : FnOk P w K mg base CX0 1 fA_ fdA_ ["_law_tape_here", "_law_many"] (spDrawL)) (mA_ : mg "_law_draw" = some (.ref fA_)) (kA_ : PySem.W.keepIn K (.ref fA_) = true) (bA_ : Binds K fdA_ ["_law_tape_here", "_law_many"] [])
    (GB_ : FnOk P w K mg base CX0 6 fB_ fdB_ ["_law_tape_here", "_law_columns_here", "_law_kind", "_law_depth"] (spXp 3)) (mB_ : mg "_law_expression" = some (.ref fB_)) (kB_ : PySem.W.keepIn K (.ref fB_) = true) (bB_ : Binds K fdB_ ["_law_tape_here", "_law_columns_here", "_law_kind", "_law_depth"] [])
    (GC_ : FnOk P w K mg base CX0 2 fC_ fdC_ ["_law_tape_here"] (spSmp)) (mC_ : mg "_law_sample_step" = some (.ref fC_)) (kC_ : PySem.W.keepIn K (.ref fC_) = true) (bC_ : Binds K fdC_ ["_law_tape_here"] [])
    (GD_ : FnOk P w K mg base CX0 2 fD_ fdD_ ["_law_tape_here", "_law_columns_here"] (spSrt)) (mD_ : mg "_law_sort_step" = some (.ref fD_)) (kD_ : PySem.W.keepIn K (.ref fD_) = true) (bD_ : Binds K fdD_ ["_law_tape_here", "_law_columns_here"] []) : FnOk P w K mg base CX0 7 f fd pSas (spSas) := by
  refine F.ok scSas (fun vs H Q E h => ?_) (fun cdv A outer s H vs Q E hr h => ?_)
  · obtain ⟨t, c, L, ps, rfl, _⟩ := h
    rfl
  · obtain ⟨t, c, L, ps, rfl, hT, hL, cp, k⟩ := h
    have hrA_ : Room (1) _ := hr.mono (by first | decide | omega)
    have hrB_ : Room (6) _ := hr.mono (by first | decide | omega)
    have hrC_ : Room (2) _ := hr.mono (by first | decide | omega)
    have hrD_ : Room (2) _ := hr.mono (by first | decide | omega)
    refine ⟨_, (pss_cons (ps_set (i := 2) scSas.nd rfl (Or.inl rfl) (pe_call GA_ hrA_ (by rfl) mA_ kA_ bA_ .nil pass0 (pa_cons (pv 0) (pa_cons pe_int pa_nil))))
      (pss_cons (ps_if (pt_cmpR op_eq (pv 2) pe_int (nomark _)) (pss_one (ps_ret (pe_call GC_ hrC_ (by rfl) mC_ kC_ bC_ .nil pass0 (pa_cons (pv 0) pa_nil)))) pss_nil)
      (pss_cons (ps_if (pt_cmpR op_eq (pv 2) pe_int (nomark _)) (pss_one (ps_ret (pe_call GD_ hrD_ (by rfl) mD_ kD_ bD_ .nil pass0 (pa_cons (pv 0) (pa_cons (pv 1) pa_nil))))) pss_nil)
      (pss_cons (ps_if (pt_cmpR op_eq (pv 2) pe_int (nomark _)) (pss_one (ps_ret (pe_tup (pa_cons pe_str (pa_cons (pe_call GA_ hrA_ (by rfl) mA_ kA_ bA_ .nil pass0 (pa_cons (pv 0) (pa_cons pe_int pa_nil))) pa_nil))))) pss_nil)
      (pss_cons (ps_if (pt_cmpR op_eq (pv 2) pe_int (nomark _)) (pss_one (ps_ret (pe_tup (pa_cons pe_str pa_nil)))) pss_nil)
      (pss_one (ps_ret (pe_tup (pa_cons pe_str (pa_cons (pe_call GB_ hrB_ (by rfl) mB_ kB_ bB_ .nil pass0 (pa_cons (pv 0) (pa_cons (pv 1) (pa_cons pe_str (pa_cons pe_int pa_nil))))) pa_nil)))))))))), ?_⟩
    have two : 2 ≤ sizeLine := by decide
    have one : 1 ≤ sizeLine := by decide
    have three : 3 ≤ sizeLine := by decide
    have four : 4 ≤ sizeLine := by decide
    obtain ⟨xs, zL, cc⟩ := hL
    refine ⟨_, rfl, t, c, _, rfl, hT, by decide, big1000 (by decide) (by decide), fun u H1 u0 u5 T1 S1 => ?_⟩
    have z1 := zL.b hT.tape S1
    have c1 := cc.b hT.tape S1
    refine ⟨_, rfl, rfl, _, rfl, ite2 (fun _ => ?_) (fun _ => ?_)⟩
    · exact ⟨_, rfl, t, c, rfl, T1, fun v n w s H2 h1 h2 h3 h4 dv T2 S2 => k v (.sample n w s) H2 dv ⟨fun os => .sample h1 h2 h3 h4, rfl⟩ T2 (S1.trans S2)⟩
    refine ⟨_, rfl, rfl, _, rfl, ite2 (fun _ => ?_) (fun _ => ?_)⟩
    · exact ⟨_, rfl, _, rfl, t, c, L, ps, rfl, T1, ⟨xs, z1, c1⟩, cp, fun v a u H2 ha dv T2 S2 => k v (.sort a u) H2 dv ⟨fun os => .sort ha, rfl⟩ T2 (S1.trans S2)⟩
    refine ⟨_, rfl, rfl, _, rfl, ite2 (fun _ => ?_) (fun _ => ?_)⟩
    · refine ⟨_, rfl, t, c, _, rfl, T1, by decide, big1000 (by decide) (by decide), fun n H2 n0 n7 T2 S2 => ⟨two, fun r hr => ?_⟩⟩
      obtain ⟨n, rfl⟩ : ∃ m : Nat, n = m := ⟨n.toNat, by omega⟩
      exact k _ (.first n) _ (dh_tupT T2.tape (.cons (.str _) (.cons (.int _) .nil)) hr) ⟨fun os => .first (by omega), rfl⟩ (T2.same (Same.upd hr)) ((S1.trans S2).trans (Same.b t (Same.upd hr)))
    refine ⟨_, rfl, rfl, _, rfl, ite2 (fun _ => ?_) (fun _ => ?_)⟩
    · exact ⟨one, fun r hr => k _ .distinct _ (dh_tupT T1.tape (.cons (.str _) .nil) hr) ⟨fun os => .distinct, rfl⟩ (T1.same (Same.upd hr)) (S1.trans (Same.b t (Same.upd hr)))⟩
    exact ⟨_, rfl, _, rfl, t, c, L, _, xs, ps, rfl, .inr (.inr rfl), T1, z1.rd, c1, cp.l8, fun v e H2 df xp T2 S2 => ⟨two, fun r hr => k _ (.keep e) _ (dh_tupT T2.tape (.cons (.str _) (.cons (df) .nil)) hr) ⟨fun os => .keep xp, rfl⟩ (T2.same (Same.upd hr)) ((S1.trans S2).trans (Same.b t (Same.upd hr)))⟩⟩
end
abbrev sGrs : Stmt := top 89
abbrev nGrs : List Str := ["_law_tape_here", "_law_columns_here", "_law_kinds", "_law_keys", "_law_name_here", "_law_kind", "_law_names", "_law_totals", "_law_k", "_law_function", "_law_behind", "_law_total"]
abbrev pGrs : List Str := ["_law_tape_here", "_law_columns_here"]
theorem scGrs : FnScope nGrs pGrs (defScope sGrs) := ⟨rfl, rfl, rfl, by decide +kernel, rfl, by decide +kernel, by decide +kernel⟩
section
variable {fA_ fB_ fC_ : Addr} {fdA_ fdB_ fdC_ : FuncData}
theorem ok_Grs (F : Fun K "_law_group_step" "_law_group_step" sGrs f fd) (T : Bt mg)
    (GA_ : FnOk P w K mg base CX0 1 fA_ fdA_ ["_law_tape_here", "_law_many"] (spDrawL)) (mA_ : mg "_law_draw" = some (.ref fA_)) (kA_ : PySem.W.keepIn K (.ref fA_) = true) (bA_ : Binds K fdA_ ["_law_tape_here", "_law_many"] [])
    (GB_ : FnOk P w K mg base CX0 2 fB_ fdB_ ["_law_tape_here", "_law_items", "_law_many"] (spPk)) (mB_ : mg "_law_pick" = some (.ref fB_)) (kB_ : PySem.W.keepIn K (.ref fB_) = true) (bB_ : Binds K fdB_ ["_law_tape_here", "_law_items", "_law_many"] [])
    (GC_ : FnOk P w K mg base CX0 3 fC_ fdC_ ["_law_tape_here", "_law_taken"] (spFr)) (mC_ : mg "_law_fresh" = some (.ref fC_)) (kC_ : PySem.W.keepIn K (.ref fC_) = true) (bC_ : Binds K fdC_ ["_law_tape_here", "_law_taken"] []) : FnOk P w K mg base CX0 8 f fd pGrs (spKs) := by
  refine F.ok scGrs (fun vs H Q E h => ?_) (fun cdv A outer s H vs Q E hr h => ?_)
  · obtain ⟨t, c, L, ps, rfl, _⟩ := h
    rfl
  · obtain ⟨t, c, L, ps, rfl, hT, hL, cp, k⟩ := h
    have hrA_ : Room (1) _ := hr.mono (by first | decide | omega)
    have hrB_ : Room (2) _ := hr.mono (by first | decide | omega)
    have hrC_ : Room (3) _ := hr.mono (by first | decide | omega)
    refine ⟨_, (Evl.pss_cut (ps_set (i := 2) scGrs.nd rfl (Or.inr rfl) (pe_callTy (call_dictZ rfl) (by rfl) T.dict boot_dict (pa_cons (pv 1) pa_nil)))
      (pss_cons (ps_set (i := 3) scGrs.nd rfl (Or.inl rfl) (pe_lst pa_nil))
      (Evl.pss_cut (ps_if (pt_cmpR op_gt (pe_call GA_ hrA_ (by rfl) mA_ kA_ bA_ .nil pass0 (pa_cons (pv 0) (pa_cons pe_int pa_nil))) pe_int (nomark _)) (pss_one (ps_set (i := 3) scGrs.nd rfl (Or.inl rfl) (pe_call GB_ hrB_ (by rfl) mB_ kB_ bB_ .nil pass0 (pa_cons (pv 0) (pa_cons (pe_lc (own := [("_law_name_here", 4), ("_law_kind", 5)]) (g := (gTup K 2 (gCons (gName 4) (gCons (gName 5) gNil)))) (tt := tYes) (te := tVar 4) (by rfl) scGrs.nd (pi_tup (pv 1)) (blkOk_by (own := [("_law_name_here", 4), ("_law_kind", 5)]) (N := nGrs) (sc := defScope sGrs) (by decide +kernel)) (fun _ _ _ _ _ => (pg_tup rfl (pgs_cons (pg_name (i := 4) scGrs.nd rfl (.inl rfl)) (pgs_cons (pg_name (i := 5) scGrs.nd rfl (.inl rfl)) pgs_nil)))) (fun _ _ _ _ _ => pts_nil) (fun _ _ _ _ _ => (pv 4))) (pa_cons pe_int pa_nil)))))) pss_nil)
      (pss_cons (ps_set (i := 6) scGrs.nd rfl (Or.inl rfl) (pe_callTy call_list_of (by rfl) T.list boot_list (pa_cons (pv 3) pa_nil)))
      (pss_cons (ps_set (i := 7) scGrs.nd rfl (Or.inl rfl) (pe_lst pa_nil))
      (Evl.pss_cut (ps_for PassesOwn.never rfl (pi_range1 (by rfl) T.range (pa_cons (pe_op op_add pe_int (pe_call GA_ hrA_ (by rfl) mA_ kA_ bA_ .nil pass0 (pa_cons (pv 0) (pa_cons (pe_callB (call_min2 rfl) (by rfl) T.min (by decide +kernel) (pa_cons pe_int (pa_cons (pe_op op_sub pe_int (pe_callB call_len_seq (by rfl) T.len PySem.boot_len (pa_cons (pv 3) pa_nil))) pa_nil))) pa_nil)))) pa_nil)) (pg_name (i := 8) scGrs.nd rfl (.inl rfl)) (pss_cons (ps_set (i := 4) scGrs.nd rfl (Or.inl rfl) (pe_ix ix_tup (pe_ix ix_tup (pv 1) (pe_call GA_ hrA_ (by rfl) mA_ kA_ bA_ .nil pass0 (pa_cons (pv 0) (pa_cons (pe_callB call_len_seq (by rfl) T.len PySem.boot_len (pa_cons (pv 1) pa_nil)) pa_nil))) (fun _ _ => rfl)) pe_int (fun _ _ => rfl)))
      (pss_cons (ps_set (i := 9) scGrs.nd rfl (Or.inl rfl) (pe_ix ix_list (pe_lst (pa_cons pe_str (pa_cons pe_str (pa_cons pe_str (pa_cons pe_str (pa_cons pe_str (pa_cons pe_str pa_nil))))))) (pe_call GA_ hrA_ (by rfl) mA_ kA_ bA_ .nil pass0 (pa_cons (pv 0) (pa_cons pe_int pa_nil))) (fun _ _ => rfl)))
      (Evl.pss_cut (ps_if (pt_cmpR op_ne (pe_dget (hu_of hr) (pv 2) (pv 4) (fun _ _ => rfl)) pe_str (nomark _)) (pss_one (ps_set (i := 9) scGrs.nd rfl (Or.inl rfl) pe_str)) pss_nil)
      (pss_cons (ps_expr (pe_bm PySem.F.plainAttrs_list PySem.F.slot_list_append PySem.F.type_list_append mt_append (pv 6) (pa_cons (pe_call GC_ hrC_ (by rfl) mC_ kC_ bC_ .nil pass0 (pa_cons (pv 0) (pa_cons (pv 6) pa_nil))) pa_nil)))
      (pss_one (ps_expr (pe_bm PySem.F.plainAttrs_list PySem.F.slot_list_append PySem.F.type_list_append mt_append (pv 7) (pa_cons (pe_tup (pa_cons (pe_ix ix_list (pv 6) (pe_un un_neg pe_int) (fun _ _ => rfl)) (pa_cons (pv 9) (pa_cons (pv 4) pa_nil)))) pa_nil)))))))))
      (pss_cons (ps_set (i := 10) scGrs.nd rfl (Or.inl rfl) (pe_op op_cat (pe_lc (own := [("_law_name_here", 4)]) (g := (gName 4)) (tt := tYes) (te := teGr) (by rfl) scGrs.nd (pi_list (pv 3)) (blkOk_by (own := [("_law_name_here", 4)]) (N := nGrs) (sc := defScope sGrs) (by decide +kernel)) (fun _ _ _ _ _ => (pg_name (i := 4) scGrs.nd rfl (.inl rfl))) (fun _ _ _ _ _ => pts_nil) (fun _ _ _ _ _ => (pe_tup (pa_cons (pv 4) (pa_cons (pe_dget (hu_of hr) (pv 2) (pv 4) (fun _ _ => rfl)) pa_nil))))) (pe_lc (own := [("_law_total", 11)]) (g := (gName 11)) (tt := tYes) (te := teGt K) (by rfl) scGrs.nd (pi_list (pv 7)) (blkOk_by (own := [("_law_total", 11)]) (N := nGrs) (sc := defScope sGrs) (by decide +kernel)) (fun _ _ _ _ _ => (pg_name (i := 11) scGrs.nd rfl (.inl rfl))) (fun _ _ _ _ _ => pts_nil) (fun _ _ _ _ _ => (pe_tup (pa_cons (pe_ix ix_tup (pv 11) pe_int (fun _ _ => rfl)) (pa_cons pe_str pa_nil)))))))
      (pss_one (ps_ret (pe_tup (pa_cons (pe_tup (pa_cons pe_str (pa_cons (pe_callTy call_tuple_of (by rfl) T.tuple boot_tuple (pa_cons (pv 3) pa_nil)) (pa_cons (pe_callTy call_tuple_of (by rfl) T.tuple boot_tuple (pa_cons (pv 7) pa_nil)) pa_nil)))) (pa_cons (pe_callTy call_tupleZ (by rfl) T.tuple boot_tuple (pa_cons (pv 10) pa_nil)) pa_nil)))))))))))), ?_⟩
    have two : 2 ≤ sizeLine := by decide
    have one : 1 ≤ sizeLine := by decide
    have three : 3 ≤ sizeLine := by decide
    have four : 4 ≤ sizeLine := by decide
    obtain ⟨xs, zL, cc⟩ := hL
    have l8 := cp.l8
    have l1 := cp.l1
    have lx := cc.len
    have lnm : (nms ps).length = ps.length := List.length_map _
    have ln : (vS (nms ps)).length = ps.length := by rw [List.length_map, lnm]
    refine ⟨fun σ H' => ∃ d : Addr, σ = [some (.ref t), some (.ref L), some (.ref d), none, none, none, none, none, none, none, none, none] ∧ H' d = some (.dK (dkc ps)) ∧ H d = none ∧ Same H H', ?_, ?_⟩
    · obtain ⟨as, ex, pr⟩ := cols_refs (K := K) cc
      refine ⟨_, rfl, L, as, dkc ps, rfl, by rw [← ex]; exact zL, pr, fun d hd => ?_⟩
      rw [dkc_merge cp.nd]
      exact ⟨d, rfl, upd_same, hd, Same.upd hd⟩
    rintro σ H1 ⟨d, rfl, ed, hd, s1⟩
    have T1 := hT.same s1
    have nd := hT.tape.ne hd
    have S1 := Same.b t s1
    refine ⟨Nat.zero_le _, fun G0 hG0 => ?_⟩
    have zG := Same.upd (o := .lst []) hG0
    refine ⟨fun σ H' => ∃ (G : Addr) (gs : List Str), σ = [some (.ref t), some (.ref L), some (.ref d), some (.ref G), none, none, none, none, none, none, none, none] ∧ H' G = some (.lst (vS gs)) ∧ G ≠ t ∧ (∀ g ∈ gs, g ∈ nms ps) ∧ gs.Nodup ∧ gs.length ≤ 3 ∧ H' d = some (.dK (dkc ps)) ∧ TapeL c H' t ∧ SameB t H H', ?_, ?_⟩
    · refine ⟨_, rfl, t, c, _, rfl, T1.same zG, by decide, big1000 (by decide) (by decide), fun u H2 u0 u5 T2 S2 => ⟨_, _, rfl, rfl, _, rfl, ite2 (fun _ => ?_) (fun _ => ?_)⟩⟩
      · have S02 := (S1.trans (Same.b t zG)).trans S2
        have z2 := zL.b hT.tape S02
        have c2 := cc.b hT.tape S02
        refine ⟨_, rfl, _, rfl, L, rfl, ⟨_, z2.sq⟩, fun W hW => lc_tup (K := K) (a := L) (xs := xs) (fun i H' => H' W = some (.lst (vS ((nms ps).take i))) ∧ Same H2 H') ⟨upd_same, Same.upd hW⟩ (fun i H' _ pr => (z2.same pr.2).sq) ?_ ?_⟩
        · rintro i x H3 hx ⟨hW1, s3⟩
          obtain ⟨a, z, kk, rfl, ea, ep⟩ := c2.get _ _ hx
          refine ⟨a, _, rfl, SqT.of (s3 _ _ ea), rfl, _, _, rfl, _, _, rfl, rfl, rfl, ?_⟩
          dsimp only [tYes]
          exact iteT ⟨_, rfl, nm_turn hW hW1 ep cp.l8 s3⟩
        rintro H3 ⟨hW1, s3⟩
        rw [show xs.length = (nms ps).length by rw [lx, lnm], List.take_length] at hW1
        have T3 := T2.same s3
        refine ⟨t, c, W, nms ps, _, rfl, T3, hW1, cp.nd, by omega, by decide, by decide, fun G gs H4 eG gG gin gnd gne gl T4 S4 => ?_⟩
        have S04 := (S02.trans (Same.b t s3)).trans S4
        exact ⟨G, gs, rfl, eG, T3.tape.ne gG, gin, gnd, by omega, S4 _ _ nd (s3 _ _ (S2 _ _ nd (zG _ _ ed))), T4, S04⟩
      · exact ⟨G0, [], rfl, S2 _ _ (T1.tape.ne hG0) upd_same, T1.tape.ne hG0, nofun, List.nodup_nil, Nat.zero_le _, S2 _ _ nd (zG _ _ ed), T2, (S1.trans (Same.b t zG)).trans S2⟩
    clear ed T1 S1 s1 zG hG0 hd
    rintro σ H1 ⟨G, gs, rfl, eG, nG, gin, gnd, gl, ed, T1, S1⟩
    refine ⟨_, rfl, G, _, rfl, .inl (SqL.of eG), fun N hN => ⟨Nat.zero_le _, fun Z hZ => ?_⟩⟩
    have zN := Same.upd (o := .lst (vS gs)) hN
    have zZ := Same.upd (o := .lst []) hZ
    have eN2 := zZ _ _ (show upd H1 N (.lst (vS gs)) N = some (.lst (vS gs)) from upd_same)
    have nNZ : N ≠ Z := ne_of_none (show upd H1 N (.lst (vS gs)) N = some (.lst (vS gs)) from upd_same) hZ
    have eZ2 : upd (upd H1 N (.lst (vS gs))) Z (.lst []) Z = some (.lst []) := upd_same
    have gZ := Same.gone zN hZ
    have nNt := T1.tape.ne hN
    have nZt := T1.tape.ne gZ
    obtain ⟨yy, hc⟩ := T1.list
    have nNc : N ≠ c := Ne.symm (ne_of_none hc hN)
    have nZc : Z ≠ c := Ne.symm (ne_of_none hc gZ)
    have z2 := zN.trans zZ
    have T2 := T1.same z2
    have S12 := Same.b t z2
    generalize upd (upd H1 N (.lst (vS gs))) Z (.lst []) = H2 at eN2 eZ2 z2 T2 S12 ⊢
    clear zN zZ
    let M := fun (i : Nat) (σ : L2.St) (H' : Hp) => (∃ (x4 x8 x9 : Option V) (us : List V) (ts : List (Str × Str × Str)), σ = [some (.ref t), some (.ref L), some (.ref d), some (.ref G), x4, none, some (.ref N), some (.ref Z), x8, x9, none, none] ∧ H' N = some (.lst (vS (gs ++ ts.map (·.1)))) ∧ H' Z = some (.lst us) ∧ DhAll (dl t H') us (ts.map totS3) ∧ ts.length = i ∧ (gs ++ ts.map (·.1)).Nodup ∧ ∀ x ∈ ts, (Sh 12 x.1 ∧ nmS x.1) ∧ x.2.1 ∈ fnS ∧ x.2.2 ∈ nms ps ∧ (x.2.1 ≠ "count" → kdOf ps x.2.2 = "number")) ∧ TapeL c H' t ∧ SameB t H1 H'
    have fnA : ∀ x : V, x ∈ ([.str "count", .str "sum", .str "mean", .str "median", .str "least", .str "greatest"] : List V) → ∃ g, x = .str g ∧ g ∈ fnS := fun x hx => by
      simp only [List.mem_cons, List.not_mem_nil, or_false] at hx
      rcases hx with rfl | rfl | rfl | rfl | rfl | rfl <;> exact ⟨_, rfl, by unfold fnS; simp⟩
    refine ⟨fun σ H' => ∃ i, 1 ≤ i ∧ i ≤ 6 ∧ gs.length + i ≤ 8 ∧ M i σ H', ?_, ?_⟩
    · have lgs : (vS gs).length = gs.length := List.length_map _
      obtain ⟨mn, emn, mn6, mn8, mn1⟩ : ∃ mn : Int, (if (8 : Int) - ((vS gs).length : Nat) < 6 then (8 : Int) - ((vS gs).length : Nat) else 6) = mn ∧ mn ≤ 6 ∧ (gs.length : Int) + mn ≤ 8 ∧ 1 ≤ mn := by
        refine ⟨_, rfl, ?_, ?_, ?_⟩ <;> split <;> omega
      refine ⟨_, rfl, _, rfl, G, _, rfl, .inl (SqL.of (z2 _ _ eG)), _, _, rfl, rfl, _, _, rfl, ?_⟩
      rw [emn]
      refine ⟨t, c, _, rfl, T2, by omega, big1000 (by omega) (by omega), fun u H3 u0 u3 T3 S3 => ⟨_, _, rfl, rfl, 1 + u, rfl, by omega, by omega, for_range (n := (1 + u).toNat) M ⟨⟨none, none, none, [], [], rfl, by rw [List.map_nil, List.append_nil]; exact S3 _ _ nNt eN2, S3 _ _ nZt eZ2, .nil, rfl, by rw [List.map_nil, List.append_nil]; exact gnd, nofun⟩, T3, S12.trans S3⟩ ?_ ?_⟩⟩
      · clear eN2 eZ2 z2 T2 S12 T3 S3
        rintro i σ H3 hi ⟨⟨x4, x8, x9, us, ts, rfl, eN, eZ, du, lt, ndt, okt⟩, T3, S3⟩
        have i3 : i < 6 ∧ gs.length + i < 8 := by omega
        have lN : (gs ++ ts.map (·.1)).length ≤ 8 := by rw [List.length_append, List.length_map]; omega
        have S03 := S1.trans S3
        have z3 := zL.b hT.tape S03
        refine ⟨_, rfl, _, rfl, _, rfl, L, _, rfl, .inr z3.sq, t, c, _, rfl, T3, by omega, big1000 (by omega) (by omega), fun j H4 j0 j1 T4 S4 => ?_⟩
        have z4 := z3.b T3.tape S4
        have c4 := (cc.b hT.tape S03).b T3.tape S4
        obtain ⟨y, hy⟩ : ∃ y, xs[j.toNat]? = some y := ⟨_, List.getElem?_eq_getElem (by omega)⟩
        obtain ⟨a, z, kk, rfl, ea, ep⟩ := c4.get _ _ hy
        have zm : z ∈ nms ps := List.mem_map_of_mem (f := (·.1)) (List.mem_of_getElem? ep)
        refine ⟨L, xs, _, .ref a, rfl, rfl, z4.sq, at_of (j := j.toNat) (by omega) hy, a, _, _, .str z, rfl, rfl, SqT.of ea, rfl, ?_⟩
        refine ⟨by show 6 ≤ sizeLine; decide, fun Y hY => ?_⟩
        have zY := Same.upd (o := .lst [.str "count", .str "sum", .str "mean", .str "median", .str "least", .str "greatest"]) hY
        have nY := T4.tape.ne hY
        refine ⟨_, rfl, t, c, _, rfl, T4.same zY, by decide, big1000 (by decide) (by decide), fun w H5 w0 w6 T5 S5 => ?_⟩
        obtain ⟨x, hx⟩ : ∃ x, ([.str "count", .str "sum", .str "mean", .str "median", .str "least", .str "greatest"] : List V)[w.toNat]? = some x := ⟨_, List.getElem?_eq_getElem (by show w.toNat < 6; omega)⟩
        obtain ⟨fn, rfl, hfn⟩ := fnA x (List.mem_of_getElem? hx)
        refine ⟨Y, _, _, .str fn, rfl, rfl, SqL.of (S5 _ _ nY upd_same), at_of (j := w.toNat) (by omega) hx, ?_⟩
        have S35 := S4.trans ((Same.b t zY).trans S5)
        have eN5 := S35 _ _ nNt eN
        have eZ5 := S35 _ _ nZt eZ
        have ed5 := S35 _ _ nd (S3 _ _ nd ed)
        have du5 := dtbA du S35
        refine ⟨fun σ H' => ∃ fn, σ = [some (.ref t), some (.ref L), some (.ref d), some (.ref G), some (.str z), none, some (.ref N), some (.ref Z), some (.int ((0 : Int) + (i : Int))), some (.str fn), none, none] ∧ H' = H5 ∧ fn ∈ fnS ∧ (fn ≠ "count" → kdOf ps z = "number"), ?_, ?_⟩
        · have q := DGet.k (k := (Sum.inr z : Key)) ed5
          rw [dkc_in zm] at q
          refine ⟨_, rfl, _, rfl, d, _, rfl, q, rfl, _, rfl, ?_⟩
          by_cases e : kdOf ps z = "number"
          · rw [show decide (V.str (kdOf ps z) = V.str "number") = true by rw [e]; exact decide_eq_true rfl]
            exact iteF ⟨fn, rfl, rfl, hfn, fun _ => e⟩
          · rw [show decide (V.str (kdOf ps z) = V.str "number") = false from decide_eq_false (fun h => e (by injection h))]
            exact iteT ⟨"count", rfl, rfl, by unfold fnS; simp, fun h => absurd rfl h⟩
        clear hfn hx fn
        rintro σ H ⟨fn, rfl, rfl, hfn, hcn⟩
        refine ⟨_, rfl, .inl ⟨rfl, _, SqL.of eN5⟩, _, rfl, _, rfl, t, c, N, gs ++ ts.map (·.1), rfl, T5, eN5, by omega, fun x H6 hx nx fz T6 S6 => ?_⟩
        have eN6 := S6 _ _ nNt eN5
        have eZ6 := S6 _ _ nZt eZ5
        refine ⟨N, _, _, rfl, rfl, eN6, by rw [List.length_map]; exact lt_size (by omega), ?_⟩
        have st1 := dl_sameT (t := t) (SameT.lst (o := .lst (vS (gs ++ ts.map (·.1)) ++ [.str x])) eN6)
        have ntot : noLs (ts.map totS3) = true := noLs_all.mpr fun d hd => by
          obtain ⟨w, _, rfl⟩ := List.mem_map.mp hd
          rfl
        have du7 := DhAll.t st1 (dtbA du5 S6) ntot
        have eZ7 : upd H6 N (.lst (vS (gs ++ ts.map (·.1)) ++ [.str x])) Z = some (.lst us) := by rw [upd_ne (Ne.symm nNZ)]; exact eZ6
        have eN7 : upd H6 N (.lst (vS (gs ++ ts.map (·.1)) ++ [.str x])) N = some (.lst (vS (gs ++ ts.map (·.1)) ++ [.str x])) := upd_same
        have T7 := T6.upd (o := .lst (vS (gs ++ ts.map (·.1)) ++ [.str x])) nNt nNc
        have S7 : SameB t H1 (upd H6 N (.lst (vS (gs ++ ts.map (·.1)) ++ [.str x]))) := updB hN (S3.trans (S35.trans S6))
        generalize upd H6 N (.lst (vS (gs ++ ts.map (·.1)) ++ [.str x])) = H7 at du7 eZ7 eN7 T7 S7 ⊢
        refine ⟨_, rfl, .inl ⟨rfl, _, SqL.of eZ7⟩, _, rfl, _, rfl, N, _, _, .str x, rfl, rfl, SqL.of eN7, at_last, _, rfl, _, rfl, three, fun q hq => ?_⟩
        have zq := Same.upd (o := .tup [.str x, .str fn, .str z]) hq
        have eZ8 := zq _ _ eZ7
        have lu : us.length = ts.length := by rw [du7.len, List.length_map]
        refine ⟨Z, _, _, rfl, rfl, eZ8, lt_size (by omega), ?_⟩
        have st2 := dl_sameT (t := t) (SameT.lst (o := .lst (us ++ [.ref q])) eZ8)
        refine ⟨⟨_, _, _, us ++ [.ref q], ts ++ [(x, fn, z)], rfl, ?_, upd_same, ?_, by rw [List.length_append, lt]; rfl, ?_, fun y hy => ?_⟩, (T7.same zq).upd nZt nZc, updB gZ (S7.trans (Same.b t zq))⟩
        · rw [upd_ne nNZ, zq _ _ eN7, List.map_append, ← List.append_assoc]
          unfold vS
          rw [List.map_append (l₁ := gs ++ ts.map (·.1))]
          rfl
        · rw [List.map_append]
          exact (DhAll.t st2 (dtsA du7 zq) ntot).append (.cons (Dh.t st2 (dh_tupT T7.tape (.cons (.str _) (.cons (.str _) (.cons (.str _) .nil))) hq) rfl) .nil)
        · rw [List.map_append, ← List.append_assoc, List.nodup_append]
          exact ⟨ndt, List.nodup_cons.mpr ⟨nofun, List.nodup_nil⟩, fun a ha b hb e => fz (by rw [List.map_singleton, List.mem_singleton] at hb; rw [← show a = x from e.trans hb]; exact ha)⟩
        · rcases List.mem_append.mp hy with hy | hy
          · exact okt y hy
          · rw [List.mem_singleton.mp hy]; exact ⟨⟨hx, nx⟩, hfn, zm, hcn⟩
      · intro σ H3 m3
        exact ⟨(1 + u).toNat, by omega, by omega, by omega, m3⟩
    clear eN2 eZ2 z2 T2 S12
    rintro σ H2 ⟨i, i1, i3, i8, ⟨x4, x8, x9, us, ts, rfl, eN, eZ, du, lt, ndt, okt⟩, T2, S2⟩
    have lu : us.length = ts.length := by rw [du.len, List.length_map]
    have eG2 := S2 _ _ nG eG
    have ed2 := S2 _ _ nd ed
    -- the columns behind it
    refine ⟨_, rfl, G, rfl, ⟨_, SqL.of eG2⟩, fun D hD => lc_list (K := K) (a := G) (xs := vS gs) (fun i H' => (∃ ys, H' D = some (.lst ys) ∧ Cols H' ys ((gs.take i).map fun n => (n, kdOf ps n))) ∧ Same H2 H') ⟨⟨[], upd_same, .nil⟩, Same.upd hD⟩ (fun i H' _ pr => SqL.of (pr.2 _ _ eG2)) ?_ ?_⟩
    · rintro i y H5 hi ⟨⟨ys, e5, c5⟩, s5⟩
      rw [List.getElem?_map] at hi
      obtain ⟨g, eg, rfl⟩ := Option.map_eq_some_iff.mp hi
      have l5 := c5.len
      rw [List.length_map, List.length_take] at l5
      have q := DGet.k (k := (Sum.inr g : Key)) (s5 _ _ ed2)
      rw [dkc_in (gin g (List.mem_of_getElem? eg))] at q
      refine ⟨rfl, ?_⟩
      dsimp only [tYes]
      refine iteT ?_
      change teGr _ _ _
      refine ⟨_, rfl, _, rfl, _, rfl, d, _, rfl, q, two, fun p hp => ?_⟩
      rw [List.take_add_one, eg, List.map_append]
      exact col_turn hD e5 c5 (by omega) s5 (Same.refl _) hp
    rintro H3 ⟨⟨ys, e3, c3⟩, s3⟩
    rw [List.length_map, List.take_length] at c3
    have eZ3 := s3 _ _ eZ
    have du3 := dtsA du s3
    refine ⟨_, rfl, Z, rfl, ⟨_, SqL.of eZ3⟩, fun D2 hD2 => lc_list (K := K) (a := Z) (xs := us) (fun i H' => (∃ ys, H' D2 = some (.lst ys) ∧ Cols H' ys ((ts.take i).map fun t => (t.1, ("number" : Str)))) ∧ Same H3 H') ⟨⟨[], upd_same, .nil⟩, Same.upd hD2⟩ (fun i H' _ pr => SqL.of (pr.2 _ _ eZ3)) ?_ ?_⟩
    · rintro i y H5 hi ⟨⟨ys, e5, c5⟩, s5⟩
      obtain ⟨dd, edd, hdd⟩ := du3.get i y hi
      rw [List.getElem?_map] at edd
      obtain ⟨tt, et, rfl⟩ := Option.map_eq_some_iff.mp edd
      obtain ⟨q, rfl, eq⟩ := totS3_dh hdd
      have l5 := c5.len
      rw [List.length_map, List.length_take] at l5
      refine ⟨rfl, ?_⟩
      dsimp only [tYes]
      refine iteT ?_
      change teGt K _ _ _
      refine ⟨_, rfl, q, _, _, .str tt.1, rfl, rfl, SqT.of (s5 _ _ (dl_of eq).2), rfl, two, fun p hp => ?_⟩
      rw [List.take_add_one, et, List.map_append]
      exact col_turn hD2 e5 c5 (by omega) s5 (Same.refl _) hp
    rintro H4 ⟨⟨ws, e4, c4⟩, s4⟩
    rw [lu, List.take_length] at c4
    have lys := c3.len
    have lws := c4.len
    rw [List.length_map] at lys lws
    refine ⟨D, D2, ys, ws, rfl, rfl, s4 _ _ e3, e4, by rw [lys, lws]; exact Nat.le_trans (show _ ≤ 8 by omega) (by decide), fun B hB => ?_⟩
    have zB := Same.upd (o := .lst (ys ++ ws)) hB
    have eB : upd H4 B (.lst (ys ++ ws)) B = some (.lst (ys ++ ws)) := upd_same
    have s24 := s3.trans (s4.trans zB)
    have c5 : Cols (upd H4 B (.lst (ys ++ ws))) (ys ++ ws) (gs.map (fun n => (n, kdOf ps n)) ++ ts.map fun t => (t.1, ("number" : Str))) := (c3.t (SameT.of (s4.trans zB))).app (c4.t (SameT.of zB))
    have du5 := dtsA du s24
    have T5 := T2.same s24
    have S5 := S2.trans (Same.b t s24)
    have eG5 := s24 _ _ eG2
    have eZ5 := s24 _ _ eZ
    generalize upd H4 B (.lst (ys ++ ws)) = H5 at eB c5 du5 T5 S5 eG5 eZ5 ⊢
    refine ⟨_, rfl, G, _, rfl, .inl ⟨SqL.of eG5, fun p hp => ⟨_, rfl, Z, _, rfl, .inl ⟨SqL.of (Same.upd hp _ _ eZ5), fun q hq => ⟨three, fun r hr => ?_⟩⟩⟩⟩⟩
    have zp := Same.upd (o := .tup (vS gs)) hp
    have zq := Same.upd (o := .tup us) hq
    have zr := Same.upd (o := .tup [.str "group", .ref p, .ref q]) hr
    have T6 := T5.same zp
    have T7 := T6.same zq
    have dv : DhT t (upd (upd (upd H5 p (.tup (vS gs))) q (.tup us)) r (.tup [.str "group", .ref p, .ref q])) (.ref r) (Ps.d (.group gs ts)) := dh_tupT T7.tape (.cons (.str _) (.cons (dts (dh_tupT (vs := vS gs) T5.tape (strsA gs) hp) zq) (.cons (dh_tupT T6.tape (dtsA du5 zp) hq) .nil))) hr
    have z3 := zp.trans (zq.trans zr)
    have eB8 := z3 _ _ eB
    have T8 := T5.same z3
    have c8 := c5.t (SameT.of z3)
    have S8 := S5.trans (Same.b t z3)
    generalize upd (upd (upd H5 p (.tup (vS gs))) q (.tup us)) r (.tup [.str "group", .ref p, .ref q]) = H8 at dv eB8 T8 c8 S8 ⊢
    refine ⟨_, rfl, B, _, rfl, SqL.of eB8, fun C ob hC d1 d2 => ⟨two, fun s hs => ?_⟩⟩
    have zC := Same.upd (o := .frz ob (.tup (ys ++ ws))) hC
    have zs := Same.upd (o := .tup [.ref r, .ref C]) hs
    have zall := zC.trans zs
    have tl' : 1 ≤ ts.length ∧ ts.length ≤ 6 := ⟨by omega, by omega⟩
    exact k s (.ref r) C (.group gs ts) _ _ upd_same (dts dv zall) ⟨ys ++ ws, ⟨ob, d1, d2, zs _ _ upd_same⟩, c8.t (SameT.of zall)⟩ (fun os => .group gin ⟨fun x hx => (cp.nm (gin x hx)).2, fun x hx => ⟨(okt x hx).1.2, (okt x hx).2.1, (cp.nm (okt x hx).2.2.1).2⟩, ndt, gl, tl', by omega⟩ fun x hx => ⟨(okt x hx).1.1, (okt x hx).2.2⟩) (T8.same zall) ((S1.trans S8).trans (Same.b t zall))
end
end
end K13
set_option Elab.async false
set_option linter.all false
set_option maxRecDepth 100000
set_option maxHeartbeats 4000000
namespace K13
open PySem PySem.Spec PyProof.Rows L2 Lc
/-! ## joins and unions -/
section
variable {X : Cx}
def rInDk (neg : Bool) : R2 := fun x y H Q => ∃ a o, y = .ref a ∧ DGet H a x o ∧ Q (.bl (if neg then !o.isSome else o.isSome)) H
theorem op_inDk (hu : X.A.units + 1 < cLine) : OpR X (compareOp .In) (rInDk false) := by
  intro pins s σ H x y v u Q I rx ry h
  obtain ⟨a, o, rfl, g, q⟩ := h
  obtain rfl : u = Value.ref a := ry
  exact d_in hu I g rx fun s' I' => ⟨.bl o.isSome, H, I', rfl, q⟩
end
abbrev ttM1 : TT := tTest (tOp (rInDk false) (tVar 10) (tVar 8))
abbrev ttM2 : TT := tTest (tOp rEq (tDGet2 (tVar 8) (tVar 10) (tC (.str ""))) (tVar 11))
abbrev ttM3 (K : PySem.W.Frag) : TT := tTest (tOp (rIn K true) (tOp (rIxT K) (tVar 14) (tC (.int 0))) (tVar 9))
abbrev Oth : Type := List (Str × CsL × Nat)
inductive OthAt (H : Hp) : List (Key × V) → Oth → Prop
  | nil : OthAt H [] []
  | cons {n : Str} {cs : CsL} {b : Nat} {q C : Addr} {kvs : List (Key × V)} {os : Oth} (e : H q = some (.tup [.ref C, .int (b : Int)])) (ca : CA H C cs) (r : OthAt H kvs os) : OthAt H ((Sum.inr n, .ref q) :: kvs) ((n, cs, b) :: os)
theorem OthAt.b {t : Addr} {H H' : Hp} (T : Tape H t) (s : SameB t H H') : ∀ {kvs : List (Key × V)} {os : Oth}, OthAt H kvs os → OthAt H' kvs os
  | _, _, .nil => .nil
  | _, _, .cons e ca r => .cons (SameT.b T s _ _ e) (ca.b T s) (OthAt.b T s r)
theorem OthAt.keys {H : Hp} : ∀ {kvs : List (Key × V)} {os : Oth}, OthAt H kvs os → kvs.map (·.1) = (os.map (·.1)).map Sum.inr
  | _, _, .nil => rfl
  | _, _, .cons e ca r => by
    rw [List.map_cons, List.map_cons, List.map_cons, OthAt.keys r]
theorem OthAt.get {H : Hp} {x : Str} : ∀ {kvs : List (Key × V)} {os : Oth}, OthAt H kvs os → x ∈ os.map (·.1) → ∃ q C cs b, valV kvs (Sum.inr x : Key) = some (.ref q) ∧ H q = some (.tup [.ref C, .int ((b : Nat) : Int)]) ∧ CA H C cs ∧ (x, cs, b) ∈ os
  | _, _, .nil, h => by cases h
  | _, _, .cons (n := n) (cs := cs) (b := b) (q := q) (C := C) e ca r, h => by
    by_cases z : n = x
    · subst z
      exact ⟨q, C, cs, b, valV_pos rfl, e, ca, List.mem_cons_self⟩
    · rw [List.map_cons] at h
      rcases List.mem_cons.mp h with h | h
      · exact absurd h.symm z
      · obtain ⟨q', C', cs', b', h1, h2, h3, h4⟩ := OthAt.get r h
        exact ⟨q', C', cs', b', by rw [valV_neg (fun w => z (by injection w))]; exact h1, h2, h3, List.mem_cons_of_mem _ h4⟩
abbrev ldO (os : Oth) : List (Str × CsL) := os.map fun o => (o.1, o.2.1)
def spMt : Sp := fun vs H Q _ => ∃ (t c L O : Addr) (ps : CsL) (kvs : List (Key × V)) (os : Oth) (bd : Nat), vs = [.ref t, .ref L, .ref O, .int (bd : Int)] ∧ TapeL c H t ∧ CA H L ps ∧ ColP ps ∧ H O = some (.dK kvs) ∧ OthAt H kvs os ∧ os ≠ [] ∧ os.length ≤ 10 ∧ (∀ o ∈ os, ColP o.2.1 ∧ o.2.2 ≤ 1000) ∧ bd ≤ 1000 ∧ (∀ H', TapeL c H' t → SameB t H H' → Q .non H') ∧
  ∀ (r : Addr) (v : V) (C : Addr) (b : Nat) (p : Ps) (qs : CsL) (H' : Hp), H' r = some (.tup [v, .ref C, .int (b : Int)]) → DhT t H' v p.d → CA H' C qs → Lead (ldO os) ps p qs → b ≤ 1000 → TapeL c H' t → SameB t H H' → Q (.ref r) H'
theorem can_str {n : Nat} {x : Str} (h : Sh n x) : (PyData.str x).canLay0 = true := by
  show x.cps.all (· < 0x110000) = true
  rw [Array.all_eq_true]
  intro i hi
  have := h.ok x.cps[i] (by simp)
  simpa using this
theorem cans_all {ds : List PyData} (h : ∀ d ∈ ds, d.canLay0 = true) : PyData.canLayAll0 ds = true := by
  induction ds with
  | nil => rfl
  | cons d ds ih => simp [PyData.canLayAll0, h d List.mem_cons_self, ih fun x hx => h x (List.mem_cons_of_mem _ hx)]
theorem cols_depth (ps : CsL) : PyData.depthAll (ps.map colP) ≤ 1 ∧ PyData.hasDictAll (ps.map colP) = false := by
  induction ps with
  | nil => exact ⟨Nat.zero_le _, rfl⟩
  | cons p ps ih =>
    refine ⟨?_, ?_⟩
    · simp only [List.map_cons, PyData.depthAll, colP, PyData.depth]
      have := ih.1
      omega
    · rw [List.map_cons, PyData.hasDictAll, ih.2]
      rfl
theorem shp_ps {ps : CsL} (h : ColP ps) : SeqAt.shaped (.tuple (ps.map colP)) = true := by
  obtain ⟨h1, h2⟩ := cols_depth ps
  refine Bool.and_eq_true_iff.mpr ⟨?_, decide_eq_true ?_⟩
  · show PyData.canLayAll0 (ps.map colP) = true
    refine cans_all fun d hd => ?_
    obtain ⟨p, hp, rfl⟩ := List.mem_map.mp hd
    obtain ⟨h1, _, h3⟩ := h.ok p hp
    refine cans_all fun d hd => ?_
    simp only [List.mem_cons, List.not_mem_nil, or_false] at hd
    rcases hd with rfl | rfl
    · exact can_str h1
    · exact can_str h3.sh
  · simp only [PyData.depth]
    omega
theorem eqv_cols : ∀ ps qs : CsL, PyData.eqvAll (ps.map colP) (qs.map colP) = decide (ps = qs)
  | [], [] => rfl
  | [], q :: qs => rfl
  | p :: ps, [] => rfl
  | (a, b) :: ps, (c, d) :: qs => by
    rw [List.map_cons, List.map_cons, PyData.eqvAll, eqv_cols ps qs]
    show (PyData.eqv (.tuple [.str a, .str b]) (.tuple [.str c, .str d]) && decide (ps = qs)) = _
    simp only [PyData.eqv, PyData.eqvAll, Bool.and_true]
    by_cases h1 : a = c
    · by_cases h2 : b = d
      · subst h1; subst h2
        simp
      · have : (b == d) = false := beq_eq_false_iff_ne.mpr h2
        rw [this]
        simp [h2]
    · have : (a == c) = false := beq_eq_false_iff_ne.mpr h1
      rw [this]
      simp [h1]
theorem eqv_strs : ∀ a b : List Str, PyData.eqvAll (a.map PyData.str) (b.map PyData.str) = decide (a = b)
  | [], [] => rfl
  | [], _ :: _ => rfl
  | _ :: _, [] => rfl
  | x :: a, y :: b => by
    rw [List.map_cons, List.map_cons, PyData.eqvAll, eqv_strs a b]
    simp only [PyData.eqv]
    by_cases h1 : x = y
    · subst h1
      simp
    · have : (x == y) = false := beq_eq_false_iff_ne.mpr h1
      rw [this]
      simp [h1]
theorem strs_depth (ns : List Str) : PyData.depthAll (ns.map PyData.str) = 0 := by
  induction ns with
  | nil => rfl
  | cons p ps ih => simp only [List.map_cons, PyData.depthAll, PyData.depth, ih]; omega
theorem shp_strs {ns : List Str} (h : ∀ n ∈ ns, Sh 12 n) : SeqAt.shaped (.list (ns.map PyData.str)) = true := by
  refine Bool.and_eq_true_iff.mpr ⟨?_, decide_eq_true ?_⟩
  · refine cans_all fun d hd => ?_
    obtain ⟨p, hp, rfl⟩ := List.mem_map.mp hd
    exact can_str (h p hp)
  · simp only [PyData.depth, strs_depth]
    omega
theorem dp_strs {K : PySem.W.Frag} {H : Hp} : ∀ ns : List Str, DpAll K H (vS ns) (ns.map PyData.str)
  | [] => .nil
  | n :: ns => .cons (.str _) (dp_strs ns)
theorem dp_cols {K : PySem.W.Frag} {H : Hp} : ∀ {xs : List V} {ps : CsL}, Cols H xs ps → DpAll K H xs (ps.map colP)
  | _, _, .nil => .nil
  | _, _, .cons e r => .cons (.tup (SqT.of e) (.cons (.str _) (.cons (.str _) .nil))) (dp_cols r)
/-- the names that both have; those whose kinds are alike -/
def shN (ps cs : CsL) : List Str := (cs.filter fun p => decide (p.1 ∈ nms ps)).map (·.1)
def alN (ps cs : CsL) : List Str := (cs.filter fun p => decide (p.1 ∈ nms ps ∧ kdOf ps p.1 = p.2)).map (·.1)
def moC (ps cs : CsL) : CsL := cs.filter fun p => decide (p.1 ∉ nms ps)
theorem shN_mem {ps cs : CsL} {x : Str} : x ∈ shN ps cs ↔ x ∈ nms cs ∧ x ∈ nms ps := by
  unfold shN
  constructor
  · intro h
    obtain ⟨p, hp, rfl⟩ := List.mem_map.mp h
    obtain ⟨h1, h2⟩ := List.mem_filter.mp hp
    exact ⟨List.mem_map_of_mem h1, of_decide_eq_true h2⟩
  · rintro ⟨h1, h2⟩
    obtain ⟨p, hp, rfl⟩ := List.mem_map.mp h1
    exact List.mem_map_of_mem (List.mem_filter.mpr ⟨hp, decide_eq_true h2⟩)
theorem shN_kind {ps cs : CsL} (hc : (nms cs).Nodup) (e : shN ps cs = alN ps cs) {x : Str} (h : x ∈ shN ps cs) : kdOf ps x = kdOf cs x := by
  rw [e] at h
  unfold alN at h
  obtain ⟨p, hp, rfl⟩ := List.mem_map.mp h
  obtain ⟨h1, h2⟩ := List.mem_filter.mp hp
  rw [(of_decide_eq_true h2).2, kdOf_mem hc h1]
theorem shN_nd {ps cs : CsL} (hc : (nms cs).Nodup) : (shN ps cs).Nodup := (List.filter_sublist.map _).nodup hc
theorem fil_take {α : Type} {l : List α} {i : Nat} {x : α} (f : α → Bool) (h : l[i]? = some x) : (l.take (i + 1)).filter f = (l.take i).filter f ++ (if f x = true then [x] else []) := by
  rw [List.take_add_one, h, List.filter_append]
  show _ ++ List.filter f [x] = _
  rw [List.filter_cons]
  cases f x <;> rfl
/-- one turn of a filtered comprehension over columns: the names -/
theorem fnm_turn {H H1 : Hp} {D : Addr} {cs : CsL} {i : Nat} {z kk : Str} {f : Str × Str → Bool} (hD : H D = none) (hD1 : H1 D = some (.lst (vS (((cs.take i).filter f).map (·.1))))) (ep : cs[i]? = some (z, kk)) (l8 : cs.length ≤ 8) (s1 : Same H H1) (hf : f (z, kk) = true) : ∃ acc, H1 D = some (.lst acc) ∧ acc.length < sizeLine ∧ (upd H1 D (.lst (acc ++ [.str z])) D = some (.lst (vS (((cs.take (i + 1)).filter f).map (·.1)))) ∧ Same H (upd H1 D (.lst (acc ++ [.str z])))) := by
  refine ⟨_, hD1, ?_, ?_, fun b o e => by rw [upd_ne (ne_of_none e hD)]; exact s1 b o e⟩
  · rw [List.length_map, List.length_map]
    have := List.length_filter_le f (cs.take i)
    rw [List.length_take] at this
    exact lt_size (by omega)
  · rw [upd_same, fil_take f ep, hf]
    unfold vS
    rw [if_pos rfl, List.map_append, List.map_append]
    rfl
theorem fnm_skip {H1 : Hp} {D : Addr} {cs : CsL} {i : Nat} {x : Str × Str} {f : Str × Str → Bool} (hD1 : H1 D = some (.lst (vS (((cs.take i).filter f).map (·.1))))) (ep : cs[i]? = some x) (hf : f x = false) : H1 D = some (.lst (vS (((cs.take (i + 1)).filter f).map (·.1)))) := by
  rw [hD1, fil_take f ep, hf]
  simp
section
variable {P : Program} {w : World} {K : PySem.W.Frag} {mg : Str → Option Value} {base : Heap} {f : Addr} {fd : FuncData}
abbrev sMt : Stmt := top 88
abbrev nMt : List Str := ["_law_tape_here", "_law_columns_here", "_law_others", "_law_bound", "_law_keys", "_law_other", "_law_theirs", "_law_size", "_law_mine", "_law_shared", "_law_name_here", "_law_kind", "_law_alike", "_law_more", "_law_part"]
abbrev pMt : List Str := ["_law_tape_here", "_law_columns_here", "_law_others", "_law_bound"]
theorem scMt : FnScope nMt pMt (defScope sMt) := ⟨rfl, rfl, rfl, by decide +kernel, rfl, by decide +kernel, by decide +kernel⟩
section
variable {fA_ : Addr} {fdA_ : FuncData}
theorem ok_Mt (F : Fun K "_law_meeting_step" "_law_meeting_step" sMt f fd) (T : Bt mg) (mS : mg "sorted" = none)
    (GA_ : FnOk P w K mg base CX0 1 fA_ fdA_ ["_law_tape_here", "_law_many"] (spDrawL)) (mA_ : mg "_law_draw" = some (.ref fA_)) (kA_ : PySem.W.keepIn K (.ref fA_) = true) (bA_ : Binds K fdA_ ["_law_tape_here", "_law_many"] []) : FnOk P w K mg base CX0 4 f fd pMt (spMt) := by
  refine F.ok scMt (fun vs H Q E h => ?_) (fun cdv A outer s H vs Q E hr h => ?_)
  · obtain ⟨t, c, L, O, ps, kvs, os, bd, rfl, _⟩ := h
    rfl
  · obtain ⟨t, c, L, O, ps, kvs, os, bd, rfl, hT, hL, cp, hO, ho, one_, ten, okO, bd1, kn, k⟩ := h
    have hrA_ : Room (1) _ := hr.mono (by first | decide | omega)
    refine ⟨_, (Evl.pss_cut (ps_if (pt_not (pt_truth (pv 2) (fun _ => rfl))) (pss_one (ps_ret pe_non)) pss_nil)
      (pss_cons (ps_set (i := 4) scMt.nd rfl (Or.inl rfl) (pe_callB (call_sortedD rfl) (by rfl) mS (by decide +kernel) (pa_cons (pv 2) pa_nil)))
      (pss_cons (ps_set (i := 5) scMt.nd rfl (Or.inl rfl) (pe_ix ix_list (pv 4) (pe_call GA_ hrA_ (by rfl) mA_ kA_ bA_ .nil pass0 (pa_cons (pv 0) (pa_cons (pe_callB call_len_seq (by rfl) T.len PySem.boot_len (pa_cons (pv 4) pa_nil)) pa_nil))) (fun _ _ => rfl)))
      (pss_cons (ps_set (i := 6) scMt.nd rfl (Or.inl rfl) (pe_ix ix_tup (pe_dget (hu_of hr) (pv 2) (pv 5) (fun _ _ => rfl)) pe_int (fun _ _ => rfl)))
      (pss_cons (ps_set (i := 7) scMt.nd rfl (Or.inl rfl) (pe_ix ix_tup (pe_dget (hu_of hr) (pv 2) (pv 5) (fun _ _ => rfl)) pe_int (fun _ _ => rfl)))
      (Evl.pss_cut (ps_if (PW.pt (pw_and (pt_cmpR (op_eqD hr.units) (pv 6) (pv 1) (nomark _)) (pw_and (pt_cmpR op_le (pe_op op_add (pv 3) (pv 7)) pe_int (nomark _)) (pw_and1 (pt_cmpR op_eq (pe_call GA_ hrA_ (by rfl) mA_ kA_ bA_ .nil pass0 (pa_cons (pv 0) (pa_cons pe_int pa_nil))) pe_int (nomark _)))))) (pss_one (ps_ret (pe_tup (pa_cons (pe_tup (pa_cons pe_str (pa_cons (pv 5) pa_nil))) (pa_cons (pv 1) (pa_cons (pe_op op_add (pv 3) (pv 7)) pa_nil)))))) pss_nil)
      (pss_cons (ps_set (i := 8) scMt.nd rfl (Or.inr rfl) (pe_callTy (call_dictZ rfl) (by rfl) T.dict boot_dict (pa_cons (pv 1) pa_nil)))
      (Evl.pss_cut (ps_set (i := 9) scMt.nd rfl (Or.inr rfl) (pe_lc (own := [("_law_name_here", 10), ("_law_kind", 11)]) (g := (gTup K 2 (gCons (gName 10) (gCons (gName 11) gNil)))) (tt := ttM1) (te := tVar 10) (by rfl) scMt.nd (pi_tup (pv 6)) (blkOk_by (own := [("_law_name_here", 10), ("_law_kind", 11)]) (N := nMt) (sc := defScope sMt) (by decide +kernel)) (fun _ _ _ _ _ => (pg_tup rfl (pgs_cons (pg_name (i := 10) scMt.nd rfl (.inl rfl)) (pgs_cons (pg_name (i := 11) scMt.nd rfl (.inl rfl)) pgs_nil)))) (fun _ _ _ _ _ => (pts_one (pt_cmpR (op_inDk (hu_of hr)) (pv 10) (pv 8) (by rfl)))) (fun _ _ _ _ _ => (pv 10))))
      (Evl.pss_cut (ps_setLc (i := 12) (own := [("_law_name_here", 10), ("_law_kind", 11)]) (g := (gTup K 2 (gCons (gName 10) (gCons (gName 11) gNil)))) (tt := ttM2) (te := tVar 10) (by rfl) scMt.nd rfl rfl (sw_true rfl rfl rfl (by decide +kernel)) (pi_tup (pv 6)) (blkOk_by (own := [("_law_name_here", 10), ("_law_kind", 11)]) (N := nMt) (sc := defScope sMt) (by decide +kernel)) (fun _ _ _ _ _ => (pg_tup rfl (pgs_cons (pg_name (i := 10) scMt.nd rfl (.inl rfl)) (pgs_cons (pg_name (i := 11) scMt.nd rfl (.inl rfl)) pgs_nil)))) (fun _ _ _ _ _ => (pts_one (pt_cmpR op_eq (pe_dget2 (hu_of hr) (pv 8) (pv 10) pe_str ⟨rfl, rfl, rfl, rfl⟩) (pv 11) (nomark _)))) (fun _ _ _ _ _ => (pv 10)))
      (Evl.pss_cut (ps_set (i := 13) scMt.nd rfl (Or.inl rfl) (pe_callTy call_tuple_of (by rfl) T.tuple boot_tuple (pa_cons (pe_lc (own := [("_law_part", 14)]) (g := (gName 14)) (tt := ttM3 K) (te := tVar 14) (by rfl) scMt.nd (pi_tup (pv 6)) (blkOk_by (own := [("_law_part", 14)]) (N := nMt) (sc := defScope sMt) (by decide +kernel)) (fun _ _ _ _ _ => (pg_name (i := 14) scMt.nd rfl (.inl rfl))) (fun _ _ _ _ _ => (pts_one (pt_cmpR op_notIn_seq (pe_ix ix_tup (pv 14) pe_int (fun _ _ => rfl)) (pv 9) (by rfl)))) (fun _ _ _ _ _ => (pv 14))) pa_nil)))
      (Evl.pss_cut (ps_if (PW.pt (pw_or (pt_cmpR (op_neD hr.units) (pv 9) (pv 12) (nomark _)) (pw_or (pt_not (pt_truth (pv 9) (fun _ => rfl))) (pw_or (pt_cmpR op_gt (pe_callB call_len_seq (by rfl) T.len PySem.boot_len (pa_cons (pv 9) pa_nil)) pe_int (nomark _)) (pw_or (pt_cmpR op_gt (pe_op op_add (pe_callB call_len_seq (by rfl) T.len PySem.boot_len (pa_cons (pv 1) pa_nil)) (pe_callB call_len_seq (by rfl) T.len PySem.boot_len (pa_cons (pv 13) pa_nil))) pe_int (nomark _)) (pw_or1 (pt_cmpR op_gt (pe_op op_mul (pv 3) (pv 7)) pe_int (nomark _)))))))) (pss_one (ps_ret pe_non)) pss_nil)
      (Evl.pss_cut (ps_if (pt_cmpR op_eq (pe_call GA_ hrA_ (by rfl) mA_ kA_ bA_ .nil pass0 (pa_cons (pv 0) (pa_cons pe_int pa_nil))) pe_int (nomark _)) (pss_one (ps_set (i := 9) scMt.nd rfl (Or.inr rfl) (pe_revL (pv 9)))) pss_nil)
      (pss_one (ps_ret (pe_tup (pa_cons (pe_tup (pa_cons pe_str (pa_cons (pv 5) (pa_cons (pe_callTy call_tuple_of (by rfl) T.tuple boot_tuple (pa_cons (pv 9) pa_nil)) pa_nil)))) (pa_cons (pe_op op_catZ (pv 1) (pv 13)) (pa_cons (pe_op op_mul (pv 3) (pv 7)) pa_nil)))))))))))))))))), ?_⟩
    have two : 2 ≤ sizeLine := by decide
    have one : 1 ≤ sizeLine := by decide
    have three : 3 ≤ sizeLine := by decide
    have four : 4 ≤ sizeLine := by decide
    obtain ⟨xs, zL, cc⟩ := hL
    have l8 := cp.l8
    have l1 := cp.l1
    have lx := cc.len
    have nO : O ≠ t := by
      intro z
      obtain ⟨_, _, _, _, _, h1, _⟩ := hT.tape
      rw [z, h1] at hO
      cases hO
    refine ⟨fun σ H' => H' = H ∧ σ = [some (.ref t), some (.ref L), some (.ref O), some (.int (bd : Int)), none, none, none, none, none, none, none, none, none, none, none], ?_, ?_⟩
    · refine ⟨_, rfl, _, .inr (.inr ⟨kvs, hO, rfl⟩), ?_⟩
      have ne : kvs ≠ [] := fun e => by
        have := ho.keys
        rw [e] at this
        cases os with
        | nil => exact one_ rfl
        | cons _ _ => cases this
      cases kvs with
      | nil => exact absurd rfl ne
      | cons a b => exact iteF ⟨rfl, rfl⟩
    rintro σ H1 ⟨rfl, rfl⟩
    refine ⟨_, rfl, O, kvs, os.map (·.1), rfl, .inl hO, ho.keys, by rw [List.length_map]; omega, fun ys p pm _ hp => ?_⟩
    have zp := Same.upd (o := .lst (vS ys)) hp
    have ep : upd H1 p (.lst (vS ys)) p = some (.lst (vS ys)) := upd_same
    have np := hT.tape.ne hp
    have ly : ys.length = os.length := by rw [pm.length_eq, List.length_map]
    have l0 : 0 < os.length := List.length_pos_iff.mpr one_
    have lyv : (vS ys).length = os.length := by rw [List.length_map, ly]
    refine ⟨_, rfl, _, rfl, _, rfl, p, _, rfl, .inl (SqL.of ep), t, c, _, rfl, hT.same zp, by rw [lyv]; omega, big1000 (by omega) (by rw [lyv]; omega), fun j H2 j0 j1 T2 S2 => ?_⟩
    rw [lyv] at j1
    obtain ⟨x, ex⟩ : ∃ x, ys[j.toNat]? = some x := ⟨_, List.getElem?_eq_getElem (by omega)⟩
    have hx : x ∈ os.map (·.1) := pm.mem_iff.mp (List.mem_of_getElem? ex)
    refine ⟨p, _, _, .str x, rfl, rfl, SqL.of (S2 _ _ np ep), at_of (j := j.toNat) (by omega) (by rw [List.getElem?_map, ex]; rfl), ?_⟩
    have S02 := (Same.b t zp).trans S2
    obtain ⟨q, C, cs, b, v1, eq, hC, mo⟩ := (ho.b hT.tape S02).get hx
    have hO2 := S02 _ _ nO hO
    have g := DGet.k (k := (Sum.inr x : Key)) hO2
    rw [v1] at g
    refine ⟨_, rfl, _, rfl, O, _, rfl, g, q, _, _, .ref C, rfl, rfl, SqT.of eq, rfl, ?_⟩
    refine ⟨_, rfl, _, rfl, O, _, rfl, g, q, _, _, .int b, rfl, rfl, SqT.of eq, rfl, ?_⟩
    obtain ⟨cq, b1000⟩ := okO _ mo
    have cq : ColP cs := cq
    have b1000 : b ≤ 1000 := b1000
    have c8 := cq.l8
    obtain ⟨ws, zC, wc⟩ := hC
    have lw := wc.len
    have mld : (x, cs) ∈ ldO os := List.mem_map_of_mem (f := fun o : Str × CsL × Nat => (o.1, o.2.1)) mo
    have z2 := zL.b hT.tape S02
    have c2 := cc.b hT.tape S02
    clear g v1 hO2 hx ex ep eq j0 j1 zp S2
    let M := fun (x8 x9 x12 x13 : Option V) (σ : L2.St) => σ = [some (.ref t), some (.ref L), some (.ref O), some (.int (bd : Int)), some (.ref p), some (.str x), some (.ref C), some (.int (b : Int)), x8, x9, none, none, x12, x13, none]
    refine ⟨fun σ H' => M none none none none σ ∧ TapeL c H' t ∧ SameB t H2 H', ?_, ?_⟩
    · refine ⟨_, rfl, _, rfl, _, _, .tup zC.sq (dp_cols wc), .tup z2.sq (dp_cols c2), shp_ps cq, shp_ps cp, _, rfl, ?_⟩
      rw [show PyData.eqv (.tuple (cs.map colP)) (.tuple (ps.map colP)) = decide (cs = ps) by rw [PyData.eqv, eqv_cols]]
      refine ite2 (fun y => ?_) (fun _ => iteF ⟨rfl, T2, SameB.refl _ _⟩)
      have y := of_decide_eq_true y
      refine ⟨_, rfl, _, rfl, _, _, rfl, rfl, _, _, rfl, rfl, _, rfl, ite2 (fun w => ?_) (fun _ => iteF ⟨rfl, T2, SameB.refl _ _⟩)⟩
      have w := of_decide_eq_true w
      refine ⟨_, rfl, t, c, _, rfl, T2, by decide, big1000 (by decide) (by decide), fun d H3 _ _ T3 S3 => ⟨rfl, _, rfl, ite2 (fun _ => ?_) (fun _ => ⟨rfl, T3, S3⟩)⟩⟩
      refine ⟨_, rfl, two, fun q hq => ⟨_, rfl, _, rfl, _, rfl, _, _, rfl, rfl, three, fun r hr => ?_⟩⟩
      have zq := Same.upd (o := .tup [.str "union", .str x]) hq
      have zr := Same.upd (o := .tup [.ref q, .ref L, .int ((bd : Int) + (b : Int))]) hr
      have zall := zq.trans zr
      subst y
      exact k r (.ref q) L (bd + b) (.union x) cs _ upd_same (dts (dh_tupT T3.tape (.cons (.str _) (.cons (.str _) .nil)) hq) zr) ⟨xs, (z2.b T2.tape S3).same zall, (c2.b T2.tape S3).t (SameT.of zall)⟩ (.union mld) (by omega) (T3.same zall) (S02.trans (S3.trans (Same.b t zall)))
    clear z2 c2
    rintro σ H3 ⟨rfl, T3, S3⟩
    have S03 := S02.trans S3
    have z3 := zL.b hT.tape S03
    have c3 := cc.b hT.tape S03
    have zC3 := zC.b T2.tape S3
    have wc3 := wc.b T2.tape S3
    clear S02 S3 T2 zC wc
    obtain ⟨as, exs, pr⟩ := cols_refs (K := K) c3
    have z3' := z3
    rw [exs] at z3'
    refine ⟨_, rfl, L, as, dkc ps, rfl, z3', pr, fun d hd => ?_⟩
    rw [dkc_merge cp.nd]
    have zd := Same.upd (o := .dK (dkc ps)) hd
    have ed : upd H3 d (.dK (dkc ps)) d = some (.dK (dkc ps)) := upd_same
    have T4 := T3.same zd
    have S04 := S03.trans (Same.b t zd)
    have zC4 := zC3.same zd
    have wc4 := wc3.t (SameT.of zd)
    have z4 := z3.same zd
    have c4 := c3.t (SameT.of zd)
    clear z3 z3' c3 zC3 wc3 S03 T3
    generalize upd H3 d (.dK (dkc ps)) = H4 at ed T4 S04 zC4 wc4 z4 c4 ⊢
    clear zd hd pr exs as
    refine ⟨fun σ H' => ∃ D : Addr, M (some (.ref d)) (some (.ref D)) none none σ ∧ H' D = some (.lst (vS (shN ps cs))) ∧ Same H4 H', ?_, ?_⟩
    · refine ⟨_, rfl, C, rfl, ⟨_, zC4.sq⟩, fun D hD => lc_tup (K := K) (a := C) (xs := ws) (fun i H' => H' D = some (.lst (vS (((cs.take i).filter fun p => decide (p.1 ∈ nms ps)).map (·.1)))) ∧ Same H4 H') ⟨upd_same, Same.upd hD⟩ (fun i H' _ pr => (zC4.same pr.2).sq) ?_ ?_⟩
      · rintro i y H5 hy ⟨e5, s5⟩
        obtain ⟨a, z, kk, rfl, ea, ep⟩ := wc4.get _ _ hy
        refine ⟨a, _, rfl, SqT.of (s5 _ _ ea), rfl, _, _, rfl, _, _, rfl, rfl, rfl, ?_⟩
        change ttM1 _ _ _
        have g := DGet.k (k := (Sum.inr z : Key)) (s5 _ _ ed)
        by_cases m : z ∈ nms ps
        · rw [dkc_in m] at g
          exact ⟨_, rfl, _, rfl, d, _, rfl, g, _, rfl, iteT ⟨_, rfl, fnm_turn hD e5 ep c8 s5 (decide_eq_true m)⟩⟩
        · rw [dkc_no m] at g
          exact ⟨_, rfl, _, rfl, d, _, rfl, g, _, rfl, iteF ⟨fnm_skip e5 ep (decide_eq_false m), s5⟩⟩
      rintro H5 ⟨e5, s5⟩
      rw [lw, List.take_length] at e5
      exact ⟨D, rfl, e5, s5⟩
    rintro σ H5 ⟨D, rfl, eD, s5⟩
    refine ⟨fun σ H' => ∃ D2 : Addr, M (some (.ref d)) (some (.ref D)) (some (.ref D2)) none σ ∧ H' D2 = some (.lst (vS (alN ps cs))) ∧ Same H5 H', ?_, ?_⟩
    · have zC5 := zC4.same s5
      refine ⟨_, rfl, C, rfl, ⟨_, zC5.sq⟩, fun D2 hD => lc_tup (K := K) (a := C) (xs := ws) (fun i H' => H' D2 = some (.lst (vS (((cs.take i).filter fun p => decide (p.1 ∈ nms ps ∧ kdOf ps p.1 = p.2)).map (·.1)))) ∧ Same H5 H') ⟨upd_same, Same.upd hD⟩ (fun i H' _ pr => (zC5.same pr.2).sq) ?_ ?_⟩
      · rintro i y H6 hy ⟨e6, s6⟩
        obtain ⟨a, z, kk, rfl, ea, ep⟩ := wc4.get _ _ hy
        have s46 := s5.trans s6
        refine ⟨a, _, rfl, SqT.of (s46 _ _ ea), rfl, _, _, rfl, _, _, rfl, rfl, rfl, ?_⟩
        change ttM2 _ _ _
        have g := DGet.k (k := (Sum.inr z : Key)) (s46 _ _ ed)
        have nk : ¬ ("" : Str) = kk := fun e => by
          rcases (cq.ok _ (List.mem_of_getElem? ep)).2.2 with h | h | h <;> (rw [show kk = _ from h] at e; revert e; decide +kernel)
        by_cases m : z ∈ nms ps
        · rw [dkc_in m] at g
          refine ⟨_, rfl, d, rfl, .inl ⟨_, .inl (s46 _ _ ed)⟩, _, rfl, _, g, _, rfl, rfl, _, rfl, ?_⟩
          show if decide (V.str (kdOf ps z) = V.str kk) = true then _ else _
          by_cases e : kdOf ps z = kk
          · rw [show decide (V.str (kdOf ps z) = V.str kk) = true by rw [e]; exact decide_eq_true rfl]
            exact iteT ⟨_, rfl, fnm_turn hD e6 ep c8 s6 (decide_eq_true ⟨m, e⟩)⟩
          · rw [show decide (V.str (kdOf ps z) = V.str kk) = false from decide_eq_false (fun h => e (by injection h))]
            exact iteF ⟨fnm_skip e6 ep (decide_eq_false fun h => e h.2), s6⟩
        · rw [dkc_no m] at g
          refine ⟨_, rfl, d, rfl, .inl ⟨_, .inl (s46 _ _ ed)⟩, _, rfl, _, g, _, rfl, rfl, _, rfl, ?_⟩
          show if decide (V.str "" = V.str kk) = true then _ else _
          rw [show decide (V.str "" = V.str kk) = false from decide_eq_false (fun h => nk (by injection h))]
          exact iteF ⟨fnm_skip e6 ep (decide_eq_false fun h => m h.1), s6⟩
      rintro H6 ⟨e6, s6⟩
      rw [lw, List.take_length] at e6
      exact ⟨D2, rfl, e6, s6⟩
    rintro σ H6 ⟨D2, rfl, eD2, s6⟩
    have s46 := s5.trans s6
    have eD6 := s6 _ _ eD
    have fl : (vS (shN ps cs)).all flatV = true := by simp [flatV]
    refine ⟨fun σ H' => ∃ (p3 : Addr) (ms : List V), M (some (.ref d)) (some (.ref D)) (some (.ref D2)) (some (.ref p3)) σ ∧ H' p3 = some (.tup ms) ∧ Cols H' ms (moC ps cs) ∧ Same H6 H', ?_, ?_⟩
    · have zC6 := zC4.same s46
      have wc6 := wc4.t (SameT.of s46)
      refine ⟨_, rfl, C, rfl, ⟨_, zC6.sq⟩, fun D3 hD => lc_tup (K := K) (a := C) (xs := ws) (fun i H' => (∃ ms, H' D3 = some (.lst ms) ∧ Cols H' ms ((cs.take i).filter fun p => decide (p.1 ∉ nms ps))) ∧ Same H6 H') ⟨⟨[], upd_same, .nil⟩, Same.upd hD⟩ (fun i H' _ pr => (zC6.same pr.2).sq) ?_ ?_⟩
      · rintro i y H7 hy ⟨⟨ms, e7, m7⟩, s7⟩
        obtain ⟨a, z, kk, rfl, ea, ep⟩ := wc6.get _ _ hy
        have zc : z ∈ nms cs := List.mem_map_of_mem (f := (·.1)) (List.mem_of_getElem? ep)
        refine ⟨rfl, ?_⟩
        change ttM3 K _ _ _
        refine ⟨_, rfl, a, _, _, .str z, rfl, rfl, SqT.of (s7 _ _ ea), rfl, _, rfl, D, _, rfl, .inl (SqL.of (s7 _ _ eD6)), rfl, fl, _, rfl, ?_⟩
        rw [if_pos rfl, in_strs]
        have lm : ms.length ≤ 8 := by
          have := m7.len
          have := List.length_filter_le (fun p : Str × Str => decide (p.1 ∉ nms ps)) (cs.take i)
          rw [List.length_take] at this
          omega
        by_cases m : z ∈ nms ps
        · rw [decide_eq_true (shN_mem.mpr ⟨zc, m⟩)]
          refine iteF ⟨⟨ms, e7, ?_⟩, s7⟩
          rw [fil_take _ ep, show decide ((z, kk).1 ∉ nms ps) = false from decide_eq_false (fun h => h m)]
          simpa using m7
        · rw [decide_eq_false (fun h => m (shN_mem.mp h).2)]
          refine iteT ⟨_, rfl, ms, e7, lt_size (by omega), ⟨ms ++ [.ref a], upd_same, ?_⟩, fun b o e => by rw [upd_ne (ne_of_none e hD)]; exact s7 b o e⟩
          rw [fil_take _ ep, show decide ((z, kk).1 ∉ nms ps) = true from decide_eq_true m]
          exact (m7.app (.cons (s7 _ _ ea) .nil)).t (SameT.lst e7)
      rintro H7 ⟨⟨ms, e7, m7⟩, s7⟩
      rw [lw, List.take_length] at m7
      exact ⟨D3, ms, rfl, .inl ⟨SqL.of e7, fun p3 hp3 => ⟨p3, ms, rfl, upd_same, m7.t (SameT.of (Same.upd hp3)), s7.trans (Same.upd hp3)⟩⟩⟩
    rintro σ H7 ⟨p3, ms, rfl, ep3, m7, s7⟩
    have s47 := s46.trans s7
    have lms := m7.len
    have eD7 := s7 _ _ eD6
    have eD27 := s7 _ _ eD2
    have T7 := T4.same s47
    have S07 := S04.trans (Same.b t s47)
    have z7 := z4.same s47
    have c7 := c4.t (SameT.of s47)
    have shs : ∀ n ∈ shN ps cs, Sh 12 n := fun n hn => (cp.nm (shN_mem.mp hn).2).1
    have als : ∀ n ∈ alN ps cs, Sh 12 n := fun n hn => by
      unfold alN at hn
      obtain ⟨p, hp, rfl⟩ := List.mem_map.mp hn
      exact (cq.ok p (List.mem_filter.mp hp).1).1
    clear z4 c4 T4 S04 zC4 wc4 ed s5 s6 s7 s46 s47 eD eD2 eD6
    refine ⟨fun σ H' => M (some (.ref d)) (some (.ref D)) (some (.ref D2)) (some (.ref p3)) σ ∧ H' = H7 ∧ shN ps cs = alN ps cs ∧ shN ps cs ≠ [] ∧ (shN ps cs).length ≤ 3 ∧ ps.length + (moC ps cs).length ≤ 8 ∧ bd * b ≤ 1000, ?_, ?_⟩
    · have out := kn H7 T7 S07
      refine ⟨_, rfl, _, rfl, _, _, .lst (SqL.of eD7) (dp_strs _), .lst (SqL.of eD27) (dp_strs _), shp_strs shs, shp_strs als, _, rfl, ?_⟩
      rw [show PyData.eqv (.list ((shN ps cs).map PyData.str)) (.list ((alN ps cs).map PyData.str)) = decide (shN ps cs = alN ps cs) by rw [PyData.eqv, eqv_strs]]
      by_cases e1 : shN ps cs = alN ps cs
      · rw [decide_eq_true e1]
        refine iteF ⟨_, rfl, _, .inl ⟨_, SqL.of eD7, rfl⟩, ?_⟩
        by_cases e2 : shN ps cs = []
        · rw [e2]
          exact iteT (iteT out)
        · show if (!(!(vS (shN ps cs)).isEmpty)) = true then _ else _
          rw [show (!(!(vS (shN ps cs)).isEmpty)) = false by
            cases h : shN ps cs with
            | nil => exact absurd h e2
            | cons a b => rfl]
          refine iteF ⟨_, rfl, D, _, rfl, .inl (SqL.of eD7), _, _, rfl, rfl, _, rfl, ite2 (fun _ => iteT out) (fun e3 => ?_)⟩
          have e3 : ¬ (3 : Int) < ((vS (shN ps cs)).length : Int) := fun h => e3 (decide_eq_true h)
          rw [List.length_map] at e3
          refine ⟨_, rfl, L, _, rfl, .inr z7.sq, _, rfl, p3, _, rfl, .inr (SqT.of ep3), _, _, rfl, rfl, _, _, rfl, rfl, _, rfl, ite2 (fun _ => iteT out) (fun e4 => ?_)⟩
          have e4 : ¬ (8 : Int) < (xs.length : Int) + (ms.length : Int) := fun h => e4 (decide_eq_true h)
          refine ⟨_, rfl, _, rfl, _, _, rfl, rfl, .inl ⟨by omega, by omega⟩, _, _, rfl, rfl, _, rfl, ite2 (fun _ => out) (fun e5 => ?_)⟩
          have e5 : ¬ (1000 : Int) < (bd : Int) * (b : Int) := fun h => e5 (decide_eq_true h)
          rw [← Int.natCast_mul] at e5
          exact ⟨rfl, rfl, e1, e2, by omega, by omega, by omega⟩
      · rw [decide_eq_false e1]
        exact iteT (iteT out)
    rintro σ H ⟨rfl, rfl, e1, e2, e3, e4, e5⟩
    have n3 : p3 ≠ t := T7.tape.neT ep3
    have nD : D ≠ t := ne_tape T7.tape eD7
    refine ⟨fun σ H' => ∃ (E : Addr) (ks : List Str), M (some (.ref d)) (some (.ref E)) (some (.ref D2)) (some (.ref p3)) σ ∧ H' E = some (.lst (vS ks)) ∧ ks.Nodup ∧ ks.length = (shN ps cs).length ∧ (∀ k, k ∈ ks ↔ k ∈ shN ps cs) ∧ TapeL c H' t ∧ SameB t H H', ?_, ?_⟩
    · refine ⟨_, rfl, t, c, _, rfl, T7, by decide, big1000 (by decide) (by decide), fun u H8 _ _ T8 S8 => ⟨rfl, _, rfl, ite2 (fun _ => ?_) (fun _ => ?_)⟩⟩
      · refine ⟨_, rfl, D, _, rfl, SqL.of (S8 _ _ nD eD7), fun E hE => ?_⟩
        have zE := Same.upd (o := .lst (vS (shN ps cs)).reverse) hE
        exact ⟨E, (shN ps cs).reverse, rfl, by rw [upd_same]; unfold vS; rw [List.map_reverse], (List.reverse_perm _).nodup_iff.mpr (shN_nd cq.nd), List.length_reverse, fun k => List.mem_reverse, T8.same zE, S8.trans (Same.b t zE)⟩
      · exact ⟨D, shN ps cs, rfl, S8 _ _ nD eD7, shN_nd cq.nd, rfl, fun k => Iff.rfl, T8, S8⟩
    rintro σ H8 ⟨E, ks, rfl, eE, kd, kl, km, T8, S8⟩
    have z8 := z7.b T7.tape S8
    have c8' := c7.b T7.tape S8
    have m8 := m7.b T7.tape S8
    have ep8 := S8 _ _ n3 ep3
    have S08 := S07.trans S8
    have lnz : 1 ≤ ks.length := by
      rw [kl]
      exact List.length_pos_iff.mpr e2
    have ld : Lead (ldO os) ps (.join x ks) (ps ++ moC ps cs) := .join mld kd lnz (by omega) (fun k => (km k).trans shN_mem) (fun k hk => shN_kind cq.nd e1 ((km k).mp hk)) e4
    refine ⟨_, rfl, _, rfl, E, _, rfl, .inl ⟨SqL.of eE, fun p4 hp4 => ⟨three, fun q hq => ?_⟩⟩⟩
    have z4 := Same.upd (o := .tup (vS ks)) hp4
    have zq := Same.upd (o := .tup [.str "join", .str x, .ref p4]) hq
    have z4q := z4.trans zq
    have dv : DhT t (upd (upd H8 p4 (.tup (vS ks))) q (.tup [.str "join", .str x, .ref p4])) (.ref q) (Ps.d (.join x ks)) := dh_tupT (T8.same z4).tape (.cons (.str _) (.cons (.str _) (.cons (dh_tupT (vs := vS ks) T8.tape (strsA ks) hp4) .nil))) hq
    have z9 := z8.same z4q
    have c9 := c8'.t (SameT.of z4q)
    have m9 := m8.t (SameT.of z4q)
    have ep9 := z4q _ _ ep8
    have T9 := T8.same z4q
    have S9 := S08.trans (Same.b t z4q)
    generalize upd (upd H8 p4 (.tup (vS ks))) q (.tup [.str "join", .str x, .ref p4]) = H9 at dv z9 c9 m9 ep9 T9 S9 ⊢
    have fin : ∀ {H' : Hp} {C' : Addr}, Same H9 H' → CA H' C' (ps ++ moC ps cs) → ∀ r, H' r = none → Q (.ref r) (upd H' r (.tup [.ref q, .ref C', .int ((bd : Int) * (b : Int))])) := fun {H' C'} s ca r hr => by
      have zr := Same.upd (o := .tup [.ref q, .ref C', .int ((bd : Int) * (b : Int))]) hr
      have sr := s.trans zr
      exact k r (.ref q) C' (bd * b) (.join x ks) _ _ (by rw [upd_same, Int.natCast_mul]) (dts dv sr) (ca.same zr) ld e5 (T9.same sr) (S9.trans (Same.b t sr))
    have xne : xs ≠ [] := fun z => by rw [z] at lx; change 0 = _ at lx; omega
    have mt_ : ∀ {H' : Hp} {C' : Addr}, Same H9 H' → CA H' C' (ps ++ moC ps cs) → ∀ r, H' r = none → Q (.ref r) (upd H' r (.tup [.ref q, .ref C', .int ((bd : Int) * (b : Int))])) := fin
    refine ⟨_, rfl, _, rfl, L, p3, xs, ms, rfl, rfl, z9.sq, SqT.of ep9, xne, Nat.le_trans (show _ ≤ 8 by omega) (by decide), fun z => ?_, fun _ r ob hr d1 d2 => ?_⟩
    · subst z
      have : moC ps cs = [] := List.length_eq_zero_iff.mp (by rw [← lms]; rfl)
      refine ⟨_, rfl, _, rfl, _, _, rfl, rfl, .inl ⟨by omega, by omega⟩, three, fun r hr => fin (Same.refl _) ?_ r hr⟩
      rw [this, List.append_nil]
      exact ⟨xs, z9, c9⟩
    · have zr := Same.upd (o := .frz ob (.tup (xs ++ ms))) hr
      exact ⟨_, rfl, _, rfl, _, _, rfl, rfl, .inl ⟨by omega, by omega⟩, three, fun s hs => fin zr ⟨xs ++ ms, ⟨ob, d1, d2, upd_same⟩, (c9.app m9).t (SameT.of zr)⟩ s hs⟩
end
end
end K13
set_option Elab.async false
set_option linter.all false
set_option maxRecDepth 100000
set_option maxHeartbeats 4000000
namespace K13
open PySem PySem.Spec PyProof.Rows L2 Lc
mutual
def dpt : PyData → Nat
  | .tuple ds => dpw ds
  | _ => 0
def dpw : List PyData → Nat
  | .str w :: r => if w = ("column" : Str) ∨ w = ("value" : Str) then 1 else 1 + dpts r
  | _ => 0
def dpts : List PyData → Nat
  | [] => 0
  | d :: r => max (dpt d) (dpts r)
end
theorem dpt_leaf {w : Str} {r : List PyData} (h : w = "column" ∨ w = "value") : dpt (.tuple (.str w :: r)) = 1 := by rw [dpt, dpw, if_pos h]
theorem dpt_op {w : Str} {r : List PyData} (h : ¬ (w = "column" ∨ w = "value")) : dpt (.tuple (.str w :: r)) = 1 + dpts r := by rw [dpt, dpw, if_neg h]
theorem dpts_max : ∀ {ds : List PyData} {m : Nat}, 0 < ds.length → (∃ d ∈ ds, dpt d = m) → (∀ d ∈ ds, dpt d ≤ m) → dpts ds = m
  | [], _, h, _, _ => absurd h (by decide)
  | [d], m, _, ⟨x, hx, e⟩, _ => by
    rw [List.mem_singleton.mp hx] at e
    rw [dpts, dpts, e]
    omega
  | d :: a :: r, m, _, ⟨x, hx, e⟩, hm => by
    have up : dpts (a :: r) ≤ m := by
      have key : ∀ l : List PyData, (∀ d ∈ l, dpt d ≤ m) → dpts l ≤ m := fun l => by
        induction l with
        | nil => intro _; rw [dpts]; omega
        | cons y l ih => intro h; rw [dpts]; have := h y List.mem_cons_self; have := ih (fun d hd => h d (List.mem_cons_of_mem _ hd)); omega
      exact key _ fun d hd => hm d (List.mem_cons_of_mem _ hd)
    have d0 := hm d List.mem_cons_self
    rw [dpts]
    rcases List.mem_cons.mp hx with rfl | hx
    · omega
    · have low : ∀ l : List PyData, x ∈ l → dpt x ≤ dpts l := fun l => by
        induction l with
        | nil => intro h; cases h
        | cons y l ih =>
          intro h
          rw [dpts]
          rcases List.mem_cons.mp h with rfl | h
          · omega
          · have := ih h; omega
      have := low _ hx
      omega
theorem w_leaf {w : Str} (h : w = "not" ∨ w = "missing" ∨ w = "plus" ∨ w = "minus" ∨ w = "times" ∨ w = "over" ∨ w = "less" ∨ w = "same" ∨ w = "both" ∨ w = "either" ∨ w = "if") : ¬ (w = "column" ∨ w = "value") := by
  rcases h with rfl | rfl | rfl | rfl | rfl | rfl | rfl | rfl | rfl | rfl | rfl <;> decide +kernel
theorem OneW.no {w k r : Str} (h : OneW w k r) : ¬ (w = "column" ∨ w = "value") := by
  rcases h with ⟨rfl, _⟩ | ⟨rfl, _⟩ <;> decide +kernel
theorem TwoW.no {w k r : Str} (h : TwoW w k r) : ¬ (w = "column" ∨ w = "value") := by
  rcases h with ⟨rfl | rfl | rfl | rfl, _⟩ | ⟨rfl, _⟩ | ⟨rfl, _⟩ | ⟨rfl | rfl, _⟩ <;> decide +kernel
/-- an expression: a leaf, or a word and its operands -/
theorem Xp.ops {ps : List (Str × Str)} {n : Nat} {k : Str} {d : PyData} (h : Xp ps (n + 1) k d) : (∃ (w : Str) (x : PyData), (w = "column" ∨ w = "value") ∧ d = .tuple [.str w, x]) ∨ ∃ (w : Str) (os : List PyData), ¬ (w = ("column" : Str) ∨ w = ("value" : Str)) ∧ d = .tuple (.str w :: os) ∧ 0 < os.length ∧ os.length ≤ 3 ∧ ∀ o ∈ os, ∃ k', Xp ps n k' o := by
  cases h with
  | col h => exact .inl ⟨_, _, .inl rfl, rfl⟩
  | val h _ => exact .inl ⟨_, _, .inr rfl, rfl⟩
  | one hw ha => exact .inr ⟨_, _, hw.no, rfl, by simp, by simp, fun o ho => by rw [List.mem_singleton.mp ho]; exact ⟨_, ha⟩⟩
  | two hw ha hb => exact .inr ⟨_, _, hw.no, rfl, by simp, by simp, fun o ho => by simp only [List.mem_cons, List.not_mem_nil, or_false] at ho; rcases ho with rfl | rfl; exact ⟨_, ha⟩; exact ⟨_, hb⟩⟩
  | iff ha hb hc => exact .inr ⟨_, _, by decide +kernel, rfl, by simp, by simp, fun o ho => by simp only [List.mem_cons, List.not_mem_nil, or_false] at ho; rcases ho with rfl | rfl | rfl; exact ⟨_, ha⟩; exact ⟨_, hb⟩; exact ⟨_, hc⟩⟩
theorem Xp.zero {ps : List (Str × Str)} {k : Str} {d : PyData} (h : Xp ps 0 k d) : False := nomatch h
theorem cut_tail {x : V} {ys : List V} : cutV (x :: ys) (some 1) none = ys := by
  unfold cutV
  simp [HT.sIx]
theorem tail_not {x : V} {ys : List V} : ¬ (HT.sIx (x :: ys).length 0 (some 1) = 0 ∧ HT.sIx (x :: ys).length (x :: ys).length none = (x :: ys).length) := by
  rintro ⟨z, _⟩
  have : HT.sIx (x :: ys).length 0 (some ((1 : Nat) : Int)) = min 1 (x :: ys).length := HT.sIx_nat _ _ _
  have z' : HT.sIx (x :: ys).length 0 (some ((1 : Nat) : Int)) = 0 := z
  rw [List.length_cons] at *
  omega
theorem at_zero {x : V} {ys : List V} : atI (x :: ys) (0 : Int) = some x := (show atI (x :: ys) ((0 : Nat) : Int) = some x from atI_nat rfl)
end K13
set_option Elab.async false
set_option linter.all false
set_option maxRecDepth 100000
set_option maxHeartbeats 4000000
namespace K13
open PySem PySem.Spec PyProof.Rows L2 Lc
abbrev sWithin : Stmt := top 16
abbrev sValue : Stmt := top 17
def isB : V → Bool
  | .bl _ => true
  | _ => false
def valB (kind : Str) (v : V) (b : Bool) : Bool := decide (v = .non) || (if kind = "number" then b else if kind = "word" then nameB v else isB v)
def spWithin : Sp := fun vs H Q _ => ∃ (a : Addr) (n d : Int), vs = [.ref a] ∧ H a = some (.tup [.int n, .int d]) ∧ Q (.bl (limB (.int n) (.int d))) H
def spValue : Sp := fun vs H Q _ => ∃ (v : V) (kind : Str) (b : Bool), vs = [v, .str kind] ∧ Thing H v b ∧ ∀ H', Same H H' → Q (.bl (valB kind v b)) H'
section
variable {P : Program} {w : World} {K : PySem.W.Frag} {mg : Str → Option Value} {base : Heap} {f : Addr} {fd : FuncData} {u1 : Tok} {fR fW fN fD fL fA fQ fX fY : Addr} {fdR fdW fdN fdD fdL fdA fdQ fdX fdY : FuncData}
theorem scWithin : FnScope ["number"] ["number"] (defScope sWithin) := ⟨rfl, rfl, rfl, by decide +kernel, rfl, by decide +kernel, by decide +kernel⟩
theorem ok_within (F : Fun K "within_limit" "within_limit" sWithin f fd) (T : Bt mg) (m1 : mg "LIMIT" = some (.int lim u1)) : FnOk P w K mg base CX0 1 f fd ["number"] spWithin := by
  refine F.ok scWithin (fun vs H Q E h => ?_) (fun cdv A outer s H vs Q E hr h => ?_)
  · obtain ⟨a, n, d, rfl, _⟩ := h
    rfl
  · obtain ⟨a, n, d, rfl, ha, k⟩ := h
    refine ⟨_, pss_one (ps_ret (pe_and (pe_cmpR op_le (pe_callB call_abs (by rfl) T.abs boot_abs (pa_cons (pe_ix ix_tup (pv 0) pe_int (fun _ _ => rfl)) pa_nil)) (pe_glob (v := .int lim) (by rfl) m1 ⟨_, rfl⟩) (nomark _))
      (pe_one (pe_cmpR op_le (pe_ix ix_tup (pv 0) pe_int (fun _ _ => rfl)) (pe_glob (v := .int lim) (by rfl) m1 ⟨_, rfl⟩) (nomark _))))), ?_⟩
    refine ⟨_, rfl, a, _, _, _, rfl, rfl, SqT.of ha, rfl, n, rfl, _, _, rfl, rfl, _, rfl, ?_⟩
    have e : limB (.int n) (.int d) = (decide ((if n < 0 then -n else n) ≤ lim) && decide (d ≤ lim)) := rfl
    rw [e] at k
    by_cases z : (if n < 0 then -n else n) ≤ lim
    · rw [decide_eq_true z] at k ⊢
      exact iteT ⟨_, rfl, a, _, _, _, rfl, rfl, SqT.of ha, rfl, _, _, rfl, rfl, k⟩
    · rw [decide_eq_false z] at k ⊢
      exact iteF k
theorem scValue : FnScope ["value", "kind"] ["value", "kind"] (defScope sValue) := ⟨rfl, rfl, rfl, by decide +kernel, rfl, by decide +kernel, by decide +kernel⟩
theorem dec_str (x y : Str) : decide (V.str x = V.str y) = decide (x = y) := by
  rw [Bool.eq_iff_iff, decide_eq_true_iff, decide_eq_true_iff]
  exact ⟨fun h => by injection h, fun h => by rw [h]⟩
theorem ok_value (F : Fun K "is_value" "is_value" sValue f fd) (GR : FnOk P w K mg base CX0 2 fR fdR ["value"] spIsR) (mR : mg "is_rational" = some (.ref fR)) (kR : PySem.W.keepIn K (.ref fR) = true) (bR : Binds K fdR ["value"] [])
    (GW : FnOk P w K mg base CX0 1 fW fdW ["number"] spWithin) (mW : mg "within_limit" = some (.ref fW)) (kW : PySem.W.keepIn K (.ref fW) = true) (bW : Binds K fdW ["number"] [])
    (GN : FnOk P w K mg base CX0 1 fN fdN ["value"] spName) (mN : mg "is_name" = some (.ref fN)) (kN : PySem.W.keepIn K (.ref fN) = true) (bN : Binds K fdN ["value"] []) : FnOk P w K mg base CX0 3 f fd ["value", "kind"] spValue := by
  refine F.ok scValue (fun vs H Q E h => ?_) (fun cdv A outer s H vs Q E hr h => ?_)
  · obtain ⟨v, kd, b, rfl, _⟩ := h
    rfl
  · obtain ⟨v, kd, b, rfl, th, k⟩ := h
    have hr1 : Room 1 _ := hr.mono (by decide)
    refine ⟨_, pss_cons (ps_if (pt_cmpR op_isN (pv 0) pe_non (nomark _)) (pss_one (ps_ret pe_bl)) pss_nil)
      (pss_cons (ps_if (pt_cmpR op_eq (pv 1) pe_str (nomark _)) (pss_one (ps_ret (pe_and (pe_call GR hr (by rfl) mR kR bR .nil pass0 (pa_cons (pv 0) pa_nil)) (pe_one (pe_call GW hr1 (by rfl) mW kW bW .nil pass0 (pa_cons (pv 0) pa_nil)))))) pss_nil)
      (pss_cons (ps_if (pt_cmpR op_eq (pv 1) pe_str (nomark _)) (pss_one (ps_ret (pe_call GN hr1 (by rfl) mN kN bN .nil pass0 (pa_cons (pv 0) pa_nil)))) pss_nil)
      (pss_one (ps_ret (pe_or (pe_cmpR op_isBA (pv 0) pe_bl (nomark _)) (pe_one (pe_cmpR op_isBA (pv 0) pe_bl (nomark _)))))))), ?_⟩
    refine ⟨_, rfl, rfl, _, rfl, ?_⟩
    have k0 := k H (Same.refl H)
    by_cases z : v = .non
    · rw [decide_eq_true z]
      have e : valB kd v b = true := by unfold valB; rw [decide_eq_true z]; rfl
      rw [e] at k0
      exact iteT k0
    · rw [decide_eq_false z]
      have e : valB kd v b = (if kd = "number" then b else if kd = "word" then nameB v else isB v) := by unfold valB; rw [decide_eq_false z]; rfl
      rw [e] at k0 k
      refine iteF ⟨_, rfl, rfl, _, rfl, ?_⟩
      rw [dec_str]
      by_cases n1 : kd = "number"
      · rw [decide_eq_true n1]
        rw [if_pos n1] at k0
        refine iteT ?_
        cases th with
        | other h n l => exact ⟨_, rfl, v, false, rfl, .other h n, _, rfl, iteF k0⟩
        | @len a xs ea n => exact ⟨_, rfl, _, false, rfl, .len ea n, _, rfl, iteF k0⟩
        | @pair a x y tx ty ea hx hy =>
          refine ⟨_, rfl, _, _, rfl, .pair ea hx hy, _, rfl, ?_⟩
          refine ite2 (fun r => ?_) (fun r => ?_)
          · obtain ⟨n, d, rfl, rfl, _, _⟩ := ratB_ints r
            have e2 : numB (.int n) (.int d) = limB (.int n) (.int d) := by unfold numB; rw [r]; rfl
            rw [e2] at k0
            exact ⟨_, rfl, a, n, d, rfl, ea, k0⟩
          · have e2 : numB x y = false := by unfold numB; rw [show ratB x y = false by simpa using r]; rfl
            rw [e2] at k0
            exact k0
      · rw [decide_eq_false n1]
        rw [if_neg n1] at k0 k
        refine iteF ⟨_, rfl, rfl, _, rfl, ?_⟩
        rw [dec_str]
        obtain ⟨t, ht, hl⟩ := th.ty
        by_cases n2 : kd = "word"
        · rw [decide_eq_true n2]
          rw [if_pos n2] at k
          exact iteT ⟨_, rfl, v, t, rfl, ht, hl, k⟩
        · rw [decide_eq_false n2]
          rw [if_neg n2] at k0
          refine iteF ⟨_, rfl, true, rfl, _, rfl, ?_⟩
          by_cases z1 : v = .bl true
          · rw [decide_eq_true z1]
            rw [z1] at k0
            exact iteT k0
          · rw [decide_eq_false z1]
            refine iteF ⟨_, rfl, false, rfl, ?_⟩
            have e3 : decide (v = .bl false) = isB v := by
              cases v with
              | bl b =>
                cases b with
                | true => exact absurd rfl z1
                | false => rfl
              | _ => rfl
            rw [e3]
            exact k0
end
abbrev sHw : Stmt := top 26
abbrev sLk : Stmt := top 27
abbrev sKv : Stmt := top 28
abbrev sRk : Stmt := top 30
/-- which kinds a value fits: its own alone -/
theorem vk_fits {H : Hp} {k : Str} {v : V} {d : PyData} (h : Dh H v d) (g : Vk k d) (nn : d ≠ .none) : ∃ b, Thing H v b ∧ ∀ k', KindS k' → valB k' v b = decide (k' = k) := by
  have nw : ("word" : Str) ≠ "number" := by decide +kernel
  have fn : ("flag" : Str) ≠ "number" := by decide +kernel
  have fw : ("flag" : Str) ≠ "word" := by decide +kernel
  cases g with
  | non k => exact absurd rfl nn
  | flag b =>
    cases h
    refine ⟨false, .other (.bl b) (by decide) nofun, fun k' hk => ?_⟩
    rcases hk with rfl | rfl | rfl
    · simp [valB, Ne.symm fn]
    · simp [valB, nw, nameB, Ne.symm fw]
    · simp [valB, fn, fw, isB]
  | @word x hx hn =>
    cases h
    refine ⟨false, .other (.str x) (by decide) fun y e => ?_, fun k' hk => ?_⟩
    · injection e with e
      rw [← e]
      exact Nat.le_trans (sh_len hx) (by decide)
    · rcases hk with rfl | rfl | rfl
      · simp [valB, Ne.symm nw]
      · simp [valB, nw, hn]
      · simp [valB, fn, fw, isB]
  | @num n d rt h1 h2 =>
    cases h with
    | tup e hs =>
      cases hs with
      | cons a r =>
        cases r with
        | cons b r =>
          cases r
          cases a
          cases b
          refine ⟨_, .pair e (.int n) (.int d), fun k' hk => ?_⟩
          have e1 : ratB (.int n) (.int d) = true := by
            show (decide (0 < d) && decide (gd n d = 1)) = true
            rw [decide_eq_true rt.pos, decide_eq_true rt.cop]
            rfl
          have e2 : limB (.int n) (.int d) = true := by
            show (decide ((if n < 0 then -n else n) ≤ lim) && decide (d ≤ lim)) = true
            rw [decide_eq_true (by unfold lim; split <;> omega), decide_eq_true (by unfold lim; omega)]
            rfl
          rcases hk with rfl | rfl | rfl
          · unfold valB numB
            rw [if_pos rfl, e1, e2]
            simp
          · simp [valB, nw, nameB]
          · simp [valB, fn, fw, isB]
def spHw : Sp := fun vs H Q _ => ∃ (a : Addr) (w : Str) (ys : List V), vs = [.ref a] ∧ H a = some (.tup (.str w :: ys)) ∧ Q (.bl true) H
def spKv : Sp := fun vs H Q _ => ∃ (v : V) (d : PyData) (k : Str), vs = [v] ∧ Dh H v d ∧ Vk k d ∧ KindS k ∧ d ≠ .none ∧ ∀ H', Same H H' → Q (.str k) H'
abbrev ttKv : TT := tTest (tCall spValue [] E0 (tCons (tVar 0) (tCons (tVar 2) tNil)))
section
variable {P : Program} {w : World} {K : PySem.W.Frag} {mg : Str → Option Value} {base : Heap} {f fV k3 : Addr} {fd fdV : FuncData}
theorem scHw : FnScope ["part"] ["part"] (defScope sHw) := ⟨rfl, rfl, rfl, by decide +kernel, rfl, by decide +kernel, by decide +kernel⟩
theorem ok_hw (F : Fun K "has_word" "has_word" sHw f fd) (T : Bt mg) : FnOk P w K mg base CX0 1 f fd ["part"] spHw := by
  refine F.ok scHw (fun vs H Q E h => ?_) (fun cdv A outer s H vs Q E hr h => ?_)
  · obtain ⟨a, w, ys, rfl, _⟩ := h
    rfl
  · obtain ⟨a, w, ys, rfl, ha, k⟩ := h
    refine ⟨_, pss_one (ps_ret (pe_and (pe_callB call_isi (by rfl) T.isi boot_isinstance (pa_cons (pv 0) (pa_cons (pe_bltn (v := .ty "tuple") (by rfl) T.tuple boot_tuple rfl) pa_nil)))
      (pe_and (pe_cmpR op_gt (pe_callB call_len_seq (by rfl) T.len PySem.boot_len (pa_cons (pv 0) pa_nil)) pe_int (nomark _))
      (pe_one (pe_callB call_isi (by rfl) T.isi boot_isinstance (pa_cons (pe_ix ix_tup (pv 0) pe_int (fun _ _ => rfl)) (pa_cons (pe_bltn (v := .ty "str") (by rfl) T.str boot_str rfl) pa_nil))))))), ?_⟩
    have ty : TyN H (.ref a) "tuple" := .tup ha
    have ts : TyN H (.str w) "str" := .str w
    refine ⟨_, rfl, .ref a, .ty "tuple", _, _, _, rfl, .ty "tuple", ty.x, kit_tuple ty.mem, _, rfl, iteT ?_⟩
    refine ⟨_, rfl, a, _, rfl, .inr (SqT.of ha), _, _, rfl, rfl, _, rfl, ?_⟩
    rw [decide_eq_true (by rw [List.length_cons]; omega)]
    refine iteT ⟨_, rfl, a, _, _, .str w, rfl, rfl, SqT.of ha, at_zero, .str w, .ty "str", _, _, _, rfl, .ty "str", ts.x, kit_str ts.mem, k⟩
abbrev nKv : List Str := ["value", "fitting", "kind"]
theorem scKv : FnScope nKv ["value"] (defScope sKv) := ⟨rfl, rfl, rfl, by decide +kernel, rfl, by decide +kernel, by decide +kernel⟩
theorem ok_kv (F : Fun K "kind_of_value" "kind_of_value" sKv f fd) (T : Bt mg) (GV : FnOk P w K mg base CX0 3 fV fdV ["value", "kind"] spValue) (mV : mg "is_value" = some (.ref fV)) (kV : PySem.W.keepIn K (.ref fV) = true) (bV : Binds K fdV ["value", "kind"] [])
    (mK : mg "KINDS" = some (.ref k3)) (hK : ∀ H, SqT K H k3 [.str "number", .str "word", .str "flag"]) : FnOk P w K mg base CX0 4 f fd ["value"] spKv := by
  refine F.ok scKv (fun vs H Q E h => ?_) (fun cdv A outer s H vs Q E hr h => ?_)
  · obtain ⟨v, d, k, rfl, _⟩ := h
    rfl
  · obtain ⟨v, d, kd, rfl, hd, vk, hk, nn, k⟩ := h
    refine ⟨_, pss_cons (ps_if (pt_cmpR op_isN (pv 0) pe_non (nomark _)) (pss_one (ps_ret pe_non)) pss_nil)
      (pss_cons (ps_setLc (i := 1) (own := [("kind", 2)]) (g := gName 2) (tt := ttKv) (te := tVar 2) (by rfl) scKv.nd rfl rfl (sw_true rfl rfl rfl (by decide +kernel)) (pi_tup (pe_glob (v := .ref k3) (by rfl) mK rfl)) (blkOk_by (own := [("kind", 2)]) (N := nKv) (sc := defScope sKv) (by decide +kernel))
          (fun _ _ _ _ _ => pg_name (i := 2) scKv.nd rfl (.inl rfl)) (fun _ _ _ _ _ => pts_one (pt_val (pe_call GV hr (by rfl) mV kV bV .nil pass0 (pa_cons (pv 0) (pa_cons (pv 2) pa_nil))))) (fun _ _ _ _ _ => pv 2))
      (pss_one (ps_ret (pe_ifExp (pt_cmpR op_gt (pe_callB call_len_seq (by rfl) T.len PySem.boot_len (pa_cons (pv 1) pa_nil)) pe_int (nomark _)) (pe_ix ix_list (pv 1) pe_int (fun _ _ => rfl)) pe_non)))), ?_⟩
    have vn : decide (v = .non) = false := decide_eq_false fun e => by subst e; cases hd; exact nn rfl
    refine ⟨_, rfl, rfl, _, rfl, ?_⟩
    rw [vn]
    refine iteF ?_
    obtain ⟨b, th, fit⟩ := vk_fits hd vk nn
    let ks : List Str := ["number", "word", "flag"]
    have kS : ∀ x ∈ ks, KindS x := fun x hx => by
      simp only [ks, List.mem_cons, List.not_mem_nil, or_false] at hx
      exact hx
    have kin : kd ∈ ks := by
      simp only [ks, List.mem_cons, List.not_mem_nil, or_false]
      exact hk
    refine ⟨k3, rfl, ⟨_, hK H⟩, fun D hD => lc_tup (K := K) (a := k3) (xs := ks.map V.str) (fun i H' => H' D = some (.lst (((ks.take i).filter (fun x => decide (x = kd))).map V.str)) ∧ Same H H') ⟨upd_same, Same.upd hD⟩ (fun i H' _ p => hK H') ?_ ?_⟩
    · rintro i x H1 hx ⟨hD1, s1⟩
      rw [List.getElem?_map] at hx
      cases q : ks[i]? with
      | none => rw [q] at hx; cases hx
      | some kk =>
        rw [q] at hx
        cases hx
        have km := kS kk (List.mem_of_getElem? q)
        refine ⟨rfl, ?_⟩
        change ttKv _ _ _
        refine ⟨_, rfl, _, rfl, v, kk, b, rfl, th.same s1, fun H2 s2 => ⟨_, rfl, ?_⟩⟩
        rw [fit kk km]
        have ln : ((ks.take i).filter (fun x => decide (x = kd))).length ≤ 3 := Nat.le_trans (List.length_filter_le _ _) (by rw [List.length_take]; exact Nat.min_le_right _ _)
        refine ite2 (fun z => ?_) (fun z => ?_)
        · refine ⟨_, rfl, _, s2 _ _ hD1, ?_, ?_, fun b o e => by rw [upd_ne (ne_of_none e hD)]; exact s2 b o (s1 b o e)⟩
          · rw [List.length_map]
            exact Nat.lt_of_le_of_lt ln (by decide)
          · rw [upd_same, List.take_add_one, q]
            simp only [Option.toList, List.filter_append, List.map_append]
            rw [List.filter_cons, if_pos z]
            rfl
        · refine ⟨?_, s1.trans s2⟩
          rw [s2 _ _ hD1, List.take_add_one, q]
          simp only [Option.toList, List.filter_append]
          rw [List.filter_cons, if_neg z, List.filter_nil, List.append_nil]
    · rintro H1 ⟨hD1, s1⟩
      rw [List.length_map, List.take_length] at hD1
      have e1 : ks.filter (fun x => decide (x = kd)) = [kd] := by
        simp only [ks, List.mem_cons, List.not_mem_nil, or_false] at kin
        rcases kin with rfl | rfl | rfl <;> decide +kernel
      rw [e1] at hD1
      refine ⟨_, rfl, D, _, rfl, .inl (SqL.of hD1), _, _, rfl, rfl, _, rfl, iteT ⟨_, rfl, D, _, _, .str kd, rfl, rfl, SqL.of hD1, at_zero, k H1 s1⟩⟩
end
end K13
set_option Elab.async false
set_option linter.all false
set_option maxRecDepth 100000
set_option maxHeartbeats 4000000
namespace K13
open PySem PySem.Spec PyProof.Rows L2 Lc
/-- what the dict of kinds holds -/
def KdP (kvs : List (Key × V)) (ps : List (Str × Str)) : Prop := ∀ z k, (z, k) ∈ ps → valV kvs (Sum.inr z : Key) = some (.str k)
def LeafD (ps : List (Str × Str)) (w : Str) (dx : PyData) (k : Str) : Prop := (w = "column" ∧ ∃ z, dx = .str z ∧ (z, k) ∈ ps) ∨ (w = "value" ∧ Vk k dx ∧ dx ≠ .none ∧ KindS k)
def spLk : Sp := fun vs H Q _ => ∃ (g a : Addr) (kvs : List (Key × V)) (ps : List (Str × Str)) (w : Str) (x : V) (dx : PyData) (k : Str), vs = [.ref g, .ref a] ∧ H g = some (.dK kvs) ∧ KdP kvs ps ∧ H a = some (.tup [.str w, x]) ∧ Dh H x dx ∧ LeafD ps w dx k ∧ ∀ H', Same H H' → Q (.str k) H'
section
variable {P : Program} {w : World} {K : PySem.W.Frag} {mg : Str → Option Value} {base : Heap} {f fV aA : Addr} {fd fdV : FuncData}
abbrev nLk : List Str := ["kinds", "part", "word", "held"]
theorem scLk : FnScope nLk ["kinds", "part"] (defScope sLk) := ⟨rfl, rfl, rfl, by decide +kernel, rfl, by decide +kernel, by decide +kernel⟩
theorem ok_lk (F : Fun K "leaf_kind" "leaf_kind" sLk f fd) (T : Bt mg) (GV : FnOk P w K mg base CX0 4 fV fdV ["value"] spKv) (mV : mg "kind_of_value" = some (.ref fV)) (kV : PySem.W.keepIn K (.ref fV) = true) (bV : Binds K fdV ["value"] []) : FnOk P w K mg base CX0 5 f fd ["kinds", "part"] spLk := by
  refine F.ok scLk (fun vs H Q E h => ?_) (fun cdv A outer s H vs Q E hr h => ?_)
  · obtain ⟨g, a, kvs, ps, wd, x, dx, k, rfl, _⟩ := h
    rfl
  · obtain ⟨g, a, kvs, ps, wd, x, dx, kd, rfl, hg, kp, ha, hx, lf, k⟩ := h
    refine ⟨_, pss_cons (ps_if (pt_cmpR op_ne (pe_callB call_len_seq (by rfl) T.len PySem.boot_len (pa_cons (pv 1) pa_nil)) pe_int (nomark _)) (pss_one (ps_ret pe_non)) pss_nil)
      (pss_cons (ps_asg (pv 1) (pg_tup rfl (pgs_cons (pg_name (i := 2) scLk.nd rfl (.inl rfl)) (pgs_cons (pg_name (i := 3) scLk.nd rfl (.inl rfl)) pgs_nil))))
      (pss_cons (ps_if (pt_cmpR op_eq (pv 2) pe_str (nomark _)) (pss_one (ps_ret (pe_ifExp (pt_val (pe_callB call_isi (by rfl) T.isi boot_isinstance (pa_cons (pv 3) (pa_cons (pe_bltn (v := .ty "str") (by rfl) T.str boot_str rfl) pa_nil)))) (pe_dget1 (hu_of hr) (pv 0) (pv 3) ⟨rfl, rfl, rfl, rfl⟩) pe_non))) pss_nil)
      (pss_one (ps_ret (pe_call GV hr (by rfl) mV kV bV .nil pass0 (pa_cons (pv 3) pa_nil)))))), ?_⟩
    refine ⟨_, rfl, a, _, rfl, .inr (SqT.of ha), rfl, _, rfl, iteF ⟨_, rfl, a, _, rfl, SqT.of ha, rfl, _, _, rfl, _, _, rfl, rfl, ?_⟩⟩
    refine ⟨_, rfl, rfl, _, rfl, ?_⟩
    rw [decide_eq_decide.mpr (show V.str wd = V.str "column" ↔ wd = "column" from ⟨fun e => by injection e, fun e => by rw [e]⟩)]
    rcases lf with ⟨rfl, z, rfl, hz⟩ | ⟨rfl, vk, nn, hk⟩
    · rw [decide_eq_true rfl]
      cases hx
      have ts : TyN H (.str z) "str" := .str z
      refine iteT ⟨_, rfl, .str z, .ty "str", _, _, _, rfl, .ty "str", ts.x, kit_str ts.mem, _, rfl, iteT ⟨_, rfl, g, rfl, .inl ⟨_, .inl hg⟩, _, rfl, _, DGet.k (k := Sum.inr z) hg, ?_⟩⟩
      rw [kp z kd hz]
      exact k H (Same.refl H)
    · rw [decide_eq_false (show ("value" : Str) ≠ "column" by decide +kernel)]
      exact iteF ⟨_, rfl, x, dx, kd, rfl, hx, vk, hk, nn, k⟩
end
def resK (w : Str) (ks : List Str) : Str := if w = "if" then ks.getLastD "" else if w = "plus" ∨ w = "minus" ∨ w = "times" ∨ w = "over" then "number" else "flag"
def spRk : Sp := fun vs H Q _ => ∃ (a : Addr) (w k0 : Str) (ks : List Str), vs = [.str w, .ref a] ∧ H a = some (.lst ((ks ++ [k0]).map V.str)) ∧ ∀ H', Same H H' → Q (.str (resK w (ks ++ [k0]))) H'
section
variable {P : Program} {w : World} {K : PySem.W.Frag} {mg : Str → Option Value} {base : Heap} {f aA : Addr} {fd : FuncData}
theorem scRk : FnScope ["word", "found"] ["word", "found"] (defScope sRk) := ⟨rfl, rfl, rfl, by decide +kernel, rfl, by decide +kernel, by decide +kernel⟩
theorem ok_rk (F : Fun K "result_kind" "result_kind" sRk f fd) (mA : mg "ARITHMETIC" = some (.ref aA)) (hA : ∀ H, SqT K H aA [.str "plus", .str "minus", .str "times", .str "over"]) : FnOk P w K mg base CX0 1 f fd ["word", "found"] spRk := by
  refine F.ok scRk (fun vs H Q E h => ?_) (fun cdv A outer s H vs Q E hr h => ?_)
  · obtain ⟨a, wd, k0, ks, rfl, _⟩ := h
    rfl
  · obtain ⟨a, wd, k0, ks, rfl, ha, k⟩ := h
    refine ⟨_, pss_cons (ps_if (pt_cmpR op_eq (pv 0) pe_str (nomark _)) (pss_one (ps_ret (pe_ix ix_list (pv 1) (pe_un un_neg pe_int) (fun _ _ => rfl)))) pss_nil)
      (pss_one (ps_ret (pe_ifExp (pt_cmpR op_in_seq (pv 0) (pe_glob (v := .ref aA) (by rfl) mA rfl) (by rfl)) pe_str pe_str))), ?_⟩
    refine ⟨_, rfl, rfl, _, rfl, ?_⟩
    rw [decide_eq_decide.mpr (show V.str wd = V.str "if" ↔ wd = "if" from ⟨fun e => by injection e, fun e => by rw [e]⟩)]
    have kk := k H (Same.refl H)
    unfold resK at kk
    by_cases w1 : wd = "if"
    · rw [decide_eq_true w1]
      rw [if_pos w1] at kk
      have e : (ks ++ [k0]).getLastD "" = k0 := by simp
      rw [e] at kk
      refine iteT ⟨_, rfl, _, rfl, a, _, _, .str k0, rfl, rfl, SqL.of ha, ?_, kk⟩
      rw [List.map_append]
      exact atI_last _ _
    · rw [decide_eq_false w1]
      rw [if_neg w1] at kk
      refine iteF ⟨_, rfl, aA, _, rfl, .inr (hA H), rfl, rfl, _, rfl, ?_⟩
      rw [show inV (.str wd) [.str "plus", .str "minus", .str "times", .str "over"] = decide (wd ∈ (["plus", "minus", "times", "over"] : List Str)) from in_strs (ss := ["plus", "minus", "times", "over"])]
      by_cases w2 : wd = "plus" ∨ wd = "minus" ∨ wd = "times" ∨ wd = "over"
      · rw [decide_eq_true (by simpa using w2)]
        rw [if_pos w2] at kk
        exact iteT kk
      · rw [decide_eq_false (by simpa using w2)]
        rw [if_neg w2] at kk
        exact iteF kk
end
end K13
set_option Elab.async false
set_option linter.all false
set_option maxRecDepth 100000
set_option maxHeartbeats 4000000
namespace K13
open PySem PySem.Spec PyProof.Rows L2 Lc
abbrev sCk : Stmt := top 29
/-- the operands' kinds that a word wants -/
def opsV (w : Str) : Option (List V) :=
  if w = "plus" ∨ w = "minus" ∨ w = "times" ∨ w = "over" ∨ w = "less" then some [.str "number", .str "number"] else if w = "same" then some [.non, .non] else if w = "both" ∨ w = "either" then some [.str "flag", .str "flag"] else if w = "not" then some [.str "flag"] else if w = "missing" then some [.non] else if w = "if" then some [.str "flag", .non, .non] else none
theorem opsV_all {p : Str → List V → Prop} (h1 : p "plus" [.str "number", .str "number"]) (h2 : p "minus" [.str "number", .str "number"]) (h3 : p "times" [.str "number", .str "number"]) (h4 : p "over" [.str "number", .str "number"]) (h5 : p "less" [.str "number", .str "number"]) (h6 : p "same" [.non, .non]) (h7 : p "both" [.str "flag", .str "flag"]) (h8 : p "either" [.str "flag", .str "flag"]) (h9 : p "not" [.str "flag"]) (h10 : p "missing" [.non]) (h11 : p "if" [.str "flag", .non, .non]) : ∀ x os, opsV x = some os → p x os := by
  intro x os h
  unfold opsV at h
  split at h
  · obtain rfl := Option.some.inj h
    rename_i z
    rcases z with rfl | rfl | rfl | rfl | rfl
    · exact h1
    · exact h2
    · exact h3
    · exact h4
    · exact h5
  split at h
  · obtain rfl := Option.some.inj h
    rename_i z
    subst z
    exact h6
  split at h
  · obtain rfl := Option.some.inj h
    rename_i z
    rcases z with rfl | rfl
    · exact h7
    · exact h8
  split at h
  · obtain rfl := Option.some.inj h
    rename_i z
    subst z
    exact h9
  split at h
  · obtain rfl := Option.some.inj h
    rename_i z
    subst z
    exact h10
  split at h
  · obtain rfl := Option.some.inj h
    rename_i z
    subst z
    exact h11
  cases h
structure OpsA (K : PySem.W.Frag) (w : World) (mg : Str → Option Value) (oA pA : Addr) : Prop where
  g : mg "OPERANDS" = some (.ref oA)
  d : ∃ es n, KDict K w oA es n
  at_ : ∀ x os, opsV x = some os → ∃ a, KDct K w oA x (.ref a) ∧ PySem.W.nsIn K oA x = some (some (.ref a)) ∧ ∀ H, SqT K H a os
  gp : mg "PAIRED" = some (.ref pA)
  ap : ∀ H, SqT K H pA [.str "same", .str "if"]
/-- a word, its operands' kinds, the kind of the whole -/
inductive OpK : Str → List Str → Str → Prop
  | one {w k r : Str} (h : OneW w k r) : OpK w [k] r
  | two {w k r : Str} (h : TwoW w k r) : OpK w [k, k] r
  | iff (k : Str) : OpK "if" ["flag", k, k] k
theorem OpK.ops {w r : Str} {ks : List Str} (h : OpK w ks r) : ∃ os, opsV w = some os ∧ os.length = ks.length ∧ ∀ (i : Nat) (o : V), os[i]? = some o → o = .non ∨ ∃ k, ks[i]? = some k ∧ o = .str k := by
  have fin1 : ∀ {o : V} {k : Str}, (o = .non ∨ o = .str k) → ∀ (i : Nat) (x : V), [o][i]? = some x → x = .non ∨ ∃ k', [k][i]? = some k' ∧ x = .str k' := fun {o k} h i x e => by
    match i, e with
    | 0, e => injection e with e; subst e; rcases h with rfl | rfl; exact .inl rfl; exact .inr ⟨_, rfl, rfl⟩
    | i + 1, e => simp at e
  have fin2 : ∀ {o p : V} {k l : Str}, (o = .non ∨ o = .str k) → (p = .non ∨ p = .str l) → ∀ (i : Nat) (x : V), [o, p][i]? = some x → x = .non ∨ ∃ k', [k, l][i]? = some k' ∧ x = .str k' := fun {o p k l} h g i x e => by
    match i, e with
    | 0, e => injection e with e; subst e; rcases h with rfl | rfl; exact .inl rfl; exact .inr ⟨_, rfl, rfl⟩
    | 1, e => injection e with e; subst e; rcases g with rfl | rfl; exact .inl rfl; exact .inr ⟨_, rfl, rfl⟩
    | i + 2, e => simp at e
  cases h with
  | one h =>
    rcases h with ⟨rfl, rfl, _⟩ | ⟨rfl, _, _⟩
    · exact ⟨[.str "flag"], by decide +kernel, rfl, fin1 (.inr rfl)⟩
    · exact ⟨[.non], by decide +kernel, rfl, fin1 (.inl rfl)⟩
  | two h =>
    rcases h with ⟨rfl | rfl | rfl | rfl, rfl, _⟩ | ⟨rfl, rfl, _⟩ | ⟨rfl, _, _⟩ | ⟨rfl | rfl, rfl, _⟩
    · exact ⟨[.str "number", .str "number"], by decide +kernel, rfl, fin2 (.inr rfl) (.inr rfl)⟩
    · exact ⟨[.str "number", .str "number"], by decide +kernel, rfl, fin2 (.inr rfl) (.inr rfl)⟩
    · exact ⟨[.str "number", .str "number"], by decide +kernel, rfl, fin2 (.inr rfl) (.inr rfl)⟩
    · exact ⟨[.str "number", .str "number"], by decide +kernel, rfl, fin2 (.inr rfl) (.inr rfl)⟩
    · exact ⟨[.str "number", .str "number"], by decide +kernel, rfl, fin2 (.inr rfl) (.inr rfl)⟩
    · exact ⟨[.non, .non], by decide +kernel, rfl, fin2 (.inl rfl) (.inl rfl)⟩
    · exact ⟨[.str "flag", .str "flag"], by decide +kernel, rfl, fin2 (.inr rfl) (.inr rfl)⟩
    · exact ⟨[.str "flag", .str "flag"], by decide +kernel, rfl, fin2 (.inr rfl) (.inr rfl)⟩
  | iff k =>
    refine ⟨[.str "flag", .non, .non], by decide +kernel, rfl, fun i x e => ?_⟩
    match i, e with
    | 0, e => injection e with e; subst e; exact .inr ⟨_, rfl, rfl⟩
    | 1, e => injection e with e; exact .inl e.symm
    | 2, e => injection e with e; exact .inl e.symm
    | i + 3, e => simp at e
theorem OpK.res {w r : Str} {ks : List Str} (h : OpK w ks r) : resK w ks = r := by
  cases h with
  | one h => rcases h with ⟨rfl, rfl, rfl⟩ | ⟨rfl, _, rfl⟩ <;> (unfold resK; rw [if_neg (by decide +kernel), if_neg (by decide +kernel)])
  | two h =>
    rcases h with ⟨rfl | rfl | rfl | rfl, rfl, rfl⟩ | ⟨rfl, rfl, rfl⟩ | ⟨rfl, _, rfl⟩ | ⟨rfl | rfl, rfl, rfl⟩
    · unfold resK; rw [if_neg (by decide +kernel), if_pos (by decide +kernel)]
    · unfold resK; rw [if_neg (by decide +kernel), if_pos (by decide +kernel)]
    · unfold resK; rw [if_neg (by decide +kernel), if_pos (by decide +kernel)]
    · unfold resK; rw [if_neg (by decide +kernel), if_pos (by decide +kernel)]
    · unfold resK; rw [if_neg (by decide +kernel), if_neg (by decide +kernel)]
    · unfold resK; rw [if_neg (by decide +kernel), if_neg (by decide +kernel)]
    · unfold resK; rw [if_neg (by decide +kernel), if_neg (by decide +kernel)]
    · unfold resK; rw [if_neg (by decide +kernel), if_neg (by decide +kernel)]
  | iff k => unfold resK; rw [if_pos rfl]; rfl
/-- where the last two must be alike, they are -/
theorem OpK.pair {w r : Str} {ks : List Str} (h : OpK w ks r) (p : w = "same" ∨ w = "if") : ∃ l k, ks = l ++ [k, k] := by
  cases h with
  | one h => rcases h with ⟨rfl, _⟩ | ⟨rfl, _⟩ <;> (rcases p with e | e <;> exact absurd e (by decide +kernel))
  | two h => exact ⟨[], _, rfl⟩
  | iff => exact ⟨["flag"], _, rfl⟩
def spCk : Sp := fun vs H Q _ => ∃ (a : Addr) (w r : Str) (ks : List Str) (p : V), vs = [.str w, .ref a, p] ∧ H a = some (.lst (ks.map V.str)) ∧ OpK w ks r ∧ ∀ H', Same H H' → Q .non H'
section
variable {P : Program} {w : World} {K : PySem.W.Frag} {mg : Str → Option Value} {base : Heap} {f oA pA : Addr} {fd : FuncData}
abbrev nCk : List Str := ["word", "found", "path", "at", "wanted"]
theorem scCk : FnScope nCk ["word", "found", "path"] (defScope sCk) := ⟨rfl, rfl, rfl, by decide +kernel, rfl, by decide +kernel, by decide +kernel⟩
theorem ok_ck (F : Fun K "check_operands" "check_operands" sCk f fd) (T : Bt mg) (OA : OpsA K w mg oA pA) : FnOk P w K mg base CX0 1 f fd ["word", "found", "path"] spCk := by
  refine F.ok scCk (fun vs H Q E h => ?_) (fun cdv A outer s H vs Q E hr h => ?_)
  · obtain ⟨a, wd, r, ks, p, rfl, _⟩ := h
    rfl
  · obtain ⟨a, wd, r, ks, p, rfl, ha, ok, k⟩ := h
    refine ⟨_, pss_cons (ps_for PassesOwn.never rfl (pi_enT (by rfl) T.enum (pa_cons (pe_ix ix_kdict (pe_glob (v := .ref oA) (by rfl) OA.g rfl) (pv 0) (fun _ _ => rfl)) pa_nil)) (pg_tup rfl (pgs_cons (pg_name (i := 3) scCk.nd rfl (.inl rfl)) (pgs_cons (pg_name (i := 4) scCk.nd rfl (.inl rfl)) pgs_nil)))
        (pss_one (ps_if (PW.pt (pw_and (pt_cmpR op_notN (pv 4) pe_non (nomark _)) (pw_and1 (pt_cmpR op_ne (pe_ix ix_list (pv 1) (pv 3) (fun _ _ => rfl)) (pv 4) (nomark _))))) pss_dead pss_nil)))
      (pss_one (ps_if (PW.pt (pw_and (pt_cmpR op_in_seq (pv 0) (pe_glob (v := .ref pA) (by rfl) OA.gp rfl) (by rfl)) (pw_and1 (pt_cmpR op_ne (pe_ix ix_list (pv 1) (pe_un un_neg pe_int) (fun _ _ => rfl)) (pe_ix ix_list (pv 1) (pe_un un_neg pe_int) (fun _ _ => rfl)) (nomark _))))) pss_dead pss_nil)), ?_⟩
    obtain ⟨os, eo, lo, hos⟩ := ok.ops
    obtain ⟨oa, kd, _, hoa⟩ := OA.at_ wd os eo
    refine ⟨_, rfl, oA, wd, _, rfl, rfl, kd, oa, os, rfl, hoa H, for_it (walk_enT (K := K) (a := oa) (xs := os)) (fun i σ H' => (∃ x3 x4 : Option V, σ = [some (.str wd), some (.ref a), some p, x3, x4]) ∧ Same H H') ⟨⟨_, _, rfl⟩, Same.refl H⟩ (fun i σ H' _ q => hoa H') ?_ ?_⟩
    · rintro i x σ Ha Hb hi ⟨⟨x3, x4, rfl⟩, sa⟩ ⟨q, i', z, rfl, hq, rfl, e1, e2⟩
      obtain rfl : V.int ((i : Nat) : Int) = i' := Option.some.inj e1
      have zq := Same.upd (o := .tup [.int ((i : Nat) : Int), z]) hq
      have sb := sa.trans zq
      refine ⟨q, _, rfl, SqT.of upd_same, rfl, _, _, rfl, _, _, rfl, rfl, _, rfl, rfl, _, rfl, ?_⟩
      rcases hos i z e2 with rfl | ⟨kk, ek, rfl⟩
      · rw [decide_eq_true rfl]
        exact iteF (iteF ⟨⟨_, _, rfl⟩, sb⟩)
      · rw [decide_eq_false (show V.str kk ≠ V.non from nofun)]
        have hm : (ks.map V.str)[i]? = some (.str kk) := by rw [List.getElem?_map, ek]; rfl
        refine iteT ⟨_, rfl, _, rfl, a, _, _, .str kk, rfl, rfl, SqL.of (sb _ _ ha), at_of (j := i) rfl hm, _, rfl, rfl, _, rfl, ?_⟩
        rw [decide_eq_true rfl]
        exact iteF ⟨⟨_, _, rfl⟩, sb⟩
    · rintro σ H1 ⟨⟨x3, x4, rfl⟩, s1⟩
      refine ⟨_, rfl, pA, _, rfl, .inr (OA.ap H1), rfl, rfl, _, rfl, ?_⟩
      rw [show inV (.str wd) [.str "same", .str "if"] = decide (wd ∈ (["same", "if"] : List Str)) from in_strs (ss := ["same", "if"])]
      by_cases pr : wd = "same" ∨ wd = "if"
      · rw [decide_eq_true (by simpa using pr)]
        obtain ⟨l, kk, rfl⟩ := ok.pair pr
        have ha1 := s1 _ _ ha
        have e2 : atI ((l ++ [kk, kk]).map V.str) (-2) = some (.str kk) := by
          unfold atI ixN
          rw [if_neg (by decide), if_pos (by simp; omega)]
          simp
          have : ((-2 : Int) + ((l.length : Int) + 2)).toNat = l.length := by omega
          rw [this]
          simp
        have e1 : atI ((l ++ [kk, kk]).map V.str) (-1) = some (.str kk) := by
          rw [show (l ++ [kk, kk]).map V.str = (l ++ [kk]).map V.str ++ [.str kk] by simp]
          exact atI_last _ _
        refine iteT ⟨_, rfl, _, rfl, a, _, _, .str kk, rfl, rfl, SqL.of ha1, e2, _, rfl, _, rfl, a, _, _, .str kk, rfl, rfl, SqL.of ha1, e1, rfl, _, rfl, ?_⟩
        rw [decide_eq_true rfl]
        exact iteF (k H1 s1)
      · rw [decide_eq_false (by simpa using pr)]
        exact iteF (iteF (k H1 s1))
end
end K13
set_option Elab.async false
set_option linter.all false
set_option maxRecDepth 100000
set_option maxHeartbeats 4000000
namespace K13
open PySem PySem.Spec PyProof.Rows L2 Lc
abbrev sKa : Stmt := top 25
inductive Xps (ps : List (Str × Str)) (n : Nat) : List Str → List PyData → Prop
  | nil : Xps ps n [] []
  | cons {k : Str} {ks : List Str} {o : PyData} {os : List PyData} (h : Xp ps n k o) (r : Xps ps n ks os) : Xps ps n (k :: ks) (o :: os)
theorem Xps.len {ps : List (Str × Str)} {n : Nat} : ∀ {ks : List Str} {os : List PyData}, Xps ps n ks os → ks.length = os.length
  | _, _, .nil => rfl
  | _, _, .cons _ r => by rw [List.length_cons, List.length_cons, r.len]
theorem Xps.get {ps : List (Str × Str)} {n : Nat} : ∀ {ks : List Str} {os : List PyData}, Xps ps n ks os → ∀ (i : Nat) (o : PyData), os[i]? = some o → ∃ k, ks[i]? = some k ∧ Xp ps n k o
  | _, _, .nil, i, o, e => by simp at e
  | _, _, .cons h r, 0, o, e => by injection e with e; subst e; exact ⟨_, rfl, h⟩
  | _, _, .cons h r, i + 1, o, e => r.get i o (by simpa using e)
theorem Vk.kind {k : Str} {d : PyData} (h : Vk k d) (nn : d ≠ .none) : KindS k := by
  cases h with
  | non => exact absurd rfl nn
  | num => exact .inl rfl
  | flag => exact .inr (.inr rfl)
  | word => exact .inr (.inl rfl)
theorem Xp.ops2 {ps : List (Str × Str)} {n : Nat} {k : Str} {d : PyData} (h : Xp ps (n + 1) k d) : (∃ (w : Str) (x : PyData), (w = "column" ∨ w = "value") ∧ d = .tuple [.str w, x] ∧ LeafD ps w x k) ∨ ∃ (w : Str) (os : List PyData) (ks : List Str), ¬ (w = "column" ∨ w = "value") ∧ d = .tuple (.str w :: os) ∧ OpK w ks k ∧ Xps ps n ks os := by
  cases h with
  | col h => exact .inl ⟨_, _, .inl rfl, rfl, .inl ⟨rfl, _, rfl, h⟩⟩
  | val h nn => exact .inl ⟨_, _, .inr rfl, rfl, .inr ⟨rfl, h, nn, h.kind nn⟩⟩
  | one hw ha => exact .inr ⟨_, _, _, hw.no, rfl, .one hw, .cons ha .nil⟩
  | two hw ha hb => exact .inr ⟨_, _, _, hw.no, rfl, .two hw, .cons ha (.cons hb .nil)⟩
  | iff ha hb hc => exact .inr ⟨_, _, _, by decide +kernel, rfl, .iff _, .cons ha (.cons hb (.cons hc .nil))⟩
theorem OpK.ne {w r : Str} {ks : List Str} (h : OpK w ks r) : ∃ l k0, ks = l ++ [k0] ∧ ks.length ≤ 3 := by
  cases h with
  | one _ => exact ⟨[], _, rfl, by simp⟩
  | two _ => exact ⟨[_], _, rfl, by simp⟩
  | iff => exact ⟨[_, _], _, rfl, by simp⟩
def spKa (n : Nat) : Sp := fun vs H Q _ => ∃ (g a q : Addr) (kvs : List (Key × V)) (ps : List (Str × Str)) (zs : List V) (d : PyData) (k : Str), vs = [.ref g, .ref a, .ref q] ∧ H g = some (.dK kvs) ∧ KdP kvs ps ∧ Dh H (.ref a) d ∧ Xp ps n k d ∧ H q = some (.tup zs) ∧ zs.length + n ≤ 8 ∧ ∀ H', Same H H' → Q (.str k) H'
section
variable {P : Program} {w : World} {K : PySem.W.Frag} {mg : Str → Option Value} {base : Heap} {f fH fL fC fR oA pA : Addr} {fd fdH fdL fdC fdR : FuncData} {u1 : Tok}
abbrev nKa : List Str := ["kinds", "part", "path", "word", "kind", "found", "at", "operand"]
abbrev pKa : List Str := ["kinds", "part", "path"]
theorem scKa : FnScope nKa pKa (defScope sKa) := ⟨rfl, rfl, rfl, by decide +kernel, rfl, by decide +kernel, by decide +kernel⟩
abbrev teKa (n : Nat) (K : PySem.W.Frag) : TE := tCall (spKa n) [] E0 (tCons (tVar 0) (tCons (tVar 7) (tCons (tOp (rCatA K) (tVar 2) (tTup (tCons (tVar 6) tNil))) tNil)))
theorem ok_ka1 (n : Nat) (F : Fun K "kind_at" "kind_at" sKa f fd) (T : Bt mg) (OA : OpsA K w mg oA pA) (mP : mg "DEEPEST" = some (.int 8 u1))
    (GH : FnOk P w K mg base CX0 1 fH fdH ["part"] spHw) (mH : mg "has_word" = some (.ref fH)) (kH : PySem.W.keepIn K (.ref fH) = true) (bH : Binds K fdH ["part"] [])
    (GL : FnOk P w K mg base CX0 5 fL fdL ["kinds", "part"] spLk) (mL : mg "leaf_kind" = some (.ref fL)) (kL : PySem.W.keepIn K (.ref fL) = true) (bL : Binds K fdL ["kinds", "part"] [])
    (GC : FnOk P w K mg base CX0 1 fC fdC ["word", "found", "path"] spCk) (mC : mg "check_operands" = some (.ref fC)) (kC : PySem.W.keepIn K (.ref fC) = true) (bC : Binds K fdC ["word", "found", "path"] [])
    (GR : FnOk P w K mg base CX0 1 fR fdR ["word", "found"] spRk) (mR : mg "result_kind" = some (.ref fR)) (kR : PySem.W.keepIn K (.ref fR) = true) (bR : Binds K fdR ["word", "found"] [])
    (GX : FnOk P w K mg base CX0 (5 + n) f fd pKa (spKa n)) (mX : mg "kind_at" = some (.ref f)) (kX : PySem.W.keepIn K (.ref f) = true) (bX : Binds K fd pKa []) : FnOk P w K mg base CX0 (5 + n + 1) f fd pKa (spKa (n + 1)) := by
  refine F.ok scKa (fun vs H Q E h => ?_) (fun cdv A outer s H vs Q E hr h => ?_)
  · obtain ⟨g, a, q, kvs, ps, zs, d, k, rfl, _⟩ := h
    rfl
  · obtain ⟨g, a, q, kvs, ps, zs, d, kd, rfl, hg, kp, hd, xp, hq, l8, k⟩ := h
    have hr1 : Room 1 _ := hr.mono (by omega)
    have hr5 : Room 5 _ := hr.mono (by omega)
    obtain ⟨es, nn, KD⟩ := OA.d
    refine ⟨_, pss_cons (ps_if (PW.pt (pw_or (pt_cmpR op_ge (pe_callB call_len_seq (by rfl) T.len PySem.boot_len (pa_cons (pv 2) pa_nil)) (pe_glob (v := .int 8) (by rfl) mP ⟨_, rfl⟩) (nomark _)) (pw_or1 (pt_not (pt_val (pe_call GH hr1 (by rfl) mH kH bH .nil pass0 (pa_cons (pv 1) pa_nil))))))) pss_dead pss_nil)
      (pss_cons (ps_set (i := 3) scKa.nd rfl (Or.inl rfl) (pe_ix ix_tup (pv 1) pe_int (fun _ _ => rfl)))
      (pss_cons (ps_if (PW.pt (pw_or (pt_cmpR op_eq (pv 3) pe_str (nomark _)) (pw_or1 (pt_cmpR op_eq (pv 3) pe_str (nomark _))))) (pss_cons (ps_set (i := 4) scKa.nd rfl (Or.inl rfl) (pe_call GL hr5 (by rfl) mL kL bL .nil pass0 (pa_cons (pv 0) (pa_cons (pv 1) pa_nil)))) (pss_cons (ps_if (pt_cmpR op_isN (pv 4) pe_non (nomark _)) pss_dead pss_nil) (pss_one (ps_ret (pv 4))))) pss_nil)
      (pss_cons (ps_if (PW.pt (pw_or (pt_cmpR (op_notIn_kd KD) (pv 3) (pe_glob (v := .ref oA) (by rfl) OA.g rfl) (by rfl)) (pw_or1 (pt_cmpR op_ne (pe_callB call_len_seq (by rfl) T.len PySem.boot_len (pa_cons (pv 1) pa_nil)) (pe_op op_add (pe_callB call_len_seq (by rfl) T.len PySem.boot_len (pa_cons (pe_ix ix_kdict (pe_glob (v := .ref oA) (by rfl) OA.g rfl) (pv 3) (fun _ _ => rfl)) pa_nil)) pe_int) (nomark _))))) pss_dead pss_nil)
      (pss_cons (ps_setLc (i := 5) (own := [("at", 6), ("operand", 7)]) (g := gTup K 2 (gCons (gName 6) (gCons (gName 7) gNil))) (tt := tYes) (te := teKa n K) (by rfl) scKa.nd rfl rfl (sw_true rfl rfl rfl (by decide +kernel)) (pi_enT (by rfl) T.enum (pa_cons (pe_slice sl_tup (pv 1) (po_some pe_int) po_none) pa_nil)) (blkOk_by (own := [("at", 6), ("operand", 7)]) (N := nKa) (sc := defScope sKa) (by decide +kernel))
          (fun _ _ _ _ _ => pg_tup rfl (pgs_cons (pg_name (i := 6) scKa.nd rfl (.inl rfl)) (pgs_cons (pg_name (i := 7) scKa.nd rfl (.inl rfl)) pgs_nil))) (fun _ _ _ _ _ => pts_nil) (fun _ _ _ _ _ => pe_call GX hr (by rfl) mX kX bX .nil pass0 (pa_cons (pv 0) (pa_cons (pv 7) (pa_cons (pe_op op_catA (pv 2) (pe_tup (pa_cons (pv 6) pa_nil))) pa_nil)))))
      (pss_cons (ps_expr (pe_call GC hr1 (by rfl) mC kC bC .nil pass0 (pa_cons (pv 3) (pa_cons (pv 5) (pa_cons (pv 2) pa_nil)))))
      (pss_one (ps_ret (pe_call GR hr1 (by rfl) mR kR bR .nil pass0 (pa_cons (pv 3) (pa_cons (pv 5) pa_nil)))))))))), ?_⟩
    obtain ⟨ds0, rfl⟩ : ∃ ds0, d = .tuple ds0 := by rcases xp.ops2 with ⟨_, _, _, e, _⟩ | ⟨_, _, _, _, e, _⟩ <;> exact ⟨_, e⟩
    cases hd with
    | @tup _ ys0 _ ea hs0 =>
    have lq : zs.length < 8 := by omega
    refine ⟨_, rfl, q, _, rfl, .inr (SqT.of hq), _, _, rfl, rfl, _, rfl, ?_⟩
    rw [decide_eq_false (by omega)]
    have sE : ∀ (a b : Str), decide (V.str a = V.str b) = decide (a = b) := fun a b => decide_eq_decide.mpr ⟨fun e => by injection e, fun e => by rw [e]⟩
    rcases xp.ops2 with ⟨wd, x, hw, ed, lf⟩ | ⟨wd, os, ks, hw, ed, ok, xs⟩
    · injection ed with ed
      subst ed
      cases hs0 with
      | cons h1 r1 =>
      cases h1
      cases r1 with
      | cons h2 r2 =>
      cases r2
      refine iteF ⟨_, rfl, a, wd, _, rfl, ea, _, rfl, iteF ?_⟩
      refine ⟨_, rfl, a, _, _, .str wd, rfl, rfl, SqT.of ea, at_zero, ?_⟩
      refine ⟨_, rfl, rfl, _, rfl, ?_⟩
      rw [sE]
      have goal : ∀ {σ : L2.St} {D : Ends}, True := fun {_ _} => trivial
      have fin : spLk [.ref g, .ref a] H (fun v H' => v = .str kd ∧ Same H H') E0 := ⟨g, a, kvs, ps, wd, _, x, kd, rfl, hg, kp, ea, h2, lf, fun H' s' => ⟨rfl, s'⟩⟩
      by_cases w1 : wd = "column"
      · rw [decide_eq_true w1]
        refine iteT (iteT ⟨_, rfl, _, rfl, g, a, kvs, ps, wd, _, x, kd, rfl, hg, kp, ea, h2, lf, fun H' s' => ⟨_, rfl, rfl, _, rfl, ?_⟩⟩)
        rw [decide_eq_false (show V.str kd ≠ V.non from nofun)]
        exact iteF ⟨_, rfl, k H' s'⟩
      · rw [decide_eq_false w1]
        refine iteF ⟨_, rfl, rfl, _, rfl, ?_⟩
        rw [sE, decide_eq_true (hw.resolve_left w1)]
        refine iteT ⟨_, rfl, _, rfl, g, a, kvs, ps, wd, _, x, kd, rfl, hg, kp, ea, h2, lf, fun H' s' => ⟨_, rfl, rfl, _, rfl, ?_⟩⟩
        rw [decide_eq_false (show V.str kd ≠ V.non from nofun)]
        exact iteF ⟨_, rfl, k H' s'⟩
    · injection ed with ed
      subst ed
      cases hs0 with
      | @cons _ ys _ _ h1 r1 =>
      cases h1
      have ly := r1.len
      have lk := xs.len
      obtain ⟨opv, eo, lo, _⟩ := ok.ops
      obtain ⟨oa, kd1, kd2, hoa⟩ := OA.at_ wd opv eo
      obtain ⟨l0, k0, ek, l3⟩ := ok.ne
      refine iteF ⟨_, rfl, a, wd, _, rfl, ea, _, rfl, iteF ?_⟩
      refine ⟨_, rfl, a, _, _, .str wd, rfl, rfl, SqT.of ea, at_zero, ?_⟩
      refine ⟨_, rfl, rfl, _, rfl, ?_⟩
      rw [sE, decide_eq_false (fun z => hw (.inl z))]
      refine iteF ⟨_, rfl, rfl, _, rfl, ?_⟩
      rw [sE, decide_eq_false (fun z => hw (.inr z))]
      refine iteF ⟨_, rfl, wd, _, rfl, rfl, kd2, _, rfl, iteF ⟨_, rfl, a, _, rfl, .inr (SqT.of ea), _, rfl, oA, wd, _, rfl, rfl, kd1, oa, _, rfl, .inr (hoa H), _, _, rfl, rfl, rfl, _, rfl, ?_⟩⟩
      rw [decide_eq_true (by rw [List.length_cons, lo, lk, ← ly]; simp)]
      refine iteF ⟨_, rfl, 1, rfl, a, _, rfl, SqT.of ea, tail_not, fun p hp => ?_⟩
      rw [cut_tail]
      have zp := Same.upd (o := .tup ys) hp
      have hp2 : upd H p (.tup ys) p = some (.tup ys) := upd_same
      generalize upd H p (.tup ys) = H2 at zp hp2 ⊢
      refine ⟨p, ys, rfl, SqT.of hp2, fun D hD => lc_it (walk_enT (K := K) (a := p) (xs := ys)) (fun i H' => H' D = some (.lst ((ks.take i).map V.str)) ∧ Same H2 H') ⟨upd_same, Same.upd hD⟩ (fun i H' _ pr => SqT.of (pr.2 _ _ hp2)) ?_ ?_⟩
      · rintro i x Ha Hb hi ⟨hD1, sa⟩ ⟨q1, i', z, rfl, hq1, rfl, e1, e2⟩
        obtain rfl : V.int ((i : Nat) : Int) = i' := Option.some.inj e1
        have zq := Same.upd (o := .tup [.int ((i : Nat) : Int), z]) hq1
        have sb := sa.trans zq
        have s0 := zp.trans sb
        obtain ⟨o, eo', dh⟩ := r1.get _ _ e2
        obtain ⟨kk, ekk, xo⟩ := xs.get i o eo'
        refine ⟨q1, _, rfl, SqT.of upd_same, rfl, _, _, rfl, _, _, rfl, rfl, rfl, ?_⟩
        change teKa n K _ _ _
        have hD2 := zq _ _ hD1
        have gq := s0 _ _ hq
        have gg := s0 _ _ hg
        have dz := dh.same s0
        have gD : upd Ha q1 (.tup [.int ((i : Nat) : Int), z]) D ≠ none := by rw [hD2]; nofun
        have offD : ∀ b o', H2 b = some o' → b ≠ D := fun b o' eb => ne_of_none eb hD
        obtain ⟨za, rfl⟩ : ∃ za, z = .ref za := by
          obtain ⟨m, rfl⟩ : ∃ m, n = m + 1 := by
            cases n with
            | zero => exact xo.zero.elim
            | succ m => exact ⟨m, rfl⟩
          rcases xo.ops2 with ⟨_, _, _, rfl, _⟩ | ⟨_, _, _, _, rfl, _⟩ <;> (cases dh; exact ⟨_, rfl⟩)
        refine ⟨_, rfl, _, rfl, _, rfl, _, rfl, by show 1 ≤ sizeLine; decide, fun t1 ht1 => ?_⟩
        have zt := Same.upd (o := .tup [.int ((i : Nat) : Int)]) ht1
        have go : ∀ {H3 : Hp} {r : Addr} {us : List V}, Same (upd Ha q1 (.tup [.int ((i : Nat) : Int), .ref za])) H3 → H3 r = some (.tup us) → us.length = zs.length + 1 → spKa n [.ref g, .ref za, .ref r] H3 (fun y H4 => ∃ acc, H4 D = some (.lst acc) ∧ acc.length < sizeLine ∧ upd H4 D (.lst (acc ++ [y])) D = some (.lst ((ks.take (i + 1)).map V.str)) ∧ Same H2 (upd H4 D (.lst (acc ++ [y])))) E0 := fun {H3 r us} s3 hr3 lu =>
          ⟨g, za, r, kvs, ps, us, o, kk, rfl, s3 _ _ gg, kp, dz.same s3, xo, hr3, by omega, fun H4 s4 => ⟨_, s4 _ _ (s3 _ _ hD2), by rw [List.length_map, List.length_take]; exact Nat.lt_of_le_of_lt (show _ ≤ 3 by omega) (by decide), by rw [upd_same, List.take_add_one, ekk]; simp, fun b o' eb => by rw [upd_ne (offD b o' eb)]; exact s4 _ _ (s3 _ _ (sb _ _ eb))⟩⟩
        refine ⟨q, t1, zs, _, rfl, rfl, SqT.of (zt _ _ gq), SqT.of upd_same, by show zs.length + 1 ≤ sizeLine; exact Nat.le_trans (show _ ≤ 8 by omega) (by decide), fun e0 => ?_, fun _ z => absurd z (List.cons_ne_nil _ _), fun _ _ r hr' => ?_⟩
        · exact go zt upd_same (by rw [e0]; rfl)
        · exact go (zt.trans (Same.upd hr')) upd_same (by rw [List.length_append]; rfl)
      · rintro H3 ⟨hD3, s3⟩
        rw [ly, ← lk, List.take_length] at hD3
        have s03 := zp.trans s3
        refine ⟨_, rfl, _, rfl, _, rfl, D, wd, kd, ks, .ref q, rfl, hD3, ok, fun H4 s4 => ?_⟩
        refine ⟨_, rfl, _, rfl, D, wd, k0, l0, rfl, by rw [← ek]; exact s4 _ _ hD3, fun H5 s5 => ?_⟩
        rw [← ek, ok.res]
        exact k H5 ((s03.trans s4).trans s5)
theorem ok_ka (F : Fun K "kind_at" "kind_at" sKa f fd) (T : Bt mg) (OA : OpsA K w mg oA pA) (mP : mg "DEEPEST" = some (.int 8 u1))
    (GH : FnOk P w K mg base CX0 1 fH fdH ["part"] spHw) (mH : mg "has_word" = some (.ref fH)) (kH : PySem.W.keepIn K (.ref fH) = true) (bH : Binds K fdH ["part"] [])
    (GL : FnOk P w K mg base CX0 5 fL fdL ["kinds", "part"] spLk) (mL : mg "leaf_kind" = some (.ref fL)) (kL : PySem.W.keepIn K (.ref fL) = true) (bL : Binds K fdL ["kinds", "part"] [])
    (GC : FnOk P w K mg base CX0 1 fC fdC ["word", "found", "path"] spCk) (mC : mg "check_operands" = some (.ref fC)) (kC : PySem.W.keepIn K (.ref fC) = true) (bC : Binds K fdC ["word", "found", "path"] [])
    (GR : FnOk P w K mg base CX0 1 fR fdR ["word", "found"] spRk) (mR : mg "result_kind" = some (.ref fR)) (kR : PySem.W.keepIn K (.ref fR) = true) (bR : Binds K fdR ["word", "found"] [])
    (mX : mg "kind_at" = some (.ref f)) (kX : PySem.W.keepIn K (.ref f) = true) (bX : Binds K fd pKa []) : ∀ n : Nat, FnOk P w K mg base CX0 (5 + n) f fd pKa (spKa n)
  | 0 => fn_weak (sp' := fun _ _ _ _ => False) (fun _ _ _ _ ⟨_, _, _, _, _, _, _, _, _, _, _, _, xp, _⟩ => xp.zero.elim) fn_none
  | n + 1 => ok_ka1 n F T OA mP GH mH kH bH GL mL kL bL GC mC kC bC GR mR kR bR (ok_ka F T OA mP GH mH kH bH GL mL kL bL GC mC kC bC GR mR kR bR mX kX bX n) mX kX bX
end
end K13
set_option Elab.async false
set_option linter.all false
set_option maxRecDepth 100000
set_option maxHeartbeats 4000000
namespace K13
open PySem PySem.Spec PyProof.Rows L2 Lc
/-! ## drawn expressions, by a list of forms -/
def FmOk (kind w : Str) (ks : List Str) : Prop := (w = "if" ∧ ks = [("flag" : Str), kind, kind]) ∨ (∃ k, ks = [k] ∧ KindS k ∧ OneW w k kind) ∨ ∃ k, ks = [k, k] ∧ KindS k ∧ TwoW w k kind
def FmAt (H : Hp) (kind : Str) (v : V) : Prop := ∃ (p l : Addr) (w : Str) (ks : List Str), v = .ref p ∧ H p = some (.tup [.str w, .ref l]) ∧ H l = some (.lst (vS ks)) ∧ FmOk kind w ks
def Fms (H : Hp) (kind : Str) (fs : List V) : Prop := ∀ v ∈ fs, FmAt H kind v
theorem FmAt.same {H H' : Hp} {kind : Str} {v : V} (h : FmAt H kind v) (s : Same H H') : FmAt H' kind v := by
  obtain ⟨p, l, w, ks, e, h1, h2, ok⟩ := h
  exact ⟨p, l, w, ks, e, s _ _ h1, s _ _ h2, ok⟩
theorem FmAt.b {t : Addr} {H H' : Hp} {kind : Str} {v : V} (h : FmAt H kind v) (T : Tape H t) (s : SameB t H H') : FmAt H' kind v := by
  obtain ⟨p, l, w, ks, e, h1, h2, ok⟩ := h
  exact ⟨p, l, w, ks, e, s _ _ (T.neT h1) h1, s _ _ (ne_tape T h2) h2, ok⟩
theorem fm_tup {H : Hp} {kind w : Str} {ks : List Str} {l p : Addr} (hl : H l = some (.lst (vS ks))) (ok : FmOk kind w ks) (hp : H p = none) : FmAt (upd H p (.tup [.str w, .ref l])) kind (.ref p) := ⟨p, l, w, ks, rfl, upd_same, Same.upd hp _ _ hl, ok⟩
theorem xps_one {ps : List (Str × Str)} {n : Nat} {k : Str} {ds : List PyData} (h : Xps ps n [k] ds) : ∃ a, ds = [a] ∧ Xp ps n k a := by
  cases h with
  | cons h r => cases r; exact ⟨_, rfl, h⟩
theorem xps_two {ps : List (Str × Str)} {n : Nat} {k j : Str} {ds : List PyData} (h : Xps ps n [k, j] ds) : ∃ a b, ds = [a, b] ∧ Xp ps n k a ∧ Xp ps n j b := by
  cases h with
  | cons h r => obtain ⟨b, rfl, h2⟩ := xps_one r; exact ⟨_, _, rfl, h, h2⟩
theorem fm_xp {ps : List (Str × Str)} {n : Nat} {kind w : Str} {ks : List Str} {ds : List PyData} (f : FmOk kind w ks) (h : Xps ps n ks ds) : Xp ps (n + 1) kind (.tuple (.str w :: ds)) := by
  rcases f with ⟨rfl, rfl⟩ | ⟨k, rfl, _, hw⟩ | ⟨k, rfl, _, hw⟩
  · cases h with
    | cons h r => obtain ⟨b, c, rfl, h2, h3⟩ := xps_two r; exact .iff h h2 h3
  · obtain ⟨a, rfl, h1⟩ := xps_one h
    exact .one hw h1
  · obtain ⟨a, b, rfl, h1, h2⟩ := xps_two h
    exact .two hw h1 h2
theorem FmOk.ks {kind w : Str} {ks : List Str} (f : FmOk kind w ks) (hk : KindS kind) : (∀ k ∈ ks, KindS k) ∧ 1 ≤ ks.length ∧ ks.length ≤ 3 := by
  rcases f with ⟨rfl, rfl⟩ | ⟨k, rfl, h, _⟩ | ⟨k, rfl, h, _⟩
  · refine ⟨fun k hm => ?_, by show 1 ≤ 3; decide, Nat.le_refl _⟩
    simp only [List.mem_cons, List.not_mem_nil, or_false] at hm
    rcases hm with rfl | rfl | rfl
    · exact .inr (.inr rfl)
    · exact hk
    · exact hk
  · exact ⟨fun j hm => by rw [List.mem_singleton.mp hm]; exact h, Nat.le_refl _, by show 1 ≤ 3; decide⟩
  · refine ⟨fun j hm => ?_, by show 1 ≤ 2; decide, by show 2 ≤ 3; decide⟩
    simp only [List.mem_cons, List.not_mem_nil, or_false] at hm
    rcases hm with rfl | rfl <;> exact h
theorem Xps.snoc {ps : List (Str × Str)} {n : Nat} {k : Str} {d : PyData} : ∀ {ks : List Str} {ds : List PyData}, Xps ps n ks ds → Xp ps n k d → Xps ps n (ks ++ [k]) (ds ++ [d])
  | _, _, .nil, h => .cons h .nil
  | _, _, .cons h r, g => .cons h (r.snoc g)
theorem Xps.noL {ps : List (Str × Str)} {n : Nat} : ∀ {ks : List Str} {ds : List PyData}, Xps ps n ks ds → ∀ d ∈ ds, noL d = true
  | _, _, .nil => nofun
  | _, _, .cons h r => fun d hd => by
    rcases List.mem_cons.mp hd with rfl | hd
    · exact h.noL
    · exact r.noL d hd
theorem ite_no {a b : Str} {p q : Prop} (h : a ≠ b) (k : q) : if decide (V.str a = V.str b) = true then p else q := by
  rw [decide_eq_false (fun e => h (by injection e))]
  exact k
theorem ite_yes {a : Str} {p q : Prop} (k : p) : if decide (V.str a = V.str a) = true then p else q := by
  rw [decide_eq_true rfl]
  exact k
abbrev teXp (n : Nat) : TE := tCall (spXp n) [] E0 (tCons (tVar 0) (tCons (tVar 1) (tCons (tVar 9) (tCons (tOp (rI0 fun i j => .int (i - j)) (tVar 3) (tC (.int 1))) tNil))))
section
variable {P : Program} {w : World} {K : PySem.W.Frag} {mg : Str → Option Value} {base : Heap} {f : Addr} {fd : FuncData}
abbrev sXp : Stmt := top 82
abbrev nXp : List Str := ["_law_tape_here", "_law_columns_here", "_law_kind", "_law_depth", "_law_some", "_law_two", "_law_forms", "_law_flags", "_law_at", "_law_part"]
abbrev pXp : List Str := ["_law_tape_here", "_law_columns_here", "_law_kind", "_law_depth"]
theorem scXp : FnScope nXp pXp (defScope sXp) := ⟨rfl, rfl, rfl, by decide +kernel, rfl, by decide +kernel, by decide +kernel⟩
section
variable {fA_ fB_ fC_ : Addr} {fdA_ fdB_ fdC_ : FuncData}
theorem ok_Xp (F : Fun K "_law_expression" "_law_expression" sXp f fd) (T : Bt mg) (n : Nat)
    (GA_ : FnOk P w K mg base CX0 1 fA_ fdA_ ["_law_tape_here", "_law_many"] (spDrawL)) (mA_ : mg "_law_draw" = some (.ref fA_)) (kA_ : PySem.W.keepIn K (.ref fA_) = true) (bA_ : Binds K fdA_ ["_law_tape_here", "_law_many"] [])
    (GB_ : FnOk P w K mg base CX0 3 fB_ fdB_ ["_law_tape_here", "_law_columns_here", "_law_kind"] (spLf)) (mB_ : mg "_law_leaf" = some (.ref fB_)) (kB_ : PySem.W.keepIn K (.ref fB_) = true) (bB_ : Binds K fdB_ ["_law_tape_here", "_law_columns_here", "_law_kind"] [])
    (GC_ : FnOk P w K mg base CX0 (3 + n) fC_ fdC_ ["_law_tape_here", "_law_columns_here", "_law_kind", "_law_depth"] (spXp n)) (mC_ : mg "_law_expression" = some (.ref fC_)) (kC_ : PySem.W.keepIn K (.ref fC_) = true) (bC_ : Binds K fdC_ ["_law_tape_here", "_law_columns_here", "_law_kind", "_law_depth"] []) : FnOk P w K mg base CX0 (3 + n + 1) f fd pXp ((spXp (n + 1))) := by
  refine F.ok scXp (fun vs H Q E h => ?_) (fun cdv A outer s H vs Q E hr h => ?_)
  · obtain ⟨t, c, L, kind, xs, ps, rfl, _⟩ := h
    rfl
  · obtain ⟨t, c, L, kind, xs, ps, rfl, hk, hT, hL, hc, l8, k⟩ := h
    have hrA_ : Room (1) _ := hr.mono (by first | decide | omega)
    have hrB_ : Room (3) _ := hr.mono (by first | decide | omega)
    have hrC_ : Room ((3 + n)) _ := hr.mono (by first | decide | omega)
    refine ⟨_, (pss_cons (ps_set (i := 4) scXp.nd rfl (Or.inl rfl) (pe_ix ix_list (pe_lst (pa_cons pe_str (pa_cons pe_str (pa_cons pe_str pa_nil)))) (pe_call GA_ hrA_ (by rfl) mA_ kA_ bA_ .nil pass0 (pa_cons (pv 0) (pa_cons pe_int pa_nil))) (fun _ _ => rfl)))
      (pss_cons (ps_set (i := 5) scXp.nd rfl (Or.inl rfl) (pe_lst (pa_cons pe_str (pa_cons pe_str pa_nil))))
      (Evl.pss_cut (ps_set (i := 6) scXp.nd rfl (Or.inl rfl) (pe_lst (pa_cons (pe_tup (pa_cons pe_str (pa_cons (pe_lst (pa_cons pe_str (pa_cons (pv 2) (pa_cons (pv 2) pa_nil)))) pa_nil))) pa_nil)))
      (Evl.pss_cut (ps_if (pt_cmpR op_eq (pv 2) pe_str (nomark _)) (pss_one (ps_set (i := 6) scXp.nd rfl (Or.inl rfl) (pe_op op_cat (pv 6) (pe_lst (pa_cons (pe_tup (pa_cons pe_str (pa_cons (pv 5) pa_nil))) (pa_cons (pe_tup (pa_cons pe_str (pa_cons (pv 5) pa_nil))) (pa_cons (pe_tup (pa_cons pe_str (pa_cons (pv 5) pa_nil))) (pa_cons (pe_tup (pa_cons pe_str (pa_cons (pv 5) pa_nil))) pa_nil)))))))) pss_nil)
      (Evl.pss_cut (ps_if (pt_cmpR op_eq (pv 2) pe_str (nomark _)) (pss_cons (ps_set (i := 7) scXp.nd rfl (Or.inl rfl) (pe_lst (pa_cons pe_str (pa_cons pe_str pa_nil))))
      (Evl.pss_cut (ps_set (i := 6) scXp.nd rfl (Or.inl rfl) (pe_op op_cat (pv 6) (pe_lst (pa_cons (pe_tup (pa_cons pe_str (pa_cons (pv 5) pa_nil))) (pa_cons (pe_tup (pa_cons pe_str (pa_cons (pe_lst (pa_cons (pv 4) (pa_cons (pv 4) pa_nil))) pa_nil))) (pa_cons (pe_tup (pa_cons pe_str (pa_cons (pv 7) pa_nil))) (pa_cons (pe_tup (pa_cons pe_str (pa_cons (pv 7) pa_nil))) pa_nil)))))))
      (pss_one (ps_set (i := 6) scXp.nd rfl (Or.inl rfl) (pe_op op_cat (pv 6) (pe_lst (pa_cons (pe_tup (pa_cons pe_str (pa_cons (pe_lst (pa_cons pe_str pa_nil)) pa_nil))) (pa_cons (pe_tup (pa_cons pe_str (pa_cons (pe_lst (pa_cons (pv 4) pa_nil)) pa_nil))) (pa_cons (pe_tup (pa_cons pe_str (pa_cons (pv 5) pa_nil))) pa_nil))))))))) pss_nil)
      (Evl.pss_cut (ps_set (i := 8) scXp.nd rfl (Or.inl rfl) (pe_call GA_ hrA_ (by rfl) mA_ kA_ bA_ .nil pass0 (pa_cons (pv 0) (pa_cons (pe_op op_add (pe_callB call_len_seq (by rfl) T.len PySem.boot_len (pa_cons (pv 6) pa_nil)) pe_int) pa_nil))))
      (pss_cons (ps_if (PW.pt (pw_or (pt_cmpR op_le (pv 3) pe_int (nomark _)) (pw_or1 (pt_cmpR op_ge (pv 8) (pe_callB call_len_seq (by rfl) T.len PySem.boot_len (pa_cons (pv 6) pa_nil)) (nomark _))))) (pss_one (ps_ret (pe_call GB_ hrB_ (by rfl) mB_ kB_ bB_ .nil pass0 (pa_cons (pv 0) (pa_cons (pv 1) (pa_cons (pv 2) pa_nil)))))) pss_nil)
      (pss_one (ps_ret (pe_op op_catA (pe_tup (pa_cons (pe_ix ix_tup (pe_ix ix_list (pv 6) (pv 8) (fun _ _ => rfl)) pe_int (fun _ _ => rfl)) pa_nil)) (pe_callTy call_tuple_of (by rfl) T.tuple boot_tuple (pa_cons (pe_lc (own := [("_law_part", 9)]) (g := (gName 9)) (tt := tYes) (te := teXp n) (by rfl) scXp.nd (pi_list (pe_ix ix_tup (pe_ix ix_list (pv 6) (pv 8) (fun _ _ => rfl)) pe_int (fun _ _ => rfl))) (blkOk_by (own := [("_law_part", 9)]) (N := nXp) (sc := defScope sXp) (by decide +kernel)) (fun _ _ _ _ _ => (pg_name (i := 9) scXp.nd rfl (.inl rfl))) (fun _ _ _ _ _ => pts_nil) (fun _ _ _ _ _ => (pe_call GC_ hrC_ (by rfl) mC_ kC_ bC_ .nil pass0 (pa_cons (pv 0) (pa_cons (pv 1) (pa_cons (pv 9) (pa_cons (pe_op op_sub (pv 3) pe_int) pa_nil))))))) pa_nil)))))))))))), ?_⟩
    have two : 2 ≤ sizeLine := by decide
    have one : 1 ≤ sizeLine := by decide
    have three : 3 ≤ sizeLine := by decide
    have four : 4 ≤ sizeLine := by decide
    have kF : KindS "flag" := .inr (.inr rfl)
    have kN : KindS "number" := .inl rfl
    -- a kind of any
    refine ⟨three, fun Y hY => ?_⟩
    have zY := Same.upd (o := .lst [.str "number", .str "word", .str "flag"]) hY
    have nY := hT.tape.ne hY
    refine ⟨_, rfl, t, c, _, rfl, hT.same zY, by decide, big1000 (by decide) (by decide), fun j H1 j0 j3 T1 S1 => ?_⟩
    obtain ⟨so, eso, hso⟩ : ∃ kk : Str, ([.str "number", .str "word", .str "flag"] : List V)[j.toNat]? = some (.str kk) ∧ KindS kk := by
      have : j.toNat = 0 ∨ j.toNat = 1 ∨ j.toNat = 2 := by omega
      rcases this with e | e | e <;> rw [e]
      · exact ⟨_, rfl, .inl rfl⟩
      · exact ⟨_, rfl, .inr (.inl rfl)⟩
      · exact ⟨_, rfl, .inr (.inr rfl)⟩
    refine ⟨Y, _, _, .str so, rfl, rfl, SqL.of (S1 _ _ nY upd_same), at_of (j := j.toNat) (by omega) eso, two, fun W hW => ?_⟩
    have zW := Same.upd (o := .lst [.str "number", .str "number"]) hW
    have eW : upd H1 W (.lst [.str "number", .str "number"]) W = some (.lst (vS ["number", "number"])) := upd_same
    have T2 := T1.same zW
    have S2 := ((Same.b t zY).trans S1).trans (Same.b t zW)
    show ∃ M : _, _
    generalize upd H1 W (.lst [.str "number", .str "number"]) = H2 at eW T2 S2 ⊢
    clear zW zY nY T1 S1 eso hW hY j0 j3
    let M := fun (m : Nat) (D : Addr) (x7 : Option V) (σ : L2.St) (H' : Hp) => σ = [some (.ref t), some (.ref L), some (.str kind), some (.int ((n : Int) + 1)), some (.str so), some (.ref W), some (.ref D), x7, none, none] ∧ H' W = some (.lst (vS ["number", "number"])) ∧ (∃ fs, H' D = some (.lst fs) ∧ fs.length ≤ m ∧ 1 ≤ fs.length ∧ Fms H' kind fs) ∧ TapeL c H' t ∧ SameB t H H' ∧ D ≠ t
    refine ⟨fun σ H' => ∃ D, M 1 D none σ H', ?_, ?_⟩
    · refine ⟨_, rfl, _, rfl, three, fun A hA => ⟨two, fun B hB => ⟨one, fun D hD => ?_⟩⟩⟩
      have zA := Same.upd (o := .lst (vS ["flag", kind, kind])) hA
      have zB := Same.upd (o := .tup [.str "if", .ref A]) hB
      have zD := Same.upd (o := .lst [.ref B]) hD
      have zall := zA.trans (zB.trans zD)
      refine ⟨D, rfl, zall _ _ eW, ⟨[.ref B], upd_same, Nat.le_refl _, Nat.le_refl _, fun v hv => ?_⟩, T2.same zall, S2.trans (Same.b t zall), (T2.same (zA.trans zB)).tape.ne hD⟩
      rw [List.mem_singleton.mp hv]
      exact (fm_tup (kind := kind) (w := "if") (ks := ["flag", kind, kind]) upd_same (.inl ⟨rfl, rfl⟩) hB).same zD
    clear eW T2 S2
    rintro σ H3 ⟨D, rfl, eW, ⟨fs, eD, lf, l1, hf⟩, T3, S3, nD⟩
    -- numbers
    refine ⟨fun σ H' => ∃ D, M 5 D none σ H', ?_, ?_⟩
    · refine ⟨_, rfl, rfl, _, rfl, ?_⟩
      by_cases k1 : kind = "number"
      · subst k1
        refine ite_yes ⟨_, rfl, _, rfl, two, fun p1 h1 => ⟨_, rfl, two, fun p2 h2 => ⟨_, rfl, two, fun p3 h3 => ⟨_, rfl, two, fun p4 h4 => ⟨four, fun U hU => ?_⟩⟩⟩⟩⟩
        have z1 := Same.upd (o := .tup [.str "plus", .ref W]) h1
        have z2 := Same.upd (o := .tup [.str "minus", .ref W]) h2
        have z3 := Same.upd (o := .tup [.str "times", .ref W]) h3
        have z4 := Same.upd (o := .tup [.str "over", .ref W]) h4
        have zU := Same.upd (o := .lst [.ref p1, .ref p2, .ref p3, .ref p4]) hU
        have ok : ∀ w : Str, (w = "plus" ∨ w = "minus" ∨ w = "times" ∨ w = "over") → FmOk "number" w ["number", "number"] := fun w hw => .inr (.inr ⟨"number", rfl, kN, .inl ⟨hw, rfl, rfl⟩⟩)
        have f1 := fm_tup eW (ok "plus" (.inl rfl)) h1
        have f2 := fm_tup (z1 _ _ eW) (ok "minus" (.inr (.inl rfl))) h2
        have f3 := fm_tup ((z1.trans z2) _ _ eW) (ok "times" (.inr (.inr (.inl rfl)))) h3
        have f4 := fm_tup ((z1.trans (z2.trans z3)) _ _ eW) (ok "over" (.inr (.inr (.inr rfl)))) h4
        have zall := z1.trans (z2.trans (z3.trans (z4.trans zU)))
        refine ⟨D, U, fs, _, rfl, rfl, zall _ _ eD, upd_same, Nat.le_trans (show fs.length + 4 ≤ 30 by omega) (by decide), fun D2 hD2 => ?_⟩
        have zV := Same.upd (o := .lst (fs ++ [.ref p1, .ref p2, .ref p3, .ref p4])) hD2
        refine ⟨D2, rfl, zV _ _ (zall _ _ eW), ⟨_, upd_same, by rw [List.length_append]; show fs.length + 4 ≤ 5; omega, by rw [List.length_append]; omega, fun v hv => ?_⟩, T3.same (zall.trans zV), S3.trans (Same.b t (zall.trans zV)), (T3.same zall).tape.ne hD2⟩
        rcases List.mem_append.mp hv with hv | hv
        · exact (hf v hv).same (zall.trans zV)
        · simp only [List.mem_cons, List.not_mem_nil, or_false] at hv
          rcases hv with rfl | rfl | rfl | rfl
          · exact f1.same (z2.trans (z3.trans (z4.trans (zU.trans zV))))
          · exact f2.same (z3.trans (z4.trans (zU.trans zV)))
          · exact f3.same (z4.trans (zU.trans zV))
          · exact f4.same (zU.trans zV)
      · exact ite_no k1 ⟨D, rfl, eW, ⟨fs, eD, by omega, l1, hf⟩, T3, S3, nD⟩
    clear eW T3 S3 eD lf l1 hf nD D fs
    rintro σ H4 ⟨D, rfl, eW, ⟨fs, eD, lf, l1, hf⟩, T4, S4, nD⟩
    -- flags
    refine ⟨fun σ H' => ∃ D x7, M 12 D x7 σ H', ?_, ?_⟩
    · refine ⟨_, rfl, rfl, _, rfl, ?_⟩
      by_cases k1 : kind = "flag"
      · subst k1
        refine ite_yes ⟨two, fun G hG => ⟨fun σ H' => ∃ D, M 9 D (some (.ref G)) σ H', ?_, ?_⟩⟩
        · refine ⟨_, rfl, _, rfl, two, fun p1 h1 => ⟨_, rfl, _, rfl, two, fun O hO => ⟨two, fun p2 h2 => ⟨_, rfl, two, fun p3 h3 => ⟨_, rfl, two, fun p4 h4 => ⟨four, fun U hU => ?_⟩⟩⟩⟩⟩⟩
          have zG := Same.upd (o := .lst (vS ["flag", "flag"])) hG
          have z1 := Same.upd (o := .tup [.str "less", .ref W]) h1
          have zO := Same.upd (o := .lst (vS [so, so])) hO
          have z2 := Same.upd (o := .tup [.str "same", .ref O]) h2
          have z3 := Same.upd (o := .tup [.str "both", .ref G]) h3
          have z4 := Same.upd (o := .tup [.str "either", .ref G]) h4
          have zU := Same.upd (o := .lst [.ref p1, .ref p2, .ref p3, .ref p4]) hU
          have less : FmOk "flag" "less" ["number", "number"] := .inr (.inr ⟨"number", rfl, kN, .inr (.inl ⟨rfl, rfl, rfl⟩)⟩)
          have f1 := fm_tup (zG _ _ eW) less h1
          have f2 := fm_tup (kind := "flag") (w := "same") (ks := [so, so]) upd_same (.inr (.inr ⟨so, rfl, hso, .inr (.inr (.inl ⟨rfl, hso, rfl⟩))⟩)) h2
          have f3 := fm_tup (kind := "flag") (w := "both") (ks := ["flag", "flag"]) ((z1.trans (zO.trans z2)) _ _ upd_same) (.inr (.inr ⟨"flag", rfl, kF, .inr (.inr (.inr ⟨.inl rfl, rfl, rfl⟩))⟩)) h3
          have f4 := fm_tup (kind := "flag") (w := "either") (ks := ["flag", "flag"]) ((z1.trans (zO.trans (z2.trans z3))) _ _ upd_same) (.inr (.inr ⟨"flag", rfl, kF, .inr (.inr (.inr ⟨.inr rfl, rfl, rfl⟩))⟩)) h4
          have zall := zG.trans (z1.trans (zO.trans (z2.trans (z3.trans (z4.trans zU)))))
          have eW5 := zall _ _ eW
          have eD5 := zall _ _ eD
          have hf5 : Fms _ "flag" (fs ++ [V.ref p1, .ref p2, .ref p3, .ref p4]) := fun v hv => by
            rcases List.mem_append.mp hv with hv | hv
            · exact (hf v hv).same zall
            · simp only [List.mem_cons, List.not_mem_nil, or_false] at hv
              rcases hv with rfl | rfl | rfl | rfl
              · exact f1.same (zO.trans (z2.trans (z3.trans (z4.trans zU))))
              · exact f2.same (z3.trans (z4.trans zU))
              · exact f3.same (z4.trans zU)
              · exact f4.same zU
          have T5 := T4.same zall
          have S5 := S4.trans (Same.b t zall)
          refine ⟨D, U, fs, _, rfl, rfl, eD5, upd_same, Nat.le_trans (show fs.length + 4 ≤ 30 by omega) (by decide), fun D2 hD2 => ?_⟩
          have zV := Same.upd (o := .lst (fs ++ [.ref p1, .ref p2, .ref p3, .ref p4])) hD2
          exact ⟨D2, rfl, zV _ _ eW5, ⟨_, upd_same, by rw [List.length_append]; show fs.length + 4 ≤ 9; omega, by rw [List.length_append]; show 1 ≤ fs.length + 4; omega, fun v hv => (hf5 v hv).same zV⟩, T5.same zV, S5.trans (Same.b t zV), T5.tape.ne hD2⟩
        clear eW T4 S4 eD lf l1 hf nD D fs
        rintro σ H6 ⟨D2, rfl, eW6, ⟨gs, eD6, lf6, l1, hf6⟩, T6, S6, _⟩
        have less : FmOk "flag" "less" ["number", "number"] := .inr (.inr ⟨"number", rfl, kN, .inr (.inl ⟨rfl, rfl, rfl⟩)⟩)
        refine ⟨_, rfl, one, fun N hN => ⟨two, fun q1 h1 => ⟨_, rfl, one, fun O2 hO => ⟨two, fun q2 h2 => ⟨_, rfl, two, fun q3 h3 => ⟨three, fun U2 hU2 => ?_⟩⟩⟩⟩⟩⟩
        have zN := Same.upd (o := .lst (vS ["flag"])) hN
        have z1 := Same.upd (o := .tup [.str "not", .ref N]) h1
        have zO := Same.upd (o := .lst (vS [so])) hO
        have z2 := Same.upd (o := .tup [.str "missing", .ref O2]) h2
        have z3 := Same.upd (o := .tup [.str "less", .ref W]) h3
        have zU2 := Same.upd (o := .lst [.ref q1, .ref q2, .ref q3]) hU2
        have f1 := fm_tup (kind := "flag") (w := "not") (ks := ["flag"]) upd_same (.inr (.inl ⟨"flag", rfl, kF, .inl ⟨rfl, rfl, rfl⟩⟩)) h1
        have f2 := fm_tup (kind := "flag") (w := "missing") (ks := [so]) upd_same (.inr (.inl ⟨so, rfl, hso, .inr ⟨rfl, hso, rfl⟩⟩)) h2
        have f3 := fm_tup ((zN.trans (z1.trans (zO.trans z2))) _ _ eW6) less h3
        have zall := zN.trans (z1.trans (zO.trans (z2.trans (z3.trans zU2))))
        refine ⟨D2, U2, gs, _, rfl, rfl, zall _ _ eD6, upd_same, Nat.le_trans (show gs.length + 3 ≤ 30 by omega) (by decide), fun D3 hD3 => ?_⟩
        have zV := Same.upd (o := .lst (gs ++ [.ref q1, .ref q2, .ref q3])) hD3
        refine ⟨D3, some (.ref G), rfl, zV _ _ (zall _ _ eW6), ⟨_, upd_same, by rw [List.length_append]; show gs.length + 3 ≤ 12; omega, by rw [List.length_append]; show 1 ≤ gs.length + 3; omega, fun v hv => ?_⟩, T6.same (zall.trans zV), S6.trans (Same.b t (zall.trans zV)), (T6.same zall).tape.ne hD3⟩
        rcases List.mem_append.mp hv with hv | hv
        · exact (hf6 v hv).same (zall.trans zV)
        · simp only [List.mem_cons, List.not_mem_nil, or_false] at hv
          rcases hv with rfl | rfl | rfl
          · exact f1.same (zO.trans (z2.trans (z3.trans (zU2.trans zV))))
          · exact f2.same (z3.trans (zU2.trans zV))
          · exact f3.same (zU2.trans zV)
      · exact ite_no k1 ⟨D, none, rfl, eW, ⟨fs, eD, by omega, l1, hf⟩, T4, S4, nD⟩
    clear eW T4 S4 eD lf l1 hf nD D fs
    rintro σ H5 ⟨D, x7, rfl, _, ⟨fs, eD, lf, l1, hf⟩, T5, S5, nD⟩
    -- which
    refine ⟨fun σ H' => ∃ at_ : Int, σ = [some (.ref t), some (.ref L), some (.str kind), some (.int ((n : Int) + 1)), some (.str so), some (.ref W), some (.ref D), x7, some (.int at_), none] ∧ 0 ≤ at_ ∧ H' D = some (.lst fs) ∧ Fms H' kind fs ∧ TapeL c H' t ∧ SameB t H H', ?_, ?_⟩
    · refine ⟨_, rfl, _, rfl, D, fs, rfl, .inl (SqL.of eD), _, _, rfl, rfl, t, c, _, rfl, T5, by omega, big1000 (by omega) (by omega), fun a H6 a0 a1 T6 S6 => ?_⟩
      exact ⟨a, rfl, a0, S6 _ _ nD eD, fun v hv => (hf v hv).b T5.tape S6, T6, S5.trans S6⟩
    clear eD hf T5 S5
    rintro σ H6 ⟨a, rfl, a0, eD, hf, T6, S6⟩
    have leaf : spLf [.ref t, .ref L, .str kind] H6 Q E0 := ⟨t, c, L, kind, xs, ps, rfl, hk, T6, hL.b hT.tape S6, hc.b hT.tape S6, l8, fun v d H2 df xp T2 S2 => k v d H2 (df.t T6.tape) (xp.mono (by omega)) T2 (S6.trans S2)⟩
    refine ⟨_, rfl, _, _, rfl, rfl, _, rfl, ite2 (fun _ => iteT ⟨_, rfl, _, rfl, _, rfl, leaf⟩) (fun nd => ⟨_, rfl, _, rfl, D, fs, rfl, .inl (SqL.of eD), _, _, rfl, rfl, _, rfl, ite2 (fun _ => ⟨_, rfl, _, rfl, _, rfl, leaf⟩) (fun na => ?_)⟩)⟩
    obtain ⟨m, rfl⟩ : ∃ m, n = m + 1 := by
      have : ¬ ((n : Int) + 1 ≤ 1) := fun z => nd (decide_eq_true z)
      exact ⟨n - 1, by omega⟩
    have al : a < (fs.length : Int) := by
      have : ¬ ((fs.length : Int) ≤ a) := fun z => na (decide_eq_true z)
      omega
    obtain ⟨v, ev⟩ : ∃ v, fs[a.toNat]? = some v := ⟨_, List.getElem?_eq_getElem (by omega)⟩
    obtain ⟨p, l, wd, ks, rfl, ep, el, fok⟩ := hf v (List.mem_of_getElem? ev)
    obtain ⟨kk, k1, k3⟩ := fok.ks hk
    have eat : atI fs a = some (.ref p) := at_of (j := a.toNat) (by omega) ev
    refine ⟨_, rfl, _, rfl, D, fs, a, .ref p, rfl, rfl, SqL.of eD, eat, p, _, _, .str wd, rfl, rfl, SqT.of ep, at_of (j := 0) rfl rfl, one, fun q hq => ?_⟩
    have zq := Same.upd (o := .tup [.str wd]) hq
    have eq1 : upd H6 q (.tup [.str wd]) q = some (.tup [.str wd]) := upd_same
    have T7 := T6.same zq
    have S7 := S6.trans (Same.b t zq)
    replace eD := zq _ _ eD
    replace ep := zq _ _ ep
    replace el := zq _ _ el
    generalize upd H6 q (.tup [.str wd]) = H7 at eq1 T7 S7 eD ep el ⊢
    clear zq hq T6 S6 leaf hf nd na
    have nl : l ≠ t := ne_tape T7.tape el
    refine ⟨_, rfl, _, rfl, D, fs, a, .ref p, rfl, rfl, SqL.of eD, eat, p, _, _, .ref l, rfl, rfl, SqT.of ep, at_of (j := 1) rfl rfl, l, rfl, ⟨_, SqL.of el⟩, fun G hG => lc_list (K := K) (a := l) (xs := vS ks) (fun i H' => (∃ ys ds, H' G = some (.lst ys) ∧ DhAll (dl t H') ys ds ∧ Xps ps (m + 1) (ks.take i) ds) ∧ TapeL c H' t ∧ SameB t H7 H') ⟨⟨[], [], upd_same, .nil, .nil⟩, T7.same (Same.upd hG), Same.b t (Same.upd hG)⟩ (fun i H' _ pr => SqL.of (pr.2.2 _ _ nl el)) ?_ ?_⟩
    · rintro i y H8 hi ⟨⟨ys, ds, e8, d8, x8⟩, T8, S8⟩
      rw [List.getElem?_map] at hi
      obtain ⟨g, eg, rfl⟩ := Option.map_eq_some_iff.mp hi
      have nG : G ≠ t := T7.tape.ne hG
      have nGc : G ≠ c := by
        obtain ⟨zs, e⟩ := T7.list
        exact (ne_of_none e hG).symm
      have ly := d8.len
      have lx := x8.len
      rw [List.length_take] at lx
      have S08 := S7.trans S8
      refine ⟨rfl, ?_⟩
      dsimp only [tYes]
      refine iteT ?_
      change teXp (m + 1) _ _ _
      refine ⟨_, rfl, _, rfl, _, rfl, _, rfl, _, _, rfl, rfl, t, c, L, g, xs, ps, ?_, kk g (List.mem_of_getElem? eg), T8, hL.b hT.tape S08, hc.b hT.tape S08, l8, fun v d H9 dv xp T9 S9 => ?_⟩
      · show [V.ref t, V.ref L, V.str g, V.int (((m + 1 : Nat) : Int) + 1 - 1)] = _
        rw [show ((m + 1 : Nat) : Int) + 1 - 1 = (m : Int) + 1 by omega]
      have e9 := S9 _ _ nG e8
      refine ⟨ys, e9, Nat.lt_of_le_of_lt (show ys.length ≤ 3 by omega) (by decide), ⟨ys ++ [v], ds ++ [d], upd_same, ?_, ?_⟩, T9.upd nG nGc, fun b o nb e => by
        by_cases q : b = G
        · subst q
          rw [hG] at e
          cases e
        · rw [upd_ne q]
          exact (S8.trans S9) b o nb e⟩
      · exact DhAll.append (dhtA_upd (dtbA d8 S9) x8.noL e9) (.cons (DhT.upd dv xp.noL e9) .nil)
      · rw [List.take_add_one, eg]
        exact x8.snoc xp
    · rintro H8 ⟨⟨ys, ds, e8, d8, x8⟩, T8, S8⟩
      rw [List.length_map, List.take_length] at x8
      have nq : q ≠ t := T7.tape.neT eq1
      have eq8 := S8 _ _ nq eq1
      have ly := d8.len
      have lx := x8.len
      refine ⟨G, ys, rfl, .inl ⟨SqL.of e8, fun r hr => ?_⟩⟩
      have zr := Same.upd (o := .tup ys) hr
      refine ⟨q, r, [.str wd], ys, rfl, rfl, SqT.of (zr _ _ eq8), SqT.of upd_same, Nat.le_trans (show 1 + ys.length ≤ 30 by omega) (by decide), nofun, fun _ e => ?_, fun _ _ s hs => ?_⟩
      · rw [e] at ly
        change 0 = _ at ly
        omega
      have zs := Same.upd (o := .tup ([.str wd] ++ ys)) hs
      have T9 := T8.same zr
      exact k _ _ _ (dh_tupT T9.tape (.cons (.str _) (dtsA d8 zr)) hs) (fm_xp fok x8) (T9.same zs) ((S7.trans S8).trans (Same.b t (zr.trans zs)))
end
end
end K13
set_option Elab.async false
set_option linter.all false
set_option maxRecDepth 100000
set_option maxHeartbeats 4000000
namespace K13
open PySem PySem.Spec PyProof.Rows L2 Lc
abbrev sKo : Stmt := top 23
theorem take_new : ∀ {ps : List (Str × Str)} {i : Nat} {p : Str × Str}, (ps.map (·.1)).Nodup → ps[i]? = some p → ∀ q ∈ ps.take i, q.1 ≠ p.1
  | [], i, p, _, e => by simp at e
  | a :: r, 0, p, _, _ => by simp
  | a :: r, i + 1, p, nd, e => by
    have e' : r[i]? = some p := by simpa using e
    rw [List.map_cons, List.nodup_cons] at nd
    intro q hq
    rw [List.take_succ_cons] at hq
    rcases List.mem_cons.mp hq with rfl | hq
    · exact fun z => nd.1 (List.mem_map.mpr ⟨p, List.mem_of_getElem? e', z.symm⟩)
    · exact take_new nd.2 e' q hq
theorem kdp_put {kvs : List (Key × V)} {ps : List (Str × Str)} {i : Nat} {z k : Str} (nd : (ps.map (·.1)).Nodup) (e : ps[i]? = some (z, k)) (h : KdP kvs (ps.take i)) : KdP (putK kvs (Sum.inr z : Key) (.str k)) (ps.take (i + 1)) := by
  intro z' k' hm
  rw [List.take_add_one, e] at hm
  rw [valV_put]
  rcases List.mem_append.mp hm with hm | hm
  · have ne := take_new nd e _ hm
    rw [if_neg (fun q => ne (by injection q))]
    exact h z' k' hm
  · have q : (z', k') = (z, k) := by simpa using hm
    injection q with q1 q2
    subst q1 q2
    rw [if_pos rfl]
def spKo : Sp := fun vs H Q _ => ∃ (L a : Addr) (xs : List V) (ps : List (Str × Str)) (d : PyData) (k : Str), vs = [.ref L, .ref a] ∧ Rd H L (.tup xs) ∧ Cols H xs ps ∧ (ps.map (·.1)).Nodup ∧ ps.length ≤ 8 ∧ Dh H (.ref a) d ∧ Xp ps 8 k d ∧ ∀ H', Same H H' → Q (.str k) H'
section
variable {P : Program} {w : World} {K : PySem.W.Frag} {mg : Str → Option Value} {base : Heap} {f fK fW : Addr} {fd fdK fdW : FuncData}
abbrev nKo : List Str := ["columns", "expression", "kinds", "name", "kind"]
theorem scKo : FnScope nKo ["columns", "expression"] (defScope sKo) := ⟨rfl, rfl, rfl, by decide +kernel, rfl, by decide +kernel, by decide +kernel⟩
theorem ok_ko (F : Fun K "kind_of" "kind_of" sKo f fd) (GK : FnOk P w K mg base CX0 13 fK fdK pKa (spKa 8)) (mK : mg "kind_at" = some (.ref fK)) (kK : PySem.W.keepIn K (.ref fK) = true) (bK : Binds K fdK pKa []) : FnOk P w K mg base CX0 14 f fd ["columns", "expression"] spKo := by
  refine F.ok scKo (fun vs H Q E h => ?_) (fun cdv A outer s H vs Q E hr h => ?_)
  · obtain ⟨L, a, xs, ps, d, k, rfl, _⟩ := h
    rfl
  · obtain ⟨L, a, xs, ps, d, kd, rfl, hL, hc, nd, l8, hd, xp, k⟩ := h
    refine ⟨_, pss_cons (ps_setDc (i := 2) (own := [("name", 3), ("kind", 4)]) (g := gTup K 2 (gCons (gName 3) (gCons (gName 4) gNil))) (tt := tYes) (tk := tVar 3) (tv := tVar 4) (by rfl) scKo.nd rfl rfl (sw_dict rfl rfl rfl (by decide +kernel)) (pi_tup (pv 0)) (blkOk_by (own := [("name", 3), ("kind", 4)]) (N := nKo) (sc := defScope sKo) (by decide +kernel))
        (fun _ _ _ _ _ => pg_tup rfl (pgs_cons (pg_name (i := 3) scKo.nd rfl (.inl rfl)) (pgs_cons (pg_name (i := 4) scKo.nd rfl (.inl rfl)) pgs_nil))) (fun _ _ _ _ _ => pts_nil) (fun _ _ _ _ _ => pv 3) (fun _ _ _ _ _ => pv 4))
      (pss_one (ps_ret (pe_call GK hr (by rfl) mK kK bK .nil pass0 (pa_cons (pv 2) (pa_cons (pv 1) (pa_cons (pe_tup pa_nil) pa_nil)))))), ?_⟩
    refine ⟨_, rfl, L, rfl, ⟨_, hL.sq⟩, fun D hD => dc_tup (K := K) (a := L) (xs := xs) (fun i H' => ∃ kvs, H' D = some (.dK kvs) ∧ kvs.length ≤ i ∧ KdP kvs (ps.take i) ∧ Same H H') ⟨[], upd_same, Nat.le_refl _, fun _ _ hm => by simp at hm, Same.upd hD⟩ (fun i H' _ p => by obtain ⟨_, _, _, _, s'⟩ := p; exact (hL.same s').sq) ?_ ?_⟩
    · rintro i x H1 hx ⟨kvs, hD1, ln, kp, s1⟩
      obtain ⟨q, z, kk, rfl, ea, ep⟩ := hc.get _ _ hx
      have hi : i < xs.length := (List.getElem?_eq_some_iff.mp hx).1
      have lx := hc.len
      refine ⟨q, _, rfl, SqT.of (s1 _ _ ea), rfl, _, _, rfl, _, _, rfl, rfl, rfl, ?_⟩
      dsimp only [tYes]
      refine iteT ⟨_, rfl, _, rfl, kvs, Sum.inr z, rfl, hD1, Nat.lt_of_le_of_lt (show _ ≤ 8 by omega) (by decide), _, upd_same, Nat.le_trans (length_putK _ _ _) (by omega), kdp_put nd ep kp, fun b o e => by rw [upd_ne (ne_of_none e hD)]; exact s1 b o e⟩
    · rintro H1 ⟨kvs, hD1, ln, kp, s1⟩
      rw [hc.len, List.take_length] at kp
      refine ⟨_, rfl, _, rfl, by show 0 ≤ sizeLine; decide, fun t ht => ?_⟩
      have zt := Same.upd (o := .tup []) ht
      exact ⟨D, a, t, kvs, ps, [], d, kd, rfl, zt _ _ hD1, kp, hd.same (s1.trans zt), xp, upd_same, Nat.le_refl _, fun H' s' => k H' ((s1.trans zt).trans s')⟩
end
end K13
set_option Elab.async false
set_option linter.all false
set_option maxRecDepth 100000
set_option maxHeartbeats 4000000
namespace K13
open PySem PySem.Spec PyProof.Rows L2 Lc
/-! ## the columns behind a step -/
def spBt : Sp := fun vs H Q _ => ∃ n lo hi : Int, vs = [.int n, .int lo, .int hi] ∧ Q (.bl (decide (lo ≤ n) && decide (n ≤ hi))) H
def spWd : Sp := fun vs H Q _ => ∃ (p : Addr) (z : Str) (xs : List V), vs = [.ref p] ∧ H p = some (.tup (.str z :: xs)) ∧ xs.length < 1000 ∧ Q (.str z) H
def spTo : Sp := fun vs H Q _ => ∃ (p : Addr) (xs : List V) (lo hi : Int), vs = [.ref p, .int lo, .int hi] ∧ H p = some (.tup xs) ∧ Q (.bl (decide (lo ≤ (xs.length : Int)) && decide ((xs.length : Int) ≤ hi))) H
def kdV (ps : CsL) (x : Str) : V := if x ∈ nms ps then .str (kdOf ps x) else .non
theorem kdV_in {ps : CsL} {x : Str} (h : x ∈ nms ps) : kdV ps x = .str (kdOf ps x) := if_pos h
theorem kdV_no {ps : CsL} {x : Str} (h : x ∉ nms ps) : kdV ps x = .non := if_neg h
def spKi : Sp := fun vs H Q _ => ∃ (L : Addr) (ps : CsL) (x : Str), vs = [.ref L, .str x] ∧ CA H L ps ∧ (nms ps).Nodup ∧ Q (kdV ps x) H
def spAc : Sp := fun vs H Q _ => ∃ (L p : Addr) (ps : CsL) (ns : List Str), vs = [.ref L, .ref p] ∧ CA H L ps ∧ ColP ps ∧ H p = some (.tup (vS ns)) ∧ (∀ n ∈ ns, n ∈ nms ps) ∧ ns.Nodup ∧ ns.length ≤ 8 ∧ ∀ H', Same H H' → Q (.bl true) H'
def spBd : Sp := fun vs H Q _ => ∃ (L : Addr) (ps : CsL), vs = [.ref L] ∧ CA H L ps ∧ ps.length ≤ 8 ∧ Q (.ref L) H
/-- the tables' columns -/
abbrev OsL : Type := List (Str × CsL)
inductive TabC (H : Hp) : List (Key × V) → OsL → Prop
  | nil : TabC H [] []
  | cons {n : Str} {cs : CsL} {C : Addr} {kvs : List (Key × V)} {os : OsL} (ca : CA H C cs) (r : TabC H kvs os) : TabC H ((Sum.inr n, .ref C) :: kvs) ((n, cs) :: os)
theorem TabC.same {H H' : Hp} (s : Same H H') : ∀ {kvs : List (Key × V)} {os : OsL}, TabC H kvs os → TabC H' kvs os
  | _, _, .nil => .nil
  | _, _, .cons ca r => .cons (ca.same s) (TabC.same s r)
theorem TabC.b {t : Addr} {H H' : Hp} (T : Tape H t) (s : SameB t H H') : ∀ {kvs : List (Key × V)} {os : OsL}, TabC H kvs os → TabC H' kvs os
  | _, _, .nil => .nil
  | _, _, .cons ca r => .cons (ca.b T s) (TabC.b T s r)
theorem TabC.at {H : Hp} {x : Str} {cs : CsL} : ∀ {kvs : List (Key × V)} {os : OsL}, TabC H kvs os → (os.map (·.1)).Nodup → (x, cs) ∈ os → ∃ C, valV kvs (Sum.inr x : Key) = some (.ref C) ∧ CA H C cs
  | _, _, .nil, _, h => by cases h
  | _, _, .cons (n := n) (C := C) ca r, nd, h => by
    rw [List.map_cons, List.nodup_cons] at nd
    rcases List.mem_cons.mp h with h | h
    · injection h with h1 h2
      subst h1
      subst h2
      exact ⟨C, valV_pos rfl, ca⟩
    · have ne : n ≠ x := fun e => nd.1 (by rw [e]; exact List.mem_map_of_mem (f := (·.1)) h)
      obtain ⟨C', h1, h2⟩ := TabC.at r nd.2 h
      exact ⟨C', by rw [valV_neg (fun w => ne (by injection w))]; exact h1, h2⟩
structure WdP (os : OsL) : Prop where
  ok : ∀ o ∈ os, nmS o.1 ∧ Sh 12 o.1 ∧ ColP o.2
  nd : (os.map (·.1)).Nodup
  l : os.length ≤ 10
/-- what a step of the word w leads to -/
def spBeh (wd : Str) : Sp := fun vs H Q _ => ∃ (D0 : Addr) (kvs : List (Key × V)) (os : OsL) (cv p : Addr) (ps qs : CsL) (st : Ps), vs = [.ref D0, .ref cv, .ref p] ∧ H D0 = some (.dK kvs) ∧ TabC H kvs os ∧ WdP os ∧ CA H cv ps ∧ ColP ps ∧ Dh H (.ref p) st.d ∧ Lead os ps st qs ∧ st.w = wd ∧ ∀ (cv' : Addr) (H' : Hp), Same H H' → CA H' cv' qs → Q (.ref cv') H'
theorem take_nodup {ns : List Str} {i : Nat} {g : Str} (nd : ns.Nodup) (e : ns[i]? = some g) : g ∉ ns.take i := fun h => by
  have e2 : ns = ns.take i ++ ns.drop i := (List.take_append_drop i ns).symm
  rw [e2, List.nodup_append] at nd
  have hd : g ∈ ns.drop i := by
    obtain ⟨l, rfl⟩ := List.getElem?_eq_some_iff.mp e
    exact List.mem_iff_getElem?.mpr ⟨0, by rw [List.getElem?_drop]; simpa using List.getElem?_eq_getElem l⟩
  exact nd.2.2 g h g hd rfl
section
variable {P : Program} {w : World} {K : PySem.W.Frag} {mg : Str → Option Value} {base : Heap} {f : Addr} {fd : FuncData}
abbrev sBt : Stmt := top 46
abbrev nBt : List Str := ["value", "low", "high"]
abbrev pBt : List Str := ["value", "low", "high"]
theorem scBt : FnScope nBt pBt (defScope sBt) := ⟨rfl, rfl, rfl, by decide +kernel, rfl, by decide +kernel, by decide +kernel⟩
section
variable {fA_ : Addr} {fdA_ : FuncData}
theorem ok_Bt (F : Fun K "is_between" "is_between" sBt f fd) (T : Bt mg)
    (GA_ : FnOk P w K mg base CX0 1 fA_ fdA_ ["value"] (spWhole)) (mA_ : mg "is_whole" = some (.ref fA_)) (kA_ : PySem.W.keepIn K (.ref fA_) = true) (bA_ : Binds K fdA_ ["value"] []) : FnOk P w K mg base CX0 2 f fd pBt (spBt) := by
  refine F.ok scBt (fun vs H Q E h => ?_) (fun cdv A outer s H vs Q E hr h => ?_)
  · obtain ⟨n, lo, hi, rfl, _⟩ := h
    rfl
  · obtain ⟨n, lo, hi, rfl, k⟩ := h
    have hrA_ : Room (1) _ := hr.mono (by first | decide | omega)
    refine ⟨_, (pss_one (ps_ret (pe_and (pe_call GA_ hrA_ (by rfl) mA_ kA_ bA_ .nil pass0 (pa_cons (pv 0) pa_nil)) (pe_one (pe_chain op_le op_le (pv 1) (pv 0) (pv 2)))))), ?_⟩
    refine ⟨_, rfl, .int n, "int", rfl, .int n, _, rfl, iteT ⟨_, rfl, _, rfl, _, _, rfl, rfl, _, rfl, ite2 (fun q => ?_) (fun q => ?_)⟩⟩
    · refine ⟨_, rfl, _, _, rfl, rfl, ?_⟩
      rw [q, Bool.true_and] at k
      exact k
    · have q : decide (lo ≤ n) = false := by simpa using q
      rw [q, Bool.false_and] at k
      exact k
end
abbrev sWd : Stmt := top 65
abbrev nWd : List Str := ["step"]
abbrev pWd : List Str := ["step"]
theorem scWd : FnScope nWd pWd (defScope sWd) := ⟨rfl, rfl, rfl, by decide +kernel, rfl, by decide +kernel, by decide +kernel⟩
section
theorem ok_Wd (F : Fun K "word_of" "word_of" sWd f fd) (T : Bt mg) : FnOk P w K mg base CX0 1 f fd pWd (spWd) := by
  refine F.ok scWd (fun vs H Q E h => ?_) (fun cdv A outer s H vs Q E hr h => ?_)
  · obtain ⟨p, z, xs, rfl, _⟩ := h
    rfl
  · obtain ⟨p, z, xs, rfl, hp, lx, k⟩ := h
    refine ⟨_, (pss_cons (ps_if (PW.pt (pw_and (pt_val (pe_callB call_isi (by rfl) T.isi boot_isinstance (pa_cons (pv 0) (pa_cons (pe_bltn (v := .ty "tuple") (by rfl) T.tuple boot_tuple rfl) pa_nil)))) (pw_and (pt_cmpR op_gt (pe_callB call_len_seq (by rfl) T.len PySem.boot_len (pa_cons (pv 0) pa_nil)) pe_int (nomark _)) (pw_and1 (pt_val (pe_callB call_isi (by rfl) T.isi boot_isinstance (pa_cons (pe_ix ix_tup (pv 0) pe_int (fun _ _ => rfl)) (pa_cons (pe_bltn (v := .ty "str") (by rfl) T.str boot_str rfl) pa_nil)))))))) (pss_one (ps_ret (pe_ix ix_tup (pv 0) pe_int (fun _ _ => rfl)))) pss_nil)
      (pss_one (ps_ret pe_non))), ?_⟩
    have at0 : ∀ (p : Addr), ∃ q, q = p := fun p => ⟨p, rfl⟩
    refine ⟨_, rfl, .ref p, .ty "tuple", _, _, _, rfl, .ty "tuple", (TyN.tup hp).x, kit_tuple (TyN.tup hp).mem, _, rfl, iteT ?_⟩
    refine ⟨_, rfl, p, _, rfl, .inr (SqT.of hp), _, _, rfl, rfl, _, rfl, ?_⟩
    rw [decide_eq_true (show (0 : Int) < ((V.str z :: xs).length : Int) by rw [List.length_cons]; omega)]
    refine iteT ⟨_, rfl, p, _, _, .str z, rfl, rfl, SqT.of hp, at_of (j := 0) rfl rfl, .str z, .ty "str", _, _, _, rfl, .ty "str", (TyN.str z).x, kit_str (TyN.str (H := H) z).mem, _, rfl, iteT ?_⟩
    exact ⟨_, rfl, p, _, _, .str z, rfl, rfl, SqT.of hp, at_of (j := 0) rfl rfl, k⟩
end
abbrev sTo : Stmt := top 47
abbrev nTo : List Str := ["value", "low", "high"]
abbrev pTo : List Str := ["value", "low", "high"]
theorem scTo : FnScope nTo pTo (defScope sTo) := ⟨rfl, rfl, rfl, by decide +kernel, rfl, by decide +kernel, by decide +kernel⟩
section
theorem ok_To (F : Fun K "is_tuple_of" "is_tuple_of" sTo f fd) (T : Bt mg) : FnOk P w K mg base CX0 1 f fd pTo (spTo) := by
  refine F.ok scTo (fun vs H Q E h => ?_) (fun cdv A outer s H vs Q E hr h => ?_)
  · obtain ⟨p, xs, lo, hi, rfl, _⟩ := h
    rfl
  · obtain ⟨p, xs, lo, hi, rfl, hp, k⟩ := h
    refine ⟨_, (pss_one (ps_ret (pe_and (pe_callB call_isi (by rfl) T.isi boot_isinstance (pa_cons (pv 0) (pa_cons (pe_bltn (v := .ty "tuple") (by rfl) T.tuple boot_tuple rfl) pa_nil))) (pe_one (pe_chain op_le op_le (pv 1) (pe_callB call_len_seq (by rfl) T.len PySem.boot_len (pa_cons (pv 0) pa_nil)) (pv 2)))))), ?_⟩
    refine ⟨_, rfl, .ref p, .ty "tuple", _, _, _, rfl, .ty "tuple", (TyN.tup hp).x, kit_tuple (TyN.tup hp).mem, _, rfl, iteT ⟨_, rfl, _, rfl, p, _, rfl, .inr (SqT.of hp), _, _, rfl, rfl, _, rfl, ite2 (fun q => ?_) (fun q => ?_)⟩⟩
    · refine ⟨_, rfl, _, _, rfl, rfl, ?_⟩
      rw [q, Bool.true_and] at k
      exact k
    · have q : decide (lo ≤ (xs.length : Int)) = false := by simpa using q
      rw [q, Bool.false_and] at k
      exact k
end
abbrev sKi : Stmt := top 48
abbrev nKi : List Str := ["columns", "name", "called", "kind"]
abbrev pKi : List Str := ["columns", "name"]
theorem scKi : FnScope nKi pKi (defScope sKi) := ⟨rfl, rfl, rfl, by decide +kernel, rfl, by decide +kernel, by decide +kernel⟩
section
theorem ok_Ki (F : Fun K "kind_in" "kind_in" sKi f fd) (T : Bt mg) : FnOk P w K mg base CX0 1 f fd pKi (spKi) := by
  refine F.ok scKi (fun vs H Q E h => ?_) (fun cdv A outer s H vs Q E hr h => ?_)
  · obtain ⟨L, ps, x, rfl, _⟩ := h
    rfl
  · obtain ⟨L, ps, x, rfl, hL, cp, k⟩ := h
    refine ⟨_, (pss_cons (ps_for PassesOwn.never rfl (pi_tup (pv 0)) (pg_tup rfl (pgs_cons (pg_name (i := 2) scKi.nd rfl (.inl rfl)) (pgs_cons (pg_name (i := 3) scKi.nd rfl (.inl rfl)) pgs_nil))) (pss_one (ps_if (pt_cmpR op_eq (pv 2) (pv 1) (nomark _)) (pss_one (ps_ret (pv 3))) pss_nil)))
      (pss_one (ps_ret pe_non))), ?_⟩
    obtain ⟨xs, zL, cc⟩ := hL
    refine ⟨_, rfl, L, rfl, ⟨_, zL.sq⟩, for_tup (K := K) (a := L) (xs := xs) (fun i σ H' => (∃ x2 x3 : Option V, σ = [some (.ref L), some (.str x), x2, x3]) ∧ H' = H ∧ ∀ p ∈ ps.take i, p.1 ≠ x) ⟨⟨none, none, rfl⟩, rfl, fun p hp => by simp at hp⟩ (fun i σ H' _ pr => by rw [pr.2.1]; exact zL.sq) ?_ ?_⟩
    · rintro i y σ H2 hy ⟨⟨x2, x3, rfl⟩, rfl, hno⟩
      obtain ⟨a, z, kk, rfl, ea, ep⟩ := cc.get _ _ hy
      refine ⟨a, _, rfl, SqT.of ea, rfl, _, _, rfl, _, _, rfl, rfl, ?_⟩
      dsimp only [gNil]
      refine ⟨_, rfl, _, rfl, rfl, _, rfl, ?_⟩
      by_cases q : z = x
      · rw [show decide (V.str z = V.str x) = true by rw [q]; exact decide_eq_true rfl]
        refine iteT ⟨_, rfl, ?_⟩
        have hm := List.mem_of_getElem? ep
        have hx : x ∈ nms ps := by rw [← q]; exact List.mem_map_of_mem hm
        rw [kdV_in hx, ← q, kdOf_mem cp hm] at k
        exact k
      · rw [show decide (V.str z = V.str x) = false from decide_eq_false (fun h => q (by injection h))]
        refine iteF ⟨⟨_, _, rfl⟩, rfl, fun p hp => ?_⟩
        rw [List.take_add_one, ep] at hp
        rcases List.mem_append.mp hp with hp | hp
        · exact hno p hp
        · rw [Option.toList_some, List.mem_singleton] at hp
          rw [hp]
          exact q
    · rintro σ H2 ⟨⟨x2, x3, rfl⟩, rfl, hno⟩
      rw [cc.len, List.take_length] at hno
      have hx : x ∉ nms ps := fun h => by
        obtain ⟨p, hp, e⟩ := List.mem_map.mp h
        exact hno p hp e
      rw [kdV_no hx] at k
      exact k
end
abbrev sAc : Stmt := top 49
abbrev nAc : List Str := ["columns", "names", "seen", "name"]
abbrev pAc : List Str := ["columns", "names"]
theorem scAc : FnScope nAc pAc (defScope sAc) := ⟨rfl, rfl, rfl, by decide +kernel, rfl, by decide +kernel, by decide +kernel⟩
section
variable {fA_ : Addr} {fdA_ : FuncData}
theorem ok_Ac (F : Fun K "are_columns" "are_columns" sAc f fd) (T : Bt mg)
    (GA_ : FnOk P w K mg base CX0 1 fA_ fdA_ ["columns", "name"] (spKi)) (mA_ : mg "kind_in" = some (.ref fA_)) (kA_ : PySem.W.keepIn K (.ref fA_) = true) (bA_ : Binds K fdA_ ["columns", "name"] []) : FnOk P w K mg base CX0 2 f fd pAc (spAc) := by
  refine F.ok scAc (fun vs H Q E h => ?_) (fun cdv A outer s H vs Q E hr h => ?_)
  · obtain ⟨L, p, ps, ns, rfl, _⟩ := h
    rfl
  · obtain ⟨L, p, ps, ns, rfl, hL, cp, hp, hn, nd, k⟩ := h
    have hrA_ : Room (1) _ := hr.mono (by first | decide | omega)
    refine ⟨_, (pss_cons (ps_set (i := 2) scAc.nd rfl (Or.inl rfl) (pe_lst pa_nil))
      (pss_cons (ps_for PassesOwn.never rfl (pi_tup (pv 1)) (pg_name (i := 3) scAc.nd rfl (.inl rfl)) (pss_cons (ps_if (PW.pt (pw_or (pt_cmpR op_in_seq (pv 3) (pv 2) (by rfl)) (pw_or1 (pt_cmpR op_isN (pe_call GA_ hrA_ (by rfl) mA_ kA_ bA_ .nil pass0 (pa_cons (pv 0) (pa_cons (pv 3) pa_nil))) pe_non (nomark _))))) (pss_one (ps_ret pe_bl)) pss_nil)
      (pss_one (ps_expr (pe_bm PySem.F.plainAttrs_list PySem.F.slot_list_append PySem.F.type_list_append mt_append (pv 2) (pa_cons (pv 3) pa_nil))))))
      (pss_one (ps_ret pe_bl)))), ?_⟩
    obtain ⟨n8, k⟩ := k
    refine ⟨Nat.zero_le _, fun S hS => ?_⟩
    have zS := Same.upd (o := .lst []) hS
    refine ⟨_, rfl, p, rfl, ⟨_, SqT.of (zS _ _ hp)⟩, for_tup (K := K) (a := p) (xs := vS ns) (fun i σ H' => (∃ x3 : Option V, σ = [some (.ref L), some (.ref p), some (.ref S), x3]) ∧ H' S = some (.lst (vS (ns.take i))) ∧ Same H H') ⟨⟨none, rfl⟩, upd_same, zS⟩ (fun i σ H' _ pr => SqT.of (pr.2.2 _ _ hp)) ?_ ?_⟩
    · rintro i y σ H2 hy ⟨⟨x3, rfl⟩, eS, s2⟩
      rw [List.getElem?_map] at hy
      obtain ⟨g, eg, rfl⟩ := Option.map_eq_some_iff.mp hy
      have gm := hn g (List.mem_of_getElem? eg)
      have fl : (vS (ns.take i)).all flatV = true := List.all_eq_true.mpr fun v hv => by
        obtain ⟨x, _, rfl⟩ := List.mem_map.mp hv
        rfl
      refine ⟨_, rfl, _, rfl, S, _, rfl, .inl (SqL.of eS), rfl, fl, _, rfl, ?_⟩
      rw [in_strs, decide_eq_false (take_nodup nd eg)]
      refine iteF ⟨_, rfl, _, rfl, L, ps, g, rfl, hL.same s2, cp.nd, ?_⟩
      rw [kdV_in gm]
      refine ⟨rfl, _, rfl, iteF ⟨_, rfl, .inl ⟨rfl, _, SqL.of eS⟩, _, rfl, S, _, _, rfl, rfl, eS, lt_size (by rw [List.length_map, List.length_take]; omega), ⟨⟨_, rfl⟩, ?_, fun b o e => by rw [upd_ne (ne_of_none e hS)]; exact s2 b o e⟩⟩⟩
      rw [upd_same, List.take_add_one, eg]
      unfold vS
      rw [List.map_append]
      rfl
    · rintro σ H2 ⟨⟨x3, rfl⟩, eS, s2⟩
      exact k H2 s2
end
abbrev sBd : Stmt := top 50
abbrev nBd : List Str := ["columns"]
abbrev pBd : List Str := ["columns"]
theorem scBd : FnScope nBd pBd (defScope sBd) := ⟨rfl, rfl, rfl, by decide +kernel, rfl, by decide +kernel, by decide +kernel⟩
section
theorem ok_Bd (F : Fun K "bounded" "bounded" sBd f fd) (T : Bt mg) {u8 : Tok} (m8 : mg "MOST_COLUMNS" = some (.int 8 u8)) : FnOk P w K mg base CX0 1 f fd pBd (spBd) := by
  refine F.ok scBd (fun vs H Q E h => ?_) (fun cdv A outer s H vs Q E hr h => ?_)
  · obtain ⟨L, ps, rfl, _⟩ := h
    rfl
  · obtain ⟨L, ps, rfl, hL, l8, k⟩ := h
    refine ⟨_, (pss_one (ps_ret (pe_ifExp (pt_cmpR op_le (pe_callB call_len_seq (by rfl) T.len PySem.boot_len (pa_cons (pv 0) pa_nil)) (pe_glob (v := .int 8) (by rfl) m8 ⟨_, rfl⟩) (nomark _)) (pv 0) pe_non))), ?_⟩
    obtain ⟨xs, zL, cc⟩ := hL
    have lx := cc.len
    refine ⟨_, rfl, L, _, rfl, .inr zL.sq, _, _, rfl, rfl, _, rfl, ?_⟩
    rw [decide_eq_true (show (xs.length : Int) ≤ 8 by omega)]
    exact iteT ⟨_, rfl, k⟩
end
abbrev sKn : Stmt := top 24
abbrev nKn : List Str := ["columns", "expression"]
abbrev pKn : List Str := ["columns", "expression"]
theorem scKn : FnScope nKn pKn (defScope sKn) := ⟨rfl, rfl, rfl, by decide +kernel, rfl, by decide +kernel, by decide +kernel⟩
section
variable {fA_ C : Addr} {fdA_ : FuncData}
theorem ok_Kn (F : Fun K "kind_or_none" "kind_or_none" sKn f fd) (T : Bt mg) (gC : mg "BadExpression" = some (.ref C))
    (GA_ : FnOk P w K mg base CX0 14 fA_ fdA_ ["columns", "expression"] (spKo)) (mA_ : mg "kind_of" = some (.ref fA_)) (kA_ : PySem.W.keepIn K (.ref fA_) = true) (bA_ : Binds K fdA_ ["columns", "expression"] []) : FnOk P w K mg base CX0 15 f fd pKn (spKo) := by
  refine F.ok scKn (fun vs H Q E h => ?_) (fun cdv A outer s H vs Q E hr h => ?_)
  · obtain ⟨L, a, xs, ps, d, kd, rfl, _⟩ := h
    rfl
  · have h0 := h
    obtain ⟨L, a, xs, ps, d, kd, rfl, _⟩ := h
    have hrA_ : Room (14) _ := hr.mono (by first | decide | omega)
    refine ⟨_, pss_one (ps_tryL (Wout := fun _ _ _ _ => False) (tb := fun W => tRet (tCall spKo [] E0 (tCons (tVar 0) (tCons (tVar 1) tNil)))) (l := [⟨.ref C, none, fun _ _ _ => tRet (tC .non)⟩]) rfl rfl takes0
        (fun W pn xe tk _ => pss_one (ps_ret (pe_call GA_ hrA_ (by rfl) mA_ kA_ bA_ .nil pass0 (pa_cons (pv 0) (pa_cons (pv 1) pa_nil)))))
        (.bare ⟨rfl, by decide, Or.inl gC⟩ rfl (fun a ob cls d pn hz hf => pss_one (ps_ret pe_non)) .nil)), ?_⟩
    exact ⟨_, rfl, _, rfl, h0⟩
end
/-! the parts of a step -/
theorem dh2 {H : Hp} {p : Addr} {a : Str} {b : PyData} (h : Dh H (.ref p) (.tuple [.str a, b])) : ∃ v, H p = some (.tup [.str a, v]) ∧ Dh H v b := by
  cases h with
  | tup e hs => cases hs with
    | cons h1 r1 => cases r1 with
      | cons h2 r2 => cases r2; cases h1; exact ⟨_, e, h2⟩
theorem dh3 {H : Hp} {p : Addr} {a b : Str} {c : PyData} (h : Dh H (.ref p) (.tuple [.str a, .str b, c])) : ∃ v, H p = some (.tup [.str a, .str b, v]) ∧ Dh H v c := by
  cases h with
  | tup e hs => cases hs with
    | cons h1 r1 => cases r1 with
      | cons h2 r2 => cases r2 with
        | cons h3 r3 => cases r3; cases h1; cases h2; exact ⟨_, e, h3⟩
theorem dh4 {H : Hp} {p : Addr} {a : Str} {b c d : Int} (h : Dh H (.ref p) (.tuple [.str a, .int b, .int c, .int d])) : H p = some (.tup [.str a, .int b, .int c, .int d]) := by
  cases h with
  | tup e hs => cases hs with
    | cons h1 r1 => cases r1 with
      | cons h2 r2 => cases r2 with
        | cons h3 r3 => cases r3 with
          | cons h4 r4 => cases r4; cases h1; cases h2; cases h3; cases h4; exact e
theorem xp_ref {H : Hp} {ps : CsL} {n : Nat} {k : Str} {d : PyData} {v : V} (h : Dh H v d) (x : Xp ps n k d) : ∃ a, v = .ref a := by
  cases x <;> cases h <;> exact ⟨_, rfl⟩
def Ps.len : Ps → Nat
  | .keep _ => 2
  | .set _ _ => 3
  | .select _ => 2
  | .rename _ _ => 3
  | .sort _ _ => 3
  | .first _ => 2
  | .sample _ _ _ => 4
  | .join _ _ => 3
  | .union _ => 2
  | .distinct => 1
  | .group _ _ => 3
theorem dh1 {H : Hp} {p : Addr} {a : Str} (h : Dh H (.ref p) (.tuple [.str a])) : H p = some (.tup [.str a]) := by
  cases h with
  | tup e hs => cases hs with
    | cons h1 r1 => cases r1; cases h1; exact e
theorem dh3g {H : Hp} {p : Addr} {a : Str} {b c : PyData} (h : Dh H (.ref p) (.tuple [.str a, b, c])) : ∃ v u, H p = some (.tup [.str a, v, u]) ∧ Dh H v b ∧ Dh H u c := by
  cases h with
  | tup e hs => cases hs with
    | cons h1 r1 => cases r1 with
      | cons h2 r2 => cases r2 with
        | cons h3 r3 => cases r3; cases h1; exact ⟨_, _, e, h2, h3⟩
theorem ps_at {H : Hp} {p : Addr} {st : Ps} (h : Dh H (.ref p) st.d) : ∃ xs : List V, H p = some (.tup (.str st.w :: xs)) ∧ xs.length + 1 = st.len := by
  cases st with
  | keep e => obtain ⟨v, e, _⟩ := dh2 h; exact ⟨_, e, rfl⟩
  | set x e => obtain ⟨v, e, _⟩ := dh3 h; exact ⟨_, e, rfl⟩
  | select ns => obtain ⟨v, e, _⟩ := dh2 h; exact ⟨_, e, rfl⟩
  | rename a b => obtain ⟨v, e, _⟩ := dh3 h; exact ⟨_, e, rfl⟩
  | sort a u => obtain ⟨v, e, _⟩ := dh3 h; exact ⟨_, e, rfl⟩
  | first n => obtain ⟨v, e, _⟩ := dh2 h; exact ⟨_, e, rfl⟩
  | sample n w s => exact ⟨_, dh4 h, rfl⟩
  | join t ks => obtain ⟨v, e, _⟩ := dh3 h; exact ⟨_, e, rfl⟩
  | union t => obtain ⟨v, e, _⟩ := dh2 h; exact ⟨_, e, rfl⟩
  | distinct => exact ⟨_, dh1 h, rfl⟩
  | group ks ts => obtain ⟨v, u, e, _⟩ := dh3g h; exact ⟨_, e, rfl⟩
theorem nm_len {x : Str} (h : Sh 12 x) : ∀ y, V.str x = V.str y → y.length ≤ sizeLine := fun y e => by
  injection e with e
  rw [← e]
  exact Nat.le_trans h.len (by decide)
abbrev teBe (K : PySem.W.Frag) : TE := tIf (tTest (tOp rEq (tOp (rIxT K) (tVar 7) (tC (.int 0))) (tVar 4))) (tTup (tCons (tVar 4) (tCons (tVar 6) tNil))) (tVar 7)
abbrev teBl : TE := tTup (tCons (tVar 4) (tCons (tCall spKi [] E0 (tCons (tVar 1) (tCons (tVar 4) tNil))) tNil))
abbrev teBr : TE := tIf (tTest (tOp rEq (tVar 6) (tVar 4))) (tTup (tCons (tVar 5) (tCons (tVar 7) tNil))) (tTup (tCons (tVar 6) (tCons (tVar 7) tNil)))
/-- a column put at the end of the new ones -/
theorem col_put {H H1 H2 : Hp} {D p : Addr} {ys : List V} {qs : CsL} {z k : Str} (hD : H D = none) (e1 : H1 D = some (.lst ys)) (c1 : Cols H1 ys qs) (l : ys.length ≤ 100) (s1 : Same H H1) (s2 : Same H1 H2) (hp : H2 p = some (.tup [.str z, .str k])) :
    ∃ acc, H2 D = some (.lst acc) ∧ acc.length < sizeLine ∧ ((∃ ys', upd H2 D (.lst (acc ++ [.ref p])) D = some (.lst ys') ∧ Cols (upd H2 D (.lst (acc ++ [.ref p]))) ys' (qs ++ [(z, k)])) ∧ Same H (upd H2 D (.lst (acc ++ [.ref p])))) := by
  have e3 := s2 _ _ e1
  refine ⟨ys, e3, lt_size (by omega), ⟨ys ++ [.ref p], upd_same, ?_⟩, fun b o e => by rw [upd_ne (ne_of_none e hD)]; exact s2 _ _ (s1 _ _ e)⟩
  exact ((c1.t (SameT.of s2)).app (.cons hp .nil)).t (SameT.lst e3)
abbrev sBk : Stmt := top 51
abbrev nBk : List Str := ["tables", "columns", "step"]
abbrev pBk : List Str := ["tables", "columns", "step"]
theorem scBk : FnScope nBk pBk (defScope sBk) := ⟨rfl, rfl, rfl, by decide +kernel, rfl, by decide +kernel, by decide +kernel⟩
section
variable {fA_ : Addr} {fdA_ : FuncData}
theorem ok_Bk (F : Fun K "behind_keep" "behind_keep" sBk f fd) (T : Bt mg)
    (GA_ : FnOk P w K mg base CX0 15 fA_ fdA_ ["columns", "expression"] (spKo)) (mA_ : mg "kind_or_none" = some (.ref fA_)) (kA_ : PySem.W.keepIn K (.ref fA_) = true) (bA_ : Binds K fdA_ ["columns", "expression"] []) : FnOk P w K mg base CX0 16 f fd pBk ((spBeh "keep")) := by
  refine F.ok scBk (fun vs H Q E h => ?_) (fun cdv A outer s H vs Q E hr h => ?_)
  · obtain ⟨D0, kvs, os, cv, p, ps, qs, st, rfl, _⟩ := h
    rfl
  · obtain ⟨D0, kvs, os, cv, p, ps, qs, st, rfl, hD0, hO, wO, hL, cp, hd, ld, hw, k⟩ := h
    have hrA_ : Room (15) _ := hr.mono (by first | decide | omega)
    refine ⟨_, (pss_one (ps_ret (pe_ifExp (pt_cmpR op_eq (pe_call GA_ hrA_ (by rfl) mA_ kA_ bA_ .nil pass0 (pa_cons (pv 1) (pa_cons (pe_ix ix_tup (pv 2) pe_int (fun _ _ => rfl)) pa_nil))) pe_str (nomark _)) (pv 1) pe_non))), ?_⟩
    cases st with
    | set x e => exact absurd hw (by show ¬ ("set" : Str) = "keep"; decide +kernel)
    | select ns => exact absurd hw (by show ¬ ("select" : Str) = "keep"; decide +kernel)
    | rename a b => exact absurd hw (by show ¬ ("rename" : Str) = "keep"; decide +kernel)
    | sort a u => exact absurd hw (by show ¬ ("sort" : Str) = "keep"; decide +kernel)
    | first n => exact absurd hw (by show ¬ ("first" : Str) = "keep"; decide +kernel)
    | sample a b c => exact absurd hw (by show ¬ ("sample" : Str) = "keep"; decide +kernel)
    | join a b => exact absurd hw (by show ¬ ("join" : Str) = "keep"; decide +kernel)
    | union a => exact absurd hw (by show ¬ ("union" : Str) = "keep"; decide +kernel)
    | distinct => exact absurd hw (by show ¬ ("distinct" : Str) = "keep"; decide +kernel)
    | group a b => exact absurd hw (by show ¬ ("group" : Str) = "keep"; decide +kernel)
    | keep e =>
    cases ld with
    | keep xp =>
    obtain ⟨v, e1, dv⟩ := dh2 hd
    obtain ⟨a, rfl⟩ := xp_ref dv xp
    obtain ⟨xs, zL, cc⟩ := id hL
    exact ⟨_, rfl, _, rfl, p, _, _, .ref a, rfl, rfl, SqT.of e1, at_of (j := 1) rfl rfl, cv, a, xs, ps, e, "flag", rfl, zL.rd, cc, cp.nd, cp.l8, dv, xp.mono (by decide), fun H1 s1 => ⟨rfl, _, rfl, iteT ⟨_, rfl, k cv H1 s1 (hL.same s1)⟩⟩⟩
end
abbrev sBe : Stmt := top 52
abbrev nBe : List Str := ["tables", "columns", "step", "word", "name", "expression", "kind", "column"]
abbrev pBe : List Str := ["tables", "columns", "step"]
theorem scBe : FnScope nBe pBe (defScope sBe) := ⟨rfl, rfl, rfl, by decide +kernel, rfl, by decide +kernel, by decide +kernel⟩
section
variable {fA_ fB_ fC_ fD_ : Addr} {fdA_ fdB_ fdC_ fdD_ : FuncData}
theorem ok_Be (F : Fun K "behind_set" "behind_set" sBe f fd) (T : Bt mg)
    (GA_ : FnOk P w K mg base CX0 15 fA_ fdA_ ["columns", "expression"] (spKo)) (mA_ : mg "kind_or_none" = some (.ref fA_)) (kA_ : PySem.W.keepIn K (.ref fA_) = true) (bA_ : Binds K fdA_ ["columns", "expression"] [])
    (GB_ : FnOk P w K mg base CX0 1 fB_ fdB_ ["value"] (spName)) (mB_ : mg "is_name" = some (.ref fB_)) (kB_ : PySem.W.keepIn K (.ref fB_) = true) (bB_ : Binds K fdB_ ["value"] [])
    (GC_ : FnOk P w K mg base CX0 1 fC_ fdC_ ["columns", "name"] (spKi)) (mC_ : mg "kind_in" = some (.ref fC_)) (kC_ : PySem.W.keepIn K (.ref fC_) = true) (bC_ : Binds K fdC_ ["columns", "name"] [])
    (GD_ : FnOk P w K mg base CX0 1 fD_ fdD_ ["columns"] (spBd)) (mD_ : mg "bounded" = some (.ref fD_)) (kD_ : PySem.W.keepIn K (.ref fD_) = true) (bD_ : Binds K fdD_ ["columns"] []) : FnOk P w K mg base CX0 16 f fd pBe ((spBeh "set")) := by
  refine F.ok scBe (fun vs H Q E h => ?_) (fun cdv A outer s H vs Q E hr h => ?_)
  · obtain ⟨D0, kvs, os, cv, p, ps, qs, st, rfl, _⟩ := h
    rfl
  · obtain ⟨D0, kvs, os, cv, p, ps, qs, st, rfl, hD0, hO, wO, hL, cp, hd, ld, hw, k⟩ := h
    have hrA_ : Room (15) _ := hr.mono (by first | decide | omega)
    have hrB_ : Room (1) _ := hr.mono (by first | decide | omega)
    have hrC_ : Room (1) _ := hr.mono (by first | decide | omega)
    have hrD_ : Room (1) _ := hr.mono (by first | decide | omega)
    refine ⟨_, (pss_cons (ps_asg (pv 2) (pg_tup rfl (pgs_cons (pg_name (i := 3) scBe.nd rfl (.inl rfl)) (pgs_cons (pg_name (i := 4) scBe.nd rfl (.inr rfl)) (pgs_cons (pg_name (i := 5) scBe.nd rfl (.inl rfl)) pgs_nil)))))
      (pss_cons (ps_set (i := 6) scBe.nd rfl (Or.inr rfl) (pe_call GA_ hrA_ (by rfl) mA_ kA_ bA_ .nil pass0 (pa_cons (pv 1) (pa_cons (pv 5) pa_nil))))
      (pss_cons (ps_if (PW.pt (pw_or (pt_not (pt_val (pe_call GB_ hrB_ (by rfl) mB_ kB_ bB_ .nil pass0 (pa_cons (pv 4) pa_nil)))) (pw_or1 (pt_cmpR op_isN (pv 6) pe_non (nomark _))))) (pss_one (ps_ret pe_non)) pss_nil)
      (pss_cons (ps_if (pt_cmpR op_isN (pe_call GC_ hrC_ (by rfl) mC_ kC_ bC_ .nil pass0 (pa_cons (pv 1) (pa_cons (pv 4) pa_nil))) pe_non (nomark _)) (pss_one (ps_ret (pe_call GD_ hrD_ (by rfl) mD_ kD_ bD_ .nil pass0 (pa_cons (pe_op op_catZ (pv 1) (pe_tup (pa_cons (pe_tup (pa_cons (pv 4) (pa_cons (pv 6) pa_nil))) pa_nil))) pa_nil)))) pss_nil)
      (pss_one (ps_ret (pe_callTy call_tupleZ (by rfl) T.tuple boot_tuple (pa_cons (pe_lc (own := [("column", 7)]) (g := (gName 7)) (tt := tYes) (te := teBe K) (by rfl) scBe.nd (pi_tup (pv 1)) (blkOk_by (own := [("column", 7)]) (N := nBe) (sc := defScope sBe) (by decide +kernel)) (fun _ _ _ _ _ => (pg_name (i := 7) scBe.nd rfl (.inl rfl))) (fun _ _ _ _ _ => pts_nil) (fun _ _ _ _ _ => (pe_ifExp (pt_cmpR op_eq (pe_ix ix_tup (pv 7) pe_int (fun _ _ => rfl)) (pv 4) (nomark _)) (pe_tup (pa_cons (pv 4) (pa_cons (pv 6) pa_nil))) (pv 7)))) pa_nil)))))))), ?_⟩
    have two : 2 ≤ sizeLine := by decide
    have one : 1 ≤ sizeLine := by decide
    cases st with
    | keep e => exact absurd hw (by show ¬ ("keep" : Str) = "set"; decide +kernel)
    | select ns => exact absurd hw (by show ¬ ("select" : Str) = "set"; decide +kernel)
    | rename a b => exact absurd hw (by show ¬ ("rename" : Str) = "set"; decide +kernel)
    | sort a u => exact absurd hw (by show ¬ ("sort" : Str) = "set"; decide +kernel)
    | first n => exact absurd hw (by show ¬ ("first" : Str) = "set"; decide +kernel)
    | sample a b c => exact absurd hw (by show ¬ ("sample" : Str) = "set"; decide +kernel)
    | join a b => exact absurd hw (by show ¬ ("join" : Str) = "set"; decide +kernel)
    | union a => exact absurd hw (by show ¬ ("union" : Str) = "set"; decide +kernel)
    | distinct => exact absurd hw (by show ¬ ("distinct" : Str) = "set"; decide +kernel)
    | group a b => exact absurd hw (by show ¬ ("group" : Str) = "set"; decide +kernel)
    | set x e =>
    obtain ⟨v, e1, dv⟩ := dh3 hd
    obtain ⟨kd, xp, nx, hcase⟩ : ∃ kd, Xp ps 3 kd e ∧ (Sh 12 x ∧ nmS x) ∧ ((x ∈ nms ps ∧ qs = ps.map fun p => (p.1, if p.1 = x then kd else p.2)) ∨ (x ∉ nms ps ∧ ps.length < 8 ∧ qs = ps ++ [(x, kd)])) := by
      cases ld with
      | setO hx hk h => exact ⟨_, h, cp.nm hx, .inl ⟨hx, rfl⟩⟩
      | setN hx nx hk h l => exact ⟨_, h, nx, .inr ⟨hx, l, rfl⟩⟩
    obtain ⟨a, rfl⟩ := xp_ref dv xp
    obtain ⟨xs, zL, cc⟩ := id hL
    have lx := cc.len
    have l8 := cp.l8
    have l1 := cp.l1
    refine ⟨_, rfl, p, _, rfl, SqT.of e1, rfl, _, _, rfl, _, _, rfl, _, _, rfl, rfl, ?_⟩
    dsimp only [gNil]
    refine ⟨_, rfl, _, rfl, cv, a, xs, ps, e, kd, rfl, zL.rd, cc, cp.nd, cp.l8, dv, xp.mono (by decide), fun H1 s1 => ?_⟩
    refine ⟨_, rfl, .str x, "str", rfl, .str x, nm_len nx.1, fun H2 s2 => ⟨_, rfl, ?_⟩⟩
    rw [nx.2]
    refine iteF ⟨_, rfl, rfl, _, rfl, iteF ?_⟩
    have s12 := s1.trans s2
    have hL2 := hL.same s12
    have z2 := zL.same s12
    have c2 := cc.t (SameT.of s12)
    refine ⟨_, rfl, _, rfl, cv, ps, x, rfl, hL2, cp.nd, rfl, _, rfl, ?_⟩
    rcases hcase with ⟨hx, rfl⟩ | ⟨hx, l7, rfl⟩
    · rw [kdV_in hx]
      refine iteF ⟨_, rfl, cv, rfl, ⟨_, z2.sq⟩, fun D hD => lc_tup (K := K) (a := cv) (xs := xs) (fun i H' => (∃ ys, H' D = some (.lst ys) ∧ Cols H' ys ((ps.take i).map fun p => (p.1, if p.1 = x then kd else p.2))) ∧ Same H2 H') ⟨⟨[], upd_same, .nil⟩, Same.upd hD⟩ (fun i H' _ pr => (z2.same pr.2).sq) ?_ ?_⟩
      · rintro i y H3 hy ⟨⟨ys, e3, c3⟩, s3⟩
        obtain ⟨b, z, kk, rfl, ea, ep⟩ := c2.get _ _ hy
        have l3 := c3.len
        rw [List.length_map, List.length_take] at l3
        refine ⟨rfl, ?_⟩
        dsimp only [tYes]
        refine iteT ?_
        change teBe K _ _ _
        have ea3 := s3 _ _ ea
        refine ⟨_, rfl, b, _, _, .str z, rfl, rfl, SqT.of ea3, at_of (j := 0) rfl rfl, _, rfl, rfl, _, rfl, ?_⟩
        rw [List.take_add_one, ep, List.map_append]
        by_cases q : z = x
        · rw [show decide (V.str z = V.str x) = true by rw [q]; exact decide_eq_true rfl]
          refine iteT ⟨_, rfl, _, rfl, two, fun r hr' => ?_⟩
          have g := col_turn (z := x) (k := kd) hD e3 c3 (by omega) s3 (Same.refl _) hr'
          show ∃ acc, _
          simp only [Option.toList_some, List.map_cons, List.map_nil, if_pos q]
          rw [q]
          exact g
        · rw [show decide (V.str z = V.str x) = false from decide_eq_false (fun h => q (by injection h))]
          refine iteF ⟨_, rfl, ?_⟩
          have g := col_put (z := z) (k := kk) hD e3 c3 (by omega) s3 (Same.refl _) ea3
          show ∃ acc, _
          simp only [Option.toList_some, List.map_cons, List.map_nil, if_neg q]
          exact g
      rintro H3 ⟨⟨ys, e3, c3⟩, s3⟩
      rw [lx, List.take_length] at c3
      refine ⟨D, ys, rfl, SqL.of e3, fun r ob hr' d1 d2 => ?_⟩
      have zr := Same.upd (o := .frz ob (.tup ys)) hr'
      exact k r _ (s12.trans (s3.trans zr)) ⟨ys, ⟨ob, d1, d2, upd_same⟩, c3.t (SameT.of zr)⟩
    · rw [kdV_no hx]
      refine iteT ⟨_, rfl, _, rfl, _, rfl, two, fun p1 hp1 => ⟨one, fun q hq => ?_⟩⟩
      have zp := Same.upd (o := .tup [.str x, .str kd]) hp1
      have zq := Same.upd (o := .tup [.ref p1]) hq
      have zpq := zp.trans zq
      refine ⟨cv, q, xs, [.ref p1], rfl, rfl, (z2.same zpq).sq, SqT.of upd_same, fun z => by rw [z] at lx; change 0 = _ at lx; omega, Nat.le_trans (show _ + 1 ≤ 9 by omega) (by decide), nofun, fun _ r ob hr' d1 d2 => ?_⟩
      have zr := Same.upd (o := .frz ob (.tup (xs ++ [.ref p1]))) hr'
      have ca : CA _ r (ps ++ [(x, kd)]) := ⟨xs ++ [.ref p1], ⟨ob, d1, d2, upd_same⟩, (c2.t (SameT.of (zpq.trans zr))).app (.cons (zr _ _ (zq _ _ upd_same)) .nil)⟩
      exact ⟨r, _, rfl, ca, by rw [List.length_append]; show ps.length + 1 ≤ 8; omega, k r _ (s12.trans (zpq.trans zr)) ca⟩
end
abbrev sBl : Stmt := top 53
abbrev nBl : List Str := ["tables", "columns", "step", "names", "name"]
abbrev pBl : List Str := ["tables", "columns", "step"]
theorem scBl : FnScope nBl pBl (defScope sBl) := ⟨rfl, rfl, rfl, by decide +kernel, rfl, by decide +kernel, by decide +kernel⟩
section
variable {fA_ fB_ fC_ : Addr} {fdA_ fdB_ fdC_ : FuncData}
theorem ok_Bl (F : Fun K "behind_select" "behind_select" sBl f fd) (T : Bt mg) {u8 : Tok} (m8 : mg "MOST_COLUMNS" = some (.int 8 u8))
    (GA_ : FnOk P w K mg base CX0 1 fA_ fdA_ ["value", "low", "high"] (spTo)) (mA_ : mg "is_tuple_of" = some (.ref fA_)) (kA_ : PySem.W.keepIn K (.ref fA_) = true) (bA_ : Binds K fdA_ ["value", "low", "high"] [])
    (GB_ : FnOk P w K mg base CX0 2 fB_ fdB_ ["columns", "names"] (spAc)) (mB_ : mg "are_columns" = some (.ref fB_)) (kB_ : PySem.W.keepIn K (.ref fB_) = true) (bB_ : Binds K fdB_ ["columns", "names"] [])
    (GC_ : FnOk P w K mg base CX0 1 fC_ fdC_ ["columns", "name"] (spKi)) (mC_ : mg "kind_in" = some (.ref fC_)) (kC_ : PySem.W.keepIn K (.ref fC_) = true) (bC_ : Binds K fdC_ ["columns", "name"] []) : FnOk P w K mg base CX0 3 f fd pBl ((spBeh "select")) := by
  refine F.ok scBl (fun vs H Q E h => ?_) (fun cdv A outer s H vs Q E hr h => ?_)
  · obtain ⟨D0, kvs, os, cv, p, ps, qs, st, rfl, _⟩ := h
    rfl
  · obtain ⟨D0, kvs, os, cv, p, ps, qs, st, rfl, hD0, hO, wO, hL, cp, hd, ld, hw, k⟩ := h
    have hrA_ : Room (1) _ := hr.mono (by first | decide | omega)
    have hrB_ : Room (2) _ := hr.mono (by first | decide | omega)
    have hrC_ : Room (1) _ := hr.mono (by first | decide | omega)
    refine ⟨_, (pss_cons (ps_set (i := 3) scBl.nd rfl (Or.inl rfl) (pe_ix ix_tup (pv 2) pe_int (fun _ _ => rfl)))
      (pss_cons (ps_if (PW.pt (pw_or (pt_not (pt_val (pe_call GA_ hrA_ (by rfl) mA_ kA_ bA_ .nil pass0 (pa_cons (pv 3) (pa_cons pe_int (pa_cons (pe_glob (v := .int 8) (by rfl) m8 ⟨_, rfl⟩) pa_nil)))))) (pw_or1 (pt_not (pt_val (pe_call GB_ hrB_ (by rfl) mB_ kB_ bB_ .nil pass0 (pa_cons (pv 1) (pa_cons (pv 3) pa_nil)))))))) (pss_one (ps_ret pe_non)) pss_nil)
      (pss_one (ps_ret (pe_callTy call_tupleZ (by rfl) T.tuple boot_tuple (pa_cons (pe_lc (own := [("name", 4)]) (g := (gName 4)) (tt := tYes) (te := teBl) (by rfl) scBl.nd (pi_tup (pv 3)) (blkOk_by (own := [("name", 4)]) (N := nBl) (sc := defScope sBl) (by decide +kernel)) (fun _ _ _ _ _ => (pg_name (i := 4) scBl.nd rfl (.inl rfl))) (fun _ _ _ _ _ => pts_nil) (fun _ _ _ _ _ => (pe_tup (pa_cons (pv 4) (pa_cons (pe_call GC_ hrC_ (by rfl) mC_ kC_ bC_ .nil pass0 (pa_cons (pv 1) (pa_cons (pv 4) pa_nil))) pa_nil))))) pa_nil)))))), ?_⟩
    have two : 2 ≤ sizeLine := by decide
    cases st with
    | keep e => exact absurd hw (by show ¬ ("keep" : Str) = "select"; decide +kernel)
    | set x e => exact absurd hw (by show ¬ ("set" : Str) = "select"; decide +kernel)
    | rename a b => exact absurd hw (by show ¬ ("rename" : Str) = "select"; decide +kernel)
    | sort a u => exact absurd hw (by show ¬ ("sort" : Str) = "select"; decide +kernel)
    | first n => exact absurd hw (by show ¬ ("first" : Str) = "select"; decide +kernel)
    | sample a b c => exact absurd hw (by show ¬ ("sample" : Str) = "select"; decide +kernel)
    | join a b => exact absurd hw (by show ¬ ("join" : Str) = "select"; decide +kernel)
    | union a => exact absurd hw (by show ¬ ("union" : Str) = "select"; decide +kernel)
    | distinct => exact absurd hw (by show ¬ ("distinct" : Str) = "select"; decide +kernel)
    | group a b => exact absurd hw (by show ¬ ("group" : Str) = "select"; decide +kernel)
    | select ns =>
    cases ld with
    | select h nd l1 l8 =>
    obtain ⟨v, e1, dv⟩ := dh2 hd
    obtain ⟨a, rfl, ea⟩ := dh_strs dv
    refine ⟨_, rfl, p, _, _, .ref a, rfl, rfl, SqT.of e1, at_of (j := 1) rfl rfl, ?_⟩
    refine ⟨_, rfl, a, vS ns, 1, 8, rfl, ea, _, rfl, ?_⟩
    rw [List.length_map, decide_eq_true (show (1 : Int) ≤ (ns.length : Int) by omega), decide_eq_true (show (ns.length : Int) ≤ 8 by omega)]
    refine iteF ⟨_, rfl, _, rfl, cv, a, ps, ns, rfl, hL, cp, ea, h, nd, l8, fun H1 s1 => ⟨_, rfl, iteF ?_⟩⟩
    refine ⟨_, rfl, a, rfl, ⟨_, SqT.of (s1 _ _ ea)⟩, fun D hD => lc_tup (K := K) (a := a) (xs := vS ns) (fun i H' => (∃ ys, H' D = some (.lst ys) ∧ Cols H' ys ((ns.take i).map fun n => (n, kdOf ps n))) ∧ Same H1 H') ⟨⟨[], upd_same, .nil⟩, Same.upd hD⟩ (fun i H' _ pr => SqT.of (pr.2 _ _ (s1 _ _ ea))) ?_ ?_⟩
    · rintro i y H3 hy ⟨⟨ys, e3, c3⟩, s3⟩
      rw [List.getElem?_map] at hy
      obtain ⟨g, eg, rfl⟩ := Option.map_eq_some_iff.mp hy
      have l3 := c3.len
      rw [List.length_map, List.length_take] at l3
      refine ⟨rfl, ?_⟩
      dsimp only [tYes]
      refine iteT ?_
      change teBl _ _ _
      refine ⟨_, rfl, _, rfl, _, rfl, cv, ps, g, rfl, hL.same (s1.trans s3), cp.nd, ?_⟩
      rw [kdV_in (h g (List.mem_of_getElem? eg))]
      refine ⟨two, fun q hq => ?_⟩
      rw [List.take_add_one, eg, List.map_append]
      exact col_turn hD e3 c3 (by omega) s3 (Same.refl _) hq
    rintro H3 ⟨⟨ys, e3, c3⟩, s3⟩
    rw [List.length_map, List.take_length] at c3
    refine ⟨D, ys, rfl, SqL.of e3, fun r ob hr' d1 d2 => ?_⟩
    have zr := Same.upd (o := .frz ob (.tup ys)) hr'
    exact k r _ (s1.trans (s3.trans zr)) ⟨ys, ⟨ob, d1, d2, upd_same⟩, c3.t (SameT.of zr)⟩
end
abbrev sBr : Stmt := top 54
abbrev nBr : List Str := ["tables", "columns", "step", "word", "old", "new", "name", "kind"]
abbrev pBr : List Str := ["tables", "columns", "step"]
theorem scBr : FnScope nBr pBr (defScope sBr) := ⟨rfl, rfl, rfl, by decide +kernel, rfl, by decide +kernel, by decide +kernel⟩
section
variable {fA_ fB_ : Addr} {fdA_ fdB_ : FuncData}
theorem ok_Br (F : Fun K "behind_rename" "behind_rename" sBr f fd) (T : Bt mg)
    (GA_ : FnOk P w K mg base CX0 1 fA_ fdA_ ["columns", "name"] (spKi)) (mA_ : mg "kind_in" = some (.ref fA_)) (kA_ : PySem.W.keepIn K (.ref fA_) = true) (bA_ : Binds K fdA_ ["columns", "name"] [])
    (GB_ : FnOk P w K mg base CX0 1 fB_ fdB_ ["value"] (spName)) (mB_ : mg "is_name" = some (.ref fB_)) (kB_ : PySem.W.keepIn K (.ref fB_) = true) (bB_ : Binds K fdB_ ["value"] []) : FnOk P w K mg base CX0 2 f fd pBr ((spBeh "rename")) := by
  refine F.ok scBr (fun vs H Q E h => ?_) (fun cdv A outer s H vs Q E hr h => ?_)
  · obtain ⟨D0, kvs, os, cv, p, ps, qs, st, rfl, _⟩ := h
    rfl
  · obtain ⟨D0, kvs, os, cv, p, ps, qs, st, rfl, hD0, hO, wO, hL, cp, hd, ld, hw, k⟩ := h
    have hrA_ : Room (1) _ := hr.mono (by first | decide | omega)
    have hrB_ : Room (1) _ := hr.mono (by first | decide | omega)
    refine ⟨_, (pss_cons (ps_asg (pv 2) (pg_tup rfl (pgs_cons (pg_name (i := 3) scBr.nd rfl (.inl rfl)) (pgs_cons (pg_name (i := 4) scBr.nd rfl (.inr rfl)) (pgs_cons (pg_name (i := 5) scBr.nd rfl (.inr rfl)) pgs_nil)))))
      (pss_cons (ps_if (PW.pt (pw_or (pt_cmpR op_isN (pe_call GA_ hrA_ (by rfl) mA_ kA_ bA_ .nil pass0 (pa_cons (pv 1) (pa_cons (pv 4) pa_nil))) pe_non (nomark _)) (pw_or1 (pt_not (pt_val (pe_call GB_ hrB_ (by rfl) mB_ kB_ bB_ .nil pass0 (pa_cons (pv 5) pa_nil))))))) (pss_one (ps_ret pe_non)) pss_nil)
      (pss_cons (ps_if (PW.pt (pw_and (pt_cmpR op_ne (pv 5) (pv 4) (nomark _)) (pw_and1 (pt_cmpR op_notN (pe_call GA_ hrA_ (by rfl) mA_ kA_ bA_ .nil pass0 (pa_cons (pv 1) (pa_cons (pv 5) pa_nil))) pe_non (nomark _))))) (pss_one (ps_ret pe_non)) pss_nil)
      (pss_one (ps_ret (pe_callTy call_tupleZ (by rfl) T.tuple boot_tuple (pa_cons (pe_lc (own := [("name", 6), ("kind", 7)]) (g := (gTup K 2 (gCons (gName 6) (gCons (gName 7) gNil)))) (tt := tYes) (te := teBr) (by rfl) scBr.nd (pi_tup (pv 1)) (blkOk_by (own := [("name", 6), ("kind", 7)]) (N := nBr) (sc := defScope sBr) (by decide +kernel)) (fun _ _ _ _ _ => (pg_tup rfl (pgs_cons (pg_name (i := 6) scBr.nd rfl (.inl rfl)) (pgs_cons (pg_name (i := 7) scBr.nd rfl (.inl rfl)) pgs_nil)))) (fun _ _ _ _ _ => pts_nil) (fun _ _ _ _ _ => (pe_ifExp (pt_cmpR op_eq (pv 6) (pv 4) (nomark _)) (pe_tup (pa_cons (pv 5) (pa_cons (pv 7) pa_nil))) (pe_tup (pa_cons (pv 6) (pa_cons (pv 7) pa_nil)))))) pa_nil))))))), ?_⟩
    have two : 2 ≤ sizeLine := by decide
    cases st with
    | keep e => exact absurd hw (by show ¬ ("keep" : Str) = "rename"; decide +kernel)
    | set x e => exact absurd hw (by show ¬ ("set" : Str) = "rename"; decide +kernel)
    | select ns => exact absurd hw (by show ¬ ("select" : Str) = "rename"; decide +kernel)
    | sort a u => exact absurd hw (by show ¬ ("sort" : Str) = "rename"; decide +kernel)
    | first n => exact absurd hw (by show ¬ ("first" : Str) = "rename"; decide +kernel)
    | sample a b c => exact absurd hw (by show ¬ ("sample" : Str) = "rename"; decide +kernel)
    | join a b => exact absurd hw (by show ¬ ("join" : Str) = "rename"; decide +kernel)
    | union a => exact absurd hw (by show ¬ ("union" : Str) = "rename"; decide +kernel)
    | distinct => exact absurd hw (by show ¬ ("distinct" : Str) = "rename"; decide +kernel)
    | group a b => exact absurd hw (by show ¬ ("group" : Str) = "rename"; decide +kernel)
    | rename old new =>
    cases ld with
    | rename ha nb hb =>
    obtain ⟨v, e1, dv⟩ := dh3 hd
    cases dv
    obtain ⟨xs, zL, cc⟩ := id hL
    have lx := cc.len
    have l8 := cp.l8
    refine ⟨_, rfl, p, _, rfl, SqT.of e1, rfl, _, _, rfl, _, _, rfl, _, _, rfl, rfl, ?_⟩
    dsimp only [gNil]
    refine ⟨_, rfl, _, rfl, cv, ps, old, rfl, hL, cp.nd, ?_⟩
    rw [kdV_in ha]
    refine ⟨rfl, _, rfl, iteF ⟨_, rfl, .str new, "str", rfl, .str new, nm_len nb.1, fun H1 s1 => ⟨_, rfl, ?_⟩⟩⟩
    rw [nb.2]
    refine iteF ?_
    have hL1 := hL.same s1
    have z1 := zL.same s1
    have c1 := cc.t (SameT.of s1)
    have last : ∀ {D : Addr} {H3 : Hp} {ys : List V}, H3 D = some (.lst ys) → Cols H3 ys (ps.map fun p => (if p.1 = old then new else p.1, p.2)) → Same H1 H3 → ∀ (r : Addr) (ob : Obj), H3 r = none → ob.cls = .type "tuple" → ob.dict = none → Q (.ref r) (upd H3 r (.frz ob (.tup ys))) := fun {D H3 ys} e3 c3 s3 r ob hr' d1 d2 => by
      have zr := Same.upd (o := .frz ob (.tup ys)) hr'
      exact k r _ (s1.trans (s3.trans zr)) ⟨ys, ⟨ob, d1, d2, upd_same⟩, c3.t (SameT.of zr)⟩
    have walk : ∀ (D : Addr) (hD : H1 D = none) (i : Nat) (y : V) (H3 : Hp), xs[i]? = some y → (∃ ys, H3 D = some (.lst ys) ∧ Cols H3 ys ((ps.take i).map fun p => (if p.1 = old then new else p.1, p.2))) → Same H1 H3 → ∃ a z kk, y = .ref a ∧ H3 a = some (.tup [.str z, .str kk]) ∧ ∀ q, H3 q = none → ∃ acc, upd H3 q (.tup [.str (if z = old then new else z), .str kk]) D = some (.lst acc) ∧ acc.length < sizeLine ∧ ((∃ ys, upd (upd H3 q (.tup [.str (if z = old then new else z), .str kk])) D (.lst (acc ++ [.ref q])) D = some (.lst ys) ∧ Cols (upd (upd H3 q (.tup [.str (if z = old then new else z), .str kk])) D (.lst (acc ++ [.ref q]))) ys ((ps.take (i + 1)).map fun p => (if p.1 = old then new else p.1, p.2))) ∧ Same H1 (upd (upd H3 q (.tup [.str (if z = old then new else z), .str kk])) D (.lst (acc ++ [.ref q])))) := fun D hD i y H3 hy ⟨ys, e3, c3⟩ s3 => by
      obtain ⟨b, z, kk, rfl, ea, ep⟩ := c1.get _ _ hy
      have l3 := c3.len
      rw [List.length_map, List.length_take] at l3
      refine ⟨b, z, kk, rfl, s3 _ _ ea, fun q hq => ?_⟩
      rw [List.take_add_one, ep, List.map_append]
      exact col_turn hD e3 c3 (by omega) s3 (Same.refl _) hq
    refine ⟨_, rfl, _, rfl, rfl, _, rfl, ?_⟩
    by_cases qn : new = old
    · rw [show (!decide (V.str new = V.str old)) = false by rw [qn]; simp]
      refine iteF (iteF ?_)
      refine ⟨_, rfl, cv, rfl, ⟨_, z1.sq⟩, fun D hD => lc_tup (K := K) (a := cv) (xs := xs) (fun i H' => (∃ ys, H' D = some (.lst ys) ∧ Cols H' ys ((ps.take i).map fun p => (if p.1 = old then new else p.1, p.2))) ∧ Same H1 H') ⟨⟨[], upd_same, .nil⟩, Same.upd hD⟩ (fun i H' _ pr => (z1.same pr.2).sq) ?_ ?_⟩
      · rintro i y H3 hy ⟨g3, s3⟩
        obtain ⟨b, z, kk, rfl, ea, go⟩ := walk D hD i y H3 hy g3 s3
        refine ⟨b, _, rfl, SqT.of ea, rfl, _, _, rfl, _, _, rfl, rfl, rfl, ?_⟩
        dsimp only [tYes]
        refine iteT ?_
        change teBr _ _ _
        refine ⟨_, rfl, _, rfl, rfl, _, rfl, ?_⟩
        by_cases q : z = old
        · rw [show decide (V.str z = V.str old) = true by rw [q]; exact decide_eq_true rfl]
          rw [if_pos q] at go
          exact iteT ⟨_, rfl, _, rfl, two, go⟩
        · rw [show decide (V.str z = V.str old) = false from decide_eq_false (fun h => q (by injection h))]
          rw [if_neg q] at go
          exact iteF ⟨_, rfl, _, rfl, two, go⟩
      rintro H3 ⟨⟨ys, e3, c3⟩, s3⟩
      rw [lx, List.take_length] at c3
      exact ⟨D, ys, rfl, SqL.of e3, last e3 c3 s3⟩
    · rw [show (!decide (V.str new = V.str old)) = true by rw [decide_eq_false (fun h => qn (by injection h))]; rfl]
      have nn : new ∉ nms ps := fun h => by
        by_cases z : new = old
        · exact qn z
        · exact hb new h z rfl
      refine iteT ⟨_, rfl, _, rfl, cv, ps, new, rfl, hL1, cp.nd, ?_⟩
      rw [kdV_no nn]
      refine ⟨rfl, _, rfl, iteF ?_⟩
      refine ⟨_, rfl, cv, rfl, ⟨_, z1.sq⟩, fun D hD => lc_tup (K := K) (a := cv) (xs := xs) (fun i H' => (∃ ys, H' D = some (.lst ys) ∧ Cols H' ys ((ps.take i).map fun p => (if p.1 = old then new else p.1, p.2))) ∧ Same H1 H') ⟨⟨[], upd_same, .nil⟩, Same.upd hD⟩ (fun i H' _ pr => (z1.same pr.2).sq) ?_ ?_⟩
      · rintro i y H3 hy ⟨g3, s3⟩
        obtain ⟨b, z, kk, rfl, ea, go⟩ := walk D hD i y H3 hy g3 s3
        refine ⟨b, _, rfl, SqT.of ea, rfl, _, _, rfl, _, _, rfl, rfl, rfl, ?_⟩
        dsimp only [tYes]
        refine iteT ?_
        change teBr _ _ _
        refine ⟨_, rfl, _, rfl, rfl, _, rfl, ?_⟩
        by_cases q : z = old
        · rw [show decide (V.str z = V.str old) = true by rw [q]; exact decide_eq_true rfl]
          rw [if_pos q] at go
          exact iteT ⟨_, rfl, _, rfl, two, go⟩
        · rw [show decide (V.str z = V.str old) = false from decide_eq_false (fun h => q (by injection h))]
          rw [if_neg q] at go
          exact iteF ⟨_, rfl, _, rfl, two, go⟩
      rintro H3 ⟨⟨ys, e3, c3⟩, s3⟩
      rw [lx, List.take_length] at c3
      exact ⟨D, ys, rfl, SqL.of e3, last e3 c3 s3⟩
end
end
end K13
set_option Elab.async false
set_option linter.all false
set_option maxRecDepth 100000
set_option maxHeartbeats 4000000
namespace K13
open PySem PySem.Spec PyProof.Rows L2 Lc
def spCb : Sp := fun vs H Q _ => ∃ (D0 : Addr) (kvs : List (Key × V)) (os : OsL) (cv p : Addr) (ps qs : CsL) (st : Ps), vs = [.ref D0, .ref cv, .ref p] ∧ H D0 = some (.dK kvs) ∧ TabC H kvs os ∧ WdP os ∧ CA H cv ps ∧ ColP ps ∧ Dh H (.ref p) st.d ∧ Lead os ps st qs ∧ ∀ (cv' : Addr) (H' : Hp), Same H H' → CA H' cv' qs → Q (.ref cv') H'
structure CbA (P : Program) (w : World) (K : PySem.W.Frag) (mg : Str → Option Value) (base : Heap) (lA bA : Addr) : Prop where
  gl : mg "LENGTHS" = some (.ref lA)
  gb : mg "BEHIND" = some (.ref bA)
  dl : ∃ es n, KDict K w lA es n
  le : ∀ st : Ps, KDct K w lA st.w (.int st.len) ∧ ∃ u, PySem.W.nsIn K lA st.w = some (some u)
  be : ∀ st : Ps, ∃ g, KDct K w bA st.w (.ref g) ∧ Held P w K mg base 16 g (spBeh st.w)
section
variable {P : Program} {w : World} {K : PySem.W.Frag} {mg : Str → Option Value} {base : Heap} {f : Addr} {fd : FuncData}
abbrev sBs : Stmt := top 57
abbrev nBs : List Str := ["tables", "columns", "step", "word", "part", "whole", "seed"]
abbrev pBs : List Str := ["tables", "columns", "step"]
theorem scBs : FnScope nBs pBs (defScope sBs) := ⟨rfl, rfl, rfl, by decide +kernel, rfl, by decide +kernel, by decide +kernel⟩
section
variable {fA_ : Addr} {fdA_ : FuncData}
theorem ok_Bs (F : Fun K "behind_sample" "behind_sample" sBs f fd) (T : Bt mg) {uw us_ : Tok} (mw : mg "MOST_WHOLE" = some (.int 1000 uw)) (ms : mg "MOST_SEED" = some (.int 1000000000 us_))
    (GA_ : FnOk P w K mg base CX0 2 fA_ fdA_ ["value", "low", "high"] (spBt)) (mA_ : mg "is_between" = some (.ref fA_)) (kA_ : PySem.W.keepIn K (.ref fA_) = true) (bA_ : Binds K fdA_ ["value", "low", "high"] []) : FnOk P w K mg base CX0 3 f fd pBs ((spBeh "sample")) := by
  refine F.ok scBs (fun vs H Q E h => ?_) (fun cdv A outer s H vs Q E hr h => ?_)
  · obtain ⟨D0, kvs, os, cv, p, ps, qs, st, rfl, _⟩ := h
    rfl
  · obtain ⟨D0, kvs, os, cv, p, ps, qs, st, rfl, hD0, hO, wO, hL, cp, hd, ld, hw, k⟩ := h
    have hrA_ : Room (2) _ := hr.mono (by first | decide | omega)
    refine ⟨_, (pss_cons (ps_asg (pv 2) (pg_tup rfl (pgs_cons (pg_name (i := 3) scBs.nd rfl (.inl rfl)) (pgs_cons (pg_name (i := 4) scBs.nd rfl (.inl rfl)) (pgs_cons (pg_name (i := 5) scBs.nd rfl (.inl rfl)) (pgs_cons (pg_name (i := 6) scBs.nd rfl (.inl rfl)) pgs_nil))))))
      (pss_cons (ps_if (PW.pt (pw_or (pt_not (pt_val (pe_call GA_ hrA_ (by rfl) mA_ kA_ bA_ .nil pass0 (pa_cons (pv 5) (pa_cons pe_int (pa_cons (pe_glob (v := .int 1000) (by rfl) mw ⟨_, rfl⟩) pa_nil)))))) (pw_or1 (pt_not (pt_val (pe_call GA_ hrA_ (by rfl) mA_ kA_ bA_ .nil pass0 (pa_cons (pv 4) (pa_cons pe_int (pa_cons (pv 5) pa_nil))))))))) (pss_one (ps_ret pe_non)) pss_nil)
      (pss_one (ps_ret (pe_ifExp (pt_val (pe_call GA_ hrA_ (by rfl) mA_ kA_ bA_ .nil pass0 (pa_cons (pv 6) (pa_cons pe_int (pa_cons (pe_glob (v := .int 1000000000) (by rfl) ms ⟨_, rfl⟩) pa_nil))))) (pv 1) pe_non))))), ?_⟩
    cases st with
    | keep e => exact absurd hw (by show ¬ ("keep" : Str) = "sample"; decide +kernel)
    | set x e => exact absurd hw (by show ¬ ("set" : Str) = "sample"; decide +kernel)
    | select ns => exact absurd hw (by show ¬ ("select" : Str) = "sample"; decide +kernel)
    | rename a b => exact absurd hw (by show ¬ ("rename" : Str) = "sample"; decide +kernel)
    | sort a u => exact absurd hw (by show ¬ ("sort" : Str) = "sample"; decide +kernel)
    | first n => exact absurd hw (by show ¬ ("first" : Str) = "sample"; decide +kernel)
    | join a b => exact absurd hw (by show ¬ ("join" : Str) = "sample"; decide +kernel)
    | union a => exact absurd hw (by show ¬ ("union" : Str) = "sample"; decide +kernel)
    | distinct => exact absurd hw (by show ¬ ("distinct" : Str) = "sample"; decide +kernel)
    | group a b => exact absurd hw (by show ¬ ("group" : Str) = "sample"; decide +kernel)
    | sample a b c =>
    cases ld with
    | sample o1 o2 o3 o4 =>
    have e := dh4 hd
    refine ⟨_, rfl, p, _, rfl, SqT.of e, rfl, _, _, rfl, _, _, rfl, _, _, rfl, _, _, rfl, rfl, ?_⟩
    dsimp only [gNil]
    refine ⟨_, rfl, b, 1, 1000, rfl, _, rfl, ?_⟩
    rw [decide_eq_true (show (1 : Int) ≤ (b : Int) by omega), decide_eq_true (show (b : Int) ≤ 1000 by omega)]
    refine iteF ⟨_, rfl, _, rfl, a, 0, b, rfl, _, rfl, ?_⟩
    rw [decide_eq_true (show (0 : Int) ≤ (a : Int) by omega), decide_eq_true (show (a : Int) ≤ (b : Int) by omega)]
    refine iteF ⟨_, rfl, c, 0, 1000000000, rfl, _, rfl, ?_⟩
    rw [decide_eq_true (show (0 : Int) ≤ (c : Int) by omega), decide_eq_true (show (c : Int) ≤ 1000000000 by omega)]
    exact iteT ⟨_, rfl, k cv H (Same.refl _) hL⟩
end
abbrev sCb : Stmt := top 66
abbrev nCb : List Str := ["tables", "columns", "step", "word", "follow"]
abbrev pCb : List Str := ["tables", "columns", "step"]
theorem scCb : FnScope nCb pCb (defScope sCb) := ⟨rfl, rfl, rfl, by decide +kernel, rfl, by decide +kernel, by decide +kernel⟩
section
variable {fA_ : Addr} {fdA_ : FuncData}
theorem ok_Cb (F : Fun K "columns_behind" "columns_behind" sCb f fd) (T : Bt mg) {lA bA : Addr} (A2 : CbA P w K mg base lA bA)
    (GA_ : FnOk P w K mg base CX0 1 fA_ fdA_ ["step"] (spWd)) (mA_ : mg "word_of" = some (.ref fA_)) (kA_ : PySem.W.keepIn K (.ref fA_) = true) (bA_ : Binds K fdA_ ["step"] []) : FnOk P w K mg base CX0 17 f fd pCb (spCb) := by
  refine F.ok scCb (fun vs H Q E h => ?_) (fun cdv A outer s H vs Q E hr h => ?_)
  · obtain ⟨D0, kvs, os, cv, p, ps, qs, st, rfl, _⟩ := h
    rfl
  · obtain ⟨D0, kvs, os, cv, p, ps, qs, st, rfl, hD0, hO, wO, hL, cp, hd, ld, k⟩ := h
    have hrA_ : Room (1) _ := hr.mono (by first | decide | omega)
    obtain ⟨es, n0, KD⟩ := A2.dl
    obtain ⟨g, g1, hH⟩ := A2.be st
    obtain ⟨l1, u0, l2⟩ := A2.le st
    have hr3 : Room 16 _ := hr.mono (by decide)
    have AS : ∀ f sp, (fun q => if q = g then some (spBeh st.w) else none : Addr → Option Sp) f = some sp → Held P w K mg base 16 f sp := fun f sp e => by
      dsimp only at e
      by_cases z : f = g
      · subst z
        rw [if_pos rfl] at e
        obtain rfl := Option.some.inj e
        exact hH
      · rw [if_neg z] at e
        cases e
    refine ⟨_, (pss_cons (ps_set (i := 3) scCb.nd rfl (Or.inl rfl) (pe_call GA_ hrA_ (by rfl) mA_ kA_ bA_ .nil pass0 (pa_cons (pv 2) pa_nil)))
      (pss_cons (ps_if (PW.pt (pw_or (pt_cmpR op_isN (pv 3) pe_non (nomark _)) (pw_or (pt_cmpR (op_notIn_kd KD) (pv 3) (pe_glob (v := .ref lA) (by rfl) A2.gl rfl) (by rfl)) (pw_or1 (pt_cmpR op_ne (pe_callB call_len_seq (by rfl) T.len PySem.boot_len (pa_cons (pv 2) pa_nil)) (pe_ix ix_kdict (pe_glob (v := .ref lA) (by rfl) A2.gl rfl) (pv 3) (fun _ _ => rfl)) (nomark _)))))) (pss_one (ps_ret pe_non)) pss_nil)
      (pss_cons (ps_set (i := 4) scCb.nd rfl (Or.inl rfl) (pe_ix ix_kdict (pe_glob (v := .ref bA) (by rfl) A2.gb rfl) (pv 3) (fun _ _ => rfl)))
      (pss_one (ps_ret (pe_callA (i := 4) AS hr3 rfl (Or.inl rfl) (pa_cons (pv 0) (pa_cons (pv 1) (pa_cons (pv 2) pa_nil))))))))), ?_⟩
    obtain ⟨xs, e, lx⟩ := ps_at hd
    have l4 : st.len ≤ 4 := by cases st <;> simp [Ps.len]
    refine ⟨_, rfl, p, st.w, xs, rfl, e, by omega, ?_⟩
    refine ⟨_, rfl, rfl, _, rfl, iteF ⟨_, rfl, st.w, _, rfl, rfl, l2, _, rfl, iteF ⟨_, rfl, p, _, rfl, .inr (SqT.of e), _, rfl, lA, st.w, _, rfl, rfl, l1, rfl, _, rfl, ?_⟩⟩⟩
    rw [List.length_cons, lx, decide_eq_true rfl]
    refine iteF ⟨_, rfl, bA, st.w, _, rfl, rfl, g1, ?_⟩
    exact ⟨g, spBeh st.w, rfl, if_pos rfl, _, rfl, _, rfl, _, rfl, D0, kvs, os, cv, p, ps, qs, st, rfl, hD0, hO, wO, hL, cp, hd, ld, rfl, k⟩
end
end
end K13
set_option Elab.async false
set_option linter.all false
set_option maxRecDepth 100000
set_option maxHeartbeats 4000000
namespace K13
open PySem PySem.Spec PyProof.Rows L2 Lc
/-! ## the other steps: sort, first, distinct, union, join, group -/
/-- a list of one and the same bool grows -/
theorem bl_turn {H H1 : Hp} {D : Addr} {i : Nat} {b : Bool} (hD : H D = none) (e : H1 D = some (.lst ((List.replicate i b).map V.bl))) (l : i ≤ 100) (s : Same H H1) : ∃ acc, H1 D = some (.lst acc) ∧ acc.length < sizeLine ∧ (upd H1 D (.lst (acc ++ [.bl b])) D = some (.lst ((List.replicate (i + 1) b).map V.bl)) ∧ Same H (upd H1 D (.lst (acc ++ [.bl b])))) := by
  refine ⟨_, e, ?_, ?_, fun c o h => by rw [upd_ne (ne_of_none h hD)]; exact s c o h⟩
  · rw [List.length_map, List.length_replicate]
    exact lt_size (by omega)
  · rw [upd_same, List.replicate_succ', List.map_append]
    rfl
theorem any_rep (n : Nat) : (List.replicate n false).any id = false := by
  induction n with
  | zero => rfl
  | succ n ih => rw [List.replicate_succ, List.any_cons, ih]; rfl
theorem all_rep (n : Nat) : (List.replicate n true).all id = true := by
  induction n with
  | zero => rfl
  | succ n ih => rw [List.replicate_succ, List.all_cons, ih]; rfl
def spTt : Sp := fun vs H Q _ => ∃ (L q : Addr) (ps : CsL) (t : Str × Str × Str), vs = [.ref L, .ref q] ∧ CA H L ps ∧ ColP ps ∧ H q = some (.tup (vS [t.1, t.2.1, t.2.2])) ∧ Sh 12 t.1 ∧ nmS t.1 ∧ t.2.1 ∈ fnS ∧ t.2.2 ∈ nms ps ∧ (t.2.1 ≠ "count" → kdOf ps t.2.2 = "number") ∧ ∀ H', Same H H' → Q (.bl true) H'
abbrev teJ1 : TE := tOp rNe (tCall spKi [] E0 (tCons (tVar 1) (tCons (tVar 7) tNil))) (tCall spKi [] E0 (tCons (tVar 6) (tCons (tVar 7) tNil)))
abbrev ttJ (K : PySem.W.Frag) : TT := tTest (tOp (rIn K true) (tOp (rIxT K) (tVar 9) (tC (.int 0))) (tVar 5))
abbrev teJ2 (K : PySem.W.Frag) : TE := tOp (fun x y H Q => y = .non ∧ Q (.bl (!decide (x = .non))) H) (tCall spKi [] E0 (tCons (tVar 1) (tCons (tOp (rIxT K) (tVar 9) (tC (.int 0))) tNil))) (tC .non)
abbrev teG1 : TE := tCall spTt [] E0 (tCons (tVar 1) (tCons (tVar 6) tNil))
abbrev teG2 : TE := tTup (tCons (tVar 8) (tCons (tCall spKi [] E0 (tCons (tVar 1) (tCons (tVar 8) tNil))) tNil))
abbrev teG3 (K : PySem.W.Frag) : TE := tTup (tCons (tOp (rIxT K) (tVar 6) (tC (.int 0))) (tCons (tC (.str "number")) tNil))
def spNo : Sp := fun vs H Q _ => ∃ (L : Addr) (ps : CsL), vs = [.ref L] ∧ CA H L ps ∧ ps.length ≤ 8 ∧ ∀ (D : Addr) (H' : Hp), Same H H' → H D = none → H' D = some (.lst (vS (nms ps))) → Q (.ref D) H'
section
variable {P : Program} {w : World} {K : PySem.W.Frag} {mg : Str → Option Value} {base : Heap} {f : Addr} {fd : FuncData}
abbrev sNo : Stmt := top 32
abbrev nNo : List Str := ["columns", "name", "kind"]
abbrev pNo : List Str := ["columns"]
theorem scNo : FnScope nNo pNo (defScope sNo) := ⟨rfl, rfl, rfl, by decide +kernel, rfl, by decide +kernel, by decide +kernel⟩
section
theorem ok_No (F : Fun K "names_of" "names_of" sNo f fd) (T : Bt mg) : FnOk P w K mg base CX0 1 f fd pNo (spNo) := by
  refine F.ok scNo (fun vs H Q E h => ?_) (fun cdv A outer s H vs Q E hr h => ?_)
  · obtain ⟨L, ps, rfl, _⟩ := h
    rfl
  · obtain ⟨L, ps, rfl, hL, l8, k⟩ := h
    refine ⟨_, (pss_one (ps_ret (pe_lc (own := [("name", 1), ("kind", 2)]) (g := (gTup K 2 (gCons (gName 1) (gCons (gName 2) gNil)))) (tt := tYes) (te := tVar 1) (by rfl) scNo.nd (pi_tup (pv 0)) (blkOk_by (own := [("name", 1), ("kind", 2)]) (N := nNo) (sc := defScope sNo) (by decide +kernel)) (fun _ _ _ _ _ => (pg_tup rfl (pgs_cons (pg_name (i := 1) scNo.nd rfl (.inl rfl)) (pgs_cons (pg_name (i := 2) scNo.nd rfl (.inl rfl)) pgs_nil)))) (fun _ _ _ _ _ => pts_nil) (fun _ _ _ _ _ => (pv 1))))), ?_⟩
    obtain ⟨xs, zL, cc⟩ := hL
    refine ⟨_, rfl, L, rfl, ⟨_, zL.sq⟩, fun W hW => lc_tup (K := K) (a := L) (xs := xs) (fun i H' => H' W = some (.lst (vS ((nms ps).take i))) ∧ Same H H') ⟨upd_same, Same.upd hW⟩ (fun i H' _ pr => (zL.same pr.2).sq) ?_ ?_⟩
    · rintro i x H1 hx ⟨hW1, s1⟩
      obtain ⟨a, z, kk, rfl, ea, ep⟩ := cc.get _ _ hx
      refine ⟨a, _, rfl, SqT.of (s1 _ _ ea), rfl, _, _, rfl, _, _, rfl, rfl, rfl, ?_⟩
      dsimp only [tYes]
      exact iteT ⟨_, rfl, nm_turn hW hW1 ep l8 s1⟩
    rintro H1 ⟨hW1, s1⟩
    rw [show xs.length = (nms ps).length by rw [cc.len, List.length_map], List.take_length] at hW1
    exact k W H1 s1 hW hW1
end
abbrev sSo : Stmt := top 55
abbrev nSo : List Str := ["tables", "columns", "step", "word", "name", "order"]
abbrev pSo : List Str := ["tables", "columns", "step"]
theorem scSo : FnScope nSo pSo (defScope sSo) := ⟨rfl, rfl, rfl, by decide +kernel, rfl, by decide +kernel, by decide +kernel⟩
section
variable {fA_ : Addr} {fdA_ : FuncData}
theorem ok_So (F : Fun K "behind_sort" "behind_sort" sSo f fd) (T : Bt mg) {oA : Addr} (mO : mg "ORDERS" = some (.ref oA)) (hO2 : ∀ H, SqT K H oA [.str "up", .str "down"])
    (GA_ : FnOk P w K mg base CX0 1 fA_ fdA_ ["columns", "name"] (spKi)) (mA_ : mg "kind_in" = some (.ref fA_)) (kA_ : PySem.W.keepIn K (.ref fA_) = true) (bA_ : Binds K fdA_ ["columns", "name"] []) : FnOk P w K mg base CX0 2 f fd pSo ((spBeh "sort")) := by
  refine F.ok scSo (fun vs H Q E h => ?_) (fun cdv A outer s H vs Q E hr h => ?_)
  · obtain ⟨D0, kvs, os, cv, p, ps, qs, st, rfl, _⟩ := h
    rfl
  · obtain ⟨D0, kvs, os, cv, p, ps, qs, st, rfl, hD0, hO, wO, hL, cp, hd, ld, hw, k⟩ := h
    have hrA_ : Room (1) _ := hr.mono (by first | decide | omega)
    refine ⟨_, (pss_cons (ps_asg (pv 2) (pg_tup rfl (pgs_cons (pg_name (i := 3) scSo.nd rfl (.inl rfl)) (pgs_cons (pg_name (i := 4) scSo.nd rfl (.inl rfl)) (pgs_cons (pg_name (i := 5) scSo.nd rfl (.inl rfl)) pgs_nil)))))
      (pss_one (ps_ret (pe_ifExp (PW.pt (pw_and (pt_cmpR op_notN (pe_call GA_ hrA_ (by rfl) mA_ kA_ bA_ .nil pass0 (pa_cons (pv 1) (pa_cons (pv 4) pa_nil))) pe_non (nomark _)) (pw_and1 (pt_cmpR op_in_seq (pv 5) (pe_glob (v := .ref oA) (by rfl) mO rfl) (by rfl))))) (pv 1) pe_non)))), ?_⟩
    cases st with
    | keep e => exact absurd hw (by show ¬ ("keep" : Str) = "sort"; decide +kernel)
    | set x e => exact absurd hw (by show ¬ ("set" : Str) = "sort"; decide +kernel)
    | select ns => exact absurd hw (by show ¬ ("select" : Str) = "sort"; decide +kernel)
    | rename a b => exact absurd hw (by show ¬ ("rename" : Str) = "sort"; decide +kernel)
    | first n => exact absurd hw (by show ¬ ("first" : Str) = "sort"; decide +kernel)
    | sample a b c => exact absurd hw (by show ¬ ("sample" : Str) = "sort"; decide +kernel)
    | join a b => exact absurd hw (by show ¬ ("join" : Str) = "sort"; decide +kernel)
    | union a => exact absurd hw (by show ¬ ("union" : Str) = "sort"; decide +kernel)
    | distinct => exact absurd hw (by show ¬ ("distinct" : Str) = "sort"; decide +kernel)
    | group a b => exact absurd hw (by show ¬ ("group" : Str) = "sort"; decide +kernel)
    | sort a u =>
    cases ld with
    | sort ha =>
    obtain ⟨v, e1, dv⟩ := dh3 hd
    cases dv
    refine ⟨_, rfl, p, _, rfl, SqT.of e1, rfl, _, _, rfl, _, _, rfl, _, _, rfl, rfl, ?_⟩
    dsimp only [gNil]
    refine ⟨_, rfl, _, rfl, cv, ps, a, rfl, hL, cp.nd, rfl, _, rfl, ?_⟩
    rw [kdV_in ha]
    refine iteT ⟨_, rfl, oA, _, rfl, .inr (hO2 H), rfl, rfl, _, rfl, ?_⟩
    rw [show inV (.str (updn u)) [.str "up", .str "down"] = decide (updn u ∈ (["up", "down"] : List Str)) from in_strs (ss := ["up", "down"]), decide_eq_true (by cases u <;> simp [updn])]
    exact iteT ⟨_, rfl, k cv H (Same.refl _) hL⟩
end
abbrev sFi : Stmt := top 56
abbrev nFi : List Str := ["tables", "columns", "step"]
abbrev pFi : List Str := ["tables", "columns", "step"]
theorem scFi : FnScope nFi pFi (defScope sFi) := ⟨rfl, rfl, rfl, by decide +kernel, rfl, by decide +kernel, by decide +kernel⟩
section
variable {fA_ : Addr} {fdA_ : FuncData}
theorem ok_Fi (F : Fun K "behind_first" "behind_first" sFi f fd) (T : Bt mg) {uc : Tok} (mC : mg "MOST_COUNT" = some (.int 1000 uc))
    (GA_ : FnOk P w K mg base CX0 2 fA_ fdA_ ["value", "low", "high"] (spBt)) (mA_ : mg "is_between" = some (.ref fA_)) (kA_ : PySem.W.keepIn K (.ref fA_) = true) (bA_ : Binds K fdA_ ["value", "low", "high"] []) : FnOk P w K mg base CX0 3 f fd pFi ((spBeh "first")) := by
  refine F.ok scFi (fun vs H Q E h => ?_) (fun cdv A outer s H vs Q E hr h => ?_)
  · obtain ⟨D0, kvs, os, cv, p, ps, qs, st, rfl, _⟩ := h
    rfl
  · obtain ⟨D0, kvs, os, cv, p, ps, qs, st, rfl, hD0, hO, wO, hL, cp, hd, ld, hw, k⟩ := h
    have hrA_ : Room (2) _ := hr.mono (by first | decide | omega)
    refine ⟨_, (pss_one (ps_ret (pe_ifExp (pt_val (pe_call GA_ hrA_ (by rfl) mA_ kA_ bA_ .nil pass0 (pa_cons (pe_ix ix_tup (pv 2) pe_int (fun _ _ => rfl)) (pa_cons pe_int (pa_cons (pe_glob (v := .int 1000) (by rfl) mC ⟨_, rfl⟩) pa_nil))))) (pv 1) pe_non))), ?_⟩
    cases st with
    | keep e => exact absurd hw (by show ¬ ("keep" : Str) = "first"; decide +kernel)
    | set x e => exact absurd hw (by show ¬ ("set" : Str) = "first"; decide +kernel)
    | select ns => exact absurd hw (by show ¬ ("select" : Str) = "first"; decide +kernel)
    | rename a b => exact absurd hw (by show ¬ ("rename" : Str) = "first"; decide +kernel)
    | sort a u => exact absurd hw (by show ¬ ("sort" : Str) = "first"; decide +kernel)
    | sample a b c => exact absurd hw (by show ¬ ("sample" : Str) = "first"; decide +kernel)
    | join a b => exact absurd hw (by show ¬ ("join" : Str) = "first"; decide +kernel)
    | union a => exact absurd hw (by show ¬ ("union" : Str) = "first"; decide +kernel)
    | distinct => exact absurd hw (by show ¬ ("distinct" : Str) = "first"; decide +kernel)
    | group a b => exact absurd hw (by show ¬ ("group" : Str) = "first"; decide +kernel)
    | first n =>
    cases ld with
    | first l =>
    obtain ⟨v, e1, dv⟩ := dh2 hd
    cases dv
    refine ⟨_, rfl, p, _, _, .int n, rfl, rfl, SqT.of e1, at_of (j := 1) rfl rfl, n, 0, 1000, rfl, _, rfl, ?_⟩
    rw [decide_eq_true (show (0 : Int) ≤ (n : Int) by omega), decide_eq_true (show (n : Int) ≤ 1000 by omega)]
    exact iteT ⟨_, rfl, k cv H (Same.refl _) hL⟩
end
abbrev sDi : Stmt := top 62
abbrev nDi : List Str := ["tables", "columns", "step"]
abbrev pDi : List Str := ["tables", "columns", "step"]
theorem scDi : FnScope nDi pDi (defScope sDi) := ⟨rfl, rfl, rfl, by decide +kernel, rfl, by decide +kernel, by decide +kernel⟩
section
theorem ok_Di (F : Fun K "behind_distinct" "behind_distinct" sDi f fd) (T : Bt mg) : FnOk P w K mg base CX0 1 f fd pDi ((spBeh "distinct")) := by
  refine F.ok scDi (fun vs H Q E h => ?_) (fun cdv A outer s H vs Q E hr h => ?_)
  · obtain ⟨D0, kvs, os, cv, p, ps, qs, st, rfl, _⟩ := h
    rfl
  · obtain ⟨D0, kvs, os, cv, p, ps, qs, st, rfl, hD0, hO, wO, hL, cp, hd, ld, hw, k⟩ := h
    refine ⟨_, (pss_one (ps_ret (pv 1))), ?_⟩
    cases st with
    | keep e => exact absurd hw (by show ¬ ("keep" : Str) = "distinct"; decide +kernel)
    | set x e => exact absurd hw (by show ¬ ("set" : Str) = "distinct"; decide +kernel)
    | select ns => exact absurd hw (by show ¬ ("select" : Str) = "distinct"; decide +kernel)
    | rename a b => exact absurd hw (by show ¬ ("rename" : Str) = "distinct"; decide +kernel)
    | sort a u => exact absurd hw (by show ¬ ("sort" : Str) = "distinct"; decide +kernel)
    | first n => exact absurd hw (by show ¬ ("first" : Str) = "distinct"; decide +kernel)
    | sample a b c => exact absurd hw (by show ¬ ("sample" : Str) = "distinct"; decide +kernel)
    | join a b => exact absurd hw (by show ¬ ("join" : Str) = "distinct"; decide +kernel)
    | union a => exact absurd hw (by show ¬ ("union" : Str) = "distinct"; decide +kernel)
    | group a b => exact absurd hw (by show ¬ ("group" : Str) = "distinct"; decide +kernel)
    | distinct =>
    cases ld with
    | distinct =>
    exact ⟨_, rfl, k cv H (Same.refl _) hL⟩
end
abbrev sUo : Stmt := top 59
abbrev nUo : List Str := ["tables", "columns", "step", "other"]
abbrev pUo : List Str := ["tables", "columns", "step"]
theorem scUo : FnScope nUo pUo (defScope sUo) := ⟨rfl, rfl, rfl, by decide +kernel, rfl, by decide +kernel, by decide +kernel⟩
section
variable {fA_ : Addr} {fdA_ : FuncData}
theorem ok_Uo (F : Fun K "behind_union" "behind_union" sUo f fd) (T : Bt mg)
    (GA_ : FnOk P w K mg base CX0 1 fA_ fdA_ ["value"] (spName)) (mA_ : mg "is_name" = some (.ref fA_)) (kA_ : PySem.W.keepIn K (.ref fA_) = true) (bA_ : Binds K fdA_ ["value"] []) : FnOk P w K mg base CX0 2 f fd pUo ((spBeh "union")) := by
  refine F.ok scUo (fun vs H Q E h => ?_) (fun cdv A outer s H vs Q E hr h => ?_)
  · obtain ⟨D0, kvs, os, cv, p, ps, qs, st, rfl, _⟩ := h
    rfl
  · obtain ⟨D0, kvs, os, cv, p, ps, qs, st, rfl, hD0, hO, wO, hL, cp, hd, ld, hw, k⟩ := h
    have hrA_ : Room (1) _ := hr.mono (by first | decide | omega)
    refine ⟨_, (pss_cons (ps_set (i := 3) scUo.nd rfl (Or.inl rfl) (pe_ix ix_tup (pv 2) pe_int (fun _ _ => rfl)))
      (pss_one (ps_ret (pe_ifExp (PW.pt (pw_and (pt_val (pe_call GA_ hrA_ (by rfl) mA_ kA_ bA_ .nil pass0 (pa_cons (pv 3) pa_nil))) (pw_and1 (pt_cmpR (op_eqD hr.units) (pe_dget (hu_of hr) (pv 0) (pv 3) (fun _ _ => rfl)) (pv 1) (nomark _))))) (pv 1) pe_non)))), ?_⟩
    cases st with
    | keep e => exact absurd hw (by show ¬ ("keep" : Str) = "union"; decide +kernel)
    | set x e => exact absurd hw (by show ¬ ("set" : Str) = "union"; decide +kernel)
    | select ns => exact absurd hw (by show ¬ ("select" : Str) = "union"; decide +kernel)
    | rename a b => exact absurd hw (by show ¬ ("rename" : Str) = "union"; decide +kernel)
    | sort a u => exact absurd hw (by show ¬ ("sort" : Str) = "union"; decide +kernel)
    | first n => exact absurd hw (by show ¬ ("first" : Str) = "union"; decide +kernel)
    | sample a b c => exact absurd hw (by show ¬ ("sample" : Str) = "union"; decide +kernel)
    | join a b => exact absurd hw (by show ¬ ("join" : Str) = "union"; decide +kernel)
    | distinct => exact absurd hw (by show ¬ ("distinct" : Str) = "union"; decide +kernel)
    | group a b => exact absurd hw (by show ¬ ("group" : Str) = "union"; decide +kernel)
    | union t =>
    cases ld with
    | union ht =>
    obtain ⟨v, e1, dv⟩ := dh2 hd
    cases dv
    obtain ⟨C, hC, cC⟩ := hO.at wO.nd ht
    obtain ⟨nmt, sht, cpC⟩ := wO.ok _ ht
    refine ⟨_, rfl, p, _, _, .str t, rfl, rfl, SqT.of e1, at_of (j := 1) rfl rfl, ?_⟩
    refine ⟨_, rfl, .str t, "str", rfl, .str t, nm_len sht, fun H1 s1 => ⟨_, rfl, ?_⟩⟩
    rw [nmt]
    have g := DGet.k (k := (Sum.inr t : Key)) (s1 _ _ hD0)
    rw [hC] at g
    obtain ⟨ws, zC, wc⟩ := cC.same s1
    obtain ⟨xs, zL, cc⟩ := hL.same s1
    refine iteT ⟨_, rfl, _, rfl, D0, _, rfl, g, _, rfl, _, _, .tup zC.sq (dp_cols wc), .tup zL.sq (dp_cols cc), shp_ps cp, shp_ps cp, _, rfl, ?_⟩
    rw [show PyData.eqv (.tuple (ps.map colP)) (.tuple (ps.map colP)) = decide (ps = ps) by rw [PyData.eqv, eqv_cols], decide_eq_true rfl]
    exact iteT ⟨_, rfl, k cv H1 s1 (hL.same s1)⟩
end
abbrev sJo : Stmt := top 58
abbrev nJo : List Str := ["tables", "columns", "step", "word", "other", "names", "others", "name", "added", "column"]
abbrev pJo : List Str := ["tables", "columns", "step"]
theorem scJo : FnScope nJo pJo (defScope sJo) := ⟨rfl, rfl, rfl, by decide +kernel, rfl, by decide +kernel, by decide +kernel⟩
section
variable {fA_ fB_ fC_ fD_ fE_ : Addr} {fdA_ fdB_ fdC_ fdD_ fdE_ : FuncData}
theorem ok_Jo (F : Fun K "behind_join" "behind_join" sJo f fd) (T : Bt mg) (mY : mg "any" = none) {u3 : Tok} (m3 : mg "MOST_KEYS" = some (.int 3 u3))
    (GA_ : FnOk P w K mg base CX0 1 fA_ fdA_ ["value"] (spName)) (mA_ : mg "is_name" = some (.ref fA_)) (kA_ : PySem.W.keepIn K (.ref fA_) = true) (bA_ : Binds K fdA_ ["value"] [])
    (GB_ : FnOk P w K mg base CX0 1 fB_ fdB_ ["value", "low", "high"] (spTo)) (mB_ : mg "is_tuple_of" = some (.ref fB_)) (kB_ : PySem.W.keepIn K (.ref fB_) = true) (bB_ : Binds K fdB_ ["value", "low", "high"] [])
    (GC_ : FnOk P w K mg base CX0 2 fC_ fdC_ ["columns", "names"] (spAc)) (mC_ : mg "are_columns" = some (.ref fC_)) (kC_ : PySem.W.keepIn K (.ref fC_) = true) (bC_ : Binds K fdC_ ["columns", "names"] [])
    (GD_ : FnOk P w K mg base CX0 1 fD_ fdD_ ["columns", "name"] (spKi)) (mD_ : mg "kind_in" = some (.ref fD_)) (kD_ : PySem.W.keepIn K (.ref fD_) = true) (bD_ : Binds K fdD_ ["columns", "name"] [])
    (GE_ : FnOk P w K mg base CX0 1 fE_ fdE_ ["columns"] (spBd)) (mE_ : mg "bounded" = some (.ref fE_)) (kE_ : PySem.W.keepIn K (.ref fE_) = true) (bE_ : Binds K fdE_ ["columns"] []) : FnOk P w K mg base CX0 3 f fd pJo ((spBeh "join")) := by
  refine F.ok scJo (fun vs H Q E h => ?_) (fun cdv A outer s H vs Q E hr h => ?_)
  · obtain ⟨D0, kvs, os, cv, p, ps, qs, st, rfl, _⟩ := h
    rfl
  · obtain ⟨D0, kvs, os, cv, p, ps, qs, st, rfl, hD0, hO, wO, hL, cp, hd, ld, hw, k⟩ := h
    have hrA_ : Room (1) _ := hr.mono (by first | decide | omega)
    have hrB_ : Room (1) _ := hr.mono (by first | decide | omega)
    have hrC_ : Room (2) _ := hr.mono (by first | decide | omega)
    have hrD_ : Room (1) _ := hr.mono (by first | decide | omega)
    have hrE_ : Room (1) _ := hr.mono (by first | decide | omega)
    refine ⟨_, (pss_cons (ps_asg (pv 2) (pg_tup rfl (pgs_cons (pg_name (i := 3) scJo.nd rfl (.inl rfl)) (pgs_cons (pg_name (i := 4) scJo.nd rfl (.inl rfl)) (pgs_cons (pg_name (i := 5) scJo.nd rfl (.inr rfl)) pgs_nil)))))
      (pss_cons (ps_if (PW.pt (pw_or (pt_not (pt_val (pe_call GA_ hrA_ (by rfl) mA_ kA_ bA_ .nil pass0 (pa_cons (pv 4) pa_nil)))) (pw_or (pt_not (pt_val (pe_call GB_ hrB_ (by rfl) mB_ kB_ bB_ .nil pass0 (pa_cons (pv 5) (pa_cons pe_int (pa_cons (pe_glob (v := .int 3) (by rfl) m3 ⟨_, rfl⟩) pa_nil)))))) (pw_or1 (pt_not (pt_val (pe_call GC_ hrC_ (by rfl) mC_ kC_ bC_ .nil pass0 (pa_cons (pv 1) (pa_cons (pv 5) pa_nil))))))))) (pss_one (ps_ret pe_non)) pss_nil)
      (pss_cons (ps_set (i := 6) scJo.nd rfl (Or.inr rfl) (pe_dget (hu_of hr) (pv 0) (pv 4) (fun _ _ => rfl)))
      (pss_cons (ps_if (pt_val (pe_callB (cr_any rfl) (by rfl) mY (by decide +kernel) (pa_cons (pe_lc (own := [("name", 7)]) (g := (gName 7)) (tt := tYes) (te := teJ1) (by rfl) scJo.nd (pi_tup (pv 5)) (blkOk_by (own := [("name", 7)]) (N := nJo) (sc := defScope sJo) (by decide +kernel)) (fun _ _ _ _ _ => (pg_name (i := 7) scJo.nd rfl (.inl rfl))) (fun _ _ _ _ _ => pts_nil) (fun _ _ _ _ _ => (pe_cmpR op_ne (pe_call GD_ hrD_ (by rfl) mD_ kD_ bD_ .nil pass0 (pa_cons (pv 1) (pa_cons (pv 7) pa_nil))) (pe_call GD_ hrD_ (by rfl) mD_ kD_ bD_ .nil pass0 (pa_cons (pv 6) (pa_cons (pv 7) pa_nil))) (nomark _)))) pa_nil))) (pss_one (ps_ret pe_non)) pss_nil)
      (pss_cons (ps_set (i := 8) scJo.nd rfl (Or.inl rfl) (pe_callTy call_tuple_of (by rfl) T.tuple boot_tuple (pa_cons (pe_lc (own := [("column", 9)]) (g := (gName 9)) (tt := (ttJ K)) (te := _) (by rfl) scJo.nd (pi_tup (pv 6)) (blkOk_by (own := [("column", 9)]) (N := nJo) (sc := defScope sJo) (by decide +kernel)) (fun _ _ _ _ _ => (pg_name (i := 9) scJo.nd rfl (.inl rfl))) (fun _ _ _ _ _ => (pts_one (pt_cmpR op_notIn_seq (pe_ix ix_tup (pv 9) pe_int (fun _ _ => rfl)) (pv 5) (by rfl)))) (fun _ _ _ _ _ => (pv 9))) pa_nil)))
      (pss_cons (ps_if (pt_val (pe_callB (cr_any rfl) (by rfl) mY (by decide +kernel) (pa_cons (pe_lc (own := [("column", 9)]) (g := (gName 9)) (tt := tYes) (te := (teJ2 K)) (by rfl) scJo.nd (pi_tup (pv 8)) (blkOk_by (own := [("column", 9)]) (N := nJo) (sc := defScope sJo) (by decide +kernel)) (fun _ _ _ _ _ => (pg_name (i := 9) scJo.nd rfl (.inl rfl))) (fun _ _ _ _ _ => pts_nil) (fun _ _ _ _ _ => (pe_cmpR op_notN (pe_call GD_ hrD_ (by rfl) mD_ kD_ bD_ .nil pass0 (pa_cons (pv 1) (pa_cons (pe_ix ix_tup (pv 9) pe_int (fun _ _ => rfl)) pa_nil))) pe_non (nomark _)))) pa_nil))) (pss_one (ps_ret pe_non)) pss_nil)
      (pss_one (ps_ret (pe_call GE_ hrE_ (by rfl) mE_ kE_ bE_ .nil pass0 (pa_cons (pe_op op_catZ (pv 1) (pv 8)) pa_nil)))))))))), ?_⟩
    have two : 2 ≤ sizeLine := by decide
    cases st with
    | keep e => exact absurd hw (by show ¬ ("keep" : Str) = "join"; decide +kernel)
    | set x e => exact absurd hw (by show ¬ ("set" : Str) = "join"; decide +kernel)
    | select ns => exact absurd hw (by show ¬ ("select" : Str) = "join"; decide +kernel)
    | rename a b => exact absurd hw (by show ¬ ("rename" : Str) = "join"; decide +kernel)
    | sort a u => exact absurd hw (by show ¬ ("sort" : Str) = "join"; decide +kernel)
    | first n => exact absurd hw (by show ¬ ("first" : Str) = "join"; decide +kernel)
    | sample a b c => exact absurd hw (by show ¬ ("sample" : Str) = "join"; decide +kernel)
    | union a => exact absurd hw (by show ¬ ("union" : Str) = "join"; decide +kernel)
    | distinct => exact absurd hw (by show ¬ ("distinct" : Str) = "join"; decide +kernel)
    | group a b => exact absurd hw (by show ¬ ("group" : Str) = "join"; decide +kernel)
    | join t ks =>
    cases ld with
    | @join _ _ cs ht nd l1 l3 h hk l8 =>
    obtain ⟨v, e1, dv⟩ := dh3 hd
    obtain ⟨b, rfl, eb⟩ := dh_strs dv
    obtain ⟨C, hC, cC⟩ := hO.at wO.nd ht
    obtain ⟨nmt, sht, cpC⟩ := wO.ok _ ht
    have cpC : ColP cs := cpC
    have ksp : ∀ n ∈ ks, n ∈ nms ps := fun n hn => ((h n).mp hn).2
    have ksc : ∀ n ∈ ks, n ∈ nms cs := fun n hn => ((h n).mp hn).1
    have c8 := cpC.l8
    refine ⟨_, rfl, p, _, rfl, SqT.of e1, rfl, _, _, rfl, _, _, rfl, _, _, rfl, rfl, ?_⟩
    dsimp only [gNil]
    refine ⟨_, rfl, .str t, "str", rfl, .str t, nm_len sht, fun H1 s1 => ⟨_, rfl, ?_⟩⟩
    rw [nmt]
    refine iteF ⟨_, rfl, b, vS ks, 1, 3, rfl, s1 _ _ eb, _, rfl, ?_⟩
    rw [List.length_map, decide_eq_true (show (1 : Int) ≤ (ks.length : Int) by omega), decide_eq_true (show (ks.length : Int) ≤ 3 by omega)]
    refine iteF ⟨_, rfl, _, rfl, cv, b, ps, ks, rfl, hL.same s1, cp, s1 _ _ eb, ksp, nd, by omega, fun H2 s2 => ⟨_, rfl, iteF ?_⟩⟩
    have s02 := s1.trans s2
    have g := DGet.k (k := (Sum.inr t : Key)) (s02 _ _ hD0)
    rw [hC] at g
    refine ⟨_, rfl, _, rfl, D0, _, rfl, g, ?_⟩
    have hL2 := hL.same s02
    have cC2 := cC.same s02
    have eb2 := s02 _ _ eb
    have fl : (vS ks).all flatV = true := List.all_eq_true.mpr fun v hv => by
      obtain ⟨x, _, rfl⟩ := List.mem_map.mp hv
      rfl
    -- the kinds are alike
    refine ⟨_, rfl, b, rfl, ⟨_, SqT.of eb2⟩, fun A hA => lc_tup (K := K) (a := b) (xs := vS ks) (fun i H' => H' A = some (.lst ((List.replicate i false).map V.bl)) ∧ Same H2 H') ⟨upd_same, Same.upd hA⟩ (fun i H' _ pr => SqT.of (pr.2 _ _ eb2)) ?_ ?_⟩
    · rintro i y H3 hy ⟨eA, s3⟩
      rw [List.getElem?_map] at hy
      obtain ⟨n, en, rfl⟩ := Option.map_eq_some_iff.mp hy
      have hn := List.mem_of_getElem? en
      have li := (List.getElem?_eq_some_iff.mp en).1
      refine ⟨rfl, ?_⟩
      dsimp only [tYes]
      refine iteT ?_
      change teJ1 _ _ _
      refine ⟨_, rfl, _, rfl, cv, ps, n, rfl, hL2.same s3, cp.nd, _, rfl, _, rfl, C, cs, n, rfl, cC2.same s3, cpC.nd, ?_⟩
      rw [kdV_in (ksp n hn), kdV_in (ksc n hn), hk n hn]
      refine ⟨rfl, ?_⟩
      rw [decide_eq_true rfl]
      exact bl_turn hA eA (by omega) s3
    rintro H3 ⟨eA, s3⟩
    refine ⟨A, List.replicate _ false, rfl, SqL.of eA, _, rfl, ?_⟩
    rw [any_rep]
    have hL3 := hL2.same s3
    have eb3 := s3 _ _ eb2
    obtain ⟨ws, zC, wc⟩ := cC2.same s3
    have lw := wc.len
    -- what is added
    refine iteF ⟨_, rfl, C, rfl, ⟨_, zC.sq⟩, fun M hM => lc_tup (K := K) (a := C) (xs := ws) (fun i H' => (∃ ms, H' M = some (.lst ms) ∧ Cols H' ms ((cs.take i).filter fun p => decide (p.1 ∉ nms ps))) ∧ Same H3 H') ⟨⟨[], upd_same, .nil⟩, Same.upd hM⟩ (fun i H' _ pr => (zC.same pr.2).sq) ?_ ?_⟩
    · rintro i y H4 hy ⟨⟨ms, e4, m4⟩, s4⟩
      obtain ⟨a, z, kk, rfl, ea, ep⟩ := wc.get _ _ hy
      have zc : z ∈ nms cs := List.mem_map_of_mem (f := (·.1)) (List.mem_of_getElem? ep)
      refine ⟨rfl, ?_⟩
      change ttJ K _ _ _
      refine ⟨_, rfl, a, _, _, .str z, rfl, rfl, SqT.of (s4 _ _ ea), at_of (j := 0) rfl rfl, _, rfl, b, _, rfl, .inr (SqT.of (s4 _ _ eb3)), rfl, fl, _, rfl, ?_⟩
      rw [if_pos rfl, in_strs]
      have lm : ms.length ≤ 8 := by
        have := m4.len
        have := List.length_filter_le (fun p : Str × Str => decide (p.1 ∉ nms ps)) (cs.take i)
        rw [List.length_take] at this
        omega
      by_cases m : z ∈ nms ps
      · rw [decide_eq_true ((h z).mpr ⟨zc, m⟩)]
        refine iteF ⟨⟨ms, e4, ?_⟩, s4⟩
        rw [fil_take _ ep, show decide ((z, kk).1 ∉ nms ps) = false from decide_eq_false (fun h => h m)]
        simpa using m4
      · rw [decide_eq_false (fun h' => m ((h z).mp h').2)]
        refine iteT ⟨_, rfl, ms, e4, lt_size (by omega), ⟨ms ++ [.ref a], upd_same, ?_⟩, fun b o e => by rw [upd_ne (ne_of_none e hM)]; exact s4 b o e⟩
        rw [fil_take _ ep, show decide ((z, kk).1 ∉ nms ps) = true from decide_eq_true m]
        exact (m4.app (.cons (s4 _ _ ea) .nil)).t (SameT.lst e4)
    rintro H4 ⟨⟨ms, e4, m4⟩, s4⟩
    rw [lw, List.take_length] at m4
    refine ⟨M, ms, rfl, .inl ⟨SqL.of e4, fun r hr' => ?_⟩⟩
    have zr := Same.upd (o := .tup ms) hr'
    have er : L2.upd H4 r (.tup ms) r = some (.tup ms) := upd_same
    have m5 := m4.t (SameT.of zr)
    have hL5 := hL3.same (s4.trans zr)
    have s35 := s4.trans zr
    generalize L2.upd H4 r (.tup ms) = H5 at er m5 hL5 s35 ⊢
    have lms := m5.len
    have l7 := l8
    have nin : ∀ p ∈ cs.filter (fun p => decide (p.1 ∉ nms ps)), p.1 ∉ nms ps := fun p hp => of_decide_eq_true (List.mem_filter.mp hp).2
    -- none of it is there
    refine ⟨_, rfl, r, rfl, ⟨_, SqT.of er⟩, fun A2 hA2 => lc_tup (K := K) (a := r) (xs := ms) (fun i H' => H' A2 = some (.lst ((List.replicate i false).map V.bl)) ∧ Same H5 H') ⟨upd_same, Same.upd hA2⟩ (fun i H' _ pr => SqT.of (pr.2 _ _ er)) ?_ ?_⟩
    · rintro i y H6 hy ⟨eA2, s6⟩
      obtain ⟨a, z, kk, rfl, ea, ep⟩ := m5.get _ _ hy
      have li := (List.getElem?_eq_some_iff.mp hy).1
      refine ⟨rfl, ?_⟩
      dsimp only [tYes]
      refine iteT ?_
      change teJ2 K _ _ _
      refine ⟨_, rfl, _, rfl, a, _, _, .str z, rfl, rfl, SqT.of (s6 _ _ ea), at_of (j := 0) rfl rfl, cv, ps, z, rfl, hL5.same s6, cp.nd, rfl, ?_⟩
      rw [kdV_no (nin _ (List.mem_of_getElem? ep))]
      exact bl_turn hA2 eA2 (by omega) s6
    rintro H6 ⟨eA2, s6⟩
    refine ⟨A2, List.replicate _ false, rfl, SqL.of eA2, _, rfl, ?_⟩
    rw [any_rep]
    have s06 := ((s02.trans s3).trans s35).trans s6
    obtain ⟨xs, zL, cc⟩ := hL5.same s6
    have lx := cc.len
    have p1 := cp.l1
    have p8 := cp.l8
    refine iteF ⟨_, rfl, _, rfl, cv, r, xs, ms, rfl, rfl, zL.sq, SqT.of (s6 _ _ er), fun z => by rw [z] at lx; change 0 = _ at lx; omega, Nat.le_trans (show _ ≤ 16 by omega) (by decide), fun z => ?_, fun _ q ob hq d1 d2 => ?_⟩
    · subst z
      have ez : (cs.filter fun p => decide (p.1 ∉ nms ps)) = [] := List.eq_nil_of_length_eq_zero lms.symm
      rw [ez, List.append_nil] at k
      exact ⟨cv, ps, rfl, ⟨xs, zL, cc⟩, p8, k cv H6 s06 ⟨xs, zL, cc⟩⟩
    · have zq := Same.upd (o := .frz ob (.tup (xs ++ ms))) hq
      have ca : CA _ q (ps ++ cs.filter fun p => decide (p.1 ∉ nms ps)) := ⟨xs ++ ms, ⟨ob, d1, d2, upd_same⟩, (cc.t (SameT.of zq)).app (m5.t (SameT.of (s6.trans zq)))⟩
      exact ⟨q, _, rfl, ca, by rw [List.length_append]; exact l8, k q _ (s06.trans zq) ca⟩
end
abbrev sTt : Stmt := top 60
abbrev nTt : List Str := ["columns", "thing", "name", "function", "column", "kind"]
abbrev pTt : List Str := ["columns", "thing"]
theorem scTt : FnScope nTt pTt (defScope sTt) := ⟨rfl, rfl, rfl, by decide +kernel, rfl, by decide +kernel, by decide +kernel⟩
section
variable {fA_ fB_ fC_ : Addr} {fdA_ fdB_ fdC_ : FuncData}
theorem ok_Tt (F : Fun K "is_total" "is_total" sTt f fd) (T : Bt mg) {fA : Addr} (mF : mg "FUNCTIONS" = some (.ref fA)) (hF2 : ∀ H, SqT K H fA (vS fnS))
    (GA_ : FnOk P w K mg base CX0 1 fA_ fdA_ ["value", "low", "high"] (spTo)) (mA_ : mg "is_tuple_of" = some (.ref fA_)) (kA_ : PySem.W.keepIn K (.ref fA_) = true) (bA_ : Binds K fdA_ ["value", "low", "high"] [])
    (GB_ : FnOk P w K mg base CX0 1 fB_ fdB_ ["value"] (spName)) (mB_ : mg "is_name" = some (.ref fB_)) (kB_ : PySem.W.keepIn K (.ref fB_) = true) (bB_ : Binds K fdB_ ["value"] [])
    (GC_ : FnOk P w K mg base CX0 1 fC_ fdC_ ["columns", "name"] (spKi)) (mC_ : mg "kind_in" = some (.ref fC_)) (kC_ : PySem.W.keepIn K (.ref fC_) = true) (bC_ : Binds K fdC_ ["columns", "name"] []) : FnOk P w K mg base CX0 2 f fd pTt (spTt) := by
  refine F.ok scTt (fun vs H Q E h => ?_) (fun cdv A outer s H vs Q E hr h => ?_)
  · obtain ⟨L, q, ps, t, rfl, _⟩ := h
    rfl
  · obtain ⟨L, q, ps, t, rfl, hL, cp, hq, sht, nmt, hf, hc, hk, k⟩ := h
    have hrA_ : Room (1) _ := hr.mono (by first | decide | omega)
    have hrB_ : Room (1) _ := hr.mono (by first | decide | omega)
    have hrC_ : Room (1) _ := hr.mono (by first | decide | omega)
    refine ⟨_, (pss_cons (ps_if (pt_not (pt_val (pe_call GA_ hrA_ (by rfl) mA_ kA_ bA_ .nil pass0 (pa_cons (pv 1) (pa_cons pe_int (pa_cons pe_int pa_nil)))))) (pss_one (ps_ret pe_bl)) pss_nil)
      (pss_cons (ps_asg (pv 1) (pg_tup rfl (pgs_cons (pg_name (i := 2) scTt.nd rfl (.inl rfl)) (pgs_cons (pg_name (i := 3) scTt.nd rfl (.inl rfl)) (pgs_cons (pg_name (i := 4) scTt.nd rfl (.inl rfl)) pgs_nil)))))
      (pss_cons (ps_if (PW.pt (pw_or (pt_not (pt_val (pe_call GB_ hrB_ (by rfl) mB_ kB_ bB_ .nil pass0 (pa_cons (pv 2) pa_nil)))) (pw_or1 (pt_cmpR op_notIn_seq (pv 3) (pe_glob (v := .ref fA) (by rfl) mF rfl) (by rfl))))) (pss_one (ps_ret pe_bl)) pss_nil)
      (pss_cons (ps_set (i := 5) scTt.nd rfl (Or.inl rfl) (pe_call GC_ hrC_ (by rfl) mC_ kC_ bC_ .nil pass0 (pa_cons (pv 0) (pa_cons (pv 4) pa_nil))))
      (pss_one (ps_ret (pe_or (pe_cmpR op_eq (pv 5) pe_str (nomark _)) (pe_one (pe_and (pe_cmpR op_eq (pv 3) pe_str (nomark _)) (pe_one (pe_cmpR op_notN (pv 5) pe_non (nomark _)))))))))))), ?_⟩
    have sE : ∀ (a b : Str), decide (V.str a = V.str b) = decide (a = b) := fun a b => decide_eq_decide.mpr ⟨fun e => by injection e, fun e => by rw [e]⟩
    refine ⟨_, rfl, q, _, 3, 3, rfl, hq, _, rfl, ?_⟩
    rw [show (decide ((3 : Int) ≤ ((vS [t.1, t.2.1, t.2.2]).length : Int)) && decide (((vS [t.1, t.2.1, t.2.2]).length : Int) ≤ 3)) = true from rfl]
    refine iteF ⟨_, rfl, q, _, rfl, SqT.of hq, rfl, _, _, rfl, _, _, rfl, _, _, rfl, rfl, ?_⟩
    dsimp only [gNil]
    refine ⟨_, rfl, .str t.1, "str", rfl, .str t.1, nm_len sht, fun H1 s1 => ⟨_, rfl, ?_⟩⟩
    rw [nmt]
    refine iteF ⟨_, rfl, fA, _, rfl, .inr (hF2 H1), rfl, by unfold fnS; rfl, _, rfl, ?_⟩
    rw [in_strs, decide_eq_true hf]
    refine iteF ⟨_, rfl, _, rfl, L, ps, t.2.2, rfl, hL.same s1, cp.nd, ?_⟩
    rw [kdV_in hc]
    refine ⟨_, rfl, rfl, _, rfl, ?_⟩
    rw [sE]
    by_cases e : kdOf ps t.2.2 = "number"
    · rw [decide_eq_true e]
      exact iteT (k H1 s1)
    · rw [decide_eq_false e]
      have e2 : t.2.1 = "count" := Classical.byContradiction fun z => e (hk z)
      refine iteF ⟨_, rfl, rfl, _, rfl, ?_⟩
      rw [sE, decide_eq_true e2]
      exact iteT ⟨_, rfl, rfl, k H1 s1⟩
end
abbrev sGo : Stmt := top 61
abbrev nGo : List Str := ["tables", "columns", "step", "word", "names", "totals", "thing", "keys", "name", "found"]
abbrev pGo : List Str := ["tables", "columns", "step"]
theorem scGo : FnScope nGo pGo (defScope sGo) := ⟨rfl, rfl, rfl, by decide +kernel, rfl, by decide +kernel, by decide +kernel⟩
section
variable {fA_ fB_ fC_ fD_ fE_ fF_ : Addr} {fdA_ fdB_ fdC_ fdD_ fdE_ fdF_ : FuncData}
theorem ok_Go (F : Fun K "behind_group" "behind_group" sGo f fd) (T : Bt mg) (mE : mg "set" = none) {u3 u6 : Tok} (m3 : mg "MOST_KEYS" = some (.int 3 u3)) (m6 : mg "MOST_TOTALS" = some (.int 6 u6))
    (GA_ : FnOk P w K mg base CX0 1 fA_ fdA_ ["value", "low", "high"] (spTo)) (mA_ : mg "is_tuple_of" = some (.ref fA_)) (kA_ : PySem.W.keepIn K (.ref fA_) = true) (bA_ : Binds K fdA_ ["value", "low", "high"] [])
    (GB_ : FnOk P w K mg base CX0 2 fB_ fdB_ ["columns", "names"] (spAc)) (mB_ : mg "are_columns" = some (.ref fB_)) (kB_ : PySem.W.keepIn K (.ref fB_) = true) (bB_ : Binds K fdB_ ["columns", "names"] [])
    (GC_ : FnOk P w K mg base CX0 2 fC_ fdC_ ["columns", "thing"] (spTt)) (mC_ : mg "is_total" = some (.ref fC_)) (kC_ : PySem.W.keepIn K (.ref fC_) = true) (bC_ : Binds K fdC_ ["columns", "thing"] [])
    (GD_ : FnOk P w K mg base CX0 1 fD_ fdD_ ["columns", "name"] (spKi)) (mD_ : mg "kind_in" = some (.ref fD_)) (kD_ : PySem.W.keepIn K (.ref fD_) = true) (bD_ : Binds K fdD_ ["columns", "name"] [])
    (GE_ : FnOk P w K mg base CX0 1 fE_ fdE_ ["columns"] (spNo)) (mE_ : mg "names_of" = some (.ref fE_)) (kE_ : PySem.W.keepIn K (.ref fE_) = true) (bE_ : Binds K fdE_ ["columns"] [])
    (GF_ : FnOk P w K mg base CX0 1 fF_ fdF_ ["columns"] (spBd)) (mF_ : mg "bounded" = some (.ref fF_)) (kF_ : PySem.W.keepIn K (.ref fF_) = true) (bF_ : Binds K fdF_ ["columns"] []) : FnOk P w K mg base CX0 3 f fd pGo ((spBeh "group")) := by
  refine F.ok scGo (fun vs H Q E h => ?_) (fun cdv A outer s H vs Q E hr h => ?_)
  · obtain ⟨D0, kvs, os, cv, p, ps, qs, st, rfl, _⟩ := h
    rfl
  · obtain ⟨D0, kvs, os, cv, p, ps, qs, st, rfl, hD0, hO, wO, hL, cp, hd, ld, hw, k⟩ := h
    have hrA_ : Room (1) _ := hr.mono (by first | decide | omega)
    have hrB_ : Room (2) _ := hr.mono (by first | decide | omega)
    have hrC_ : Room (2) _ := hr.mono (by first | decide | omega)
    have hrD_ : Room (1) _ := hr.mono (by first | decide | omega)
    have hrE_ : Room (1) _ := hr.mono (by first | decide | omega)
    have hrF_ : Room (1) _ := hr.mono (by first | decide | omega)
    refine ⟨_, (pss_cons (ps_asg (pv 2) (pg_tup rfl (pgs_cons (pg_name (i := 3) scGo.nd rfl (.inl rfl)) (pgs_cons (pg_name (i := 4) scGo.nd rfl (.inl rfl)) (pgs_cons (pg_name (i := 5) scGo.nd rfl (.inl rfl)) pgs_nil)))))
      (pss_cons (ps_if (PW.pt (pw_or (pt_not (pt_val (pe_call GA_ hrA_ (by rfl) mA_ kA_ bA_ .nil pass0 (pa_cons (pv 4) (pa_cons pe_int (pa_cons (pe_glob (v := .int 3) (by rfl) m3 ⟨_, rfl⟩) pa_nil)))))) (pw_or1 (pt_not (pt_val (pe_call GB_ hrB_ (by rfl) mB_ kB_ bB_ .nil pass0 (pa_cons (pv 1) (pa_cons (pv 4) pa_nil)))))))) (pss_one (ps_ret pe_non)) pss_nil)
      (pss_cons (ps_if (PW.pt (pw_or (pt_not (pt_val (pe_call GA_ hrA_ (by rfl) mA_ kA_ bA_ .nil pass0 (pa_cons (pv 5) (pa_cons pe_int (pa_cons (pe_glob (v := .int 6) (by rfl) m6 ⟨_, rfl⟩) pa_nil)))))) (pw_or1 (pt_not (pt_val (pe_callB (cr_all rfl) (by rfl) T.all (by decide +kernel) (pa_cons (pe_lc (own := [("thing", 6)]) (g := (gName 6)) (tt := tYes) (te := teG1) (by rfl) scGo.nd (pi_tup (pv 5)) (blkOk_by (own := [("thing", 6)]) (N := nGo) (sc := defScope sGo) (by decide +kernel)) (fun _ _ _ _ _ => (pg_name (i := 6) scGo.nd rfl (.inl rfl))) (fun _ _ _ _ _ => pts_nil) (fun _ _ _ _ _ => (pe_call GC_ hrC_ (by rfl) mC_ kC_ bC_ .nil pass0 (pa_cons (pv 1) (pa_cons (pv 6) pa_nil))))) pa_nil))))))) (pss_one (ps_ret pe_non)) pss_nil)
      (pss_cons (ps_setLc (i := 7) (own := [("name", 8)]) (g := (gName 8)) (tt := tYes) (te := teG2) (by rfl) scGo.nd rfl rfl (sw_true rfl rfl rfl (by decide +kernel)) (pi_tup (pv 4)) (blkOk_by (own := [("name", 8)]) (N := nGo) (sc := defScope sGo) (by decide +kernel)) (fun _ _ _ _ _ => (pg_name (i := 8) scGo.nd rfl (.inl rfl))) (fun _ _ _ _ _ => pts_nil) (fun _ _ _ _ _ => (pe_tup (pa_cons (pv 8) (pa_cons (pe_call GD_ hrD_ (by rfl) mD_ kD_ bD_ .nil pass0 (pa_cons (pv 1) (pa_cons (pv 8) pa_nil))) pa_nil)))))
      (pss_cons (ps_set (i := 9) scGo.nd rfl (Or.inl rfl) (pe_callTy call_tupleZ (by rfl) T.tuple boot_tuple (pa_cons (pe_op op_cat (pv 7) (pe_lc (own := [("thing", 6)]) (g := (gName 6)) (tt := tYes) (te := (teG3 K)) (by rfl) scGo.nd (pi_tup (pv 5)) (blkOk_by (own := [("thing", 6)]) (N := nGo) (sc := defScope sGo) (by decide +kernel)) (fun _ _ _ _ _ => (pg_name (i := 6) scGo.nd rfl (.inl rfl))) (fun _ _ _ _ _ => pts_nil) (fun _ _ _ _ _ => (pe_tup (pa_cons (pe_ix ix_tup (pv 6) pe_int (fun _ _ => rfl)) (pa_cons pe_str pa_nil)))))) pa_nil)))
      (pss_cons (ps_if (pt_cmpR op_lt (pe_callB call_lenX (by rfl) T.len PySem.boot_len (pa_cons (pe_callTy (cr_setX rfl) (by rfl) mE boot_set (pa_cons (pe_call GE_ hrE_ (by rfl) mE_ kE_ bE_ .nil pass0 (pa_cons (pv 9) pa_nil)) pa_nil)) pa_nil)) (pe_callB call_len_seq (by rfl) T.len PySem.boot_len (pa_cons (pv 9) pa_nil)) (nomark _)) (pss_one (ps_ret pe_non)) pss_nil)
      (pss_one (ps_ret (pe_call GF_ hrF_ (by rfl) mF_ kF_ bF_ .nil pass0 (pa_cons (pv 9) pa_nil)))))))))), ?_⟩
    have two : 2 ≤ sizeLine := by decide
    cases st with
    | keep e => exact absurd hw (by show ¬ ("keep" : Str) = "group"; decide +kernel)
    | set x e => exact absurd hw (by show ¬ ("set" : Str) = "group"; decide +kernel)
    | select ns => exact absurd hw (by show ¬ ("select" : Str) = "group"; decide +kernel)
    | rename a b => exact absurd hw (by show ¬ ("rename" : Str) = "group"; decide +kernel)
    | sort a u => exact absurd hw (by show ¬ ("sort" : Str) = "group"; decide +kernel)
    | first n => exact absurd hw (by show ¬ ("first" : Str) = "group"; decide +kernel)
    | sample a b c => exact absurd hw (by show ¬ ("sample" : Str) = "group"; decide +kernel)
    | join a b => exact absurd hw (by show ¬ ("join" : Str) = "group"; decide +kernel)
    | union a => exact absurd hw (by show ¬ ("union" : Str) = "group"; decide +kernel)
    | distinct => exact absurd hw (by show ¬ ("distinct" : Str) = "group"; decide +kernel)
    | group ks ts =>
    cases ld with
    | group hk g ht =>
    obtain ⟨v, u, e1, dv, du⟩ := dh3g hd
    obtain ⟨b, rfl, eb⟩ := dh_strs dv
    cases du with
    | @tup tq us _ eu hu =>
    have lu : us.length = ts.length := by rw [hu.len, List.length_map]
    obtain ⟨t1, t6⟩ := g.tl
    have kl := g.kl
    have al := g.al
    refine ⟨_, rfl, p, _, rfl, SqT.of e1, rfl, _, _, rfl, _, _, rfl, _, _, rfl, rfl, ?_⟩
    dsimp only [gNil]
    have knd : ks.Nodup := by
      have := g.nd
      rw [List.nodup_append] at this
      exact this.1
    refine ⟨_, rfl, b, vS ks, 0, 3, rfl, eb, _, rfl, ?_⟩
    rw [List.length_map, decide_eq_true (show (0 : Int) ≤ (ks.length : Int) by omega), decide_eq_true (show (ks.length : Int) ≤ 3 by omega)]
    refine iteF ⟨_, rfl, _, rfl, cv, b, ps, ks, rfl, hL, cp, eb, hk, knd, by omega, fun H1 s1 => ⟨_, rfl, iteF ?_⟩⟩
    refine ⟨_, rfl, tq, us, 1, 6, rfl, s1 _ _ eu, _, rfl, ?_⟩
    rw [decide_eq_true (show (1 : Int) ≤ (us.length : Int) by omega), decide_eq_true (show (us.length : Int) ≤ 6 by omega)]
    have hL1 := hL.same s1
    have eu1 := s1 _ _ eu
    have eb1 := s1 _ _ eb
    have hu1 := hu.same s1
    -- each total is one
    refine iteF ⟨_, rfl, tq, rfl, ⟨_, SqT.of eu1⟩, fun A hA => lc_tup (K := K) (a := tq) (xs := us) (fun i H' => H' A = some (.lst ((List.replicate i true).map V.bl)) ∧ Same H1 H') ⟨upd_same, Same.upd hA⟩ (fun i H' _ pr => SqT.of (pr.2 _ _ eu1)) ?_ ?_⟩
    · rintro i y H3 hy ⟨eA, s3⟩
      have li := (List.getElem?_eq_some_iff.mp hy).1
      obtain ⟨dd, edd, hdd⟩ := hu1.get i y hy
      rw [List.getElem?_map] at edd
      obtain ⟨tt, et, rfl⟩ := Option.map_eq_some_iff.mp edd
      obtain ⟨q, rfl, eq⟩ := totS3_dh hdd
      have tm := List.mem_of_getElem? et
      obtain ⟨q1, q2, q3⟩ := ht tt tm
      obtain ⟨q4, q5, _⟩ := g.t tt tm
      refine ⟨rfl, ?_⟩
      dsimp only [tYes]
      refine iteT ?_
      change teG1 _ _ _
      exact ⟨_, rfl, _, rfl, cv, q, ps, tt, rfl, hL1.same s3, cp, s3 _ _ eq, q1, q4, q5, q2, q3, fun H4 s4 => bl_turn hA (s4 _ _ eA) (by omega) (s3.trans s4)⟩
    rintro H3 ⟨eA, s3⟩
    refine ⟨A, List.replicate _ true, rfl, SqL.of eA, _, rfl, ?_⟩
    rw [all_rep]
    have hL3 := hL1.same s3
    have eu3 := s3 _ _ eu1
    have eb3 := s3 _ _ eb1
    have hu3 := hu1.same s3
    -- the keys
    refine iteF ⟨_, rfl, b, rfl, ⟨_, SqT.of eb3⟩, fun B hB => lc_tup (K := K) (a := b) (xs := vS ks) (fun i H' => (∃ ys, H' B = some (.lst ys) ∧ Cols H' ys ((ks.take i).map fun n => (n, kdOf ps n))) ∧ Same H3 H') ⟨⟨[], upd_same, .nil⟩, Same.upd hB⟩ (fun i H' _ pr => SqT.of (pr.2 _ _ eb3)) ?_ ?_⟩
    · rintro i y H4 hy ⟨⟨ys, e4, c4⟩, s4⟩
      rw [List.getElem?_map] at hy
      obtain ⟨n, en, rfl⟩ := Option.map_eq_some_iff.mp hy
      have l4 := c4.len
      rw [List.length_map, List.length_take] at l4
      refine ⟨rfl, ?_⟩
      dsimp only [tYes]
      refine iteT ?_
      change teG2 _ _ _
      refine ⟨_, rfl, _, rfl, _, rfl, cv, ps, n, rfl, hL3.same s4, cp.nd, ?_⟩
      rw [kdV_in (hk n (List.mem_of_getElem? en))]
      refine ⟨two, fun q hq => ?_⟩
      rw [List.take_add_one, en, List.map_append]
      exact col_turn hB e4 c4 (by omega) s4 (Same.refl _) hq
    rintro H4 ⟨⟨ys, e4, c4⟩, s4⟩
    rw [List.length_map, List.take_length] at c4
    have eu4 := s4 _ _ eu3
    have hu4 := hu3.same s4
    -- .. and the totals
    refine ⟨_, rfl, _, rfl, tq, rfl, ⟨_, SqT.of eu4⟩, fun G hG => lc_tup (K := K) (a := tq) (xs := us) (fun i H' => (∃ zs, H' G = some (.lst zs) ∧ Cols H' zs ((ts.take i).map fun t => (t.1, ("number" : Str)))) ∧ Same H4 H') ⟨⟨[], upd_same, .nil⟩, Same.upd hG⟩ (fun i H' _ pr => SqT.of (pr.2 _ _ eu4)) ?_ ?_⟩
    · rintro i y H5 hy ⟨⟨zs, e5, c5⟩, s5⟩
      obtain ⟨dd, edd, hdd⟩ := hu4.get i y hy
      rw [List.getElem?_map] at edd
      obtain ⟨tt, et, rfl⟩ := Option.map_eq_some_iff.mp edd
      obtain ⟨q, rfl, eq⟩ := totS3_dh hdd
      have l5 := c5.len
      rw [List.length_map, List.length_take] at l5
      refine ⟨rfl, ?_⟩
      dsimp only [tYes]
      refine iteT ?_
      change teG3 K _ _ _
      refine ⟨_, rfl, q, _, _, .str tt.1, rfl, rfl, SqT.of (s5 _ _ eq), at_of (j := 0) rfl rfl, two, fun pp hp => ?_⟩
      rw [List.take_add_one, et, List.map_append]
      exact col_turn hG e5 c5 (by omega) s5 (Same.refl _) hp
    rintro H5 ⟨⟨zs, e5, c5⟩, s5⟩
    rw [lu, List.take_length] at c5
    have lys := c4.len
    have lzs := c5.len
    rw [List.length_map] at lys lzs
    refine ⟨B, G, ys, zs, rfl, rfl, s5 _ _ e4, e5, by rw [lys, lzs]; exact Nat.le_trans (show _ ≤ 8 by omega) (by decide), fun M hM => ?_⟩
    have zM := Same.upd (o := .lst (ys ++ zs)) hM
    refine ⟨M, _, rfl, SqL.of upd_same, fun q ob hq d1 d2 => ?_⟩
    have zq := Same.upd (o := .frz ob (.tup (ys ++ zs))) hq
    let qs : CsL := ks.map (fun n => (n, kdOf ps n)) ++ ts.map fun t => (t.1, ("number" : Str))
    have ca : CA _ q qs := ⟨ys ++ zs, ⟨ob, d1, d2, upd_same⟩, ((c4.t (SameT.of s5)).app c5).t (SameT.of (zM.trans zq))⟩
    have s06 := (((s1.trans s3).trans s4).trans s5).trans (zM.trans zq)
    have q8 : qs.length ≤ 8 := by simp only [qs, List.length_append, List.length_map]; exact al
    have qnd : (nms qs).Nodup := by
      have e1 : ks.map ((fun x : Str × Str => x.1) ∘ fun n => (n, kdOf ps n)) = ks := List.map_id' ks
      have e2 : nms qs = ks ++ ts.map (·.1) := by
        simp only [qs, nms, List.map_append, List.map_map]
        rw [e1]
        rfl
      rw [e2]
      exact g.nd
    generalize L2.upd (L2.upd H5 M (.lst (ys ++ zs))) q (.frz ob (.tup (ys ++ zs))) = H6 at ca s06 ⊢
    -- unlike names
    have lnq : (nms qs).length = qs.length := List.length_map _
    obtain ⟨xs6, z6, c6⟩ := id ca
    have lx6 := c6.len
    refine ⟨_, rfl, q, qs, rfl, ca, q8, fun D H7 s7 _ e7 => ⟨D, nms qs, rfl, SqL.of e7, by omega, fun S hS => ⟨S, nms qs, rfl, upd_same, fun n ln en => ?_⟩⟩⟩
    have zS := Same.upd (o := SetXO w S (nms qs)) hS
    have en : n = (nms qs).length := en.mpr qnd
    have s8 := s7.trans zS
    refine ⟨_, rfl, q, _, rfl, .inr (z6.same s8).sq, _, _, rfl, rfl, _, rfl, ?_⟩
    rw [decide_eq_false (by omega)]
    exact iteF ⟨_, rfl, q, qs, rfl, ca.same s8, q8, k q _ (s06.trans s8) (ca.same s8)⟩
end
end
end K13
set_option Elab.async false
set_option linter.all false
set_option maxRecDepth 100000
set_option maxHeartbeats 4000000
namespace K13
open PySem PySem.Spec PyProof.Rows L2 Lc
/-! ## pipelines -/
inductive Stp where
  | pl (p : Ps)
  | ch (lb : Str) (as : List (List Ps))
def altD (a : List Ps) : PyData := .tuple (a.map Ps.d)
def Stp.d : Stp → PyData
  | .pl p => p.d
  | .ch lb as => .tuple [.str "choose", .str lb, .tuple (as.map altD)]
inductive Leads (os : OsL) : CsL → List Ps → CsL → Prop
  | nil {ps : CsL} : Leads os ps [] ps
  | cons {ps qs rs : CsL} {p : Ps} {as : List Ps} (h : Lead os ps p qs) (r : Leads os qs as rs) : Leads os ps (p :: as) rs
/-- how many alternatives a label has -/
def numL (lb : Str) : Nat := if lb = "cut" then 2 else if lb = "way" then 3 else 4
theorem numL_b (lb : Str) : 2 ≤ numL lb ∧ numL lb ≤ 4 := by
  unfold numL
  split
  · omega
  split <;> omega
inductive LeadS (os : OsL) (ps : CsL) : Stp → CsL → Prop
  | pl {p : Ps} {qs : CsL} (h : Lead os ps p qs) : LeadS os ps (.pl p) qs
  | ch {lb : Str} {as : List (List Ps)} {qs : CsL} (sl : Sh 12 lb) (nl : nmS lb) (n : as.length = numL lb) (h : ∀ a ∈ as, a.length ≤ 4 ∧ Leads os ps a qs) : LeadS os ps (.ch lb as) qs
theorem WdP.ho {os : OsL} (w : WdP os) : ∀ o ∈ os, nmS o.1 ∧ ColP o.2 := fun o h => ⟨(w.ok o h).1, (w.ok o h).2.2⟩
theorem Leads.go {os : OsL} (w : WdP os) {ps qs : CsL} {as : List Ps} (h : Leads os ps as qs) : ColP ps → ColP qs := by
  induction h with
  | nil => exact id
  | cons h r ih => exact fun c => ih (h.go c w.ho).2.2
theorem LeadS.go {os : OsL} (w : WdP os) {ps qs : CsL} {st : Stp} (h : LeadS os ps st qs) (c : ColP ps) : ColP qs := by
  cases h with
  | pl h => exact (h.go c w.ho).2.2
  | ch sl nl n h =>
    rename_i lb as
    have := numL_b lb
    cases as with
    | nil => change 0 = _ at n; omega
    | cons a r => exact (h a List.mem_cons_self).2.go w c
theorem CA.upd {H : Hp} {a L : Addr} {o0 o : HO} {ps : CsL} (h : CA H L ps) (e : H a = some o0) (n1 : ∀ ob z, o0 ≠ .frz ob z) (n2 : ∀ xs, o0 ≠ .tup xs) : CA (L2.upd H a o) L ps := by
  obtain ⟨xs, ⟨ob, d1, d2, z⟩, c⟩ := h
  have nL : L ≠ a := fun q => by rw [q, e] at z; exact n1 _ _ (Option.some.inj z)
  exact ⟨xs, ⟨ob, d1, d2, by rw [upd_ne nL]; exact z⟩, c.t (fun b ys q => by rw [upd_ne (fun z' => by rw [z', e] at q; exact n2 _ (Option.some.inj q))]; exact q)⟩
theorem CA.updL {H : Hp} {a L : Addr} {zs ys : List V} {ps : CsL} (h : CA H L ps) (e : H a = some (.lst zs)) : CA (L2.upd H a (.lst ys)) L ps := CA.upd h e (fun _ _ q => HO.noConfusion q) (fun _ q => HO.noConfusion q)
theorem CA.updK {H : Hp} {a L : Addr} {zs ys : List (Key × V)} {ps : CsL} (h : CA H L ps) (e : H a = some (.dK zs)) : CA (L2.upd H a (.dK ys)) L ps := CA.upd h e (fun _ _ q => HO.noConfusion q) (fun _ q => HO.noConfusion q)
theorem stp_ch {H : Hp} {p : Addr} {lb : Str} {as : List (List Ps)} (h : Dh H (.ref p) (Stp.d (.ch lb as))) : ∃ q us, H p = some (.tup [.str "choose", .str lb, .ref q]) ∧ H q = some (.tup us) ∧ DhAll H us (as.map altD) := by
  obtain ⟨v, e, dv⟩ := dh3 h
  cases dv with
  | @tup q us _ eq hu => exact ⟨q, us, e, eq, hu⟩
theorem alt_at {H : Hp} {v : V} {a : List Ps} (h : Dh H v (altD a)) : ∃ q us, v = .ref q ∧ H q = some (.tup us) ∧ DhAll H us (a.map Ps.d) := by
  cases h with
  | @tup q us _ eq hu => exact ⟨q, us, rfl, eq, hu⟩
theorem psd_ref {H : Hp} {v : V} {p : Ps} (h : Dh H v p.d) : ∃ a, v = .ref a := by cases p <;> cases h <;> exact ⟨_, rfl⟩
def Ps.ot : Ps → Option Str
  | .join t _ => some t
  | .union t => some t
  | _ => none
def otV : Option Str → V
  | none => .non
  | some t => .str t
theorem ot_w {st : Ps} (h : st.ot = none) : st.w ≠ "join" ∧ st.w ≠ "union" := by
  cases st with
  | join t ks => cases h
  | union t => cases h
  | keep e => exact ⟨by show ("keep" : Str) ≠ _; decide +kernel, by show ("keep" : Str) ≠ _; decide +kernel⟩
  | set x e => exact ⟨by show ("set" : Str) ≠ _; decide +kernel, by show ("set" : Str) ≠ _; decide +kernel⟩
  | select ns => exact ⟨by show ("select" : Str) ≠ _; decide +kernel, by show ("select" : Str) ≠ _; decide +kernel⟩
  | rename a b => exact ⟨by show ("rename" : Str) ≠ _; decide +kernel, by show ("rename" : Str) ≠ _; decide +kernel⟩
  | sort a u => exact ⟨by show ("sort" : Str) ≠ _; decide +kernel, by show ("sort" : Str) ≠ _; decide +kernel⟩
  | first n => exact ⟨by show ("first" : Str) ≠ _; decide +kernel, by show ("first" : Str) ≠ _; decide +kernel⟩
  | sample a b c => exact ⟨by show ("sample" : Str) ≠ _; decide +kernel, by show ("sample" : Str) ≠ _; decide +kernel⟩
  | distinct => exact ⟨by show ("distinct" : Str) ≠ _; decide +kernel, by show ("distinct" : Str) ≠ _; decide +kernel⟩
  | group a b => exact ⟨by show ("group" : Str) ≠ _; decide +kernel, by show ("group" : Str) ≠ _; decide +kernel⟩
theorem w_choose (st : Ps) : st.w ≠ "choose" := by
  cases st with
  | keep e => show ("keep" : Str) ≠ "choose"; decide +kernel
  | set x e => show ("set" : Str) ≠ "choose"; decide +kernel
  | select ns => show ("select" : Str) ≠ "choose"; decide +kernel
  | rename a b => show ("rename" : Str) ≠ "choose"; decide +kernel
  | sort a u => show ("sort" : Str) ≠ "choose"; decide +kernel
  | first n => show ("first" : Str) ≠ "choose"; decide +kernel
  | sample a b c => show ("sample" : Str) ≠ "choose"; decide +kernel
  | join a b => show ("join" : Str) ≠ "choose"; decide +kernel
  | union a => show ("union" : Str) ≠ "choose"; decide +kernel
  | distinct => show ("distinct" : Str) ≠ "choose"; decide +kernel
  | group a b => show ("group" : Str) ≠ "choose"; decide +kernel
theorem Lead.ot {os : OsL} (w : WdP os) {ps qs : CsL} {st : Ps} (h : Lead os ps st qs) {t : Str} (e : st.ot = some t) : Sh 12 t ∧ nmS t ∧ ∃ cs, (t, cs) ∈ os := by
  cases h with
  | union ht => cases e; exact ⟨(w.ok _ ht).2.1, (w.ok _ ht).1, _, ht⟩
  | join ht => cases e; exact ⟨(w.ok _ ht).2.1, (w.ok _ ht).1, _, ht⟩
  | _ => cases e
section
variable {X : Cx}
theorem op_notInDk (hu : X.A.units + 1 < cLine) : OpR X (compareOp .NotIn) (rInDk true) := by
  intro pins s σ H x y v u Q I rx ry h
  obtain ⟨a, o, rfl, g, q⟩ := h
  obtain rfl : u = Value.ref a := ry
  exact d_notIn hu I g rx fun s' I' => ⟨.bl (!o.isSome), H, I', rfl, q⟩
end
def spOo : Sp := fun vs H Q _ => ∃ (p : Addr) (st : Ps), vs = [.ref p] ∧ Dh H (.ref p) st.d ∧ (∀ t, st.ot = some t → Sh 12 t ∧ nmS t) ∧ ∀ H', Same H H' → Q (otV st.ot) H'
def spCs : Sp := fun vs H Q _ => ∃ (D0 : Addr) (kvs : List (Key × V)) (os : OsL) (cv p : Addr) (ps qs : CsL) (st : Ps) (ix : V), vs = [.ref D0, .ref cv, .ref p, ix] ∧ H D0 = some (.dK kvs) ∧ TabC H kvs os ∧ WdP os ∧ CA H cv ps ∧ ColP ps ∧ Dh H (.ref p) st.d ∧ Lead os ps st qs ∧ ∀ (cv' : Addr) (H' : Hp), Same H H' → CA H' cv' qs → Q (.ref cv') H'
def spIc : Sp := fun vs H Q _ => ∃ (p : Addr) (lb : Str) (as : List (List Ps)), vs = [.ref p] ∧ Dh H (.ref p) (Stp.d (.ch lb as)) ∧ Sh 12 lb ∧ nmS lb ∧ 2 ≤ as.length ∧ as.length ≤ 4 ∧ (∀ a ∈ as, a.length ≤ 4) ∧ ∀ H', Same H H' → Q (.bl true) H'
def spCh : Sp := fun vs H Q _ => ∃ (D0 : Addr) (kvs : List (Key × V)) (os : OsL) (cv p : Addr) (ps qs : CsL) (lb : Str) (as : List (List Ps)) (ix : V), vs = [.ref D0, .ref cv, .ref p, ix] ∧ H D0 = some (.dK kvs) ∧ TabC H kvs os ∧ WdP os ∧ CA H cv ps ∧ ColP ps ∧ Dh H (.ref p) (Stp.d (.ch lb as)) ∧ LeadS os ps (.ch lb as) qs ∧ ∀ (cv' : Addr) (H' : Hp), Same H H' → CA H' cv' qs → Q (.ref cv') H'
def spIp : Sp := fun vs H Q _ => ∃ (p sv : Addr) (src : Str) (xs : List V) (most : Int), vs = [.ref p, .int most] ∧ H p = some (.tup [.str src, .ref sv]) ∧ H sv = some (.tup xs) ∧ Sh 12 src ∧ nmS src ∧ ∀ H', Same H H' → Q (.bl (decide ((xs.length : Int) ≤ most))) H'
abbrev teIc : TE := tCall spTo [] E0 (tCons (tVar 1) (tCons (tC (.int 0)) (tCons (tC (.int 4)) tNil)))
abbrev teCh (K : PySem.W.Frag) : TE := tOp (rNeD K) (tVar 6) (tOp (rIxL K) (tVar 4) (tC (.int 0)))
section
variable {P : Program} {w : World} {K : PySem.W.Frag} {mg : Str → Option Value} {base : Heap} {f : Addr} {fd : FuncData}
abbrev sOo : Stmt := top 67
abbrev nOo : List Str := ["step", "word"]
abbrev pOo : List Str := ["step"]
theorem scOo : FnScope nOo pOo (defScope sOo) := ⟨rfl, rfl, rfl, by decide +kernel, rfl, by decide +kernel, by decide +kernel⟩
section
variable {fA_ fB_ : Addr} {fdA_ fdB_ : FuncData}
theorem ok_Oo (F : Fun K "other_of" "other_of" sOo f fd) (T : Bt mg) {lA bA : Addr} (A2 : CbA P w K mg base lA bA)
    (GA_ : FnOk P w K mg base CX0 1 fA_ fdA_ ["step"] (spWd)) (mA_ : mg "word_of" = some (.ref fA_)) (kA_ : PySem.W.keepIn K (.ref fA_) = true) (bA_ : Binds K fdA_ ["step"] [])
    (GB_ : FnOk P w K mg base CX0 1 fB_ fdB_ ["value"] (spName)) (mB_ : mg "is_name" = some (.ref fB_)) (kB_ : PySem.W.keepIn K (.ref fB_) = true) (bB_ : Binds K fdB_ ["value"] []) : FnOk P w K mg base CX0 2 f fd pOo (spOo) := by
  refine F.ok scOo (fun vs H Q E h => ?_) (fun cdv A outer s H vs Q E hr h => ?_)
  · obtain ⟨p, st, rfl, _⟩ := h
    rfl
  · obtain ⟨p, st, rfl, hd, hn, k⟩ := h
    have hrA_ : Room (1) _ := hr.mono (by first | decide | omega)
    have hrB_ : Room (1) _ := hr.mono (by first | decide | omega)
    refine ⟨_, (pss_cons (ps_set (i := 1) scOo.nd rfl (Or.inl rfl) (pe_call GA_ hrA_ (by rfl) mA_ kA_ bA_ .nil pass0 (pa_cons (pv 0) pa_nil)))
      (pss_cons (ps_if (PW.pt (pw_and (PW.pt (pw_or (pt_cmpR op_eq (pv 1) pe_str (nomark _)) (pw_or1 (pt_cmpR op_eq (pv 1) pe_str (nomark _))))) (pw_and (pt_cmpR op_eq (pe_callB call_len_seq (by rfl) T.len PySem.boot_len (pa_cons (pv 0) pa_nil)) (pe_ix ix_kdict (pe_glob (v := .ref lA) (by rfl) A2.gl rfl) (pv 1) (fun _ _ => rfl)) (nomark _)) (pw_and1 (pt_val (pe_call GB_ hrB_ (by rfl) mB_ kB_ bB_ .nil pass0 (pa_cons (pe_ix ix_tup (pv 0) pe_int (fun _ _ => rfl)) pa_nil))))))) (pss_one (ps_ret (pe_ix ix_tup (pv 0) pe_int (fun _ _ => rfl)))) pss_nil)
      (pss_one (ps_ret pe_non)))), ?_⟩
    have sE : ∀ (a b : Str), decide (V.str a = V.str b) = decide (a = b) := fun a b => decide_eq_decide.mpr ⟨fun e => by injection e, fun e => by rw [e]⟩
    obtain ⟨xs, e, lx⟩ := ps_at hd
    obtain ⟨l1, u0, l2⟩ := A2.le st
    have l4 : st.len ≤ 4 := by cases st <;> simp [Ps.len]
    refine ⟨_, rfl, p, st.w, xs, rfl, e, by omega, ?_⟩
    refine ⟨_, rfl, rfl, _, rfl, ?_⟩
    rw [sE]
    have rest : ∀ t, st.ot = some t → xs[0]? = some (.str t) := fun t ht => by
      cases st with
      | join t' ks => obtain ⟨v, e', _⟩ := dh3 hd; cases ht; rw [e] at e'; injection e' with e'; injection e' with e'; injection e' with _ e'; rw [e']; rfl
      | union t' => obtain ⟨v, e', dv⟩ := dh2 hd; cases ht; cases dv; rw [e] at e'; injection e' with e'; injection e' with e'; injection e' with _ e'; rw [e']; rfl
      | _ => cases ht
    cases ho : st.ot with
    | none =>
      obtain ⟨w1, w2⟩ := ot_w ho
      rw [decide_eq_false w1]
      refine iteF ⟨_, rfl, rfl, _, rfl, ?_⟩
      rw [sE, decide_eq_false w2]
      rw [ho] at k
      exact iteF (iteF (k H (Same.refl H)))
    | some t =>
      obtain ⟨sht, nmt⟩ := hn t ho
      have ex : (V.str st.w :: xs)[1]? = some (.str t) := rest t ho
      rw [ho] at k
      have go : ∀ {R : Prop}, R → R := id
      have last : ∃ v, V.ref p = v ∧ True := ⟨_, rfl, trivial⟩
      by_cases w1 : st.w = "join"
      · rw [decide_eq_true w1]
        refine iteT (iteT ⟨_, rfl, p, _, rfl, .inr (SqT.of e), _, rfl, lA, st.w, _, rfl, rfl, l1, rfl, _, rfl, ?_⟩)
        rw [List.length_cons, lx, decide_eq_true rfl]
        refine iteT ⟨_, rfl, p, _, _, .str t, rfl, rfl, SqT.of e, at_of (j := 1) rfl ex, .str t, "str", rfl, .str t, nm_len sht, fun H1 s1 => ⟨_, rfl, ?_⟩⟩
        rw [nmt]
        exact iteT ⟨_, rfl, p, _, _, .str t, rfl, rfl, SqT.of (s1 _ _ e), at_of (j := 1) rfl ex, k H1 s1⟩
      · have w2 : st.w = "union" := by
          cases st with
          | join _ _ => exact absurd rfl w1
          | union _ => rfl
          | _ => cases ho
        rw [decide_eq_false w1]
        refine iteF ⟨_, rfl, rfl, _, rfl, ?_⟩
        rw [sE, decide_eq_true w2]
        refine iteT ⟨_, rfl, p, _, rfl, .inr (SqT.of e), _, rfl, lA, st.w, _, rfl, rfl, l1, rfl, _, rfl, ?_⟩
        rw [List.length_cons, lx, decide_eq_true rfl]
        refine iteT ⟨_, rfl, p, _, _, .str t, rfl, rfl, SqT.of e, at_of (j := 1) rfl ex, .str t, "str", rfl, .str t, nm_len sht, fun H1 s1 => ⟨_, rfl, ?_⟩⟩
        rw [nmt]
        exact iteT ⟨_, rfl, p, _, _, .str t, rfl, rfl, SqT.of (s1 _ _ e), at_of (j := 1) rfl ex, k H1 s1⟩
end
abbrev sCs : Stmt := top 68
abbrev nCs : List Str := ["tables", "columns", "step", "index", "other", "found"]
abbrev pCs : List Str := ["tables", "columns", "step", "index"]
theorem scCs : FnScope nCs pCs (defScope sCs) := ⟨rfl, rfl, rfl, by decide +kernel, rfl, by decide +kernel, by decide +kernel⟩
section
variable {fA_ fB_ : Addr} {fdA_ fdB_ : FuncData}
theorem ok_Cs (F : Fun K "check_step" "check_step" sCs f fd) (T : Bt mg)
    (GA_ : FnOk P w K mg base CX0 2 fA_ fdA_ ["step"] (spOo)) (mA_ : mg "other_of" = some (.ref fA_)) (kA_ : PySem.W.keepIn K (.ref fA_) = true) (bA_ : Binds K fdA_ ["step"] [])
    (GB_ : FnOk P w K mg base CX0 17 fB_ fdB_ ["tables", "columns", "step"] (spCb)) (mB_ : mg "columns_behind" = some (.ref fB_)) (kB_ : PySem.W.keepIn K (.ref fB_) = true) (bB_ : Binds K fdB_ ["tables", "columns", "step"] []) : FnOk P w K mg base CX0 18 f fd pCs (spCs) := by
  refine F.ok scCs (fun vs H Q E h => ?_) (fun cdv A outer s H vs Q E hr h => ?_)
  · obtain ⟨D0, kvs, os, cv, p, ps, qs, st, ix, rfl, _⟩ := h
    rfl
  · obtain ⟨D0, kvs, os, cv, p, ps, qs, st, ix, rfl, hD0, hO, wO, hL, cp, hd, ld, k⟩ := h
    have hrA_ : Room (2) _ := hr.mono (by first | decide | omega)
    have hrB_ : Room (17) _ := hr.mono (by first | decide | omega)
    refine ⟨_, (pss_cons (ps_set (i := 4) scCs.nd rfl (Or.inl rfl) (pe_call GA_ hrA_ (by rfl) mA_ kA_ bA_ .nil pass0 (pa_cons (pv 2) pa_nil)))
      (pss_cons (ps_if (PW.pt (pw_and (pt_cmpR op_notN (pv 4) pe_non (nomark _)) (pw_and1 (pt_cmpR (op_notInDk (hu_of hr)) (pv 4) (pv 0) (by rfl))))) pss_dead pss_nil)
      (pss_cons (ps_set (i := 5) scCs.nd rfl (Or.inl rfl) (pe_call GB_ hrB_ (by rfl) mB_ kB_ bB_ .nil pass0 (pa_cons (pv 0) (pa_cons (pv 1) (pa_cons (pv 2) pa_nil)))))
      (pss_cons (ps_if (pt_cmpR op_isN (pv 5) pe_non (nomark _)) pss_dead pss_nil)
      (pss_one (ps_ret (pv 5))))))), ?_⟩
    refine ⟨_, rfl, p, st, rfl, hd, fun t e => ⟨(ld.ot wO e).1, (ld.ot wO e).2.1⟩, fun H1 s1 => ?_⟩
    have last : ∀ H2, Same H H2 → spCb [.ref D0, .ref cv, .ref p] H2 (fun v H' => ∃ cv', v = .ref cv' ∧ Q (.ref cv') H') E0 := fun H2 s2 => ⟨D0, kvs, os, cv, p, ps, qs, st, rfl, s2 _ _ hD0, hO.same s2, wO, hL.same s2, cp, hd.same s2, ld, fun cv' H' s' ca => ⟨cv', rfl, k cv' H' (s2.trans s') ca⟩⟩
    have fin : ∀ H2, Same H H2 → ∃ (D0' : Addr) (kvs' : List (Key × V)) (os' : OsL) (cv' p' : Addr) (ps' qs' : CsL) (st' : Ps), [V.ref D0, .ref cv, .ref p] = [.ref D0', .ref cv', .ref p'] ∧ H2 D0' = some (.dK kvs') ∧ TabC H2 kvs' os' ∧ WdP os' ∧ CA H2 cv' ps' ∧ ColP ps' ∧ Dh H2 (.ref p') st'.d ∧ Lead os' ps' st' qs' ∧ qs' = qs := fun H2 s2 => ⟨D0, kvs, os, cv, p, ps, qs, st, rfl, s2 _ _ hD0, hO.same s2, wO, hL.same s2, cp, hd.same s2, ld, rfl⟩
    clear last fin
    have hD1 := s1 _ _ hD0
    have hO1 := hO.same s1
    cases ho : st.ot with
    | none =>
      refine ⟨_, rfl, rfl, _, rfl, iteF ?_⟩
      exact ⟨_, rfl, _, rfl, _, rfl, D0, kvs, os, cv, p, ps, qs, st, rfl, hD1, hO1, wO, hL.same s1, cp, hd.same s1, ld, fun cv' H' s' ca => ⟨_, rfl, rfl, _, rfl, iteF ⟨_, rfl, k cv' H' (s1.trans s') ca⟩⟩⟩
    | some t =>
      obtain ⟨_, _, cs, ht⟩ := ld.ot wO ho
      obtain ⟨C, hC, _⟩ := hO1.at wO.nd ht
      have g := DGet.k (k := (Sum.inr t : Key)) hD1
      rw [hC] at g
      refine ⟨_, rfl, rfl, _, rfl, iteT ⟨_, rfl, _, rfl, D0, _, rfl, g, _, rfl, iteF ?_⟩⟩
      exact ⟨_, rfl, _, rfl, _, rfl, D0, kvs, os, cv, p, ps, qs, st, rfl, hD1, hO1, wO, hL.same s1, cp, hd.same s1, ld, fun cv' H' s' ca => ⟨_, rfl, rfl, _, rfl, iteF ⟨_, rfl, k cv' H' (s1.trans s') ca⟩⟩⟩
end
abbrev sIc : Stmt := top 69
abbrev nIc : List Str := ["step", "steps"]
abbrev pIc : List Str := ["step"]
theorem scIc : FnScope nIc pIc (defScope sIc) := ⟨rfl, rfl, rfl, by decide +kernel, rfl, by decide +kernel, by decide +kernel⟩
section
variable {fA_ fB_ : Addr} {fdA_ fdB_ : FuncData}
theorem ok_Ic (F : Fun K "is_choose" "is_choose" sIc f fd) (T : Bt mg) {u1 u2 u3 : Tok} (mL : mg "LEAST_ALTERNATIVES" = some (.int 2 u1)) (mM : mg "MOST_ALTERNATIVES" = some (.int 4 u2)) (mI : mg "MOST_INNER_STEPS" = some (.int 4 u3))
    (GA_ : FnOk P w K mg base CX0 1 fA_ fdA_ ["value", "low", "high"] (spTo)) (mA_ : mg "is_tuple_of" = some (.ref fA_)) (kA_ : PySem.W.keepIn K (.ref fA_) = true) (bA_ : Binds K fdA_ ["value", "low", "high"] [])
    (GB_ : FnOk P w K mg base CX0 1 fB_ fdB_ ["value"] (spName)) (mB_ : mg "is_name" = some (.ref fB_)) (kB_ : PySem.W.keepIn K (.ref fB_) = true) (bB_ : Binds K fdB_ ["value"] []) : FnOk P w K mg base CX0 2 f fd pIc (spIc) := by
  refine F.ok scIc (fun vs H Q E h => ?_) (fun cdv A outer s H vs Q E hr h => ?_)
  · obtain ⟨p, lb, as, rfl, _⟩ := h
    rfl
  · obtain ⟨p, lb, as, rfl, hd, sl, nl, l2, l4, h4, k⟩ := h
    have hrA_ : Room (1) _ := hr.mono (by first | decide | omega)
    have hrB_ : Room (1) _ := hr.mono (by first | decide | omega)
    refine ⟨_, (pss_cons (ps_if (PW.pt (pw_or (pt_not (pt_val (pe_call GA_ hrA_ (by rfl) mA_ kA_ bA_ .nil pass0 (pa_cons (pv 0) (pa_cons pe_int (pa_cons pe_int pa_nil)))))) (pw_or1 (pt_not (pt_val (pe_call GB_ hrB_ (by rfl) mB_ kB_ bB_ .nil pass0 (pa_cons (pe_ix ix_tup (pv 0) pe_int (fun _ _ => rfl)) pa_nil))))))) (pss_one (ps_ret pe_bl)) pss_nil)
      (pss_cons (ps_if (pt_not (pt_val (pe_call GA_ hrA_ (by rfl) mA_ kA_ bA_ .nil pass0 (pa_cons (pe_ix ix_tup (pv 0) pe_int (fun _ _ => rfl)) (pa_cons (pe_glob (v := .int 2) (by rfl) mL ⟨_, rfl⟩) (pa_cons (pe_glob (v := .int 4) (by rfl) mM ⟨_, rfl⟩) pa_nil)))))) (pss_one (ps_ret pe_bl)) pss_nil)
      (pss_one (ps_ret (pe_callB (cr_all rfl) (by rfl) T.all (by decide +kernel) (pa_cons (pe_lc (own := [("steps", 1)]) (g := (gName 1)) (tt := tYes) (te := teIc) (by rfl) scIc.nd (pi_tup (pe_ix ix_tup (pv 0) pe_int (fun _ _ => rfl))) (blkOk_by (own := [("steps", 1)]) (N := nIc) (sc := defScope sIc) (by decide +kernel)) (fun _ _ _ _ _ => (pg_name (i := 1) scIc.nd rfl (.inl rfl))) (fun _ _ _ _ _ => pts_nil) (fun _ _ _ _ _ => (pe_call GA_ hrA_ (by rfl) mA_ kA_ bA_ .nil pass0 (pa_cons (pv 1) (pa_cons pe_int (pa_cons (pe_glob (v := .int 4) (by rfl) mI ⟨_, rfl⟩) pa_nil)))))) pa_nil)))))), ?_⟩
    obtain ⟨q, us, e, eq, hu⟩ := stp_ch hd
    have lu : us.length = as.length := by rw [hu.len, List.length_map]
    refine ⟨_, rfl, p, _, 3, 3, rfl, e, _, rfl, ?_⟩
    rw [show (decide ((3 : Int) ≤ (([V.str "choose", .str lb, .ref q] : List V).length : Int)) && decide ((([V.str "choose", .str lb, .ref q] : List V).length : Int) ≤ 3)) = true from rfl]
    refine iteF ⟨_, rfl, p, _, _, .str lb, rfl, rfl, SqT.of e, at_of (j := 1) rfl rfl, .str lb, "str", rfl, .str lb, nm_len sl, fun H1 s1 => ⟨_, rfl, ?_⟩⟩
    rw [nl]
    have e1 := s1 _ _ e
    have eq1 := s1 _ _ eq
    have hu1 := hu.same s1
    refine iteF ⟨_, rfl, p, _, _, .ref q, rfl, rfl, SqT.of e1, at_of (j := 2) rfl rfl, q, us, 2, 4, rfl, eq1, _, rfl, ?_⟩
    rw [decide_eq_true (show (2 : Int) ≤ (us.length : Int) by omega), decide_eq_true (show (us.length : Int) ≤ 4 by omega)]
    refine iteF ⟨_, rfl, p, _, _, .ref q, rfl, rfl, SqT.of e1, at_of (j := 2) rfl rfl, q, rfl, ⟨_, SqT.of eq1⟩, fun A hA => lc_tup (K := K) (a := q) (xs := us) (fun i H' => H' A = some (.lst ((List.replicate i true).map V.bl)) ∧ Same H1 H') ⟨upd_same, Same.upd hA⟩ (fun i H' _ pr => SqT.of (pr.2 _ _ eq1)) ?_ ?_⟩
    · rintro i y H3 hy ⟨eA, s3⟩
      have li := (List.getElem?_eq_some_iff.mp hy).1
      obtain ⟨dd, edd, hdd⟩ := hu1.get i y hy
      rw [List.getElem?_map] at edd
      obtain ⟨a, ea, rfl⟩ := Option.map_eq_some_iff.mp edd
      obtain ⟨r, vs, rfl, er, hv⟩ := alt_at hdd
      have lv : vs.length = a.length := by rw [hv.len, List.length_map]
      have a4 := h4 a (List.mem_of_getElem? ea)
      refine ⟨rfl, ?_⟩
      dsimp only [tYes]
      refine iteT ?_
      change teIc _ _ _
      refine ⟨_, rfl, r, vs, 0, 4, rfl, s3 _ _ er, ?_⟩
      rw [decide_eq_true (show (0 : Int) ≤ (vs.length : Int) by omega), decide_eq_true (show (vs.length : Int) ≤ 4 by omega)]
      exact bl_turn hA eA (by omega) s3
    rintro H3 ⟨eA, s3⟩
    refine ⟨A, List.replicate _ true, rfl, SqL.of eA, ?_⟩
    rw [all_rep]
    exact k H3 (s1.trans s3)
end
abbrev sCh : Stmt := top 70
abbrev nCh : List Str := ["tables", "columns", "step", "index", "ends", "steps", "end", "inner"]
abbrev pCh : List Str := ["tables", "columns", "step", "index"]
theorem scCh : FnScope nCh pCh (defScope sCh) := ⟨rfl, rfl, rfl, by decide +kernel, rfl, by decide +kernel, by decide +kernel⟩
section
variable {fA_ : Addr} {fdA_ : FuncData}
theorem ok_Ch (F : Fun K "check_choose" "check_choose" sCh f fd) (T : Bt mg) (mY : mg "any" = none)
    (GA_ : FnOk P w K mg base CX0 18 fA_ fdA_ ["tables", "columns", "step", "index"] (spCs)) (mA_ : mg "check_step" = some (.ref fA_)) (kA_ : PySem.W.keepIn K (.ref fA_) = true) (bA_ : Binds K fdA_ ["tables", "columns", "step", "index"] []) : FnOk P w K mg base CX0 19 f fd pCh (spCh) := by
  refine F.ok scCh (fun vs H Q E h => ?_) (fun cdv A outer s H vs Q E hr h => ?_)
  · obtain ⟨D0, kvs, os, cv, p, ps, qs, lb, as, ix, rfl, _⟩ := h
    rfl
  · obtain ⟨D0, kvs, os, cv, p, ps, qs, lb, as, ix, rfl, hD0, hO, wO, hL, cp, hd, ld, k⟩ := h
    have hrA_ : Room (18) _ := hr.mono (by first | decide | omega)
    refine ⟨_, (pss_cons (ps_set (i := 4) scCh.nd rfl (Or.inr rfl) (pe_lst pa_nil))
      (pss_cons (ps_for PassesOwn.never rfl (pi_tup (pe_ix ix_tup (pv 2) pe_int (fun _ _ => rfl))) (pg_name (i := 5) scCh.nd rfl (.inl rfl)) (pss_cons (ps_set (i := 6) scCh.nd rfl (Or.inl rfl) (pv 1))
      (pss_cons (ps_for PassesOwn.never rfl (pi_tup (pv 5)) (pg_name (i := 7) scCh.nd rfl (.inl rfl)) (pss_one (ps_set (i := 6) scCh.nd rfl (Or.inl rfl) (pe_call GA_ hrA_ (by rfl) mA_ kA_ bA_ .nil pass0 (pa_cons (pv 0) (pa_cons (pv 6) (pa_cons (pv 7) (pa_cons (pv 3) pa_nil))))))))
      (pss_one (ps_expr (pe_bm PySem.F.plainAttrs_list PySem.F.slot_list_append PySem.F.type_list_append mt_append (pv 4) (pa_cons (pv 6) pa_nil)))))))
      (pss_cons (ps_if (pt_val (pe_callB (cr_any rfl) (by rfl) mY (by decide +kernel) (pa_cons (pe_lc (own := [("end", 6)]) (g := (gName 6)) (tt := tYes) (te := (teCh K)) (by rfl) scCh.nd (pi_list (pv 4)) (blkOk_by (own := [("end", 6)]) (N := nCh) (sc := defScope sCh) (by decide +kernel)) (fun _ _ _ _ _ => (pg_name (i := 6) scCh.nd rfl (.inl rfl))) (fun _ _ _ _ _ => pts_nil) (fun _ _ _ _ _ => (pe_cmpR (op_neD hr.units) (pv 6) (pe_ix ix_list (pv 4) pe_int (fun _ _ => rfl)) (nomark _)))) pa_nil))) pss_dead pss_nil)
      (pss_one (ps_ret (pe_ix ix_list (pv 4) pe_int (fun _ _ => rfl))))))), ?_⟩
    obtain ⟨q, us, e, eq, hu⟩ := stp_ch hd
    have lu : us.length = as.length := by rw [hu.len, List.length_map]
    cases ld with
    | ch sl nl n h =>
    have nb := numL_b lb
    have cpq : ColP qs := (LeadS.ch sl nl n h).go wO cp
    refine ⟨Nat.zero_le _, fun G hG => ?_⟩
    have zG := Same.upd (o := .lst []) hG
    have nGe : ∀ {H' : Hp}, Same H H' → ∀ b o, H b = some o → H' b = some o := fun s => s
    refine ⟨_, rfl, p, _, _, .ref q, rfl, rfl, SqT.of (zG _ _ e), at_of (j := 2) rfl rfl, q, rfl, ⟨_, SqT.of (zG _ _ eq)⟩, for_tup (K := K) (a := q) (xs := us) (fun i σ H' => (∃ (x5 x6 x7 : Option V), σ = [some (.ref D0), some (.ref cv), some (.ref p), some ix, some (.ref G), x5, x6, x7]) ∧ (∃ cs : List Addr, H' G = some (.lst (cs.map V.ref)) ∧ cs.length = i ∧ ∀ c ∈ cs, CA H' c qs) ∧ Same H H') ⟨⟨_, _, _, rfl⟩, ⟨[], upd_same, rfl, nofun⟩, zG⟩ (fun i σ H' _ pr => SqT.of (pr.2.2 _ _ eq)) ?_ ?_⟩
    · rintro i y σ H1 hy ⟨⟨x5, x6, x7, rfl⟩, ⟨cs, eG, lc, hc⟩, s1⟩
      have li := (List.getElem?_eq_some_iff.mp hy).1
      obtain ⟨dd, edd, hdd⟩ := hu.get i y hy
      rw [List.getElem?_map] at edd
      obtain ⟨a, ea, rfl⟩ := Option.map_eq_some_iff.mp edd
      obtain ⟨r, vs, rfl, er, hv⟩ := alt_at hdd
      obtain ⟨a4, la⟩ := h a (List.mem_of_getElem? ea)
      have lv : vs.length = a.length := by rw [hv.len, List.length_map]
      refine ⟨_, rfl, ?_⟩
      refine ⟨_, rfl, r, rfl, ⟨_, SqT.of (s1 _ _ er)⟩, for_tup (K := K) (a := r) (xs := vs) (fun j σ H' => (∃ (ce : Addr) (x7 : Option V) (cur : CsL), σ = [some (.ref D0), some (.ref cv), some (.ref p), some ix, some (.ref G), some (.ref r), some (.ref ce), x7] ∧ CA H' ce cur ∧ ColP cur ∧ Leads os cur (a.drop j) qs) ∧ Same H1 H') ⟨⟨cv, _, ps, rfl, hL.same s1, cp, la⟩, Same.refl _⟩ (fun j σ H' _ pr => SqT.of (pr.2 _ _ (s1 _ _ er))) ?_ ?_⟩
      · rintro j z σ H2 hz ⟨⟨ce, x7, cur, rfl, hce, cc, lr⟩, s2⟩
        obtain ⟨d2, ed2, hd2⟩ := hv.get j z hz
        rw [List.getElem?_map] at ed2
        obtain ⟨st, est, rfl⟩ := Option.map_eq_some_iff.mp ed2
        obtain ⟨pz, rfl⟩ := psd_ref hd2
        have s02 := s1.trans s2
        have lj := (List.getElem?_eq_some_iff.mp est).1
        have ed : a.drop j = st :: a.drop (j + 1) := by
          rw [List.drop_eq_getElem_cons lj]
          congr 1
          exact (List.getElem?_eq_some_iff.mp est).2
        rw [ed] at lr
        cases lr with
        | @cons _ nx _ _ _ l1 lr =>
        exact ⟨_, rfl, _, rfl, _, rfl, _, rfl, D0, kvs, os, ce, pz, cur, nx, st, ix, rfl, s02 _ _ hD0, hO.same s02, wO, hce, cc, hd2.same s02, l1, fun cv' H3 s3 ca => ⟨⟨cv', _, nx, rfl, ca, (l1.go cc wO.ho).2.2, lr⟩, s2.trans s3⟩⟩
      · rintro σ H2 ⟨⟨ce, x7, cur, rfl, hce, cc, lr⟩, s2⟩
        rw [List.drop_of_length_le (by omega)] at lr
        cases lr
        have eG2 := s2 _ _ eG
        refine ⟨_, rfl, .inl ⟨rfl, _, SqL.of eG2⟩, _, rfl, G, _, _, rfl, rfl, eG2, lt_size (by rw [List.length_map]; omega), ⟨_, _, _, rfl⟩, ⟨cs ++ [ce], by rw [upd_same, List.map_append]; rfl, by rw [List.length_append, lc]; rfl, fun c hc' => ?_⟩, fun b o eb => by rw [upd_ne (ne_of_none eb hG)]; exact s2 _ _ (s1 _ _ eb)⟩
        rcases List.mem_append.mp hc' with hc' | hc'
        · exact CA.updL ((hc c hc').same s2) eG2
        · rw [List.mem_singleton.mp hc']
          exact CA.updL hce eG2
    · rintro σ H1 ⟨⟨x5, x6, x7, rfl⟩, ⟨cs, eG, lc, hc⟩, s1⟩
      have l1 : 0 < cs.length := by omega
      obtain ⟨c0, rest, rfl⟩ : ∃ c0 rest, cs = c0 :: rest := by
        cases cs with
        | nil => exact absurd l1 (Nat.lt_irrefl 0)
        | cons c r => exact ⟨c, r, rfl⟩
      refine ⟨_, rfl, G, rfl, ⟨_, SqL.of eG⟩, fun A hA => lc_list (K := K) (a := G) (xs := (c0 :: rest).map V.ref) (fun i H' => H' A = some (.lst ((List.replicate i false).map V.bl)) ∧ Same H1 H') ⟨upd_same, Same.upd hA⟩ (fun i H' _ pr => SqL.of (pr.2 _ _ eG)) ?_ ?_⟩
      · rintro i y H3 hy ⟨eA, s3⟩
        rw [List.getElem?_map] at hy
        obtain ⟨c, ec, rfl⟩ := Option.map_eq_some_iff.mp hy
        have li := (List.getElem?_eq_some_iff.mp ec).1
        obtain ⟨w1, z1, k1⟩ := (hc c (List.mem_of_getElem? ec)).same s3
        obtain ⟨w0, z0, k0⟩ := (hc c0 List.mem_cons_self).same s3
        refine ⟨rfl, ?_⟩
        dsimp only [tYes]
        refine iteT ?_
        change teCh K _ _ _
        refine ⟨_, rfl, _, rfl, G, _, _, .ref c0, rfl, rfl, SqL.of (s3 _ _ eG), at_zero, _, _, .tup z1.sq (dp_cols k1), .tup z0.sq (dp_cols k0), shp_ps cpq, shp_ps cpq, ?_⟩
        rw [show PyData.eqv (.tuple (qs.map colP)) (.tuple (qs.map colP)) = decide (qs = qs) by rw [PyData.eqv, eqv_cols], decide_eq_true rfl]
        exact bl_turn hA eA (by omega) s3
      rintro H3 ⟨eA, s3⟩
      refine ⟨A, List.replicate _ false, rfl, SqL.of eA, _, rfl, ?_⟩
      rw [any_rep]
      exact iteF ⟨_, rfl, G, _, _, .ref c0, rfl, rfl, SqL.of (s3 _ _ eG), at_zero, k c0 H3 (s1.trans s3) ((hc c0 List.mem_cons_self).same s3)⟩
end
abbrev sIp : Stmt := top 71
abbrev nIp : List Str := ["value", "most"]
abbrev pIp : List Str := ["value", "most"]
theorem scIp : FnScope nIp pIp (defScope sIp) := ⟨rfl, rfl, rfl, by decide +kernel, rfl, by decide +kernel, by decide +kernel⟩
section
variable {fA_ fB_ : Addr} {fdA_ fdB_ : FuncData}
theorem ok_Ip (F : Fun K "is_pipeline" "is_pipeline" sIp f fd) (T : Bt mg)
    (GA_ : FnOk P w K mg base CX0 1 fA_ fdA_ ["value", "low", "high"] (spTo)) (mA_ : mg "is_tuple_of" = some (.ref fA_)) (kA_ : PySem.W.keepIn K (.ref fA_) = true) (bA_ : Binds K fdA_ ["value", "low", "high"] [])
    (GB_ : FnOk P w K mg base CX0 1 fB_ fdB_ ["value"] (spName)) (mB_ : mg "is_name" = some (.ref fB_)) (kB_ : PySem.W.keepIn K (.ref fB_) = true) (bB_ : Binds K fdB_ ["value"] []) : FnOk P w K mg base CX0 2 f fd pIp (spIp) := by
  refine F.ok scIp (fun vs H Q E h => ?_) (fun cdv A outer s H vs Q E hr h => ?_)
  · obtain ⟨p, sv, src, xs, most, rfl, _⟩ := h
    rfl
  · obtain ⟨p, sv, src, xs, most, rfl, hp, hs, sl, nl, k⟩ := h
    have hrA_ : Room (1) _ := hr.mono (by first | decide | omega)
    have hrB_ : Room (1) _ := hr.mono (by first | decide | omega)
    refine ⟨_, (pss_one (ps_ret (pe_and (pe_call GA_ hrA_ (by rfl) mA_ kA_ bA_ .nil pass0 (pa_cons (pv 0) (pa_cons pe_int (pa_cons pe_int pa_nil)))) (pe_and (pe_call GB_ hrB_ (by rfl) mB_ kB_ bB_ .nil pass0 (pa_cons (pe_ix ix_tup (pv 0) pe_int (fun _ _ => rfl)) pa_nil)) (pe_one (pe_call GA_ hrA_ (by rfl) mA_ kA_ bA_ .nil pass0 (pa_cons (pe_ix ix_tup (pv 0) pe_int (fun _ _ => rfl)) (pa_cons pe_int (pa_cons (pv 1) pa_nil))))))))), ?_⟩
    refine ⟨_, rfl, p, _, 2, 2, rfl, hp, _, rfl, ?_⟩
    rw [show (decide ((2 : Int) ≤ (([V.str src, .ref sv] : List V).length : Int)) && decide ((([V.str src, .ref sv] : List V).length : Int) ≤ 2)) = true from rfl]
    refine iteT ⟨_, rfl, p, _, _, .str src, rfl, rfl, SqT.of hp, at_of (j := 0) rfl rfl, .str src, "str", rfl, .str src, nm_len sl, fun H1 s1 => ⟨_, rfl, ?_⟩⟩
    rw [nl]
    refine iteT ⟨_, rfl, p, _, _, .ref sv, rfl, rfl, SqT.of (s1 _ _ hp), at_of (j := 1) rfl rfl, _, rfl, sv, xs, 0, most, rfl, s1 _ _ hs, ?_⟩
    rw [decide_eq_true (show (0 : Int) ≤ (xs.length : Int) by omega), Bool.true_and]
    exact k H1 s1
end
end
end K13
set_option Elab.async false
set_option linter.all false
set_option maxRecDepth 100000
set_option maxHeartbeats 4000000
namespace K13
open PySem PySem.Spec PyProof.Rows L2 Lc
/-! ## errors that tell one thing -/
structure ErF (K : PySem.W.Frag) (mg : Str → Option Value) (x fld : Str) (C fI : Addr) : Prop where
  oex : OexC K C
  iC : PySem.W.findIn K (.ref C) "__init__" = some (some (.ref fI))
  tI : PySem.W.typeIn K (.ref fI) = some (.type "function")
  nG : PySem.W.findIn K (.ref C) fld = some none
  gC : mg x = some (.ref C)
def TellsF (C : Addr) (fld : Str) (H : Hp) (v : V) (E : XK) : Prop := ∀ (d : Addr) (H' : Hp), Same H H' → H d = none → H' d = some (.xd [(fld, v)]) → E (.ref C) (some d) H'
theorem TellsF.same {C : Addr} {fld : Str} {H H' : Hp} {v : V} {E : XK} (h : TellsF C fld H v E) (s : Same H H') : TellsF C fld H' v E := fun d H2 s2 e1 e2 => h d H2 (s.trans s2) (by cases q : H d with | none => rfl | some o => rw [s _ _ q] at e1; cases e1) e2
def spIni (C : Addr) (fld : Str) : Sp := fun vs H Q _ => ∃ (a : Addr) (v : V), vs = [.ref a, v] ∧ H a = some (exo a C none) ∧ ∀ dx, H dx = none → dx ≠ a → Q .non (upd (upd H dx (exd dx [(fld, v)])) a (exo a C (some dx)))
abbrev sIni : Stmt := inClass (top 2) 0
section
variable {P : Program} {w : World} {K : PySem.W.Frag} {mg : Str → Option Value} {base : Heap} {f C fI : Addr} {fd fdI : FuncData}
theorem scIni : FnScope ["self", "index"] ["self", "index"] (defScope sIni) := ⟨rfl, rfl, rfl, by decide +kernel, rfl, by decide +kernel, by decide +kernel⟩
theorem ok_ini (F : Fun K "__init__" "BadStep.__init__" sIni fI fdI) (T : ErF K mg "BadStep" "index" C fI) : FnOk P w K mg base CX0 1 fI fdI ["self", "index"] (spIni C "index") := by
  refine F.ok scIni (fun vs H Q E h => ?_) (fun cdv A outer s H vs Q E hr h => ?_)
  · obtain ⟨a, v, rfl, _⟩ := h
    rfl
  · obtain ⟨a, v, rfl, ha, k⟩ := h
    refine ⟨_, pss_one (ps_ost (pv 0) (pv 1)), ?_⟩
    exact ⟨_, rfl, _, rfl, a, C, rfl, T.oex, T.nG, .inl ⟨ha, fun dx h1 h2 => k dx h1 h2⟩⟩
/-- raise X(v) -/
theorem tells_ofF {H : Hp} {fld : Str} {v : V} {E : XK} (t : TellsF C fld H v E) : ∀ a, H a = none → spIni C fld (.ref a :: ([v] ++ [])) (upd H a (exo a C none))
    (fun v' H2 => v' = .non ∧ ∃ (d : Addr) (fs : List (Str × V)), H2 a = some (exo a C (some d)) ∧ H2 d = some (exd d fs) ∧ H d = none ∧ E (.ref C) (some d) (upd (del H2 a) d (.xd fs))) (fun _ _ _ => False) := by
  intro a ha
  refine ⟨a, v, rfl, upd_same, fun dx hx hne => ⟨rfl, dx, _, upd_same, by rw [upd_ne hne, upd_same], by rw [upd_ne hne] at hx; exact hx, ?_⟩⟩
  rw [upd_ne hne] at hx
  refine t dx _ (fun b o e => ?_) hx upd_same
  have nb : b ≠ a := ne_of_none e ha
  have nd : b ≠ dx := ne_of_none e hx
  rw [upd_ne nd, del_ne nb, upd_ne nb, upd_ne nd, upd_ne nb]
  exact e
end
/-! ## check -/
inductive StepsAt (H : Hp) : List V → List Stp → Prop
  | nil : StepsAt H [] []
  | cons {a : Addr} {ys : List V} {st : Stp} {sts : List Stp} (h : Dh H (.ref a) st.d) (r : StepsAt H ys sts) : StepsAt H (.ref a :: ys) (st :: sts)
theorem StepsAt.same {H H' : Hp} (s : Same H H') : ∀ {ys : List V} {sts : List Stp}, StepsAt H ys sts → StepsAt H' ys sts
  | _, _, .nil => .nil
  | _, _, .cons h r => .cons (h.same s) (r.same s)
theorem StepsAt.len {H : Hp} : ∀ {ys : List V} {sts : List Stp}, StepsAt H ys sts → ys.length = sts.length
  | _, _, .nil => rfl
  | _, _, .cons h r => by rw [List.length_cons, List.length_cons, r.len]
theorem StepsAt.get {H : Hp} : ∀ {ys : List V} {sts : List Stp}, StepsAt H ys sts → ∀ {i : Nat} {y : V}, ys[i]? = some y → ∃ a st, sts[i]? = some st ∧ y = .ref a ∧ Dh H (.ref a) st.d
  | _, _, .nil, i, y, e => by simp at e
  | _, _, .cons h r, 0, y, e => by
    cases e
    exact ⟨_, _, rfl, rfl, h⟩
  | _, _, .cons h r, i + 1, y, e => by
    obtain ⟨a, st, e1, e2⟩ := r.get (i := i) (by simpa using e)
    exact ⟨a, st, by simpa using e1, e2⟩
theorem StepsAt.snoc {H : Hp} {a : Addr} {st : Stp} : ∀ {ys : List V} {sts : List Stp}, StepsAt H ys sts → Dh H (.ref a) st.d → StepsAt H (ys ++ [.ref a]) (sts ++ [st])
  | _, _, .nil, g => .cons g .nil
  | _, _, .cons h r, g => .cons h (r.snoc g)
theorem StepsAt.take {H : Hp} : ∀ {ys : List V} {sts : List Stp} (i : Nat), StepsAt H ys sts → StepsAt H (ys.take i) (sts.take i)
  | _, _, 0, _ => .nil
  | _, _, i + 1, .nil => .nil
  | _, _, i + 1, .cons h r => .cons h (r.take i)
inductive Runs (os : OsL) : CsL → List Stp → CsL → Prop
  | nil {ps : CsL} : Runs os ps [] ps
  | cons {ps qs rs : CsL} {st : Stp} {sts : List Stp} (h : LeadS os ps st qs) (r : Runs os qs sts rs) : Runs os ps (st :: sts) rs
theorem Runs.snoc {os : OsL} {ps qs rs : CsL} {sts : List Stp} {st : Stp} (h : Runs os ps sts qs) (l : LeadS os qs st rs) : Runs os ps (sts ++ [st]) rs := by
  induction h with
  | nil => exact .cons l .nil
  | cons a r ih => exact .cons a (ih l)
def spChk (C : Addr) : Sp := fun vs H Q E => ∃ (D0 p sv : Addr) (kvs : List (Key × V)) (os : OsL) (src : Str) (ps qs : CsL) (ys : List V) (sts : List Stp) (lg : Bool), vs = [.ref D0, .ref p, .bl lg] ∧ H D0 = some (.dK kvs) ∧ TabC H kvs os ∧ WdP os ∧ (src, ps) ∈ os ∧ H p = some (.tup [.str src, .ref sv]) ∧ H sv = some (.tup ys) ∧ StepsAt H ys sts ∧ Runs os ps sts qs ∧ ys.length ≤ 40 ∧
  ((lg = true ∨ ys.length ≤ 10) → ∀ (cv' : Addr) (H' : Hp), Same H H' → CA H' cv' qs → Q (.ref cv') H') ∧ (lg = false → 10 < ys.length → ∀ H', Same H H' → TellsF C "index" H' .non E)
def NuOk (kvs : List (Key × V)) : Prop := ∀ lb : Str, valV kvs (Sum.inr lb : Key) = none ∨ valV kvs (Sum.inr lb : Key) = some (.int (numL lb : Nat))
theorem NuOk.put {kvs : List (Key × V)} (h : NuOk kvs) (lb : Str) : NuOk (putK kvs (Sum.inr lb : Key) (.int (numL lb : Nat))) := fun x => by
  rw [valV_put]
  by_cases e : (Sum.inr x : Key) = Sum.inr lb
  · rw [if_pos e]
    injection e with e
    rw [e]
    exact .inr rfl
  · rw [if_neg e]
    exact h x
theorem stp_w {H : Hp} {p : Addr} {st : Stp} (h : Dh H (.ref p) st.d) : ∃ (z : Str) (xs : List V), H p = some (.tup (.str z :: xs)) ∧ xs.length < 1000 ∧ (z = "choose" ↔ ∃ lb as, st = .ch lb as) := by
  cases st with
  | pl q =>
    obtain ⟨xs, e, l⟩ := ps_at h
    refine ⟨q.w, xs, e, ?_, fun z => absurd z (w_choose q), fun ⟨_, _, z⟩ => by cases z⟩
    have : q.len ≤ 4 := by cases q <;> simp [Ps.len]
    omega
  | ch lb as =>
    obtain ⟨q, us, e, _⟩ := stp_ch h
    exact ⟨"choose", _, e, by show 2 < 1000; decide, fun _ => ⟨_, _, rfl⟩, fun _ => rfl⟩
section
variable {P : Program} {w : World} {K : PySem.W.Frag} {mg : Str → Option Value} {base : Heap} {f : Addr} {fd : FuncData}
abbrev sChk : Stmt := top 72
abbrev nChk : List Str := ["tables", "pipeline", "long", "source", "steps", "columns", "numbers", "index", "step"]
abbrev pChk : List Str := ["tables", "pipeline", "long"]
theorem scChk : FnScope nChk pChk (defScope sChk) := ⟨rfl, rfl, rfl, by decide +kernel, rfl, by decide +kernel, by decide +kernel⟩
section
variable {fA_ fB_ fC_ fD_ fE_ : Addr} {fdA_ fdB_ fdC_ fdD_ fdE_ : FuncData}
theorem ok_Chk (F : Fun K "check" "check" sChk f fd) (T : Bt mg) {u1 u2 : Tok} (m1 : mg "MOST_STEPS" = some (.int 10 u1)) (m2 : mg "MOST_LONG_STEPS" = some (.int 40 u2)) {C fI : Addr} {fdI : FuncData} (Z : ErF K mg "BadStep" "index" C fI) (GI : FnOk P w K mg base CX0 1 fI fdI ["self", "index"] (spIni C "index")) (bI : Binds K fdI ["self", "index"] [])
    (GA_ : FnOk P w K mg base CX0 2 fA_ fdA_ ["value", "most"] (spIp)) (mA_ : mg "is_pipeline" = some (.ref fA_)) (kA_ : PySem.W.keepIn K (.ref fA_) = true) (bA_ : Binds K fdA_ ["value", "most"] [])
    (GB_ : FnOk P w K mg base CX0 1 fB_ fdB_ ["step"] (spWd)) (mB_ : mg "word_of" = some (.ref fB_)) (kB_ : PySem.W.keepIn K (.ref fB_) = true) (bB_ : Binds K fdB_ ["step"] [])
    (GC_ : FnOk P w K mg base CX0 2 fC_ fdC_ ["step"] (spIc)) (mC_ : mg "is_choose" = some (.ref fC_)) (kC_ : PySem.W.keepIn K (.ref fC_) = true) (bC_ : Binds K fdC_ ["step"] [])
    (GD_ : FnOk P w K mg base CX0 19 fD_ fdD_ ["tables", "columns", "step", "index"] (spCh)) (mD_ : mg "check_choose" = some (.ref fD_)) (kD_ : PySem.W.keepIn K (.ref fD_) = true) (bD_ : Binds K fdD_ ["tables", "columns", "step", "index"] [])
    (GE_ : FnOk P w K mg base CX0 18 fE_ fdE_ ["tables", "columns", "step", "index"] (spCs)) (mE_ : mg "check_step" = some (.ref fE_)) (kE_ : PySem.W.keepIn K (.ref fE_) = true) (bE_ : Binds K fdE_ ["tables", "columns", "step", "index"] []) : FnOk P w K mg base (L2.CX P w) 20 f fd pChk (spChk C) := by
  refine F.okX scChk (fun vs H Q E h => ?_) (fun cdv A outer s H vs Q E hr h => ?_)
  · obtain ⟨D0, p, sv, kvs, os, src, ps, qs, ys, sts, lg, rfl, _⟩ := h
    rfl
  · obtain ⟨D0, p, sv, kvs, os, src, ps, qs, ys, sts, lg, rfl, hD0, hO, wO, hs0, hp, hs, ha, runs, l40, kQ, kE⟩ := h
    have hrA_ : Room (2) _ := hr.mono (by first | decide | omega)
    have hrB_ : Room (1) _ := hr.mono (by first | decide | omega)
    have hrC_ : Room (2) _ := hr.mono (by first | decide | omega)
    have hrD_ : Room (19) _ := hr.mono (by first | decide | omega)
    have hrE_ : Room (18) _ := hr.mono (by first | decide | omega)
    have hrI : Room 2 _ := hr.mono (by first | decide | omega)
    refine ⟨_, (Evl.pss_cut (ps_if (pt_not (pt_val (pe_call GA_ hrA_ (by rfl) mA_ kA_ bA_ .nil pass0 (pa_cons (pv 1) (pa_cons (pe_ifExp (pt_val (pv 2)) (pe_glob (v := .int 40) (by rfl) m2 ⟨_, rfl⟩) (pe_glob (v := .int 10) (by rfl) m1 ⟨_, rfl⟩)) pa_nil))))) (pss_one (ps_raise (W := fun cls d _ H => E cls d H) rfl (takes_of rfl rfl rfl rfl) (pmk_oex Z.oex Z.iC Z.tI GI hrI bI .nil pass0 (by rfl) Z.gC (pa_cons pe_non pa_nil)))) pss_nil)
      (pss_cons (ps_asg (pv 1) (pg_tup rfl (pgs_cons (pg_name (i := 3) scChk.nd rfl (.inl rfl)) (pgs_cons (pg_name (i := 4) scChk.nd rfl (.inl rfl)) pgs_nil))))
      (pss_cons (ps_if (pt_cmpR (op_notInDk (hu_of hr)) (pv 3) (pv 0) (by rfl)) pss_dead pss_nil)
      (pss_cons (ps_set (i := 5) scChk.nd rfl (Or.inl rfl) (pe_dget (hu_of hr) (pv 0) (pv 3) (fun _ _ => rfl)))
      (pss_cons (ps_set (i := 6) scChk.nd rfl (Or.inl rfl) pe_dnewK)
      (pss_cons (ps_for (passes_of rfl) rfl (pi_enT (by rfl) T.enum (pa_cons (pv 4) pa_nil)) (pg_tup rfl (pgs_cons (pg_name (i := 7) scChk.nd rfl (.inl rfl)) (pgs_cons (pg_name (i := 8) scChk.nd rfl (.inl rfl)) pgs_nil))) (pss_one (ps_if (pt_cmpR op_eq (pe_call GB_ hrB_ (by rfl) mB_ kB_ bB_ .nil pass0 (pa_cons (pv 8) pa_nil)) pe_str (nomark _)) (pss_cons (ps_if (PW.pt (pw_or (pt_not (pt_val (pe_call GC_ hrC_ (by rfl) mC_ kC_ bC_ .nil pass0 (pa_cons (pv 8) pa_nil)))) (pw_or1 (pt_cmpR op_ne (pe_dget2 (hu_of hr) (pv 6) (pe_ix ix_tup (pv 8) pe_int (fun _ _ => rfl)) (pe_callB call_len_seq (by rfl) T.len PySem.boot_len (pa_cons (pe_ix ix_tup (pv 8) pe_int (fun _ _ => rfl)) pa_nil)) ⟨rfl, rfl, rfl, rfl⟩) (pe_callB call_len_seq (by rfl) T.len PySem.boot_len (pa_cons (pe_ix ix_tup (pv 8) pe_int (fun _ _ => rfl)) pa_nil)) (nomark _))))) pss_dead pss_nil)
      (pss_cons (ps_dput (hu_of hr) (pv 6) (pe_ix ix_tup (pv 8) pe_int (fun _ _ => rfl)) (pe_callB call_len_seq (by rfl) T.len PySem.boot_len (pa_cons (pe_ix ix_tup (pv 8) pe_int (fun _ _ => rfl)) pa_nil)) (by rfl))
      (pss_one (ps_set (i := 5) scChk.nd rfl (Or.inl rfl) (pe_call GD_ hrD_ (by rfl) mD_ kD_ bD_ .nil pass0 (pa_cons (pv 0) (pa_cons (pv 5) (pa_cons (pv 8) (pa_cons (pv 7) pa_nil))))))))) (pss_one (ps_set (i := 5) scChk.nd rfl (Or.inl rfl) (pe_call GE_ hrE_ (by rfl) mE_ kE_ bE_ .nil pass0 (pa_cons (pv 0) (pa_cons (pv 5) (pa_cons (pv 8) (pa_cons (pv 7) pa_nil))))))))))
      (pss_one (ps_ret (pv 5))))))))), ?_⟩
    have sE : ∀ (a b : Str), decide (V.str a = V.str b) = decide (a = b) := fun a b => decide_eq_decide.mpr ⟨fun e => by injection e, fun e => by rw [e]⟩
    obtain ⟨C0, hC0, cC0⟩ := hO.at wO.nd hs0
    obtain ⟨nms0, shs0, cp0⟩ := wO.ok _ hs0
    have cp0 : ColP ps := cp0
    -- it is a pipeline
    refine ⟨fun σ H' => σ = [some (.ref D0), some (.ref p), some (.bl lg), none, none, none, none, none, none] ∧ Same H H' ∧ (lg = true ∨ ys.length ≤ 10), ?_, ?_⟩
    · cases lg with
      | true =>
        refine ⟨_, rfl, _, rfl, _, rfl, iteT ⟨p, sv, src, ys, 40, rfl, hp, hs, shs0, nms0, fun H1 s1 => ⟨_, rfl, ?_⟩⟩⟩
        rw [decide_eq_true (show (ys.length : Int) ≤ 40 by omega)]
        exact iteF ⟨rfl, s1, .inl rfl⟩
      | false =>
        refine ⟨_, rfl, _, rfl, _, rfl, iteF ⟨p, sv, src, ys, 10, rfl, hp, hs, shs0, nms0, fun H1 s1 => ⟨_, rfl, ?_⟩⟩⟩
        by_cases q : ys.length ≤ 10
        · rw [decide_eq_true (show (ys.length : Int) ≤ 10 by omega)]
          exact iteF ⟨rfl, s1, .inr q⟩
        · rw [decide_eq_false (show ¬ (ys.length : Int) ≤ 10 by omega)]
          exact iteT ⟨by show 1 ≤ 1000; decide, tells_ofF (kE rfl (by omega) H1 s1)⟩
    rintro σ H1 ⟨rfl, s1, okl⟩
    have k := kQ okl
    clear kQ kE
    have g := DGet.k (k := (Sum.inr src : Key)) (s1 _ _ hD0)
    rw [hC0] at g
    refine ⟨_, rfl, p, _, rfl, SqT.of (s1 _ _ hp), rfl, _, _, rfl, _, _, rfl, rfl, ?_⟩
    dsimp only [gNil]
    refine ⟨_, rfl, _, rfl, D0, _, rfl, g, _, rfl, iteF ?_⟩
    refine ⟨_, rfl, _, rfl, D0, _, rfl, g, ?_⟩
    intro D hD
    have zD := Same.upd (o := .dK []) hD
    have eD0 : L2.upd H1 D (.dK []) D = some (.dK []) := upd_same
    have s12 := s1.trans zD
    have gD := Same.gone s1 hD
    generalize L2.upd H1 D (.dK []) = H2 at eD0 s12 ⊢
    refine ⟨_, rfl, sv, ys, rfl, SqT.of (s12 _ _ hs), for_it (walk_enT (K := K) (a := sv) (xs := ys)) (fun i σ H' => (∃ (x7 x8 : Option V) (cv : Addr) (cur : CsL) (nk : List (Key × V)), σ = [some (.ref D0), some (.ref p), some (.bl lg), some (.str src), some (.ref sv), some (.ref cv), some (.ref D), x7, x8] ∧ H' D = some (.dK nk) ∧ NuOk nk ∧ nk.length ≤ i ∧ i ≤ ys.length ∧ CA H' cv cur ∧ ColP cur ∧ Runs os cur (sts.drop i) qs) ∧ Same H H') ⟨⟨_, _, C0, ps, [], rfl, eD0, fun _ => .inl rfl, Nat.le_refl _, Nat.zero_le _, cC0.same s12, cp0, runs⟩, s12⟩ (fun i σ H' _ pr => SqT.of (pr.2 _ _ hs)) ?_ ?_⟩
    · rintro i x σ Ha Hb hi ⟨⟨x7, x8, cv, cur, nk, rfl, eD, nuk, lnk, liy, hcv, ccur, lr⟩, sa⟩ ⟨q, i', z, rfl, hq, rfl, e1, e2⟩
      obtain rfl : V.int ((i : Nat) : Int) = i' := Option.some.inj e1
      have zq := Same.upd (o := .tup [.int ((i : Nat) : Int), z]) hq
      have sb := sa.trans zq
      have eDb := zq _ _ eD
      have hcvb := hcv.same zq
      have li := (List.getElem?_eq_some_iff.mp e2).1
      obtain ⟨a, st, est, rfl, dst⟩ := ha.get e2
      have lj := (List.getElem?_eq_some_iff.mp est).1
      have ed : sts.drop i = st :: sts.drop (i + 1) := by
        rw [List.drop_eq_getElem_cons lj]
        congr 1
        exact (List.getElem?_eq_some_iff.mp est).2
      rw [ed] at lr
      cases lr with
      | @cons _ nx _ _ _ l1 lr =>
      have cnx := l1.go wO ccur
      have e3 : L2.upd Ha q (.tup [.int ((i : Nat) : Int), .ref a]) q = some (.tup [.int ((i : Nat) : Int), .ref a]) := upd_same
      generalize L2.upd Ha q (.tup [.int ((i : Nat) : Int), .ref a]) = H3 at sb eDb hcvb e3 ⊢
      refine ⟨q, _, rfl, SqT.of e3, rfl, _, _, rfl, _, _, rfl, rfl, ?_⟩
      dsimp only [gNil]
      obtain ⟨zw, xsw, ew, lw, cw⟩ := stp_w dst
      refine ⟨_, rfl, a, zw, xsw, rfl, sb _ _ ew, lw, rfl, _, rfl, ?_⟩
      rw [sE]
      cases st with
      | pl pp =>
        rw [decide_eq_false (fun h => by obtain ⟨_, _, h⟩ := cw.mp h; cases h)]
        cases l1 with
        | pl l1 =>
        exact iteF ⟨_, rfl, _, rfl, _, rfl, _, rfl, D0, kvs, os, cv, a, cur, nx, pp, _, rfl, sb _ _ hD0, hO.same sb, wO, hcvb, ccur, dst.same sb, l1, fun cv' H4 s4 ca => ⟨⟨_, _, cv', nx, nk, rfl, s4 _ _ eDb, nuk, by omega, by omega, ca, cnx, lr⟩, sb.trans s4⟩⟩
      | ch lb as =>
        rw [decide_eq_true (cw.mpr ⟨_, _, rfl⟩)]
        have ldS := l1
        cases l1 with
        | ch sl nl n h =>
        have nb := numL_b lb
        refine iteT ⟨_, rfl, a, lb, as, rfl, dst.same sb, sl, nl, by omega, by omega, fun x hx => (h x hx).1, fun H4 s4 => ⟨_, rfl, iteF ?_⟩⟩
        have s04 := sb.trans s4
        obtain ⟨q2, us, e4, eq4, hu4⟩ := stp_ch (dst.same s04)
        have lu : us.length = as.length := by rw [hu4.len, List.length_map]
        have eD4 := s4 _ _ eDb
        have gg := DGet.k (k := (Sum.inr lb : Key)) eD4
        refine ⟨_, rfl, D, rfl, .inl ⟨_, .inl eD4⟩, _, rfl, a, _, _, .str lb, rfl, rfl, SqT.of e4, at_of (j := 1) rfl rfl, _, rfl, a, _, _, .ref q2, rfl, rfl, SqT.of e4, at_of (j := 2) rfl rfl, q2, us, rfl, .inr (SqT.of eq4), _, gg, ?_⟩
        have eg : (valV nk (Sum.inr lb : Key)).getD (.int (us.length : Nat)) = .int (us.length : Nat) := by
          rcases nuk lb with z | z
          · rw [z]; rfl
          · rw [z, lu, n]; rfl
        rw [eg]
        refine ⟨_, rfl, a, _, _, .ref q2, rfl, rfl, SqT.of e4, at_of (j := 2) rfl rfl, q2, us, rfl, .inr (SqT.of eq4), rfl, _, rfl, ?_⟩
        rw [decide_eq_true rfl]
        refine iteF ⟨_, rfl, a, _, _, .ref q2, rfl, rfl, SqT.of e4, at_of (j := 2) rfl rfl, q2, us, rfl, .inr (SqT.of eq4), _, rfl, _, rfl, a, _, _, .str lb, rfl, rfl, SqT.of e4, at_of (j := 1) rfl rfl, D, _, rfl, DPut.k (k := Sum.inr lb) eD4 (lt_size (by omega)), ?_⟩
        rw [lu, n]
        have s05 : Same H (L2.upd H4 D (.dK (putK nk (Sum.inr lb : Key) (.int (numL lb : Nat))))) := fun b o eb => by rw [upd_ne (ne_of_none eb gD)]; exact s04 b o eb
        have hcv5 : CA (L2.upd H4 D (.dK (putK nk (Sum.inr lb : Key) (.int (numL lb : Nat))))) cv cur := CA.updK (hcvb.same s4) eD4
        have eD5 : L2.upd H4 D (.dK (putK nk (Sum.inr lb : Key) (.int (numL lb : Nat)))) D = some (.dK (putK nk (Sum.inr lb : Key) (.int (numL lb : Nat)))) := upd_same
        generalize L2.upd H4 D (.dK (putK nk (Sum.inr lb : Key) (.int (numL lb : Nat)))) = H5 at s05 hcv5 eD5 ⊢
        have lput := length_putK nk (Sum.inr lb : Key) (V.int (numL lb : Nat))
        exact ⟨_, rfl, _, rfl, _, rfl, _, rfl, D0, kvs, os, cv, a, cur, nx, lb, as, _, rfl, s05 _ _ hD0, hO.same s05, wO, hcv5, ccur, dst.same s05, ldS, fun cv' H6 s6 ca => ⟨⟨_, _, cv', nx, _, rfl, s6 _ _ eD5, nuk.put lb, by omega, by omega, ca, cnx, lr⟩, s05.trans s6⟩⟩
    · rintro σ Ha ⟨⟨x7, x8, cv, cur, nk, rfl, eD, nuk, lnk, liy, hcv, ccur, lr⟩, sa⟩
      have := ha.len
      rw [List.drop_of_length_le (by omega)] at lr
      cases lr
      exact ⟨_, rfl, k cv Ha sa hcv⟩
end
end
end K13
set_option Elab.async false
set_option linter.all false
set_option maxRecDepth 100000
set_option maxHeartbeats 4000000
namespace K13
open PySem PySem.Spec PyProof.Rows L2 Lc
/-! ## checked, as the law tells it -/
structure ExB (K : PySem.W.Frag) (C CU : Addr) : Prop where
  xf : XfC K C
  xc : XisC K C
  cc : PySem.W.exmOne K (.ref C) (.ref C) = some true
  cv : PySem.W.kitOne K (.ref C) (.type "ValueError") = some true
  cu : PySem.W.kitOne K (.ref C) (.ref CU) = some false
def tsC (K : PySem.W.Frag) (C CU : Addr) : Addr → Value → Option Addr → L2.TS := fun a cls d => tRet (tTup (tCons (tC (.str "step")) (tCons (tXf a cls d C "index" (tVar 3)) (tCons (tAndV (tCB (rIsX K cls d C a) (tCons (tVar 3) (tCons (tC (.ty "ValueError")) tNil))) (tNotV (tCB (rIsX K cls d C a) (tCons (tVar 3) (tCons (tC (.ref CU)) tNil))))) tNil))))
def spCkd : Sp := fun vs H Q _ => ∃ (D0 p sv : Addr) (kvs : List (Key × V)) (os : OsL) (src : Str) (ps qs : CsL) (ys : List V) (sts : List Stp) (far : Bool), vs = [.ref D0, .ref p, .bl far] ∧ H D0 = some (.dK kvs) ∧ TabC H kvs os ∧ WdP os ∧ (src, ps) ∈ os ∧ H p = some (.tup [.str src, .ref sv]) ∧ H sv = some (.tup ys) ∧ StepsAt H ys sts ∧ Runs os ps sts qs ∧ ys.length ≤ 40 ∧
  ((far = true ∨ ys.length ≤ 10) → ∀ (r cv' : Addr) (H' : Hp), Same H H' → H' r = some (.tup [.str "told", .ref cv']) → CA H' cv' qs → Q (.ref r) H') ∧ (far = false → 10 < ys.length → ∀ (r : Addr) (H' : Hp), Same H H' → H' r = some (.tup [.str "step", .non, .bl true]) → Q (.ref r) H')
def spWld : Sp := fun vs H Q _ => ∃ (t c : Addr), vs = [.ref t] ∧ TapeL c H t ∧ ∀ (D : Addr) (kvs : List (Key × V)) (os : OsL) (H' : Hp), H' D = some (.dK kvs) → D ≠ t → TabC H' kvs os → WdP os → os.length = 3 → TapeL c H' t → SameB t H H' → Q (.ref D) H'
abbrev teWl (K : PySem.W.Frag) : TE := tOp (rIxT K) (tVar 4) (tC (.int 0))
def spCa : Sp := fun vs H Q _ => ∃ (t c L : Addr) (ps : CsL) (lb : Str), vs = [.ref t, .ref L, .str lb, .int (numL lb : Nat)] ∧ TapeL c H t ∧ CA H L ps ∧ ColP ps ∧ Sh 12 lb ∧ nmS lb ∧ ∀ (r : Addr) (v : V) (Cb : Addr) (as : List (List Ps)) (qs : CsL) (H' : Hp), H' r = some (.tup [v, .ref Cb]) → DhT t H' v (Stp.d (.ch lb as)) → CA H' Cb qs → (∀ os, LeadS os ps (.ch lb as) qs) → TapeL c H' t → SameB t H H' → Q (.ref r) H'
abbrev teCa : TE := tCall spSas [] E0 (tCons (tVar 0) (tCons (tVar 1) tNil))
theorem noL_alt {a : List Ps} (h : ∀ p ∈ a, p.Ok) : noL (altD a) = true := by
  unfold altD
  rw [noL]
  exact noLs_ps h
theorem Leads.ok {os : OsL} (w : WdP os) {ps qs : CsL} {as : List Ps} (h : Leads os ps as qs) : ColP ps → ∀ p ∈ as, p.Ok := by
  induction h with
  | nil => exact fun _ => nofun
  | cons h r ih =>
    intro c p hp
    have g := h.go c w.ho
    rcases List.mem_cons.mp hp with rfl | hp
    · exact g.1
    · exact ih g.2.2 p hp
theorem leads_same {os : OsL} {ps qs : CsL} {as ls : List Ps} (h : ∀ p ∈ as, Lead os ps p ps) (l : Leads os ps ls qs) : Leads os ps (as ++ ls) qs := by
  induction as with
  | nil => exact l
  | cons a r ih => exact .cons (h a List.mem_cons_self) (ih fun p hp => h p (List.mem_cons_of_mem _ hp))
section
variable {P : Program} {w : World} {K : PySem.W.Frag} {mg : Str → Option Value} {base : Heap} {f : Addr} {fd : FuncData}
abbrev sCkd : Stmt := top 95
abbrev nCkd : List Str := ["_law_tables", "_law_pipeline", "_law_far", "e"]
abbrev pCkd : List Str := ["_law_tables", "_law_pipeline", "_law_far"]
theorem scCkd : FnScope nCkd pCkd (defScope sCkd) := ⟨rfl, rfl, rfl, by decide +kernel, rfl, by decide +kernel, by decide +kernel⟩
section
variable {C CU fI fC : Addr} {fdC : FuncData} {g1 g2 : List Value → List Value → List Value}
theorem ok_Ckd (F : Fun K "_law_checked" "_law_checked" sCkd f fd) (T : Bt mg) (Z : ErF K mg "BadStep" "index" C fI) (gU : mg "UnknownName" = some (.ref CU)) (X : ExB K C CU)
    (GC : FnOk P w K mg base (L2.CX P w) 20 fC fdC ["tables", "pipeline", "long"] (spChk C)) (mC : mg "check" = some (.ref fC)) (kC : PySem.W.keepIn K (.ref fC) = true) (kb1 : KBinds K fdC ["tables", "pipeline", "long"] ["long"] (gAt 2 1) (gAt 2 1)) (kb2 : KBinds K fdC ["tables", "pipeline", "long"] [] g2 (fun vs _ => vs ++ [.bl false])) : FnOk P w K mg base CX0 21 f fd pCkd spCkd := by
  refine F.ok scCkd (fun vs H Q E h => ?_) (fun cdv A outer s H vs Q E hr h => ?_)
  · obtain ⟨D0, p, sv, kvs, os, src, ps, qs, ys, sts, far, rfl, _⟩ := h
    rfl
  · obtain ⟨D0, p, sv, kvs, os, src, ps, qs, ys, sts, far, rfl, hD0, hO, wO, hs0, hp, hs, ha, runs, l40, kQ, kE⟩ := h
    have hrC : Room 20 _ := hr.mono (by decide)
    refine ⟨_, pss_one (ps_tryL (Wout := fun _ _ _ _ => False) (l := [⟨.ref C, some 3, tsC K C CU⟩]) rfl rfl takes0
        (fun W pn xe tk _ => pss_cons (ps_if (pt_val (pv 2)) (pss_one (ps_ret (pe_tup (pa_cons pe_str (pa_cons (pe_callKS GC hrC (by rfl) mC kC kb1 (fun σ => passAt tk σ) (pa_cons (pv 0) (pa_cons (pv 1) pa_nil)) (pk_cons pe_bl pk_nil)) pa_nil))))) pss_nil)
          (pss_one (ps_ret (pe_tup (pa_cons pe_str (pa_cons (pe_callKS GC hrC (by rfl) mC kC kb2 (fun σ => passAt tk σ) (pa_cons (pv 0) (pa_cons (pv 1) pa_nil)) pk_nil) pa_nil))))))
        (.named (i := 3) ⟨rfl, by decide, Or.inl Z.gC⟩ rfl scCkd.nd rfl rfl (fun a ob cls d pn hz hf => pss_one (ps_ret (pe_tup (pa_cons pe_str (pa_cons (pe_xf X.xf Z.nG hz hf (pv 3)) (pa_cons (pe_and (pe_callB (call_isX X.xc hz hf) (by rfl) T.isi boot_isinstance (pa_cons (pv 3) (pa_cons (pe_bltn (v := .ty "ValueError") (by rfl) T.ve PyProof.Rows.Boot.«ValueError» rfl) pa_nil))) (pe_one (pe_not (pe_callB (call_isX X.xc hz hf) (by rfl) T.isi boot_isinstance (pa_cons (pv 3) (pa_cons (pe_glob (v := .ref CU) (by rfl) gU rfl) pa_nil)))))) pa_nil)))))) .nil)), ?_⟩
    have two : 2 ≤ sizeLine := by decide
    have three : 3 ≤ sizeLine := by decide
    have told : ∀ (cv' : Addr) (H' : Hp), (far = true ∨ ys.length ≤ 10) → Same H H' → CA H' cv' qs → ∀ r, H' r = none → Q (.ref r) (L2.upd H' r (.tup [.str "told", .ref cv'])) := fun cv' H' ok s' ca r hr' => kQ ok r cv' _ (s'.trans (Same.upd hr')) upd_same (ca.same (Same.upd hr'))
    cases far with
    | true =>
      exact ⟨_, rfl, _, rfl, iteT ⟨_, rfl, _, rfl, D0, p, sv, kvs, os, src, ps, qs, ys, sts, true, rfl, hD0, hO, wO, hs0, hp, hs, ha, runs, l40, fun ok cv' H' s' ca => ⟨two, fun r hr' => told cv' H' ok s' ca r hr'⟩, fun z => by cases z⟩⟩
    | false =>
      refine ⟨_, rfl, _, rfl, iteF ⟨_, rfl, _, rfl, D0, p, sv, kvs, os, src, ps, qs, ys, sts, false, rfl, hD0, hO, wO, hs0, hp, hs, ha, runs, l40, fun ok cv' H' s' ca => ⟨two, fun r hr' => told cv' H' ok s' ca r hr'⟩, fun z l H1 s1 d H2 s2 hd2 hx => ?_⟩⟩
      refine ⟨true, X.cc, fun _ a ha' => ?_, nofun⟩
      have dd : ∀ dd, some d = some dd → ∃ fs, H2 dd = some (.xd fs) := fun dd e => by cases e; exact ⟨_, hx⟩
      refine ⟨_, rfl, rfl, rfl, d, _, .non, rfl, hx, by simp [List.lookup], ?_⟩
      refine ⟨_, rfl, rfl, _, _, _, rfl, .ty "ValueError", dd, X.cv, _, rfl, iteT ⟨_, rfl, rfl, _, _, _, rfl, .own CU, dd, X.cu, _, rfl, three, fun r hr' => ?_⟩⟩
      exact kE rfl l r _ (s1.trans (s2.trans (Same.upd hr'))) upd_same
end
abbrev sWl : Stmt := top 91
abbrev nWl : List Str := ["_law_tape_here", "_law_names", "_law_one", "_law_two", "_law_part"]
abbrev pWl : List Str := ["_law_tape_here"]
theorem scWl : FnScope nWl pWl (defScope sWl) := ⟨rfl, rfl, rfl, by decide +kernel, rfl, by decide +kernel, by decide +kernel⟩
section
variable {fA_ fB_ fC_ fD_ : Addr} {fdA_ fdB_ fdC_ fdD_ : FuncData}
theorem ok_Wl (F : Fun K "_law_world" "_law_world" sWl f fd) (T : Bt mg)
    (GA_ : FnOk P w K mg base CX0 2 fA_ fdA_ ["_law_tape_here"] (spLNm)) (mA_ : mg "_law_name" = some (.ref fA_)) (kA_ : PySem.W.keepIn K (.ref fA_) = true) (bA_ : Binds K fdA_ ["_law_tape_here"] [])
    (GB_ : FnOk P w K mg base CX0 3 fB_ fdB_ ["_law_tape_here", "_law_taken"] (spFr)) (mB_ : mg "_law_fresh" = some (.ref fB_)) (kB_ : PySem.W.keepIn K (.ref fB_) = true) (bB_ : Binds K fdB_ ["_law_tape_here", "_law_taken"] [])
    (GC_ : FnOk P w K mg base CX0 4 fC_ fdC_ ["_law_tape_here", "_law_lead", "_law_many", "_law_taken"] (spCls)) (mC_ : mg "_law_columns" = some (.ref fC_)) (kC_ : PySem.W.keepIn K (.ref fC_) = true) (bC_ : Binds K fdC_ ["_law_tape_here", "_law_lead", "_law_many", "_law_taken"] [])
    (GD_ : FnOk P w K mg base CX0 1 fD_ fdD_ ["_law_tape_here", "_law_many"] (spDrawL)) (mD_ : mg "_law_draw" = some (.ref fD_)) (kD_ : PySem.W.keepIn K (.ref fD_) = true) (bD_ : Binds K fdD_ ["_law_tape_here", "_law_many"] []) : FnOk P w K mg base CX0 5 f fd pWl (spWld) := by
  refine F.ok scWl (fun vs H Q E h => ?_) (fun cdv A outer s H vs Q E hr h => ?_)
  · obtain ⟨t, c, rfl, _⟩ := h
    rfl
  · obtain ⟨t, c, rfl, hT, k⟩ := h
    have hrA_ : Room (2) _ := hr.mono (by first | decide | omega)
    have hrB_ : Room (3) _ := hr.mono (by first | decide | omega)
    have hrC_ : Room (4) _ := hr.mono (by first | decide | omega)
    have hrD_ : Room (1) _ := hr.mono (by first | decide | omega)
    refine ⟨_, (pss_cons (ps_set (i := 1) scWl.nd rfl (Or.inl rfl) (pe_lst (pa_cons (pe_call GA_ hrA_ (by rfl) mA_ kA_ bA_ .nil pass0 (pa_cons (pv 0) pa_nil)) pa_nil)))
      (pss_cons (ps_expr (pe_bm PySem.F.plainAttrs_list PySem.F.slot_list_append PySem.F.type_list_append mt_append (pv 1) (pa_cons (pe_call GB_ hrB_ (by rfl) mB_ kB_ bB_ .nil pass0 (pa_cons (pv 0) (pa_cons (pv 1) pa_nil))) pa_nil)))
      (pss_cons (ps_expr (pe_bm PySem.F.plainAttrs_list PySem.F.slot_list_append PySem.F.type_list_append mt_append (pv 1) (pa_cons (pe_call GB_ hrB_ (by rfl) mB_ kB_ bB_ .nil pass0 (pa_cons (pv 0) (pa_cons (pv 1) pa_nil))) pa_nil)))
      (pss_cons (ps_set (i := 2) scWl.nd rfl (Or.inl rfl) (pe_call GC_ hrC_ (by rfl) mC_ kC_ bC_ .nil pass0 (pa_cons (pv 0) (pa_cons (pe_lst (pa_cons pe_str (pa_cons pe_str pa_nil))) (pa_cons pe_int (pa_cons (pe_lst pa_nil) pa_nil))))))
      (pss_cons (ps_set (i := 3) scWl.nd rfl (Or.inl rfl) (pe_op op_catZ (pe_tup (pa_cons (pe_ix ix_tup (pv 2) (pe_call GD_ hrD_ (by rfl) mD_ kD_ bD_ .nil pass0 (pa_cons (pv 0) (pa_cons (pe_callB call_len_seq (by rfl) T.len PySem.boot_len (pa_cons (pv 2) pa_nil)) pa_nil))) (fun _ _ => rfl)) pa_nil)) (pe_call GC_ hrC_ (by rfl) mC_ kC_ bC_ .nil pass0 (pa_cons (pv 0) (pa_cons (pe_lst (pa_cons pe_str pa_nil)) (pa_cons pe_int (pa_cons (pe_lc (own := [("_law_part", 4)]) (g := (gName 4)) (tt := tYes) (te := (teWl K)) (by rfl) scWl.nd (pi_tup (pv 2)) (blkOk_by (own := [("_law_part", 4)]) (N := nWl) (sc := defScope sWl) (by decide +kernel)) (fun _ _ _ _ _ => (pg_name (i := 4) scWl.nd rfl (.inl rfl))) (fun _ _ _ _ _ => pts_nil) (fun _ _ _ _ _ => (pe_ix ix_tup (pv 4) pe_int (fun _ _ => rfl)))) pa_nil)))))))
      (pss_one (ps_ret (pe_disp (pps_cons (pe_ix ix_list (pv 1) pe_int (fun _ _ => rfl)) (pv 2) (pps_cons (pe_ix ix_list (pv 1) pe_int (fun _ _ => rfl)) (pv 3) (pps_cons (pe_ix ix_list (pv 1) pe_int (fun _ _ => rfl)) (pv 2) pps_nil))) (by rfl) (by rfl) (by decide) (by decide))))))))), ?_⟩
    have two : 2 ≤ sizeLine := by decide
    have one : 1 ≤ sizeLine := by decide
    refine ⟨_, rfl, t, c, rfl, hT, fun n0 H1 sn0 nn0 T1 S1 => ⟨one, fun N hN => ?_⟩⟩
    have zN := Same.upd (o := .lst [.str n0]) hN
    have nNt := T1.tape.ne hN
    have gN : H N = none := S1.free T1.tape hN
    obtain ⟨yy, hc⟩ := T1.list
    have nNc : N ≠ c := Ne.symm (ne_of_none hc hN)
    have eN : L2.upd H1 N (.lst [.str n0]) N = some (.lst (vS [n0])) := upd_same
    have T2 := T1.same zN
    have S2 := S1.trans (Same.b t zN)
    generalize L2.upd H1 N (.lst [.str n0]) = H2 at eN T2 S2 ⊢
    clear T1 S1 hc hN zN
    refine ⟨_, rfl, .inl ⟨rfl, _, SqL.of eN⟩, _, rfl, _, rfl, t, c, N, [n0], rfl, T2, eN, by show 1 < 36; decide, fun n1 H3 sn1 nn1 f1 T3 S3 => ?_⟩
    have eN3 := S3 _ _ nNt eN
    refine ⟨N, _, _, rfl, rfl, eN3, by show 1 < sizeLine; decide, ?_⟩
    have T4 := T3.upd (o := .lst (vS [n0] ++ [.str n1])) nNt nNc
    have S4 : SameB t H (L2.upd H3 N (.lst (vS [n0] ++ [.str n1]))) := updB gN (S2.trans S3)
    have eN4 : L2.upd H3 N (.lst (vS [n0] ++ [.str n1])) N = some (.lst (vS [n0, n1])) := upd_same
    generalize L2.upd H3 N (.lst (vS [n0] ++ [.str n1])) = H4 at T4 S4 eN4 ⊢
    clear T2 S2 T3 S3 eN eN3
    refine ⟨_, rfl, .inl ⟨rfl, _, SqL.of eN4⟩, _, rfl, _, rfl, t, c, N, [n0, n1], rfl, T4, eN4, by show 2 < 36; decide, fun n2 H5 sn2 nn2 f2 T5 S5 => ?_⟩
    have eN5 := S5 _ _ nNt eN4
    refine ⟨N, _, _, rfl, rfl, eN5, by show 2 < sizeLine; decide, ?_⟩
    have T6 := T5.upd (o := .lst (vS [n0, n1] ++ [.str n2])) nNt nNc
    have S6 : SameB t H (L2.upd H5 N (.lst (vS [n0, n1] ++ [.str n2]))) := updB gN (S4.trans S5)
    have eN6 : L2.upd H5 N (.lst (vS [n0, n1] ++ [.str n2])) N = some (.lst (vS [n0, n1, n2])) := upd_same
    generalize L2.upd H5 N (.lst (vS [n0, n1] ++ [.str n2])) = H6 at T6 S6 eN6 ⊢
    clear T4 S4 T5 S5 eN4 eN5
    -- the first one's columns
    refine ⟨_, rfl, two, fun p1 hp1 => ?_⟩
    have z1 := Same.upd (o := .lst [.str "word", .str "number"]) hp1
    refine ⟨by show 0 ≤ sizeLine; decide, fun p2 hp2 => ?_⟩
    have z2 := Same.upd (o := .lst []) hp2
    have z12 := z1.trans z2
    refine ⟨t, c, p1, p2, 2, ["word", "number"], [], rfl, T6.same z12, .inr (z2 _ _ upd_same), .inr upd_same, by decide, by decide, by decide, by decide, fun k hk => by simp only [List.mem_cons, List.not_mem_nil, or_false] at hk; rcases hk with rfl | rfl; exact .inr (.inl rfl); exact .inl rfl, fun L xs ps H7 hL hc ho nd _ l1 l3 T7 S7 => ?_⟩
    have l8 : ps.length ≤ 8 := Nat.le_trans l3 (by decide)
    have l2 : 2 ≤ ps.length := l1
    have l4 : ps.length ≤ 4 := l3
    have cp : ColP ps := ⟨ho, nd, by omega, l8⟩
    have S67 := (Same.b t z12).trans S7
    have eN7 := S67 _ _ nNt eN6
    have S07 := S6.trans S67
    have lx := hc.len
    clear z1 z2 z12 hp1 hp2 T6 S7 S6 S67 eN6
    -- the second one's
    refine ⟨_, rfl, _, rfl, _, rfl, L, _, rfl, .inr hL.sq, t, c, _, rfl, T7, by omega, big1000 (by omega) (by omega), fun j H8 j0 j1 T8 S8 => ?_⟩
    have hL8 := hL.b T7.tape S8
    have hc8 := hc.b T7.tape S8
    obtain ⟨y, hy⟩ : ∃ y, xs[j.toNat]? = some y := ⟨_, List.getElem?_eq_getElem (by omega)⟩
    obtain ⟨a, z, kk, rfl, ea, ep⟩ := hc8.get _ _ hy
    have zm : (z, kk) ∈ ps := List.mem_of_getElem? ep
    refine ⟨L, xs, _, .ref a, rfl, rfl, hL8.sq, at_of (j := j.toNat) (by omega) hy, one, fun q1 hq1 => ?_⟩
    have zq := Same.upd (o := .tup [.ref a]) hq1
    have eq1 : L2.upd H8 q1 (.tup [.ref a]) q1 = some (.tup [.ref a]) := upd_same
    have T9 := T8.same zq
    have S09 := (S07.trans S8).trans (Same.b t zq)
    have hL9 := hL8.same zq
    have hc9 := hc8.t (SameT.of zq)
    have ea9 := zq _ _ ea
    have eN9 := zq _ _ (S8 _ _ nNt eN7)
    generalize L2.upd H8 q1 (.tup [.ref a]) = H9 at eq1 T9 S09 hL9 hc9 ea9 eN9 ⊢
    clear zq hq1 T8 S8 hL8 hc8 ea eN7 hL hc T7 S07 hy
    refine ⟨_, rfl, one, fun p3 hp3 => ?_⟩
    have z3 := Same.upd (o := .lst [.str "number"]) hp3
    have e3 : L2.upd H9 p3 (.lst [.str "number"]) p3 = some (.lst [.str "number"]) := upd_same
    have T10 := T9.same z3
    have S10 := S09.trans (Same.b t z3)
    have hL10 := hL9.same z3
    have hc10 := hc9.t (SameT.of z3)
    have ea10 := z3 _ _ ea9
    have eN10 := z3 _ _ eN9
    have eq10 := z3 _ _ eq1
    generalize L2.upd H9 p3 (.lst [.str "number"]) = H10 at e3 T10 S10 hL10 hc10 ea10 eN10 eq10 ⊢
    clear z3 hp3 T9 S09 hL9 hc9 ea9 eN9 eq1
    refine ⟨_, rfl, L, rfl, ⟨_, hL10.sq⟩, fun W hW => lc_tup (K := K) (a := L) (xs := xs) (fun i H' => H' W = some (.lst (vS ((nms ps).take i))) ∧ Same H10 H') ⟨upd_same, Same.upd hW⟩ (fun i H' _ pr => (hL10.same pr.2).sq) ?_ ?_⟩
    · rintro i x H11 hx ⟨hW1, s1⟩
      obtain ⟨b, z', k', rfl, eb, ep'⟩ := hc10.get _ _ hx
      refine ⟨rfl, ?_⟩
      dsimp only [tYes]
      refine iteT ?_
      change teWl K _ _ _
      exact ⟨_, rfl, b, _, _, .str z', rfl, rfl, SqT.of (s1 _ _ eb), at_of (j := 0) rfl rfl, nm_turn hW hW1 ep' l8 s1⟩
    rintro H11 ⟨hW1, s11⟩
    rw [show xs.length = (nms ps).length by rw [lx, List.length_map], List.take_length] at hW1
    have T11 := T10.same s11
    refine ⟨t, c, p3, W, 1, ["number"], nms ps, rfl, T11, .inr (s11 _ _ e3), .inr hW1, by rw [List.length_map]; omega, by decide, by decide, by decide, fun k hk => by rw [List.mem_singleton.mp hk]; exact .inl rfl, fun L2' xs2 ps2 H12 hL2 hc2 ho2 nd2 dis l12 l32 T12 S12 => ?_⟩
    have S1012 := (Same.b t s11).trans S12
    have lx2 := hc2.len
    have l12 : 1 ≤ ps2.length := l12
    have l32 : ps2.length ≤ 2 := l32
    have hL12 := (hL10.same s11).b T11.tape S12
    have hc12 := (hc10.t (SameT.of s11)).b T11.tape S12
    have st12 := (SameT.of s11)
    have eq12 := SameT.b T11.tape S12 _ _ (s11 _ _ eq10)
    have ea12 := SameT.b T11.tape S12 _ _ (s11 _ _ ea10)
    have eN12 := S1012 _ _ nNt eN10
    refine ⟨q1, L2', [.ref a], xs2, rfl, rfl, SqT.of eq12, hL2.sq, List.cons_ne_nil _ _, Nat.le_trans (show 1 + xs2.length ≤ 10 by omega) (by decide), fun z => by rw [z] at lx2; change 0 = _ at lx2; omega, fun _ r ob hr' d1 d2 => ?_⟩
    have zr := Same.upd (o := .frz ob (.tup ([.ref a] ++ xs2))) hr'
    have ca2 : CA (L2.upd H12 r (.frz ob (.tup ([.ref a] ++ xs2)))) r ((z, kk) :: ps2) := ⟨[.ref a] ++ xs2, ⟨ob, d1, d2, upd_same⟩, .cons (zr _ _ ea12) (hc2.t (SameT.of zr))⟩
    have ca1 : CA (L2.upd H12 r (.frz ob (.tup ([.ref a] ++ xs2)))) L ps := ⟨xs, hL12.same zr, hc12.t (SameT.of zr)⟩
    have T13 := T12.same zr
    have S13 := (S10.trans S1012).trans (Same.b t zr)
    have eN13 := zr _ _ eN12
    generalize L2.upd H12 r (.frz ob (.tup ([.ref a] ++ xs2))) = H13 at ca1 ca2 T13 S13 eN13 ⊢
    have cp2 : ColP ((z, kk) :: ps2) := by
      refine ⟨fun p hp => ?_, ?_, Nat.succ_le_succ (Nat.zero_le _), by show ps2.length + 1 ≤ 8; omega⟩
      · rcases List.mem_cons.mp hp with rfl | hp
        · exact ho _ zm
        · exact ho2 p hp
      · rw [List.map_cons, List.nodup_cons]
        refine ⟨fun m => ?_, nd2⟩
        obtain ⟨p, hp, e⟩ := List.mem_map.mp m
        exact dis p hp (by rw [e]; exact List.mem_map_of_mem (f := (·.1)) zm)
    -- the dict
    intro D hD
    have nDt := T13.tape.ne hD
    have zD := Same.upd (o := .dK []) hD
    have eND := zD _ _ eN13
    refine ⟨_, rfl, N, _, _, .str n0, rfl, rfl, SqL.of eND, at_of (j := 0) rfl rfl, _, rfl, _, rfl, N, _, _, .str n1, rfl, rfl, SqL.of eND, at_of (j := 1) rfl rfl, _, rfl, _, rfl, N, _, _, .str n2, rfl, rfl, SqL.of eND, at_of (j := 2) rfl rfl, _, rfl, upd_same, [((Sum.inr n0 : Key), .ref L), ((Sum.inr n1 : Key), .ref r), ((Sum.inr n2 : Key), .ref L)], rfl, by show 3 ≤ 15; decide, ?_⟩
    have ndn : [n0, n1, n2].Nodup := by
      simp only [List.mem_cons, List.not_mem_nil, or_false, not_or] at f1 f2
      simp only [List.nodup_cons, List.mem_cons, List.not_mem_nil, or_false, not_or, not_false_eq_true, List.nodup_nil, and_true]
      exact ⟨⟨fun e => f1 e.symm, fun e => f2.1 e.symm⟩, fun e => f2.2 e.symm⟩
    have mg : mergeK [] [((Sum.inr n0 : Key), V.ref L), ((Sum.inr n1 : Key), .ref r), ((Sum.inr n2 : Key), .ref L)] = [((Sum.inr n0 : Key), V.ref L), ((Sum.inr n1 : Key), .ref r), ((Sum.inr n2 : Key), .ref L)] := merge_new _ [] (by
      rw [List.nil_append]
      show ([n0, n1, n2].map (Sum.inr : Str → Key)).Nodup
      exact nodup_map ndn fun a _ b _ q => by injection q)
    rw [mg]
    have s14 : Same H13 (L2.upd (L2.upd H13 D (.dK [])) D (.dK [((Sum.inr n0 : Key), .ref L), ((Sum.inr n1 : Key), .ref r), ((Sum.inr n2 : Key), .ref L)])) := fun b o e => by
      rw [upd_ne (ne_of_none e hD)]
      exact zD b o e
    refine k D _ [(n0, ps), (n1, (z, kk) :: ps2), (n2, ps)] _ upd_same nDt (.cons (ca1.same s14) (.cons (ca2.same s14) (.cons (ca1.same s14) .nil))) ⟨fun o ho' => ?_, ndn, by show 3 ≤ 10; decide⟩ rfl (T13.same s14) (S13.trans (Same.b t s14))
    simp only [List.mem_cons, List.not_mem_nil, or_false] at ho'
    rcases ho' with rfl | rfl | rfl
    · exact ⟨nn0, sn0, cp⟩
    · exact ⟨nn1, sn1, cp2⟩
    · exact ⟨nn2, sn2, cp⟩
end
end
end K13
set_option Elab.async false
set_option linter.all false
set_option maxRecDepth 100000
set_option maxHeartbeats 4000000
namespace K13
open PySem PySem.Spec PyProof.Rows L2 Lc
/-! ## chooses, steps of any kind, pipelines as the law draws them -/
theorem catT {K : PySem.W.Frag} {t : Addr} {H : Hp} {Q : VK} {v u : V} {ds es : List PyData} (T : Tape H t) (h : DhT t H v (.tuple ds)) (g : DhT t H u (.tuple es)) (l : ds.length + es.length ≤ 1000) (k : ∀ r H', DhT t H' r (.tuple (ds ++ es)) → Same H H' → Q r H') : rCatA K v u H Q := by
  have h0 := h
  have g0 := g
  cases h with
  | @tup a xs _ e hs =>
  cases g with
  | @tup b ys _ e' gs =>
  refine ⟨a, b, xs, ys, rfl, rfl, SqT.of (dl_of e).2, SqT.of (dl_of e').2, by rw [hs.len, gs.len]; exact Nat.le_trans l (by decide), fun z => ?_, fun _ z => ?_, fun _ _ p hp => ?_⟩
  · subst z
    cases hs
    exact k _ _ g0 (Same.refl H)
  · subst z
    cases gs
    rw [List.append_nil] at k
    exact k _ _ h0 (Same.refl H)
  · exact k _ _ (dh_tupT T (hs.append gs) hp) (Same.upd hp)
theorem wd_nil : WdP [] := ⟨nofun, List.nodup_nil, Nat.zero_le _⟩
theorem LeadS.ok {os : OsL} (w : WdP os) {ps qs : CsL} {st : Stp} (h : LeadS os ps st qs) (c : ColP ps) : noL st.d = true := by
  cases h with
  | pl h => exact (h.go c w.ho).1.noL
  | ch sl nl n h =>
    rename_i lb as
    show noL (.tuple [.str "choose", .str lb, .tuple (as.map altD)]) = true
    have : noLs (as.map altD) = true := noLs_all.mpr fun d hd => by
      obtain ⟨a, ha, rfl⟩ := List.mem_map.mp hd
      exact noL_alt ((h a ha).2.ok w c)
    simp [Lc.noL, noLs, this]
theorem Lead.mono {os os' : OsL} (s : ∀ o ∈ os, o ∈ os') {ps qs : CsL} {p : Ps} (h : Lead os ps p qs) : Lead os' ps p qs := by
  cases h with
  | keep h => exact .keep h
  | setO a b c => exact .setO a b c
  | setN a b c d e => exact .setN a b c d e
  | select a b c d => exact .select a b c d
  | rename a b c => exact .rename a b c
  | sort a => exact .sort a
  | first a => exact .first a
  | sample a b c d => exact .sample a b c d
  | distinct => exact .distinct
  | union a => exact .union (s _ a)
  | join a b c d e f g => exact .join (s _ a) b c d e f g
  | group a b c => exact .group a b c
theorem Leads.mono {os os' : OsL} (s : ∀ o ∈ os, o ∈ os') {ps qs : CsL} {as : List Ps} (h : Leads os ps as qs) : Leads os' ps as qs := by
  induction h with
  | nil => exact .nil
  | cons h r ih => exact .cons (h.mono s) ih
theorem LeadS.mono {os os' : OsL} (s : ∀ o ∈ os, o ∈ os') {ps qs : CsL} {st : Stp} (h : LeadS os ps st qs) : LeadS os' ps st qs := by
  cases h with
  | pl h => exact .pl (h.mono s)
  | ch sl nl n h => exact .ch sl nl n fun a ha => ⟨(h a ha).1, (h a ha).2.mono s⟩
def OthP (os : Oth) : Prop := os ≠ [] ∧ os.length ≤ 10 ∧ ∀ o ∈ os, ColP o.2.1 ∧ o.2.2 ≤ 1000
def spAs : Sp := fun vs H Q _ => ∃ (t c L O : Addr) (ps : CsL) (kvs : List (Key × V)) (os : Oth) (bd : Nat), vs = [.ref t, .ref L, .ref O, .int (bd : Int)] ∧ TapeL c H t ∧ CA H L ps ∧ ColP ps ∧ H O = some (.dK kvs) ∧ OthAt H kvs os ∧ OthP os ∧ bd ≤ 1000 ∧
  ∀ (r : Addr) (v : V) (C : Addr) (b : Nat) (st : Stp) (qs : CsL) (H' : Hp), H' r = some (.tup [v, .ref C, .int (b : Int)]) → DhT t H' v st.d → CA H' C qs → LeadS (ldO os) ps st qs → b ≤ 1000 → TapeL c H' t → SameB t H H' → Q (.ref r) H'
/-- what is drawn: a pair, its step, its columns -/
structure PE1 where
  a : Addr
  s : V
  C : Addr
  st : Stp
  qs : CsL
def PlAt (t : Addr) (H : Hp) (pl : List PE1) : Prop := ∀ e ∈ pl, H e.a = some (.tup [e.s, .ref e.C]) ∧ DhT t H e.s e.st.d ∧ CA H e.C e.qs
inductive Chn (os : OsL) : CsL → List PE1 → CsL → Prop
  | nil {ps : CsL} : Chn os ps [] ps
  | cons {ps rs : CsL} {e : PE1} {pl : List PE1} (h : LeadS os ps e.st e.qs) (r : Chn os e.qs pl rs) : Chn os ps (e :: pl) rs
theorem Chn.snoc {os : OsL} {ps qs : CsL} {pl : List PE1} {e : PE1} (h : Chn os ps pl qs) (l : LeadS os qs e.st e.qs) : Chn os ps (pl ++ [e]) e.qs := by
  induction h with
  | nil => exact .cons l .nil
  | cons a r ih => exact .cons a (ih l)
theorem Chn.mono {os os' : OsL} (s : ∀ o ∈ os, o ∈ os') {ps qs : CsL} {pl : List PE1} (h : Chn os ps pl qs) : Chn os' ps pl qs := by
  induction h with
  | nil => exact .nil
  | cons a r ih => exact .cons (a.mono s) ih
theorem Chn.runs {os : OsL} {ps qs : CsL} {pl : List PE1} (h : Chn os ps pl qs) : ∀ {i : Nat} {c : CsL}, (ps :: pl.map (·.qs))[i]? = some c → Runs os ps ((pl.take i).map (·.st)) c := by
  induction h with
  | nil =>
    intro i c e
    cases i with
    | zero => cases e; exact .nil
    | succ i => simp at e
  | cons a r ih =>
    intro i c e
    cases i with
    | zero => cases e; exact .nil
    | succ i => exact .cons a (ih (by simpa using e))
def spPi : Sp := fun vs H Q _ => ∃ (t c L O : Addr) (ps : CsL) (kvs : List (Key × V)) (os : Oth) (bd : Nat) (many : Int), vs = [.ref t, .ref L, .ref O, .int (bd : Int), .int many] ∧ TapeL c H t ∧ CA H L ps ∧ ColP ps ∧ H O = some (.dK kvs) ∧ OthAt H kvs os ∧ OthP os ∧ WdP (ldO os) ∧ bd ≤ 1000 ∧ 0 ≤ many ∧ many ≤ 40 ∧
  ∀ (R : Addr) (pl : List PE1) (qs : CsL) (H' : Hp), H' R = some (.lst (pl.map fun e => .ref e.a)) → R ≠ t → PlAt t H' pl → Chn (ldO os) ps pl qs → (pl.length : Int) ≤ many → TapeL c H' t → SameB t H H' → Q (.ref R) H'
theorem sh_cut : Sh 12 "cut" ∧ nmS "cut" := ⟨⟨by decide +kernel, by decide +kernel⟩, by decide +kernel⟩
theorem sh_way : Sh 12 "way" ∧ nmS "way" := ⟨⟨by decide +kernel, by decide +kernel⟩, by decide +kernel⟩
theorem sh_z : Sh 12 "z" ∧ nmS "z" := ⟨⟨by decide +kernel, by decide +kernel⟩, by decide +kernel⟩
section
variable {P : Program} {w : World} {K : PySem.W.Frag} {mg : Str → Option Value} {base : Heap} {f : Addr} {fd : FuncData}
abbrev sCa : Stmt := top 94
abbrev nCa : List Str := ["_law_tape_here", "_law_columns_here", "_law_label", "_law_many", "_law_last", "_law_behind", "_law_step", "_law_lists", "_law_k", "_law_j"]
abbrev pCa : List Str := ["_law_tape_here", "_law_columns_here", "_law_label", "_law_many"]
theorem scCa : FnScope nCa pCa (defScope sCa) := ⟨rfl, rfl, rfl, by decide +kernel, rfl, by decide +kernel, by decide +kernel⟩
section
variable {fA_ fB_ fC_ : Addr} {fdA_ fdB_ fdC_ : FuncData}
theorem ok_Ca (F : Fun K "_law_choose_any" "_law_choose_any" sCa f fd) (T : Bt mg)
    (GA_ : FnOk P w K mg base CX0 1 fA_ fdA_ ["_law_tape_here", "_law_many"] (spDrawL)) (mA_ : mg "_law_draw" = some (.ref fA_)) (kA_ : PySem.W.keepIn K (.ref fA_) = true) (bA_ : Binds K fdA_ ["_law_tape_here", "_law_many"] [])
    (GB_ : FnOk P w K mg base CX0 8 fB_ fdB_ ["_law_tape_here", "_law_columns_here"] (spKs)) (mB_ : mg "_law_keeping_step" = some (.ref fB_)) (kB_ : PySem.W.keepIn K (.ref fB_) = true) (bB_ : Binds K fdB_ ["_law_tape_here", "_law_columns_here"] [])
    (GC_ : FnOk P w K mg base CX0 7 fC_ fdC_ ["_law_tape_here", "_law_columns_here"] (spSas)) (mC_ : mg "_law_same_step" = some (.ref fC_)) (kC_ : PySem.W.keepIn K (.ref fC_) = true) (bC_ : Binds K fdC_ ["_law_tape_here", "_law_columns_here"] []) : FnOk P w K mg base CX0 9 f fd pCa (spCa) := by
  refine F.ok scCa (fun vs H Q E h => ?_) (fun cdv A outer s H vs Q E hr h => ?_)
  · obtain ⟨t, c, L, ps, lb, rfl, _⟩ := h
    rfl
  · obtain ⟨t, c, L, ps, lb, rfl, hT, hL, cp, sl, nl, k⟩ := h
    have hrA_ : Room (1) _ := hr.mono (by first | decide | omega)
    have hrB_ : Room (8) _ := hr.mono (by first | decide | omega)
    have hrC_ : Room (7) _ := hr.mono (by first | decide | omega)
    refine ⟨_, (pss_cons (ps_set (i := 4) scCa.nd rfl (Or.inl rfl) (pe_tup pa_nil))
      (pss_cons (ps_set (i := 5) scCa.nd rfl (Or.inl rfl) (pv 1))
      (Evl.pss_cut (ps_if (pt_cmpR op_eq (pe_call GA_ hrA_ (by rfl) mA_ kA_ bA_ .nil pass0 (pa_cons (pv 0) (pa_cons pe_int pa_nil))) pe_int (nomark _)) (pss_cons (ps_asg (pe_call GB_ hrB_ (by rfl) mB_ kB_ bB_ .nil pass0 (pa_cons (pv 0) (pa_cons (pv 1) pa_nil))) (pg_tup rfl (pgs_cons (pg_name (i := 6) scCa.nd rfl (.inl rfl)) (pgs_cons (pg_name (i := 5) scCa.nd rfl (.inl rfl)) pgs_nil))))
      (pss_one (ps_set (i := 4) scCa.nd rfl (Or.inl rfl) (pe_tup (pa_cons (pv 6) pa_nil))))) pss_nil)
      (pss_cons (ps_set (i := 7) scCa.nd rfl (Or.inl rfl) (pe_lst pa_nil))
      (pss_cons (ps_for PassesOwn.never rfl (pi_range1 (by rfl) T.range (pa_cons (pv 3) pa_nil)) (pg_name (i := 8) scCa.nd rfl (.inl rfl)) (pss_one (ps_expr (pe_bm PySem.F.plainAttrs_list PySem.F.slot_list_append PySem.F.type_list_append mt_append (pv 7) (pa_cons (pe_op op_catA (pe_callTy call_tuple_of (by rfl) T.tuple boot_tuple (pa_cons (pe_lc (own := [("_law_j", 9)]) (g := (gName 9)) (tt := tYes) (te := teCa) (by rfl) scCa.nd (pi_range1 (by rfl) T.range (pa_cons (pe_call GA_ hrA_ (by rfl) mA_ kA_ bA_ .nil pass0 (pa_cons (pv 0) (pa_cons pe_int pa_nil))) pa_nil)) (blkOk_by (own := [("_law_j", 9)]) (N := nCa) (sc := defScope sCa) (by decide +kernel)) (fun _ _ _ _ _ => (pg_name (i := 9) scCa.nd rfl (.inl rfl))) (fun _ _ _ _ _ => pts_nil) (fun _ _ _ _ _ => (pe_call GC_ hrC_ (by rfl) mC_ kC_ bC_ .nil pass0 (pa_cons (pv 0) (pa_cons (pv 1) pa_nil))))) pa_nil)) (pv 4)) pa_nil)))))
      (pss_one (ps_ret (pe_tup (pa_cons (pe_tup (pa_cons pe_str (pa_cons (pv 2) (pa_cons (pe_callTy call_tuple_of (by rfl) T.tuple boot_tuple (pa_cons (pv 7) pa_nil)) pa_nil)))) (pa_cons (pv 5) pa_nil)))))))))), ?_⟩
    have two : 2 ≤ sizeLine := by decide
    have one : 1 ≤ sizeLine := by decide
    have three : 3 ≤ sizeLine := by decide
    have nb := numL_b lb
    refine ⟨by show 0 ≤ sizeLine; decide, fun e0 he0 => ?_⟩
    have z0 := Same.upd (o := .tup []) he0
    have T0 := hT.same z0
    have d0 : DhT t (L2.upd H e0 (.tup [])) (.ref e0) (.tuple []) := dh_tupT hT.tape .nil he0
    have hL0 := hL.same z0
    have S0 := Same.b t z0
    generalize L2.upd H e0 (.tup []) = H0 at T0 d0 hL0 S0 ⊢
    refine ⟨_, rfl, ?_⟩
    refine ⟨fun σ H' => ∃ (la Cb : Addr) (ls : List Ps) (qs : CsL) (x6 : Option V), σ = [some (.ref t), some (.ref L), some (.str lb), some (.int (numL lb : Nat)), some (.ref la), some (.ref Cb), x6, none, none, none] ∧ DhT t H' (.ref la) (altD ls) ∧ ls.length ≤ 1 ∧ (∀ os, Leads os ps ls qs) ∧ CA H' Cb qs ∧ TapeL c H' t ∧ SameB t H H', ?_, ?_⟩
    · refine ⟨_, rfl, t, c, _, rfl, T0, by decide, big1000 (by decide) (by decide), fun u H2 u0 u2 T2 S2 => ⟨rfl, _, rfl, ite2 (fun _ => ?_) (fun _ => ?_)⟩⟩
      · have hL2 := hL0.b T0.tape S2
        refine ⟨_, rfl, _, rfl, t, c, L, ps, rfl, T2, hL2, cp, fun r v C p qs H3 er dv ca ld T3 S3 => ⟨r, _, rfl, SqT.of er, rfl, _, _, rfl, _, _, rfl, rfl, ?_⟩⟩
        dsimp only [gNil]
        refine ⟨_, rfl, one, fun q hq => ?_⟩
        have zq := Same.upd (o := .tup [v]) hq
        exact ⟨q, C, [p], qs, _, rfl, dh_tupT T3.tape (.cons dv .nil) hq, Nat.le_refl _, fun os => .cons (ld os) .nil, ca.same zq, T3.same zq, ((S0.trans S2).trans S3).trans (Same.b t zq)⟩
      · exact ⟨e0, L, [], ps, _, rfl, dtb d0 S2, Nat.zero_le _, fun os => .nil, hL0.b T0.tape S2, T2, S0.trans S2⟩
    clear d0 hL0 T0 z0 he0 S0
    rintro σ H1 ⟨la, Cb, ls, qs, x6, rfl, dla, lls, lds, hCb, T1, S1⟩
    refine ⟨Nat.zero_le _, fun G hG => ?_⟩
    have zG := Same.upd (o := .lst []) hG
    have nGt := T1.tape.ne hG
    obtain ⟨yy, hc⟩ := T1.list
    have nGc : G ≠ c := Ne.symm (ne_of_none hc hG)
    refine ⟨_, rfl, (numL lb : Nat), rfl, by omega, by omega, for_range (lo := 0) (n := numL lb) (fun i σ H' => (∃ (x8 : Option V) (vs : List V) (as : List (List Ps)), σ = [some (.ref t), some (.ref L), some (.str lb), some (.int (numL lb : Nat)), some (.ref la), some (.ref Cb), x6, some (.ref G), x8, none] ∧ H' G = some (.lst vs) ∧ DhAll (dl t H') vs (as.map altD) ∧ as.length = i ∧ (∀ a ∈ as, a.length ≤ 4 ∧ ∀ os, Leads os ps a qs)) ∧ TapeL c H' t ∧ SameB t H1 H') ⟨⟨none, [], [], rfl, upd_same, .nil, rfl, nofun⟩, T1.same zG, Same.b t zG⟩ ?_ ?_⟩
    · rintro i σ H2 hi ⟨⟨x8, vs, as, rfl, eG, dv, lai, oka⟩, T2, S2⟩
      have lv : vs.length = as.length := by rw [dv.len, List.length_map]
      refine ⟨_, rfl, .inl ⟨rfl, _, SqL.of eG⟩, _, rfl, t, c, _, rfl, T2, by decide, big1000 (by decide) (by decide), fun d H3 d0 d3 T3 S3 => ⟨d, rfl, by omega, by omega, fun D hD => ?_⟩⟩
      have zD := Same.upd (o := .lst []) hD
      have nDt := T3.tape.ne hD
      obtain ⟨ys2, hc2⟩ := T3.list
      have nDc : D ≠ c := Ne.symm (ne_of_none hc2 hD)
      have eG3 := S3 _ _ nGt eG
      have hL3 := ((hL.b hT.tape S1).b T1.tape S2).b T2.tape S3
      refine lc_range (lo := 0) (n := d.toNat) (fun j H' => (∃ (us : List V) (a : List Ps), H' D = some (.lst us) ∧ DhAll (dl t H') us (a.map Ps.d) ∧ a.length = j ∧ ∀ p ∈ a, SamP ps p) ∧ TapeL c H' t ∧ SameB t H3 H') ⟨⟨[], [], upd_same, .nil, rfl, nofun⟩, T3.same zD, Same.b t zD⟩ ?_ ?_
      · rintro j H4 hj ⟨⟨us, a, eD, du, lj, oks⟩, T4, S4⟩
        refine ⟨rfl, ?_⟩
        dsimp only [tYes]
        refine iteT ?_
        change teCa _ _ _
        refine ⟨_, rfl, _, rfl, t, c, L, ps, rfl, T4, hL3.b T3.tape S4, cp, fun v p H5 dp sp T5 S5 => ?_⟩
        have eD5 := S5 _ _ nDt eD
        have lu : us.length = a.length := by rw [du.len, List.length_map]
        refine ⟨us, eD5, lt_size (by omega), ⟨us ++ [v], a ++ [p], upd_same, ?_, by rw [List.length_append, lj]; rfl, fun x hx => ?_⟩, T5.upd nDt nDc, updB hD (S4.trans S5)⟩
        · rw [List.map_append]
          have st := dl_sameT (t := t) (SameT.lst (o := .lst (us ++ [v])) eD5)
          exact (DhAll.t st (dtbA du S5) (noLs_ps fun p hp => ((oks p hp).ok cp).1)).append (.cons (Dh.t st dp (sp.ok cp).1.noL) .nil)
        · rcases List.mem_append.mp hx with hx | hx
          · exact oks x hx
          · rw [List.mem_singleton.mp hx]; exact sp
      rintro H4 ⟨⟨us, a, eD, du, lj, oks⟩, T4, S4⟩
      have eG4 := S4 _ _ nGt eG3
      refine ⟨D, us, rfl, .inl ⟨SqL.of eD, fun p hp => ⟨_, rfl, ?_⟩⟩⟩
      have zp := Same.upd (o := .tup us) hp
      have S24 := S3.trans S4
      have dla4 := dts (dtb dla (S2.trans S24)) zp
      refine catT (T4.same zp).tape (dh_tupT T4.tape du hp) dla4 (by rw [List.length_map, List.length_map]; omega) fun r H5 dr s5 => ?_
      rw [← List.map_append] at dr
      have s45 := zp.trans s5
      have eG5 := s45 _ _ eG4
      have S25 := S24.trans (Same.b t s45)
      have T5 := T4.same s45
      have al : ∀ os, Leads os ps (a ++ ls) qs := fun os => leads_same (fun p hp => (oks p hp).1 os) (lds os)
      refine ⟨G, _, _, rfl, rfl, eG5, lt_size (by omega), ?_⟩
      have st := dl_sameT (t := t) (SameT.lst (o := .lst (vs ++ [r])) eG5)
      refine ⟨⟨_, vs ++ [r], as ++ [a ++ ls], rfl, upd_same, ?_, by rw [List.length_append, lai]; rfl, fun x hx => ?_⟩, T5.upd nGt nGc, updB hG (S2.trans S25)⟩
      · rw [List.map_append]
        refine (DhAll.t st (dtbA dv S25) (noLs_all.mpr fun d hd => ?_)).append (.cons (Dh.t st dr (noL_alt ((al []).ok wd_nil cp))) .nil)
        obtain ⟨b, hb, rfl⟩ := List.mem_map.mp hd
        exact noL_alt (((oka b hb).2 []).ok wd_nil cp)
      · rcases List.mem_append.mp hx with hx | hx
        · exact oka x hx
        · rw [List.mem_singleton.mp hx]
          exact ⟨by rw [List.length_append]; omega, al⟩
    · rintro σ H2 ⟨⟨x8, vs, as, rfl, eG, dv, lai, oka⟩, T2, S2⟩
      refine ⟨_, rfl, _, rfl, G, _, rfl, .inl ⟨SqL.of eG, fun p hp => ⟨three, fun q hq => ⟨_, rfl, two, fun r hr' => ?_⟩⟩⟩⟩
      have zp := Same.upd (o := .tup vs) hp
      have zq := Same.upd (o := .tup [.str "choose", .str lb, .ref p]) hq
      have zr := Same.upd (o := .tup [.ref q, .ref Cb]) hr'
      have z := (zp.trans zq).trans zr
      have dq := dh_tupT (T2.same zp).tape (.cons (.str "choose") (.cons (.str lb) (.cons (dh_tupT T2.tape dv hp) .nil))) hq
      exact k r (.ref q) Cb as qs _ upd_same (dts dq zr) ((hCb.b T1.tape S2).same z) (fun os => .ch sl nl lai fun a ha => ⟨(oka a ha).1, (oka a ha).2 os⟩) (T2.same z) ((S1.trans S2).trans (Same.b t z))
end
abbrev sAs : Stmt := top 92
abbrev nAs : List Str := ["_law_tape_here", "_law_columns_here", "_law_others", "_law_bound", "_law_turn", "_law_found", "_law_pair"]
abbrev pAs : List Str := ["_law_tape_here", "_law_columns_here", "_law_others", "_law_bound"]
theorem scAs : FnScope nAs pAs (defScope sAs) := ⟨rfl, rfl, rfl, by decide +kernel, rfl, by decide +kernel, by decide +kernel⟩
section
variable {fA_ fB_ fC_ fD_ fE_ fF_ : Addr} {fdA_ fdB_ fdC_ fdD_ fdE_ fdF_ : FuncData}
theorem ok_As (F : Fun K "_law_any_step" "_law_any_step" sAs f fd) (T : Bt mg)
    (GA_ : FnOk P w K mg base CX0 1 fA_ fdA_ ["_law_tape_here", "_law_many"] (spDrawL)) (mA_ : mg "_law_draw" = some (.ref fA_)) (kA_ : PySem.W.keepIn K (.ref fA_) = true) (bA_ : Binds K fdA_ ["_law_tape_here", "_law_many"] [])
    (GB_ : FnOk P w K mg base CX0 4 fB_ fdB_ ["_law_tape_here", "_law_columns_here", "_law_others", "_law_bound"] (spMt)) (mB_ : mg "_law_meeting_step" = some (.ref fB_)) (kB_ : PySem.W.keepIn K (.ref fB_) = true) (bB_ : Binds K fdB_ ["_law_tape_here", "_law_columns_here", "_law_others", "_law_bound"] [])
    (GC_ : FnOk P w K mg base CX0 8 fC_ fdC_ ["_law_tape_here", "_law_columns_here"] (spKs)) (mC_ : mg "_law_group_step" = some (.ref fC_)) (kC_ : PySem.W.keepIn K (.ref fC_) = true) (bC_ : Binds K fdC_ ["_law_tape_here", "_law_columns_here"] [])
    (GD_ : FnOk P w K mg base CX0 7 fD_ fdD_ ["_law_tape_here", "_law_columns_here"] (spSas)) (mD_ : mg "_law_same_step" = some (.ref fD_)) (kD_ : PySem.W.keepIn K (.ref fD_) = true) (bD_ : Binds K fdD_ ["_law_tape_here", "_law_columns_here"] [])
    (GE_ : FnOk P w K mg base CX0 9 fE_ fdE_ ["_law_tape_here", "_law_columns_here", "_law_label", "_law_many"] (spCa)) (mE_ : mg "_law_choose_any" = some (.ref fE_)) (kE_ : PySem.W.keepIn K (.ref fE_) = true) (bE_ : Binds K fdE_ ["_law_tape_here", "_law_columns_here", "_law_label", "_law_many"] [])
    (GF_ : FnOk P w K mg base CX0 8 fF_ fdF_ ["_law_tape_here", "_law_columns_here"] (spKs)) (mF_ : mg "_law_keeping_step" = some (.ref fF_)) (kF_ : PySem.W.keepIn K (.ref fF_) = true) (bF_ : Binds K fdF_ ["_law_tape_here", "_law_columns_here"] []) : FnOk P w K mg base CX0 10 f fd pAs (spAs) := by
  refine F.ok scAs (fun vs H Q E h => ?_) (fun cdv A outer s H vs Q E hr h => ?_)
  · obtain ⟨t, c, L, O, ps, kvs, os, bd, rfl, _⟩ := h
    rfl
  · obtain ⟨t, c, L, O, ps, kvs, os, bd, rfl, hT, hL, cp, hO, ho, oP, bd1, k⟩ := h
    have hrA_ : Room (1) _ := hr.mono (by first | decide | omega)
    have hrB_ : Room (4) _ := hr.mono (by first | decide | omega)
    have hrC_ : Room (8) _ := hr.mono (by first | decide | omega)
    have hrD_ : Room (7) _ := hr.mono (by first | decide | omega)
    have hrE_ : Room (9) _ := hr.mono (by first | decide | omega)
    have hrF_ : Room (8) _ := hr.mono (by first | decide | omega)
    refine ⟨_, (pss_cons (ps_set (i := 4) scAs.nd rfl (Or.inl rfl) (pe_call GA_ hrA_ (by rfl) mA_ kA_ bA_ .nil pass0 (pa_cons (pv 0) (pa_cons pe_int pa_nil))))
      (Evl.pss_cut (ps_if (pt_cmpR op_lt (pv 4) pe_int (nomark _)) (pss_cons (ps_set (i := 5) scAs.nd rfl (Or.inl rfl) (pe_call GB_ hrB_ (by rfl) mB_ kB_ bB_ .nil pass0 (pa_cons (pv 0) (pa_cons (pv 1) (pa_cons (pv 2) (pa_cons (pv 3) pa_nil))))))
      (pss_one (ps_if (pt_cmpR op_notN (pv 5) pe_non (nomark _)) (pss_one (ps_ret (pv 5))) pss_nil))) pss_nil)
      (pss_cons (ps_if (pt_cmpR op_eq (pv 4) pe_int (nomark _)) (pss_cons (ps_set (i := 5) scAs.nd rfl (Or.inl rfl) (pe_call GC_ hrC_ (by rfl) mC_ kC_ bC_ .nil pass0 (pa_cons (pv 0) (pa_cons (pv 1) pa_nil))))
      (pss_one (ps_ret (pe_tup (pa_cons (pe_ix ix_tup (pv 5) pe_int (fun _ _ => rfl)) (pa_cons (pe_ix ix_tup (pv 5) pe_int (fun _ _ => rfl)) (pa_cons (pv 3) pa_nil))))))) pss_nil)
      (pss_cons (ps_if (pt_cmpR op_eq (pv 4) pe_int (nomark _)) (pss_one (ps_ret (pe_tup (pa_cons (pe_call GD_ hrD_ (by rfl) mD_ kD_ bD_ .nil pass0 (pa_cons (pv 0) (pa_cons (pv 1) pa_nil))) (pa_cons (pv 1) (pa_cons (pv 3) pa_nil)))))) pss_nil)
      (pss_cons (ps_if (pt_cmpR op_eq (pv 4) pe_int (nomark _)) (pss_cons (ps_set (i := 6) scAs.nd rfl (Or.inl rfl) (pe_ix ix_list (pe_lst (pa_cons (pe_tup (pa_cons pe_str (pa_cons pe_int pa_nil))) (pa_cons (pe_tup (pa_cons pe_str (pa_cons pe_int pa_nil))) (pa_cons (pe_tup (pa_cons pe_str (pa_cons pe_int pa_nil))) pa_nil)))) (pe_call GA_ hrA_ (by rfl) mA_ kA_ bA_ .nil pass0 (pa_cons (pv 0) (pa_cons pe_int pa_nil))) (fun _ _ => rfl)))
      (pss_cons (ps_set (i := 5) scAs.nd rfl (Or.inl rfl) (pe_call GE_ hrE_ (by rfl) mE_ kE_ bE_ .nil pass0 (pa_cons (pv 0) (pa_cons (pv 1) (pa_cons (pe_ix ix_tup (pv 6) pe_int (fun _ _ => rfl)) (pa_cons (pe_ix ix_tup (pv 6) pe_int (fun _ _ => rfl)) pa_nil))))))
      (pss_one (ps_ret (pe_tup (pa_cons (pe_ix ix_tup (pv 5) pe_int (fun _ _ => rfl)) (pa_cons (pe_ix ix_tup (pv 5) pe_int (fun _ _ => rfl)) (pa_cons (pv 3) pa_nil)))))))) pss_nil)
      (pss_cons (ps_set (i := 5) scAs.nd rfl (Or.inl rfl) (pe_call GF_ hrF_ (by rfl) mF_ kF_ bF_ .nil pass0 (pa_cons (pv 0) (pa_cons (pv 1) pa_nil))))
      (pss_one (ps_ret (pe_tup (pa_cons (pe_ix ix_tup (pv 5) pe_int (fun _ _ => rfl)) (pa_cons (pe_ix ix_tup (pv 5) pe_int (fun _ _ => rfl)) (pa_cons (pv 3) pa_nil)))))))))))), ?_⟩
    have two : 2 ≤ sizeLine := by decide
    have three : 3 ≤ sizeLine := by decide
    obtain ⟨o1, o10, oo⟩ := oP
    have nO : O ≠ t := by
      intro z
      obtain ⟨_, _, _, _, _, h1, _⟩ := hT.tape
      rw [z, h1] at hO
      cases hO
    refine ⟨_, rfl, t, c, _, rfl, hT, by decide, big1000 (by decide) (by decide), fun u H1 u0 u9 T1 S1 => ?_⟩
    have hL1 := hL.b hT.tape S1
    refine ⟨fun σ H' => ∃ x5 : Option V, σ = [some (.ref t), some (.ref L), some (.ref O), some (.int (bd : Int)), some (.int u), x5, none] ∧ TapeL c H' t ∧ SameB t H H', ?_, ?_⟩
    · refine ⟨_, rfl, _, _, rfl, rfl, _, rfl, ite2 (fun _ => ?_) (fun _ => ⟨_, rfl, T1, S1⟩)⟩
      refine ⟨_, rfl, _, rfl, _, rfl, _, rfl, t, c, L, O, ps, kvs, os, bd, rfl, T1, hL1, cp, S1 _ _ nO hO, ho.b hT.tape S1, o1, o10, oo, bd1, fun H2 T2 S2 => ?_, fun r v C b p qs H2 er dv ca ld b1 T2 S2 => ?_⟩
      · exact ⟨_, rfl, rfl, _, rfl, iteF ⟨_, rfl, T2, S1.trans S2⟩⟩
      · exact ⟨_, rfl, rfl, _, rfl, iteT ⟨_, rfl, k r v C b (.pl p) qs H2 er dv ca (.pl ld) b1 T2 (S1.trans S2)⟩⟩
    clear hL1 T1 S1
    rintro σ H2 ⟨x5, rfl, T2, S02⟩
    have hL2 := hL.b hT.tape S02
    refine ⟨_, rfl, rfl, _, rfl, ite2 (fun _ => ?_) (fun _ => ?_)⟩
    · exact ⟨_, rfl, _, rfl, t, c, L, ps, rfl, T2, hL2, cp, fun r v C p qs H3 er dv ca ld T3 S3 => ⟨_, rfl, r, _, _, v, rfl, rfl, SqT.of er, at_of (j := 0) rfl rfl, _, rfl, r, _, _, .ref C, rfl, rfl, SqT.of er, at_of (j := 1) rfl rfl, _, rfl, three, fun q hq => k q v C bd (.pl p) qs _ upd_same (dts dv (Same.upd hq)) (ca.same (Same.upd hq)) (.pl (ld _)) bd1 (T3.same (Same.upd hq)) ((S02.trans S3).trans (Same.b t (Same.upd hq)))⟩⟩
    refine ⟨_, rfl, rfl, _, rfl, ite2 (fun _ => ?_) (fun _ => ?_)⟩
    · exact ⟨_, rfl, _, rfl, t, c, L, ps, rfl, T2, hL2, cp, fun v p H3 dv sp T3 S3 => ⟨_, rfl, _, rfl, three, fun q hq => k q v L bd (.pl p) ps _ upd_same (dts dv (Same.upd hq)) ((hL2.b T2.tape S3).same (Same.upd hq)) (.pl (sp.1 _)) bd1 (T3.same (Same.upd hq)) ((S02.trans S3).trans (Same.b t (Same.upd hq)))⟩⟩
    refine ⟨_, rfl, rfl, _, rfl, ite2 (fun _ => ?_) (fun _ => ?_)⟩
    · refine ⟨two, fun p1 h1 => ⟨two, fun p2 h2 => ⟨two, fun p3 h3 => ⟨three, fun Y hY => ?_⟩⟩⟩⟩
      have z1 := Same.upd (o := .tup [.str "cut", .int 2]) h1
      have z2 := Same.upd (o := .tup [.str "way", .int 3]) h2
      have z3 := Same.upd (o := .tup [.str "z", .int 4]) h3
      have zY := Same.upd (o := .lst [.ref p1, .ref p2, .ref p3]) hY
      have e1 := (z2.trans (z3.trans zY)) _ _ (show L2.upd H2 p1 (.tup [.str "cut", .int 2]) p1 = _ from upd_same)
      have e2 := (z3.trans zY) _ _ (show L2.upd (L2.upd H2 p1 (.tup [.str "cut", .int 2])) p2 (.tup [.str "way", .int 3]) p2 = _ from upd_same)
      have e3 := zY _ _ (show L2.upd (L2.upd (L2.upd H2 p1 (.tup [.str "cut", .int 2])) p2 (.tup [.str "way", .int 3])) p3 (.tup [.str "z", .int 4]) p3 = _ from upd_same)
      have eY : L2.upd (L2.upd (L2.upd (L2.upd H2 p1 (.tup [.str "cut", .int 2])) p2 (.tup [.str "way", .int 3])) p3 (.tup [.str "z", .int 4])) Y (.lst [.ref p1, .ref p2, .ref p3]) Y = some (.lst [.ref p1, .ref p2, .ref p3]) := upd_same
      have zz := z1.trans (z2.trans (z3.trans zY))
      have T4 := T2.same zz
      have nY := ((T2.same z1).same (z2.trans z3)).tape.ne hY
      generalize L2.upd (L2.upd (L2.upd (L2.upd H2 p1 (.tup [.str "cut", .int 2])) p2 (.tup [.str "way", .int 3])) p3 (.tup [.str "z", .int 4])) Y (.lst [.ref p1, .ref p2, .ref p3]) = H4 at e1 e2 e3 eY zz T4 ⊢
      refine ⟨_, rfl, t, c, _, rfl, T4, by decide, big1000 (by decide) (by decide), fun j H5 j0 j3 T5 S5 => ?_⟩
      have S25 := (Same.b t zz).trans S5
      have st5 := SameT.b T4.tape S5
      obtain ⟨pj, lb, ej, epj, sl, nl⟩ : ∃ (pj : Addr) (lb : Str), ([.ref p1, .ref p2, .ref p3] : List V)[j.toNat]? = some (.ref pj) ∧ H5 pj = some (.tup [.str lb, .int (numL lb : Nat)]) ∧ Sh 12 lb ∧ nmS lb := by
        have n1 : numL "cut" = 2 := if_pos rfl
        have n2 : numL "way" = 3 := by unfold numL; rw [if_neg (by decide +kernel), if_pos rfl]
        have n3 : numL "z" = 4 := by unfold numL; rw [if_neg (by decide +kernel), if_neg (by decide +kernel)]
        have : j.toNat = 0 ∨ j.toNat = 1 ∨ j.toNat = 2 := by omega
        rcases this with h | h | h <;> rw [h]
        · exact ⟨p1, "cut", rfl, by rw [n1]; exact st5 _ _ e1, sh_cut.1, sh_cut.2⟩
        · exact ⟨p2, "way", rfl, by rw [n2]; exact st5 _ _ e2, sh_way.1, sh_way.2⟩
        · exact ⟨p3, "z", rfl, by rw [n3]; exact st5 _ _ e3, sh_z.1, sh_z.2⟩
      refine ⟨Y, _, _, .ref pj, rfl, rfl, SqL.of (S5 _ _ nY eY), at_of (j := j.toNat) (by omega) ej, ?_⟩
      have S02 := S02.trans S25
      exact ⟨_, rfl, _, rfl, _, rfl, pj, _, _, .str lb, rfl, rfl, SqT.of epj, at_of (j := 0) rfl rfl, _, rfl, pj, _, _, .int (numL lb : Nat), rfl, rfl, SqT.of epj, at_of (j := 1) rfl rfl, t, c, L, ps, lb, rfl, T5, hL2.b T2.tape S25, cp, sl, nl, fun r v C as qs H3 er dv ca ld T3 S3 => ⟨_, rfl, r, _, _, v, rfl, rfl, SqT.of er, at_of (j := 0) rfl rfl, _, rfl, r, _, _, .ref C, rfl, rfl, SqT.of er, at_of (j := 1) rfl rfl, _, rfl, three, fun q hq => k q v C bd (.ch lb as) qs _ upd_same (dts dv (Same.upd hq)) (ca.same (Same.upd hq)) (ld _) bd1 (T3.same (Same.upd hq)) ((S02.trans S3).trans (Same.b t (Same.upd hq)))⟩⟩
    · exact ⟨_, rfl, _, rfl, t, c, L, ps, rfl, T2, hL2, cp, fun r v C p qs H3 er dv ca ld T3 S3 => ⟨_, rfl, r, _, _, v, rfl, rfl, SqT.of er, at_of (j := 0) rfl rfl, _, rfl, r, _, _, .ref C, rfl, rfl, SqT.of er, at_of (j := 1) rfl rfl, _, rfl, three, fun q hq => k q v C bd (.pl p) qs _ upd_same (dts dv (Same.upd hq)) (ca.same (Same.upd hq)) (.pl (ld _)) bd1 (T3.same (Same.upd hq)) ((S02.trans S3).trans (Same.b t (Same.upd hq)))⟩⟩
end
abbrev sPi : Stmt := top 93
abbrev nPi : List Str := ["_law_tape_here", "_law_columns_here", "_law_others", "_law_bound", "_law_many", "_law_found", "_law_k", "_law_one"]
abbrev pPi : List Str := ["_law_tape_here", "_law_columns_here", "_law_others", "_law_bound", "_law_many"]
theorem scPi : FnScope nPi pPi (defScope sPi) := ⟨rfl, rfl, rfl, by decide +kernel, rfl, by decide +kernel, by decide +kernel⟩
section
variable {fA_ fB_ : Addr} {fdA_ fdB_ : FuncData}
theorem ok_Pi (F : Fun K "_law_piped" "_law_piped" sPi f fd) (T : Bt mg)
    (GA_ : FnOk P w K mg base CX0 1 fA_ fdA_ ["_law_tape_here", "_law_many"] (spDrawL)) (mA_ : mg "_law_draw" = some (.ref fA_)) (kA_ : PySem.W.keepIn K (.ref fA_) = true) (bA_ : Binds K fdA_ ["_law_tape_here", "_law_many"] [])
    (GB_ : FnOk P w K mg base CX0 10 fB_ fdB_ ["_law_tape_here", "_law_columns_here", "_law_others", "_law_bound"] (spAs)) (mB_ : mg "_law_any_step" = some (.ref fB_)) (kB_ : PySem.W.keepIn K (.ref fB_) = true) (bB_ : Binds K fdB_ ["_law_tape_here", "_law_columns_here", "_law_others", "_law_bound"] []) : FnOk P w K mg base CX0 11 f fd pPi (spPi) := by
  refine F.ok scPi (fun vs H Q E h => ?_) (fun cdv A outer s H vs Q E hr h => ?_)
  · obtain ⟨t, c, L, O, ps, kvs, os, bd, many, rfl, _⟩ := h
    rfl
  · obtain ⟨t, c, L, O, ps, kvs, os, bd, many, rfl, hT, hL, cp, hO, ho, oP, wO, bd1, m0, m40, k⟩ := h
    have hrA_ : Room (1) _ := hr.mono (by first | decide | omega)
    have hrB_ : Room (10) _ := hr.mono (by first | decide | omega)
    refine ⟨_, (pss_cons (ps_set (i := 5) scPi.nd rfl (Or.inl rfl) (pe_lst pa_nil))
      (pss_cons (ps_for PassesOwn.never rfl (pi_range1 (by rfl) T.range (pa_cons (pe_call GA_ hrA_ (by rfl) mA_ kA_ bA_ .nil pass0 (pa_cons (pv 0) (pa_cons (pe_op op_add (pv 4) pe_int) pa_nil))) pa_nil)) (pg_name (i := 6) scPi.nd rfl (.inl rfl)) (pss_cons (ps_set (i := 7) scPi.nd rfl (Or.inl rfl) (pe_call GB_ hrB_ (by rfl) mB_ kB_ bB_ .nil pass0 (pa_cons (pv 0) (pa_cons (pv 1) (pa_cons (pv 2) (pa_cons (pv 3) pa_nil))))))
      (pss_cons (ps_set (i := 1) scPi.nd rfl (Or.inl rfl) (pe_ix ix_tup (pv 7) pe_int (fun _ _ => rfl)))
      (pss_cons (ps_set (i := 3) scPi.nd rfl (Or.inl rfl) (pe_ix ix_tup (pv 7) pe_int (fun _ _ => rfl)))
      (pss_one (ps_expr (pe_bm PySem.F.plainAttrs_list PySem.F.slot_list_append PySem.F.type_list_append mt_append (pv 5) (pa_cons (pe_tup (pa_cons (pe_ix ix_tup (pv 7) pe_int (fun _ _ => rfl)) (pa_cons (pv 1) pa_nil))) pa_nil))))))))
      (pss_one (ps_ret (pv 5))))), ?_⟩
    have two : 2 ≤ sizeLine := by decide
    have nO : O ≠ t := by
      intro z
      obtain ⟨_, _, _, _, _, h1, _⟩ := hT.tape
      rw [z, h1] at hO
      cases hO
    refine ⟨Nat.zero_le _, fun G hG => ?_⟩
    have zG := Same.upd (o := .lst []) hG
    have nGt := hT.tape.ne hG
    obtain ⟨yy, hc⟩ := hT.list
    have nGc : G ≠ c := Ne.symm (ne_of_none hc hG)
    have T1 := hT.same zG
    refine ⟨_, rfl, _, rfl, _, _, rfl, rfl, t, c, _, rfl, T1, by omega, big1000 (by omega) (by omega), fun j H2 j0 j1 T2 S2 => ⟨j, rfl, by omega, by omega, for_range (lo := 0) (n := j.toNat) (fun i σ H' => (∃ (Lc : Addr) (cur : CsL) (b : Nat) (pl : List PE1) (x6 x7 : Option V), σ = [some (.ref t), some (.ref Lc), some (.ref O), some (.int (b : Int)), some (.int many), some (.ref G), x6, x7] ∧ CA H' Lc cur ∧ ColP cur ∧ b ≤ 1000 ∧ H' G = some (.lst (pl.map fun e => .ref e.a)) ∧ PlAt t H' pl ∧ Chn (ldO os) ps pl cur ∧ pl.length = i ∧ (∀ e ∈ pl, noL e.st.d = true)) ∧ TapeL c H' t ∧ SameB t H H') ⟨⟨L, ps, bd, [], _, _, rfl, (hL.same zG).b T1.tape S2, cp, bd1, S2 _ _ nGt upd_same, nofun, .nil, rfl, nofun⟩, T2, (Same.b t zG).trans S2⟩ ?_ ?_⟩⟩
    · rintro i σ H3 hi ⟨⟨Lc, cur, b, pl, x6, x7, rfl, hLc, cc, b1, eG, pa, ch, lp, nol⟩, T3, S3⟩
      refine ⟨_, rfl, _, rfl, _, rfl, _, rfl, t, c, Lc, O, cur, kvs, os, b, rfl, T3, hLc, cc, S3 _ _ nO hO, ho.b hT.tape S3, oP, b1, fun r v C b' st qs H4 er dv ca ld b1' T4 S4 => ?_⟩
      have eG4 := S4 _ _ nGt eG
      refine ⟨_, rfl, r, _, _, .ref C, rfl, rfl, SqT.of er, at_of (j := 1) rfl rfl, _, rfl, r, _, _, .int (b' : Int), rfl, rfl, SqT.of er, at_of (j := 2) rfl rfl, _, rfl, .inl ⟨rfl, _, SqL.of eG4⟩, _, rfl, r, _, _, v, rfl, rfl, SqT.of er, at_of (j := 0) rfl rfl, _, rfl, two, fun q hq => ?_⟩
      have zq := Same.upd (o := .tup [v, .ref C]) hq
      have eG5 := zq _ _ eG4
      refine ⟨G, _, _, rfl, rfl, eG5, lt_size (by rw [List.length_map]; omega), ⟨C, qs, b', pl ++ [⟨q, v, C, st, qs⟩], _, _, rfl, CA.updL (ca.same zq) eG5, ld.go wO cc, b1', by rw [upd_same, List.map_append]; rfl, fun e he => ?_, ch.snoc ld, by rw [List.length_append, lp]; rfl, fun e he => ?_⟩, (T4.same zq).upd nGt nGc, updB hG (S3.trans (S4.trans (Same.b t zq)))⟩
      · rcases List.mem_append.mp he with he | he
        · obtain ⟨h1, h2, h3⟩ := pa e he
          have st4 := SameT.b T3.tape S4
          exact ⟨(SameT.lst eG5) _ _ (zq _ _ (st4 _ _ h1)), DhT.upd (dts (dtb h2 S4) zq) (nol e he) eG5, CA.updL ((h3.b T3.tape S4).same zq) eG5⟩
        · rw [List.mem_singleton.mp he]
          exact ⟨(SameT.lst eG5) _ _ upd_same, DhT.upd (dts dv zq) (ld.ok wO cc) eG5, CA.updL (ca.same zq) eG5⟩
      · rcases List.mem_append.mp he with he | he
        · exact nol e he
        · rw [List.mem_singleton.mp he]
          exact ld.ok wO cc
    · rintro σ H3 ⟨⟨Lc, cur, b, pl, x6, x7, rfl, hLc, cc, b1, eG, pa, ch, lp, nol⟩, T3, S3⟩
      exact ⟨_, rfl, k G pl cur H3 eG nGt pa ch (by omega) T3 S3⟩
end
end
end K13
set_option Elab.async false
set_option linter.all false
set_option maxRecDepth 100000
set_option maxHeartbeats 4000000
namespace K13
open PySem PySem.Spec PyProof.Rows L2 Lc
/-! ## how long columns and steps are when they are shown -/
theorem int_shl {i : Int} (h : i.natAbs ≤ 10000000000000000000000000000000000000000) : (PyData.int i).shown.length ≤ 45 := by
  show (PySem.Str.ofString (toString i)).length ≤ 45
  have l := digs_len 41 i.natAbs (by decide) (Nat.lt_of_le_of_lt h (by decide))
  cases i with
  | ofNat m =>
    have e : (PySem.Str.ofString (toString (Int.ofNat m))).cps.toList = digs m := Lc.numL m
    rw [lenL, e]
    have l : (digs m).length ≤ 41 := l
    omega
  | negSucc m =>
    have e : toString (Int.negSucc m) = "-" ++ toString ((m + 1 : Nat) : Int) := rfl
    have e2 : PySem.Str.ofString ("-" ++ toString ((m + 1 : Nat) : Int)) = PySem.Str.ofString "-" ++ PySem.Str.ofString (toString ((m + 1 : Nat) : Int)) := by
      refine str_ext ?_
      rw [appL, PySem.Str.ofString_eq_toList, PySem.Str.ofString_eq_toList, PySem.Str.ofString_eq_toList, String.toList_append, List.map_append]
    rw [e, e2, lenL]
    show (PySem.Str.ofString "-" ++ PySem.Str.ofString (toString ((m + 1 : Nat) : Int))).cps.toList.length ≤ 45
    rw [appL, Lc.numL, List.length_append]
    have l : (digs (m + 1)).length ≤ 41 := l
    have : (PySem.Str.ofString "-").cps.toList.length = 1 := by decide +kernel
    omega
theorem tm_i {i : Int} (h : i.natAbs ≤ 10000000000000000000000000000000000000000) : Tm 0 45 (.int i) := by
  have b : i.natAbs < 2 ^ 1000 := Nat.lt_of_le_of_lt h (Nat.lt_of_lt_of_le (show 10000000000000000000000000000000000000000 < 2 ^ 140 by decide) (Nat.pow_le_pow_right (by decide) (by decide)))
  exact ⟨(num_len b).1, rfl, Nat.le_refl _, int_shl h⟩
theorem tm_s {x : Str} (h : Sh 12 x) : Tm 0 130 (.str x) := by
  refine ⟨rfl, rfl, Nat.le_refl _, ?_⟩
  show (reprText x).length ≤ 130
  have := StrLaws.reprText_len x (fun c hc => Nat.lt_trans (h.ok c hc) (by decide))
  have e := lenL x
  have := h.len
  omega
theorem Vk.tmS {k : Str} {d : PyData} (h : Vk k d) : Tm 1 150 d := by
  cases h with
  | non => exact (⟨rfl, rfl, Nat.le_refl _, by decide +kernel⟩ : Tm 0 130 .none).mono (by decide) (by decide)
  | flag b => exact (⟨rfl, rfl, Nat.le_refl _, by cases b <;> decide +kernel⟩ : Tm 0 130 (.bool b)).mono (by decide) (by decide)
  | word h _ => exact (tm_s h).mono (by decide) (by decide)
  | @num n d _ h1 h2 =>
    exact (tm_tup (k := 0) (n := 45) (fun x hx => by simp at hx; rcases hx with rfl | rfl; exact tm_i h1; exact tm_i h2)).mono (by decide) (by show 45 * 2 + 2 * 2 + 4 ≤ 150; decide)
/-- by the sum of the parts -/
theorem tm_tupS {k n : Nat} {ds : List PyData} (h : ∀ d ∈ ds, ∃ m, Tm k m d) (s : ((PyData.shownAll ds).map (·.length)).sum ≤ n) : Tm (k + 1) (n + 2 * ds.length + 4) (.tuple ds) := by
  have key : PyData.showableAll ds = true ∧ PyData.hasDictAll ds = false ∧ PyData.depthAll ds ≤ k ∧ (PyData.shownAll ds).length = ds.length := by
    clear s
    induction ds with
    | nil => exact ⟨rfl, rfl, Nat.zero_le _, rfl⟩
    | cons d ds ih =>
      obtain ⟨h1, h2, h3, h4⟩ := ih fun x hx => h x (List.mem_cons_of_mem _ hx)
      obtain ⟨m, hd⟩ := h d List.mem_cons_self
      refine ⟨by simp [PyData.showableAll, hd.sh, h1], by simp [PyData.hasDictAll, hd.nd, h2], ?_, by simp [PyData.shownAll, h4]⟩
      simp only [PyData.depthAll]
      have := hd.dz
      omega
  obtain ⟨h1, h2, h3, h4⟩ := key
  refine ⟨by simpa [PyData.showable] using h1, by simpa [PyData.hasDict] using h2, ?_, ?_⟩
  · simp only [PyData.depth]
    omega
  · have := tupleText_len_le (PyData.shownAll ds)
    simp only [PyData.shown]
    omega
theorem tm_word {w : Str} {os : List PyData} {k m : Nat} (hw : (PyData.str w).shown.length ≤ 20) (ho : ∀ o ∈ os, Tm k m o) : Tm (k + 1) (m * os.length + 2 * os.length + 26) (.tuple (.str w :: os)) := by
  have tw : Tm 0 20 (.str w) := ⟨rfl, rfl, Nat.le_refl _, hw⟩
  have a := (tm_all ho).2.2.2.1
  refine (tm_tupS (k := k) (n := 20 + m * os.length) (fun d hd => ?_) ?_).mono (Nat.le_refl _) (by rw [List.length_cons]; omega)
  · rcases List.mem_cons.mp hd with rfl | hd
    · exact ⟨20, tw.mono (Nat.zero_le _) (Nat.le_refl _)⟩
    · exact ⟨m, ho d hd⟩
  · simp only [PyData.shownAll, List.map_cons, List.sum_cons]
    have := tw.ln
    omega
def szX : Nat → Nat
  | 0 => 0
  | n + 1 => 3 * szX n + 200
theorem oneW_len {w k r : Str} (h : OneW w k r) : (PyData.str w).shown.length ≤ 20 := by
  rcases h with ⟨rfl, _⟩ | ⟨rfl, _⟩ <;> decide +kernel
theorem twoW_len {w k r : Str} (h : TwoW w k r) : (PyData.str w).shown.length ≤ 20 := by
  rcases h with ⟨rfl | rfl | rfl | rfl, _⟩ | ⟨rfl, _⟩ | ⟨rfl, _⟩ | ⟨rfl | rfl, _⟩ <;> decide +kernel
theorem xp_tm {ps : List (Str × Str)} (hp : ∀ p ∈ ps, Sh 12 p.1) {n : Nat} {k : Str} {d : PyData} (h : Xp ps n k d) : Tm (n + 1) (szX n) d := by
  induction h with
  | @col n z k h =>
    have t := (tm_s (hp _ h)).mono (show 0 ≤ 1 by decide) (show 130 ≤ 150 by decide)
    refine (tm_word (w := "column") (k := 1) (m := 150) (by decide +kernel) (fun o ho => by rw [List.mem_singleton.mp ho]; exact t)).mono (by omega) ?_
    show 150 * 1 + 2 * 1 + 26 ≤ 3 * szX n + 200
    omega
  | @val n k d h _ =>
    refine (tm_word (w := "value") (k := 1) (m := 150) (by decide +kernel) (fun o ho => by rw [List.mem_singleton.mp ho]; exact h.tmS)).mono (by omega) ?_
    show 150 * 1 + 2 * 1 + 26 ≤ 3 * szX n + 200
    omega
  | @one n w k r a hw ha ia =>
    refine (tm_word (k := n + 1) (m := szX n) (oneW_len hw) (fun o ho => by rw [List.mem_singleton.mp ho]; exact ia)).mono (by omega) ?_
    show szX n * 1 + 2 * 1 + 26 ≤ 3 * szX n + 200
    omega
  | @two n w k r a b hw ha hb ia ib =>
    refine (tm_word (k := n + 1) (m := szX n) (twoW_len hw) (fun o ho => by simp only [List.mem_cons, List.not_mem_nil, or_false] at ho; rcases ho with rfl | rfl; exact ia; exact ib)).mono (by omega) ?_
    show szX n * 2 + 2 * 2 + 26 ≤ 3 * szX n + 200
    omega
  | @iff n k a b c ha hb hc ia ib ic =>
    refine (tm_word (w := "if") (k := n + 1) (m := szX n) (by decide +kernel) (fun o ho => by simp only [List.mem_cons, List.not_mem_nil, or_false] at ho; rcases ho with rfl | rfl | rfl; exact ia; exact ib; exact ic)).mono (by omega) ?_
    show szX n * 3 + 2 * 3 + 26 ≤ 3 * szX n + 200
    omega
def Ps.szB : Nat := 5300
theorem tm_strs {ns : List Str} {m : Nat} (h : ∀ n ∈ ns, Sh 12 n) (l : ns.length ≤ m) : Tm 1 (132 * m + 4) (strT ns) := by
  refine (tm_tup (k := 0) (n := 130) (fun d hd => ?_)).mono (Nat.le_refl _) (by rw [List.length_map]; omega)
  obtain ⟨n, hn, rfl⟩ := List.mem_map.mp hd
  exact tm_s (h n hn)
theorem tm_step {w : Str} {os : List PyData} {m : Nat} (hw : (PyData.str w).shown.length ≤ 20) (ho : ∀ o ∈ os, Tm 4 m o) (l : m * os.length + 2 * os.length + 26 ≤ 5300) : Tm 5 5300 (.tuple (.str w :: os)) := (tm_word hw ho).mono (Nat.le_refl _) l
theorem fn_len {x : Str} (h : x ∈ fnS) : Sh 12 x := by
  unfold fnS at h
  simp only [List.mem_cons, List.not_mem_nil, or_false] at h
  rcases h with rfl | rfl | rfl | rfl | rfl | rfl <;> exact ⟨by decide +kernel, by decide +kernel⟩
theorem Lead.tm {os : OsL} {ps qs : CsL} {p : Ps} (h : Lead os ps p qs) (c : ColP ps) (w : WdP os) : Tm 5 5300 p.d := by
  have x3 : szX 3 = 2600 := by decide +kernel
  have xp : ∀ {k : Str} {e : PyData}, Xp ps 3 k e → Tm 4 2600 e := fun h => by
    have := xp_tm (fun p hp => (c.ok p hp).1) h
    rw [x3] at this
    exact this
  have up : ∀ {x : Str}, Sh 12 x → Tm 4 2600 (.str x) := fun h => (tm_s h).mono (by decide) (by simp)
  have ui : ∀ {i : Nat}, i ≤ 1000000000 → Tm 4 45 (.int i) := fun h => (tm_i (Nat.le_trans (by omega) (show 1000000000 ≤ 10000000000000000000000000000000000000000 by decide))).mono (by decide) (by simp)
  have two : ∀ {a b : PyData}, Tm 4 2600 a → Tm 4 2600 b → ∀ o ∈ [a, b], Tm 4 2600 o := fun ha hb o ho => by
    simp only [List.mem_cons, List.not_mem_nil, or_false] at ho
    rcases ho with rfl | rfl
    · exact ha
    · exact hb
  have one : ∀ {a : PyData} {m : Nat}, Tm 4 m a → ∀ o ∈ [a], Tm 4 m o := fun ha o ho => by rw [List.mem_singleton.mp ho]; exact ha
  have inn : ∀ {a : Str}, a ∈ nms ps → Sh 12 a := fun h => (c.nm h).1
  cases h with
  | keep h => exact tm_step (w := "keep") (by decide +kernel) (one (xp h)) (by simp)
  | setO hx hk h => exact tm_step (w := "set") (by decide +kernel) (two (up (inn hx)) (xp h)) (by simp)
  | setN hx nx hk h l => exact tm_step (w := "set") (by decide +kernel) (two (up nx.1) (xp h)) (by simp)
  | select h nd l1 l8 => exact tm_step (w := "select") (by decide +kernel) (one ((tm_strs (m := 8) (fun n hn => inn (h n hn)) l8).mono (by decide) (show 132 * 8 + 4 ≤ 2600 by decide))) (by simp)
  | rename ha nb hb => exact tm_step (w := "rename") (by decide +kernel) (two (up (inn ha)) (up nb.1)) (by simp)
  | sort ha => rename_i u; exact tm_step (w := "sort") (by decide +kernel) (two (up (inn ha)) (up (by cases u <;> exact ⟨by decide +kernel, by decide +kernel⟩))) (by simp)
  | first h => exact tm_step (w := "first") (by decide +kernel) (one (ui (by omega))) (by simp)
  | @sample n w s h1 h2 h3 h4 =>
    have ho : ∀ o ∈ [PyData.int n, .int w, .int s], Tm 4 45 o := fun o ho => by
      simp only [List.mem_cons, List.not_mem_nil, or_false] at ho
      rcases ho with rfl | rfl | rfl
      · exact ui (by omega)
      · exact ui (by omega)
      · exact ui h4
    exact tm_step (w := "sample") (by decide +kernel) ho (by simp)
  | distinct => exact tm_step (w := "distinct") (os := []) (m := 0) (by decide +kernel) nofun (by decide)
  | union ht => exact tm_step (w := "union") (by decide +kernel) (one (up (w.ok _ ht).2.1)) (by simp)
  | join ht nd l1 l3 h hk l8 => exact tm_step (w := "join") (by decide +kernel) (two (up (w.ok _ ht).2.1) ((tm_strs (m := 3) (fun n hn => inn ((h n).mp hn).2) l3).mono (by decide) (show 132 * 3 + 4 ≤ 2600 by decide))) (by simp)
  | @group ks ts hk g ht =>
    have t3 : ∀ t ∈ ts, Tm 1 400 (totS3 t) := fun t h => (tm_tup (k := 0) (n := 130) (fun d hd => by
      simp only [List.mem_cons, List.not_mem_nil, or_false] at hd
      rcases hd with rfl | rfl | rfl
      · exact tm_s (ht t h).1
      · exact tm_s (fn_len (g.t t h).2.1)
      · exact tm_s (inn (ht t h).2.1))).mono (Nat.le_refl _) (by show 130 * 3 + 2 * 3 + 4 ≤ 400; decide)
    have t4 : Tm 2 2600 (.tuple (ts.map totS3)) := (tm_tup (k := 1) (n := 400) (fun d hd => by
      obtain ⟨t, h, rfl⟩ := List.mem_map.mp hd
      exact t3 t h)).mono (Nat.le_refl _) (by rw [List.length_map]; have := g.tl.2; omega)
    exact tm_step (w := "group") (by decide +kernel) (two ((tm_strs (m := 3) (fun n hn => inn (hk n hn)) g.kl).mono (by decide) (show 132 * 3 + 4 ≤ 2600 by decide)) (t4.mono (by decide) (Nat.le_refl _))) (by simp)
theorem Leads.tm {os : OsL} (w : WdP os) {ps qs : CsL} {as : List Ps} (h : Leads os ps as qs) : ColP ps → ∀ p ∈ as, Tm 5 5300 p.d := by
  induction h with
  | nil => exact fun _ => nofun
  | cons h r ih =>
    intro c p hp
    rcases List.mem_cons.mp hp with rfl | hp
    · exact h.tm c w
    · exact ih (h.go c w.ho).2.2 p hp
theorem LeadS.tm {os : OsL} {ps qs : CsL} {st : Stp} (h : LeadS os ps st qs) (c : ColP ps) (w : WdP os) : Tm 8 172000 st.d := by
  cases h with
  | pl h => exact (h.tm c w).mono (by decide) (by decide)
  | ch sl nl n h =>
    rename_i lb as
    have b4 := (numL_b lb)
    have ta : ∀ d ∈ as.map altD, Tm 6 21300 d := fun d hd => by
      obtain ⟨a, ha, rfl⟩ := List.mem_map.mp hd
      have l := (h a ha).1
      refine (tm_tup (k := 5) (n := 5300) (fun d hd => ?_)).mono (Nat.le_refl _) (by rw [List.length_map]; omega)
      obtain ⟨p, hp, rfl⟩ := List.mem_map.mp hd
      exact (h a ha).2.tm w c p hp
    have tt : Tm 7 85300 (.tuple (as.map altD)) := (tm_tup ta).mono (Nat.le_refl _) (by rw [List.length_map]; omega)
    refine (tm_word (w := "choose") (k := 7) (m := 85300) (by decide +kernel) (fun o ho => ?_)).mono (by decide) (by show 85300 * 2 + 2 * 2 + 26 ≤ 172000; decide)
    simp only [List.mem_cons, List.not_mem_nil, or_false] at ho
    rcases ho with rfl | rfl
    · exact (tm_s sl).mono (by decide) (by decide)
    · exact tt
theorem Chn.sts {os : OsL} (w : WdP os) {ps qs : CsL} {pl : List PE1} (h : Chn os ps pl qs) : ColP ps → (∀ e ∈ pl, Tm 8 172000 e.st.d) ∧ (∀ c ∈ ps :: pl.map (·.qs), ColP c) := by
  induction h with
  | nil => exact fun c => ⟨nofun, fun x hx => by rw [List.mem_singleton.mp hx]; exact c⟩
  | cons a r ih =>
    intro c
    obtain ⟨h1, h2⟩ := ih (a.go w c)
    refine ⟨fun e he => ?_, fun x hx => ?_⟩
    · rcases List.mem_cons.mp he with rfl | he
      · exact a.tm c w
      · exact h1 e he
    · rcases List.mem_cons.mp hx with rfl | hx
      · exact c
      · exact h2 x hx
theorem kd12 {k : Str} (h : KindS k) : Sh 12 k := by
  rcases h with rfl | rfl | rfl <;> exact ⟨by decide +kernel, by decide +kernel⟩
theorem cols_tm {ps : CsL} (c : ColP ps) : Tm 2 2400 (.tuple (ps.map colP)) := by
  refine (tm_tup (k := 1) (n := 280) (fun d hd => ?_)).mono (Nat.le_refl _) (by rw [List.length_map]; have := c.l8; omega)
  obtain ⟨p, hp, rfl⟩ := List.mem_map.mp hd
  obtain ⟨h1, _, h3⟩ := c.ok p hp
  exact (tm_tup (k := 0) (n := 130) (fun x hx => by
    simp only [List.mem_cons, List.not_mem_nil, or_false] at hx
    rcases hx with rfl | rfl
    · exact tm_s h1
    · exact tm_s (kd12 h3))).mono (Nat.le_refl _) (by show 130 * 2 + 2 * 2 + 4 ≤ 280; decide)
/-! ## the world, the steps, what is told: their data -/
def osD (os : OsL) : PyData := .dict (os.map fun o => (.str o.1, .tuple (o.2.map colP)))
theorem CA.de {H : Hp} {C : Addr} {ps : CsL} (h : CA H C ps) : De H (.ref C) (.tuple (ps.map colP)) := by
  obtain ⟨xs, z, c⟩ := h
  exact .rtp z.rd c.dh
theorem TabC.de {H : Hp} : ∀ {kvs : List (Key × V)} {os : OsL}, TabC H kvs os → DeKv H kvs (os.map fun o => (.str o.1, .tuple (o.2.map colP)))
  | _, _, .nil => .nil
  | _, _, .cons ca r => .cons ca.de (TabC.de r)
theorem osD_sz {os : OsL} (h : ∀ o ∈ os, Sh 12 o.1 ∧ ColP o.2) : PyData.showableKv (os.map fun o => (PyData.str o.1, PyData.tuple (o.2.map colP))) = true ∧ PyData.depthKv (os.map fun o => (PyData.str o.1, PyData.tuple (o.2.map colP))) ≤ 2 ∧ ((PyData.shownKv (os.map fun o => (PyData.str o.1, PyData.tuple (o.2.map colP)))).map (·.length)).sum ≤ 2600 * os.length ∧ (PyData.shownKv (os.map fun o => (PyData.str o.1, PyData.tuple (o.2.map colP)))).length = os.length := by
  induction os with
  | nil => exact ⟨rfl, Nat.zero_le _, Nat.le_refl _, rfl⟩
  | cons o os ih =>
    obtain ⟨h1, h2, h3, h4⟩ := ih fun x hx => h x (List.mem_cons_of_mem _ hx)
    obtain ⟨hz, hc⟩ := h o List.mem_cons_self
    have tz := tm_s hz
    have tc := cols_tm hc
    simp only [List.map_cons]
    refine ⟨?_, ?_, ?_, ?_⟩
    · show ((PyData.str o.1).showable && (PyData.tuple (o.2.map colP)).showable && PyData.showableKv _) = true
      rw [tz.sh, tc.sh, h1]
      rfl
    · show max (max (PyData.str o.1).depth (PyData.tuple (o.2.map colP)).depth) (PyData.depthKv _) ≤ 2
      have a := tz.dz
      have b := tc.dz
      omega
    · show ((PyData.str o.1).shown ++ ": " ++ (PyData.tuple (o.2.map colP)).shown).length + ((PyData.shownKv _).map (·.length)).sum ≤ 2600 * (os.length + 1)
      rw [strLen_append, strLen_append]
      have a := tz.ln
      have b := tc.ln
      have c : (": " : Str).length = 2 := rfl
      omega
    · show (PyData.shownKv _).length + 1 = os.length + 1
      rw [h4]
def allD (os : OsL) (sts : List Stp) : PyData := .list [osD os, .list (sts.map Stp.d)]
theorem allD_sz {os : OsL} {sts : List Stp} (w : WdP os) (h : ∀ s ∈ sts, Tm 8 172000 s.d) (l : sts.length ≤ 40) : (allD os sts).showable = true ∧ (allD os sts).depth ≤ 60 ∧ (allD os sts).shown.length ≤ sizeLine := by
  obtain ⟨h1, h2, h3, h4⟩ := osD_sz fun o ho => ⟨(w.ok o ho).2.1, (w.ok o ho).2.2⟩
  have tl := tm_lst (k := 8) (n := 172000) (ds := sts.map Stp.d) fun d hd => by
    obtain ⟨s, hs, rfl⟩ := List.mem_map.mp hd
    exact h s hs
  have tl : Tm 9 6900000 (.list (sts.map Stp.d)) := tl.mono (Nat.le_refl _) (by rw [List.length_map]; omega)
  have lo := w.l
  refine ⟨?_, ?_, ?_⟩
  · show ((osD os).showable && ((PyData.list (sts.map Stp.d)).showable && true)) = true
    rw [tl.sh, show (osD os).showable = true from h1]
    rfl
  · show max (PyData.depthKv _ + 1) (max (PyData.list (sts.map Stp.d)).depth 0) + 1 ≤ 60
    have := tl.dz
    omega
  · have a := dictText_len_le (PyData.shownKv (os.map fun o => (PyData.str o.1, PyData.tuple (o.2.map colP))))
    have b := listText_len_le [(osD os).shown, (PyData.list (sts.map Stp.d)).shown]
    have c := tl.ln
    show (listText [(osD os).shown, (PyData.list (sts.map Stp.d)).shown]).length ≤ 2 ^ 24
    have e : (osD os).shown = dictText (PyData.shownKv (os.map fun o => (PyData.str o.1, PyData.tuple (o.2.map colP)))) := rfl
    simp only [List.map_cons, List.map_nil, List.sum_cons, List.sum_nil, List.length_cons, List.length_nil] at b
    rw [e] at b ⊢
    omega
def toldD (ps : CsL) : PyData := .tuple [.str "told", .tuple (ps.map colP)]
theorem toldD_sz {ps : CsL} (c : ColP ps) : (toldD ps).showable = true ∧ (toldD ps).depth ≤ 60 ∧ (toldD ps).shown.length ≤ sizeLine := by
  have t := cols_tm c
  have : Tm 3 5000 (toldD ps) := (tm_word (w := "told") (k := 2) (m := 2400) (by decide +kernel) (fun o ho => by rw [List.mem_singleton.mp ho]; exact t)).mono (Nat.le_refl _) (by simp)
  exact ⟨this.sh, Nat.le_trans this.dz (by decide), Nat.le_trans this.ln (by decide)⟩
theorem told_de {H : Hp} {r C : Addr} {ps : CsL} (h : H r = some (.tup [.str "told", .ref C])) (c : CA H C ps) : De H (.ref r) (toldD ps) := .tup h (.cons (.base (.str _)) (.cons c.de .nil))
def stepDt : PyData := .tuple [.str "step", .none, .bool true]
theorem step_de {H : Hp} {r : Addr} (h : H r = some (.tup [.str "step", .non, .bl true])) : De H (.ref r) stepDt := .base (.tup h (.cons (.str _) (.cons .non (.cons (.bl _) .nil))))
theorem step_sz : stepDt.showable = true ∧ stepDt.depth ≤ 60 ∧ stepDt.shown.length ≤ sizeLine := ⟨by decide +kernel, by decide +kernel, by decide +kernel⟩
end K13
set_option Elab.async false
set_option linter.all false
set_option maxRecDepth 100000
set_option maxHeartbeats 4000000
namespace K13
open PySem PySem.Spec PyProof.Rows L2 Lc
theorem cut_take (ys : List V) {n : Int} (h : 0 ≤ n) : cutV ys none (some n) = ys.take n.toNat := by
  unfold cutV
  have e1 : HT.sIx ys.length 0 none = 0 := rfl
  have e2 : HT.sIx ys.length ys.length (some n) = min n.toNat ys.length := by
    have : n = ((n.toNat : Nat) : Int) := by omega
    rw [this, HT.sIx_nat]
    rfl
  rw [e1, e2, List.drop_zero, Nat.sub_zero]
  rcases Nat.le_total n.toNat ys.length with q | q
  · rw [Nat.min_eq_left q]
  · rw [Nat.min_eq_right q, List.take_length, List.take_of_length_le q]
theorem at_end {xs : List V} {n : Nat} {x : V} (l : xs.length = n + 1) (h : xs[n]? = some x) : atI xs (-1) = some x := by
  have e : xs = xs.take n ++ [x] := by
    have := List.take_add_one (l := xs) (i := n)
    rw [h, List.take_of_length_le (by omega)] at this
    exact this
  rw [e]
  exact at_last
theorem TabC.keys {H : Hp} : ∀ {kvs : List (Key × V)} {os : OsL}, TabC H kvs os → kvs.map (·.1) = (os.map (·.1)).map Sum.inr
  | _, _, .nil => rfl
  | _, _, .cons ca r => by rw [List.map_cons, List.map_cons, List.map_cons, TabC.keys r]
theorem dh_ref {H : Hp} {v : V} {ds : List PyData} (h : Dh H v (.tuple ds)) : ∃ a, v = .ref a := by
  cases h
  exact ⟨_, rfl⟩
theorem Stp.tp (st : Stp) : ∃ ds, st.d = .tuple ds := by
  cases st with
  | pl p => cases p <;> exact ⟨_, rfl⟩
  | ch lb as => exact ⟨_, rfl⟩
theorem PlAt.steps {t : Addr} {H : Hp} : ∀ {pl : List PE1}, PlAt t H pl → StepsAt H (pl.map (·.s)) (pl.map (·.st))
  | [], _ => .nil
  | e :: pl, h => by
    have h1 := (h e List.mem_cons_self).2.1
    have ih := PlAt.steps (t := t) (pl := pl) fun x hx => h x (List.mem_cons_of_mem _ hx)
    have h2 : Dh H e.s e.st.d := h1.same dl_here
    obtain ⟨ds, ed⟩ := e.st.tp
    obtain ⟨a, ea⟩ := dh_ref (ed ▸ h2)
    rw [List.map_cons, List.map_cons]
    rw [ea] at h2 ⊢
    exact .cons h2 ih
theorem StepsAt.dh {H : Hp} : ∀ {ys : List V} {sts : List Stp}, StepsAt H ys sts → DhAll H ys (sts.map Stp.d)
  | _, _, .nil => .nil
  | _, _, .cons h r => .cons h r.dh
theorem PlAt.cols {t : Addr} {H : Hp} {L : Addr} {ps : CsL} {pl : List PE1} (h : PlAt t H pl) (c : CA H L ps) : ∀ (i : Nat) (cc : CsL), (ps :: pl.map (·.qs))[i]? = some cc → ∃ C : Addr, ((.ref L : V) :: pl.map fun e => V.ref e.C)[i]? = some (.ref C) ∧ CA H C cc := by
  intro i cc e
  cases i with
  | zero => cases e; exact ⟨L, rfl, c⟩
  | succ i =>
    rw [List.getElem?_cons_succ, List.getElem?_map] at e
    obtain ⟨x, ex, rfl⟩ := Option.map_eq_some_iff.mp e
    exact ⟨x.C, by rw [List.getElem?_cons_succ, List.getElem?_map, ex]; rfl, (h x (List.mem_of_getElem? ex)).2.2⟩
/-- the pairs (name, (columns, 1)) of the names ns -/
inductive OtW (H : Hp) (os : OsL) : List Str → List Addr → List (Key × V) → Oth → Prop
  | nil : OtW H os [] [] [] []
  | cons {n : Str} {cs : CsL} {p q C : Addr} {ns : List Str} {ps : List Addr} {kvs : List (Key × V)} {ot : Oth} (m : (n, cs) ∈ os) (ep : H p = some (.tup [.str n, .ref q])) (eq : H q = some (.tup [.ref C, .int 1])) (ca : CA H C cs) (r : OtW H os ns ps kvs ot) : OtW H os (n :: ns) (p :: ps) ((Sum.inr n, .ref q) :: kvs) ((n, cs, 1) :: ot)
theorem OtW.snoc {H : Hp} {os : OsL} {n : Str} {cs : CsL} {p q C : Addr} (m : (n, cs) ∈ os) (ep : H p = some (.tup [.str n, .ref q])) (eq : H q = some (.tup [.ref C, .int 1])) (ca : CA H C cs) : ∀ {ns : List Str} {ps : List Addr} {kvs : List (Key × V)} {ot : Oth}, OtW H os ns ps kvs ot → OtW H os (ns ++ [n]) (ps ++ [p]) (kvs ++ [((Sum.inr n : Key), .ref q)]) (ot ++ [(n, cs, 1)])
  | _, _, _, _, .nil => .cons m ep eq ca .nil
  | _, _, _, _, .cons m' ep' eq' ca' r => .cons m' ep' eq' ca' (OtW.snoc m ep eq ca r)
theorem OtW.len {H : Hp} {os : OsL} : ∀ {ns : List Str} {ps : List Addr} {kvs : List (Key × V)} {ot : Oth}, OtW H os ns ps kvs ot → ps.length = ns.length ∧ ot.length = ns.length
  | _, _, _, _, .nil => ⟨rfl, rfl⟩
  | _, _, _, _, .cons _ _ _ _ r => by
    obtain ⟨h1, h2⟩ := r.len
    exact ⟨congrArg (· + 1) h1, congrArg (· + 1) h2⟩
theorem OtW.upL {H : Hp} {os : OsL} {D : Addr} {xs ys : List V} (e : H D = some (.lst xs)) : ∀ {ns : List Str} {ps : List Addr} {kvs : List (Key × V)} {ot : Oth}, OtW H os ns ps kvs ot → OtW (L2.upd H D (.lst ys)) os ns ps kvs ot
  | _, _, _, _, .nil => .nil
  | _, _, _, _, .cons m ep eq ca r => .cons m ((SameT.lst e) _ _ ep) ((SameT.lst e) _ _ eq) (ca.updL e) (OtW.upL e r)
theorem OtW.same {H H' : Hp} {os : OsL} (s : Same H H') : ∀ {ns : List Str} {ps : List Addr} {kvs : List (Key × V)} {ot : Oth}, OtW H os ns ps kvs ot → OtW H' os ns ps kvs ot
  | _, _, _, _, .nil => .nil
  | _, _, _, _, .cons m ep eq ca r => .cons m (s _ _ ep) (s _ _ eq) (ca.same s) (OtW.same s r)
theorem OtW.b {t : Addr} {H H' : Hp} {os : OsL} (T : Tape H t) (s : SameB t H H') : ∀ {ns : List Str} {ps : List Addr} {kvs : List (Key × V)} {ot : Oth}, OtW H os ns ps kvs ot → OtW H' os ns ps kvs ot
  | _, _, _, _, .nil => .nil
  | _, _, _, _, .cons m ep eq ca r => .cons m (SameT.b T s _ _ ep) (SameT.b T s _ _ eq) (ca.b T s) (OtW.b T s r)
theorem OtW.paired {K : PySem.W.Frag} {H : Hp} {os : OsL} : ∀ {ns : List Str} {ps : List Addr} {kvs : List (Key × V)} {ot : Oth}, OtW H os ns ps kvs ot → Paired (fun p kv => SqT K H p [kV kv.1, kv.2]) ps kvs
  | _, _, _, _, .nil => .nil
  | _, _, _, _, .cons _ ep _ _ r => .cons (SqT.of ep) r.paired
theorem OtW.keys {H : Hp} {os : OsL} : ∀ {ns : List Str} {ps : List Addr} {kvs : List (Key × V)} {ot : Oth}, OtW H os ns ps kvs ot → kvs.map (·.1) = ns.map Sum.inr
  | _, _, _, _, .nil => rfl
  | _, _, _, _, .cons _ _ _ _ r => by rw [List.map_cons, List.map_cons, r.keys]
theorem OtW.nms {H : Hp} {os : OsL} : ∀ {ns : List Str} {ps : List Addr} {kvs : List (Key × V)} {ot : Oth}, OtW H os ns ps kvs ot → (ldO ot).map (·.1) = ns
  | _, _, _, _, .nil => rfl
  | _, _, _, _, .cons (n := n) _ _ _ _ r => congrArg (n :: ·) r.nms
theorem OtW.oth {H : Hp} {os : OsL} : ∀ {ns : List Str} {ps : List Addr} {kvs : List (Key × V)} {ot : Oth}, OtW H os ns ps kvs ot → OthAt H kvs ot
  | _, _, _, _, .nil => .nil
  | _, _, _, _, .cons _ _ eq ca r => .cons (b := 1) eq ca r.oth
theorem OtW.sub {H : Hp} {os : OsL} : ∀ {ns : List Str} {ps : List Addr} {kvs : List (Key × V)} {ot : Oth}, OtW H os ns ps kvs ot → ∀ o ∈ ldO ot, o ∈ os
  | _, _, _, _, .nil => nofun
  | _, _, _, _, .cons m _ _ _ r => fun o ho => by
    rcases List.mem_cons.mp ho with rfl | ho
    · exact m
    · exact r.sub o ho
theorem OtW.one {H : Hp} {os : OsL} : ∀ {ns : List Str} {ps : List Addr} {kvs : List (Key × V)} {ot : Oth}, OtW H os ns ps kvs ot → ∀ o ∈ ot, o.2.2 = 1
  | _, _, _, _, .nil => nofun
  | _, _, _, _, .cons _ _ _ _ r => fun o ho => by
    rcases List.mem_cons.mp ho with rfl | ho
    · rfl
    · exact r.one o ho
theorem OtW.othP {H : Hp} {os : OsL} {ns : List Str} {ps : List Addr} {kvs : List (Key × V)} {ot : Oth} (h : OtW H os ns ps kvs ot) (w : WdP os) (l : 1 ≤ ns.length ∧ ns.length ≤ 10) : OthP ot := by
  obtain ⟨_, l2⟩ := h.len
  refine ⟨fun e => by rw [e] at l2; change 0 = _ at l2; omega, by omega, fun o ho => ⟨(w.ok _ (h.sub (o.1, o.2.1) (List.mem_map_of_mem (f := fun o : Str × CsL × Nat => (o.1, o.2.1)) ho))).2.2, by rw [h.one o ho]; decide⟩⟩
theorem OtW.wdP {H : Hp} {os : OsL} {ns : List Str} {ps : List Addr} {kvs : List (Key × V)} {ot : Oth} (h : OtW H os ns ps kvs ot) (w : WdP os) (nd : ns.Nodup) (l : ns.length ≤ 10) : WdP (ldO ot) := by
  obtain ⟨_, l2⟩ := h.len
  exact ⟨fun o ho => w.ok o (h.sub o ho), by rw [h.nms]; exact nd, by rw [List.length_map]; omega⟩
theorem ok_XpN {f : Addr} {fd : FuncData} {P : Program} {w : World} {K : PySem.W.Frag} {mg : Str → Option Value} {base : Heap} {fA_ fB_ : Addr} {fdA_ fdB_ : FuncData} (F : Fun K "_law_expression" "_law_expression" sXp f fd) (T : Bt mg)
    (GA_ : FnOk P w K mg base CX0 1 fA_ fdA_ ["_law_tape_here", "_law_many"] (spDrawL)) (mA_ : mg "_law_draw" = some (.ref fA_)) (kA_ : PySem.W.keepIn K (.ref fA_) = true) (bA_ : Binds K fdA_ ["_law_tape_here", "_law_many"] [])
    (GB_ : FnOk P w K mg base CX0 3 fB_ fdB_ ["_law_tape_here", "_law_columns_here", "_law_kind"] (spLf)) (mB_ : mg "_law_leaf" = some (.ref fB_)) (kB_ : PySem.W.keepIn K (.ref fB_) = true) (bB_ : Binds K fdB_ ["_law_tape_here", "_law_columns_here", "_law_kind"] [])
    (mX : mg "_law_expression" = some (.ref f)) (kX : PySem.W.keepIn K (.ref f) = true) (bX : Binds K fd pXp []) : ∀ n : Nat, FnOk P w K mg base CX0 (3 + n) f fd pXp (spXp n)
  | 0 => fn_none
  | n + 1 => ok_Xp F T n GA_ mA_ kA_ bA_ GB_ mB_ kB_ bB_ (ok_XpN F T GA_ mA_ kA_ bA_ GB_ mB_ kB_ bB_ mX kX bX n) mX kX bX
abbrev teOt : TE := tTup (tCons (tVar 5) (tCons (tTup (tCons (tDGet (tVar 2) (tVar 5)) (tCons (tC (.int 1)) tNil))) tNil))
abbrev tePt (K : PySem.W.Frag) (i : Int) : TE := tOp (rIxT K) (tVar 9) (tC (.int i))
def spLaw (K : PySem.W.Frag) : Sp := fun vs H Q _ => ∃ (a : Addr) (ns : List Int), vs = [.ref a] ∧ SqL K H a (ns.map V.int) ∧ ∀ H', Q (.bl true) H'
section
variable {P : Program} {w : World} {K : PySem.W.Frag} {mg : Str → Option Value} {base : Heap} {f : Addr} {fd : FuncData}
abbrev sLaw : Stmt := top 96
abbrev nLaw : List Str := ["_law_script", "_law_tape_here", "_law_world_here", "_law_source", "_law_others", "_law_name_here", "_law_many", "_law_found", "_law_steps", "_law_part", "_law_columns_here", "_law_before", "_law_size", "_law_pipeline", "_law_due"]
abbrev pLaw : List Str := ["_law_script"]
theorem scLaw : FnScope nLaw pLaw (defScope sLaw) := ⟨rfl, rfl, rfl, by decide +kernel, rfl, by decide +kernel, by decide +kernel⟩
section
variable {fA_ fB_ fC_ fD_ fE_ : Addr} {fdA_ fdB_ fdC_ fdD_ fdE_ : FuncData}
theorem ok_Law (F : Fun K "law" "law" sLaw f fd) (T : Bt mg) (sm : SmK K) (mS : mg "sorted" = none)
    (GA_ : FnOk P w K mg base CX0 1 fA_ fdA_ ["_law_script"] (spTape K)) (mA_ : mg "_law_tape" = some (.ref fA_)) (kA_ : PySem.W.keepIn K (.ref fA_) = true) (bA_ : Binds K fdA_ ["_law_script"] [])
    (GB_ : FnOk P w K mg base CX0 5 fB_ fdB_ ["_law_tape_here"] (spWld)) (mB_ : mg "_law_world" = some (.ref fB_)) (kB_ : PySem.W.keepIn K (.ref fB_) = true) (bB_ : Binds K fdB_ ["_law_tape_here"] [])
    (GC_ : FnOk P w K mg base CX0 1 fC_ fdC_ ["_law_tape_here", "_law_many"] (spDrawL)) (mC_ : mg "_law_draw" = some (.ref fC_)) (kC_ : PySem.W.keepIn K (.ref fC_) = true) (bC_ : Binds K fdC_ ["_law_tape_here", "_law_many"] [])
    (GD_ : FnOk P w K mg base CX0 11 fD_ fdD_ ["_law_tape_here", "_law_columns_here", "_law_others", "_law_bound", "_law_many"] (spPi)) (mD_ : mg "_law_piped" = some (.ref fD_)) (kD_ : PySem.W.keepIn K (.ref fD_) = true) (bD_ : Binds K fdD_ ["_law_tape_here", "_law_columns_here", "_law_others", "_law_bound", "_law_many"] [])
    (GE_ : FnOk P w K mg base CX0 21 fE_ fdE_ ["_law_tables", "_law_pipeline", "_law_far"] (spCkd)) (mE_ : mg "_law_checked" = some (.ref fE_)) (kE_ : PySem.W.keepIn K (.ref fE_) = true) (bE_ : Binds K fdE_ ["_law_tables", "_law_pipeline", "_law_far"] []) : FnG P w K mg base 22 f fd pLaw (spLaw K) := by
  refine Lc.Fun.okG F scLaw (fun vs H Q E h => ?_) (fun cdv A outer s H vs Q E hg hr h => ?_)
  · obtain ⟨a0, ns, rfl, _⟩ := h
    rfl
  · obtain ⟨a0, ns, rfl, hS, k⟩ := h
    have hrA_ : Room (1) _ := hr.mono (by first | decide | omega)
    have hrB_ : Room (5) _ := hr.mono (by first | decide | omega)
    have hrC_ : Room (1) _ := hr.mono (by first | decide | omega)
    have hrD_ : Room (11) _ := hr.mono (by first | decide | omega)
    have hrE_ : Room (21) _ := hr.mono (by first | decide | omega)
    refine ⟨_, (pss_cons (ps_set (i := 1) scLaw.nd rfl (Or.inl rfl) (pe_call GA_ hrA_ (by rfl) mA_ kA_ bA_ .nil pass0 (pa_cons (pv 0) pa_nil)))
      (pss_cons (ps_set (i := 2) scLaw.nd rfl (Or.inr rfl) (pe_call GB_ hrB_ (by rfl) mB_ kB_ bB_ .nil pass0 (pa_cons (pv 1) pa_nil)))
      (pss_cons (ps_set (i := 3) scLaw.nd rfl (Or.inl rfl) (pe_ix ix_list (pe_callB (call_sortedD rfl) (by rfl) mS (by decide +kernel) (pa_cons (pv 2) pa_nil)) (pe_call GC_ hrC_ (by rfl) mC_ kC_ bC_ .nil pass0 (pa_cons (pv 1) (pa_cons pe_int pa_nil))) (fun _ _ => rfl)))
      (pss_cons (ps_set (i := 4) scLaw.nd rfl (Or.inl rfl) (pe_callTy (call_dictP rfl) (by rfl) T.dict boot_dict (pa_cons (pe_lc (own := [("_law_name_here", 5)]) (g := (gName 5)) (tt := tYes) (te := teOt) (by rfl) scLaw.nd (pi_list (pe_callB (call_sortedD rfl) (by rfl) mS (by decide +kernel) (pa_cons (pv 2) pa_nil))) (blkOk_by (own := [("_law_name_here", 5)]) (N := nLaw) (sc := defScope sLaw) (by decide +kernel)) (fun _ _ _ _ _ => (pg_name (i := 5) scLaw.nd rfl (.inl rfl))) (fun _ _ _ _ _ => pts_nil) (fun _ _ _ _ _ => (pe_tup (pa_cons (pv 5) (pa_cons (pe_tup (pa_cons (pe_dget (hu_of hr) (pv 2) (pv 5) (fun _ _ => rfl)) (pa_cons pe_int pa_nil))) pa_nil))))) pa_nil)))
      (pss_cons (ps_set (i := 6) scLaw.nd rfl (Or.inl rfl) pe_int)
      (Evl.pss_cut (ps_if (pt_cmpR op_eq (pe_call GC_ hrC_ (by rfl) mC_ kC_ bC_ .nil pass0 (pa_cons (pv 1) (pa_cons pe_int pa_nil))) pe_int (nomark _)) (pss_one (ps_set (i := 6) scLaw.nd rfl (Or.inl rfl) pe_int)) pss_nil)
      (pss_cons (ps_set (i := 7) scLaw.nd rfl (Or.inl rfl) (pe_call GD_ hrD_ (by rfl) mD_ kD_ bD_ .nil pass0 (pa_cons (pv 1) (pa_cons (pe_dget (hu_of hr) (pv 2) (pv 3) (fun _ _ => rfl)) (pa_cons (pv 4) (pa_cons pe_int (pa_cons (pv 6) pa_nil)))))))
      (pss_cons (ps_setLc (i := 8) (own := [("_law_part", 9)]) (g := (gName 9)) (tt := tYes) (te := (tePt K 0)) (by rfl) scLaw.nd rfl rfl (sw_true rfl rfl rfl (by decide +kernel)) (pi_list (pv 7)) (blkOk_by (own := [("_law_part", 9)]) (N := nLaw) (sc := defScope sLaw) (by decide +kernel)) (fun _ _ _ _ _ => (pg_name (i := 9) scLaw.nd rfl (.inl rfl))) (fun _ _ _ _ _ => pts_nil) (fun _ _ _ _ _ => (pe_ix ix_tup (pv 9) pe_int (fun _ _ => rfl))))
      (pss_cons (ps_set (i := 10) scLaw.nd rfl (Or.inl rfl) (pe_op op_cat (pe_lst (pa_cons (pe_dget (hu_of hr) (pv 2) (pv 3) (fun _ _ => rfl)) pa_nil)) (pe_lc (own := [("_law_part", 9)]) (g := (gName 9)) (tt := tYes) (te := (tePt K 1)) (by rfl) scLaw.nd (pi_list (pv 7)) (blkOk_by (own := [("_law_part", 9)]) (N := nLaw) (sc := defScope sLaw) (by decide +kernel)) (fun _ _ _ _ _ => (pg_name (i := 9) scLaw.nd rfl (.inl rfl))) (fun _ _ _ _ _ => pts_nil) (fun _ _ _ _ _ => (pe_ix ix_tup (pv 9) pe_int (fun _ _ => rfl))))))
      (pss_cons (ps_set (i := 11) scLaw.nd rfl (Or.inl rfl) (pe_callB (call_reprE2 sm hg hr.units) (by rfl) T.repr boot_repr (pa_cons (pe_lst (pa_cons (pv 2) (pa_cons (pv 8) pa_nil))) pa_nil)))
      (pss_cons (ps_for PassesOwn.never rfl (pi_range1 (by rfl) T.range (pa_cons (pe_op op_add (pe_callB (call_min2 rfl) (by rfl) T.min boot_min (pa_cons (pe_callB call_len_seq (by rfl) T.len PySem.boot_len (pa_cons (pv 8) pa_nil)) (pa_cons pe_int pa_nil))) pe_int) pa_nil)) (pg_name (i := 12) scLaw.nd rfl (.inl rfl)) (pss_cons (ps_set (i := 13) scLaw.nd rfl (Or.inl rfl) (pe_tup (pa_cons (pv 3) (pa_cons (pe_callTy call_tuple_of (by rfl) T.tuple boot_tuple (pa_cons (pe_slice sl_list (pv 8) po_none (po_some (pv 12))) pa_nil)) pa_nil))))
      (pss_cons (ps_set (i := 14) scLaw.nd rfl (Or.inl rfl) (pe_tup (pa_cons pe_str (pa_cons (pe_ix ix_list (pv 10) (pv 12) (fun _ _ => rfl)) pa_nil))))
      (pss_cons (ps_if (pt_cmpR op_ne (pe_callB (call_reprE2 sm hg hr.units) (by rfl) T.repr boot_repr (pa_cons (pe_call GE_ hrE_ (by rfl) mE_ kE_ bE_ .nil pass0 (pa_cons (pv 2) (pa_cons (pv 13) (pa_cons pe_bl pa_nil)))) pa_nil)) (pe_callB (call_reprE2 sm hg hr.units) (by rfl) T.repr boot_repr (pa_cons (pv 14) pa_nil)) (nomark _)) (pss_one (ps_ret pe_bl)) pss_nil)
      (Evl.pss_cut (ps_if (pt_cmpR op_gt (pv 12) pe_int (nomark _)) (pss_one (ps_set (i := 14) scLaw.nd rfl (Or.inl rfl) (pe_tup (pa_cons pe_str (pa_cons pe_non (pa_cons pe_bl pa_nil)))))) pss_nil)
      (pss_one (ps_if (pt_cmpR op_ne (pe_callB (call_reprE2 sm hg hr.units) (by rfl) T.repr boot_repr (pa_cons (pe_call GE_ hrE_ (by rfl) mE_ kE_ bE_ .nil pass0 (pa_cons (pv 2) (pa_cons (pv 13) (pa_cons pe_bl pa_nil)))) pa_nil)) (pe_callB (call_reprE2 sm hg hr.units) (by rfl) T.repr boot_repr (pa_cons (pv 14) pa_nil)) (nomark _)) (pss_one (ps_ret pe_bl)) pss_nil)))))))
      (pss_cons (ps_if (pt_cmpR op_ne (pe_callB (call_reprE2 sm hg hr.units) (by rfl) T.repr boot_repr (pa_cons (pe_call GE_ hrE_ (by rfl) mE_ kE_ bE_ .nil pass0 (pa_cons (pv 2) (pa_cons (pe_tup (pa_cons (pv 3) (pa_cons (pe_callTy call_tuple_of (by rfl) T.tuple boot_tuple (pa_cons (pv 8) pa_nil)) pa_nil))) (pa_cons pe_bl pa_nil)))) pa_nil)) (pe_callB (call_reprE2 sm hg hr.units) (by rfl) T.repr boot_repr (pa_cons (pe_tup (pa_cons pe_str (pa_cons (pe_ix ix_list (pv 10) (pe_un un_neg pe_int) (fun _ _ => rfl)) pa_nil))) pa_nil)) (nomark _)) (pss_one (ps_ret pe_bl)) pss_nil)
      (pss_one (ps_ret (pe_cmpR op_eq (pe_callB (call_reprE2 sm hg hr.units) (by rfl) T.repr boot_repr (pa_cons (pe_lst (pa_cons (pv 2) (pa_cons (pv 8) pa_nil))) pa_nil)) (pv 11) (nomark _)))))))))))))))), ?_⟩
    have two : 2 ≤ sizeLine := by decide
    have one : 1 ≤ sizeLine := by decide
    have three : 3 ≤ sizeLine := by decide
    refine ⟨_, rfl, a0, ns, rfl, hS, fun t H0 s0 ht hT0 => ?_⟩
    obtain ⟨c, hT0⟩ := hT0
    have hT0 : TapeL c H0 t := hT0
    -- the world
    refine ⟨_, rfl, t, c, rfl, hT0, fun D kvs os H1 eD nD hO wO l3 T1 S1 => ?_⟩
    have nod := wO.nd
    -- the source
    refine ⟨_, rfl, D, kvs, os.map (·.1), rfl, .inl eD, hO.keys, by rw [List.length_map]; omega, fun ys p pm _ hp => ?_⟩
    have zp := Same.upd (o := .lst (vS ys)) hp
    have ep : L2.upd H1 p (.lst (vS ys)) p = some (.lst (vS ys)) := upd_same
    have np := T1.tape.ne hp
    have ly : ys.length = 3 := by rw [pm.length_eq, List.length_map, l3]
    refine ⟨_, rfl, t, c, _, rfl, T1.same zp, by decide, big1000 (by decide) (by decide), fun j H2 j0 j1 T2 S2 => ?_⟩
    obtain ⟨src, ex⟩ : ∃ x, ys[j.toNat]? = some x := ⟨_, List.getElem?_eq_getElem (by omega)⟩
    have hx : src ∈ os.map (·.1) := pm.mem_iff.mp (List.mem_of_getElem? ex)
    refine ⟨p, _, _, .str src, rfl, rfl, SqL.of (S2 _ _ np ep), at_of (j := j.toNat) (by omega) (by rw [List.getElem?_map, ex]; rfl), ?_⟩
    have S12 := (Same.b t zp).trans S2
    have eD2 := S12 _ _ nD eD
    have hO2 := hO.b T1.tape S12
    obtain ⟨⟨src', ps⟩, hps, esrc⟩ := List.mem_map.mp hx
    obtain rfl : src' = src := esrc
    clear hT0 s0 ht eD hO S1 zp ep np pm ly ex j0 j1 hp S2 S12 hx
    -- the others
    refine ⟨_, rfl, D, kvs, os.map (·.1), rfl, .inl eD2, hO2.keys, by rw [List.length_map]; omega, fun zs p pm _ hp => ?_⟩
    have zp := Same.upd (o := .lst (vS zs)) hp
    have ep : L2.upd H2 p (.lst (vS zs)) p = some (.lst (vS zs)) := upd_same
    have T3 := T2.same zp
    have eD3 := zp _ _ eD2
    have hO3 := hO2.same zp
    have lz : zs.length = 3 := by rw [pm.length_eq, List.length_map, l3]
    generalize L2.upd H2 p (.lst (vS zs)) = H3 at ep T3 eD3 hO3 ⊢
    clear zp hp T2 eD2 hO2
    refine ⟨p, rfl, ⟨_, SqL.of ep⟩, fun G hG => lc_list (K := K) (a := p) (xs := vS zs) (fun i H' => (∃ (qs : List Addr) (kv2 : List (Key × V)) (ot : Oth), H' G = some (.lst (qs.map V.ref)) ∧ OtW H' os (zs.take i) qs kv2 ot) ∧ Same H3 H') ⟨⟨[], [], [], upd_same, .nil⟩, Same.upd hG⟩ (fun i H' _ pr => SqL.of (pr.2 _ _ ep)) ?_ ?_⟩
    · rintro i y H5 hi ⟨⟨qs, kv2, ot, e5, w5⟩, s5⟩
      rw [List.getElem?_map] at hi
      obtain ⟨z, ez, rfl⟩ := Option.map_eq_some_iff.mp hi
      have hz : z ∈ os.map (·.1) := pm.mem_iff.mp (List.mem_of_getElem? ez)
      obtain ⟨⟨z', cs⟩, hcs, e⟩ := List.mem_map.mp hz
      obtain rfl : z' = z := e
      obtain ⟨C, vC, cC⟩ := (hO3.same s5).at nod hcs
      have q := DGet.k (k := (Sum.inr z' : Key)) (s5 _ _ eD3)
      rw [vC] at q
      have l5 := w5.len
      rw [List.length_take] at l5
      refine ⟨rfl, ?_⟩
      dsimp only [tYes]
      refine iteT ?_
      change teOt _ _ _
      refine ⟨_, rfl, _, rfl, _, rfl, D, _, rfl, q, two, fun r hr' => ⟨two, fun r2 hr2 => ?_⟩⟩
      have zr := Same.upd (o := .tup [.ref C, .int 1]) hr'
      have er := upd_same (H := H5) (a := r) (o := .tup [.ref C, .int 1])
      have zr2 := Same.upd (o := .tup [.str z', .ref r]) hr2
      have er2 := zr2 _ _ er
      have z6 := zr.trans zr2
      have eG6 := z6 _ _ e5
      refine ⟨_, eG6, lt_size (by rw [List.length_map]; omega), ⟨qs ++ [r2], kv2 ++ [((Sum.inr z' : Key), .ref r)], ot ++ [(z', cs, 1)], by rw [upd_same, List.map_append]; rfl, ?_⟩, fun b o e => by rw [upd_ne (ne_of_none e hG)]; exact z6 _ _ (s5 b o e)⟩
      rw [List.take_add_one, ez]
      exact ((w5.same z6).upL eG6).snoc hcs ((SameT.lst eG6) _ _ upd_same) ((SameT.lst eG6) _ _ er2) ((cC.same z6).updL eG6)
    rintro H4 ⟨⟨qs, kv2, ot, e4, w4⟩, s4⟩
    rw [show (vS zs).length = zs.length from List.length_map _, List.take_length] at w4
    have eD4 := s4 _ _ eD3
    have hO4 := hO3.same s4
    have T4 := T3.same s4
    have ndz : zs.Nodup := pm.nodup_iff.mpr nod
    refine ⟨G, qs, kv2, rfl, SqL.of e4, w4.paired, fun O hOn => ?_⟩
    have mg2 : mergeK [] kv2 = kv2 := merge_new _ [] (by rw [List.nil_append, w4.keys]; exact nodup_map ndz fun a _ b _ q => by injection q)
    rw [mg2]
    have zO := Same.upd (o := .dK kv2) hOn
    have eO : L2.upd H4 O (.dK kv2) O = some (.dK kv2) := upd_same
    have nO := T4.tape.ne hOn
    have w5 := w4.same zO
    have eD5 := zO _ _ eD4
    have hO5 := hO4.same zO
    have T5 := T4.same zO
    have lz3 := w4.len
    generalize L2.upd H4 O (.dK kv2) = H5 at eO w5 eD5 hO5 T5 ⊢
    clear zO hOn eD4 hO4 T4 e4 w4 s4 eD3 hO3 T3 ep hG
    -- how many
    refine ⟨fun σ H' => ∃ many : Int, σ = [some (.ref a0), some (.ref t), some (.ref D), some (.str src'), some (.ref O), none, some (.int many), none, none, none, none, none, none, none, none] ∧ 0 ≤ many ∧ many ≤ 40 ∧ TapeL c H' t ∧ SameB t H5 H', ?_, ?_⟩
    · refine ⟨_, rfl, t, c, _, rfl, T5, by decide, big1000 (by decide) (by decide), fun j H6 j0 j1 T6 S6 => ⟨rfl, _, rfl, ite2 (fun _ => ⟨_, rfl, by decide, by decide, T6, S6⟩) (fun _ => ⟨_, rfl, by decide, by decide, T6, S6⟩)⟩⟩
    rintro σ H6 ⟨many, rfl, m0, m40, T6, S6⟩
    have eD6 := S6 _ _ nD eD5
    have hO6 := hO5.b T5.tape S6
    have w6 := w5.b T5.tape S6
    have eO6 := S6 _ _ nO eO
    obtain ⟨L, vL, cL⟩ := hO6.at nod hps
    have gL := DGet.k (k := (Sum.inr src' : Key)) eD6
    rw [vL] at gL
    obtain ⟨_, _, cp⟩ := wO.ok _ hps
    have cp : ColP ps := cp
    have hOthP := w6.othP wO (by omega)
    have wl := w6.wdP wO ndz (by omega)
    refine ⟨_, rfl, _, rfl, _, rfl, D, _, rfl, gL, _, rfl, _, rfl, t, c, L, O, ps, kv2, ot, 1, many, rfl, T6, cL, cp, eO6, w6.oth, hOthP, wl, by decide, m0, m40, fun R pl qz H7 eR nR pa ch lp T7 S7 => ?_⟩
    have lp40 : pl.length ≤ 40 := by omega
    have eD7 := S7 _ _ nD eD6
    have hO7 := hO6.b T6.tape S7
    have cL7 := cL.b T6.tape S7
    have ch := ch.mono w6.sub
    obtain ⟨stm, cols⟩ := ch.sts wO cp
    have hst : StepsAt H7 (pl.map (·.s)) (pl.map (·.st)) := pa.steps
    have hcs : ∀ (i : Nat) (cc : CsL), (ps :: pl.map (·.qs))[i]? = some cc → ∃ C : Addr, ((.ref L : V) :: pl.map fun e => V.ref e.C)[i]? = some (.ref C) ∧ CA H7 C cc := pa.cols cL7
    have hpr : ∀ e ∈ pl, H7 e.a = some (.tup [e.s, .ref e.C]) := fun e he => (pa e he).1
    clear T6 S6 w6 eO6 hO6 eD6 cL T5 hO5 eD5 w5 eO pa T7 S7
    -- the steps
    refine ⟨_, rfl, R, rfl, ⟨_, SqL.of eR⟩, fun S hS' => lc_list (K := K) (a := R) (xs := pl.map fun e => V.ref e.a) (fun i H' => H' S = some (.lst ((pl.take i).map (·.s))) ∧ Same H7 H') ⟨upd_same, Same.upd hS'⟩ (fun i H' _ pr => SqL.of (pr.2 _ _ eR)) ?_ ?_⟩
    · rintro i y H8 hi ⟨e8, s8⟩
      rw [List.getElem?_map] at hi
      obtain ⟨e, ee, rfl⟩ := Option.map_eq_some_iff.mp hi
      refine ⟨rfl, ?_⟩
      dsimp only [tYes]
      refine iteT ?_
      change tePt K 0 _ _ _
      refine ⟨_, rfl, e.a, _, _, e.s, rfl, rfl, SqT.of (s8 _ _ (hpr e (List.mem_of_getElem? ee))), at_of (j := 0) rfl rfl, _, e8, lt_size (by rw [List.length_map, List.length_take]; omega), ?_, fun b o e => by rw [upd_ne (ne_of_none e hS')]; exact s8 b o e⟩
      rw [upd_same, List.take_add_one, ee, List.map_append]
      rfl
    rintro H8 ⟨e8, s8⟩
    rw [show (pl.map fun e => V.ref e.a).length = pl.length from List.length_map _, List.take_length] at e8
    have eR8 := s8 _ _ eR
    have eD8 := s8 _ _ eD7
    have gL8 := DGet.k (k := (Sum.inr src' : Key)) eD8
    rw [vL] at gL8
    -- the columns
    refine ⟨_, rfl, _, rfl, D, _, rfl, gL8, one, fun B hB => ?_⟩
    have zB := Same.upd (o := .lst [.ref L]) hB
    have eB : L2.upd H8 B (.lst [.ref L]) B = some (.lst [.ref L]) := upd_same
    have s9 := s8.trans zB
    have e9 := zB _ _ e8
    generalize L2.upd H8 B (.lst [.ref L]) = H9 at eB s9 e9 ⊢
    clear zB hB
    refine ⟨_, rfl, R, rfl, ⟨_, SqL.of (s9 _ _ eR)⟩, fun Y hY => lc_list (K := K) (a := R) (xs := pl.map fun e => V.ref e.a) (fun i H' => H' Y = some (.lst ((pl.take i).map fun e => V.ref e.C)) ∧ Same H9 H') ⟨upd_same, Same.upd hY⟩ (fun i H' _ pr => SqL.of (pr.2 _ _ (s9 _ _ eR))) ?_ ?_⟩
    · rintro i y Ha hi ⟨ea, sa⟩
      rw [List.getElem?_map] at hi
      obtain ⟨e, ee, rfl⟩ := Option.map_eq_some_iff.mp hi
      refine ⟨rfl, ?_⟩
      dsimp only [tYes]
      refine iteT ?_
      change tePt K 1 _ _ _
      refine ⟨_, rfl, e.a, _, _, .ref e.C, rfl, rfl, SqT.of (sa _ _ (s9 _ _ (hpr e (List.mem_of_getElem? ee)))), at_of (j := 1) rfl rfl, _, ea, lt_size (by rw [List.length_map, List.length_take]; omega), ?_, fun b o e => by rw [upd_ne (ne_of_none e hY)]; exact sa b o e⟩
      rw [upd_same, List.take_add_one, ee, List.map_append]
      rfl
    rintro Ha ⟨ea, sa⟩
    rw [show (pl.map fun e => V.ref e.a).length = pl.length from List.length_map _, List.take_length] at ea
    refine ⟨B, Y, _, _, rfl, rfl, sa _ _ eB, ea, Nat.le_trans (show 1 + (pl.map fun e => V.ref e.C).length ≤ 1000 by rw [List.length_map]; omega) (by decide), fun Cc hCc => ?_⟩
    have zC := Same.upd (o := .lst ([.ref L] ++ pl.map fun e => V.ref e.C)) hCc
    have eC : L2.upd Ha Cc (.lst ([.ref L] ++ pl.map fun e => V.ref e.C)) Cc = some (.lst ((.ref L : V) :: pl.map fun e => V.ref e.C)) := upd_same
    have sF := s9.trans (sa.trans zC)
    have eS := zC _ _ (sa _ _ e9)
    generalize L2.upd Ha Cc (.lst ([.ref L] ++ pl.map fun e => V.ref e.C)) = Hb at eC sF eS ⊢
    clear zC hCc ea sa eB hY e9 s9 gL8 eD8 eR8 e8 s8 hS'
    have eD := sF _ _ eD7
    have hO := hO7.same sF
    have hst := hst.same sF
    have hcs : ∀ (i : Nat) (cc : CsL), (ps :: pl.map (·.qs))[i]? = some cc → ∃ C : Addr, ((.ref L : V) :: pl.map fun e => V.ref e.C)[i]? = some (.ref C) ∧ CA Hb C cc := fun i cc e => by
      obtain ⟨C, h1, h2⟩ := hcs i cc e
      exact ⟨C, h1, h2.same sF⟩
    clear hO7 eD7 cL7 hpr eR nR sF
    have lst' := hst.len
    have sst : ∀ s ∈ pl.map (·.st), Tm 8 172000 s.d := fun s hs => by
      obtain ⟨e, he, rfl⟩ := List.mem_map.mp hs
      exact stm e he
    have whole : ∀ {H'' : Hp} {M : Addr}, Same Hb H'' → H'' M = some (.lst [.ref D, .ref S]) → De H'' (.ref M) (allD os (pl.map (·.st))) := fun s e => .lst e (.cons (.dct (s _ _ eD) (hO.same s).de) (.cons (.base (.lst (s _ _ eS) (hst.same s).dh)) .nil))
    obtain ⟨z1, z2, z3⟩ := allD_sz wO sst (by rw [List.length_map]; exact lp40)
    -- as it was
    refine ⟨_, rfl, _, rfl, two, fun M hM => ⟨M, _, rfl, whole (Same.upd hM) upd_same, z1, z2, z3, ?_⟩⟩
    have zM := Same.upd (o := .lst [.ref D, .ref S]) hM
    generalize hbs : (allD os (pl.map (·.st))).shown = before
    generalize L2.upd Hb M (.lst [.ref D, .ref S]) = Hc at zM ⊢
    have lS : (pl.map (·.s)).length = pl.length := List.length_map _
    -- the pipelines
    obtain ⟨mn, emn, mn0, mn11, mnl⟩ : ∃ mn : Int, (if (11 : Int) < ((pl.map (·.s)).length : Nat) then (11 : Int) else ((pl.map (·.s)).length : Nat)) = mn ∧ 0 ≤ mn ∧ mn ≤ 11 ∧ mn ≤ pl.length := by
      refine ⟨_, rfl, ?_, ?_, ?_⟩ <;> split <;> omega
    refine ⟨_, rfl, S, _, rfl, .inl (SqL.of (zM _ _ eS)), _, _, rfl, ?_⟩
    rw [emn]
    refine ⟨_, _, rfl, rfl, mn + 1, rfl, by omega, by omega, for_range (lo := 0) (n := (mn + 1).toNat) (fun i σ H' => (∃ x12 x13 x14 : Option V, σ = [some (.ref a0), some (.ref t), some (.ref D), some (.str src'), some (.ref O), none, some (.int many), some (.ref R), some (.ref S), none, some (.ref Cc), some (.str before), x12, x13, x14]) ∧ Same Hb H') ⟨⟨_, _, _, rfl⟩, zM⟩ ?_ ?_⟩
    · rintro i σ Hd hi ⟨⟨x12, x13, x14, rfl⟩, sd⟩
      have il : i ≤ pl.length := by omega
      obtain ⟨cc, ecc⟩ : ∃ cc, (ps :: pl.map (·.qs))[i]? = some cc := ⟨_, List.getElem?_eq_getElem (by rw [List.length_cons, List.length_map]; omega)⟩
      have ccp : ColP cc := cols cc (List.mem_of_getElem? ecc)
      have runs := ch.runs ecc
      obtain ⟨C, eC2, cC⟩ := hcs i cc ecc
      obtain ⟨t1, t2, t3⟩ := toldD_sz ccp
      -- the steps so far
      refine ⟨_, rfl, _, rfl, _, rfl, _, rfl, S, _, rfl, SqL.of (sd _ _ eS), fun u hu => ⟨u, _, rfl, .inl ⟨SqL.of upd_same, fun v hv => ⟨two, fun r hr' => ?_⟩⟩⟩⟩
      have zu := Same.upd (o := .lst (cutV (pl.map (·.s)) none (some (0 + (i : Int))))) hu
      rw [show cutV (pl.map (·.s)) none (some (0 + (i : Int))) = (pl.map (·.s)).take i by rw [cut_take _ (by omega)]; congr 1; omega] at zu hv hr' ⊢
      have zv := Same.upd (o := .tup ((pl.map (·.s)).take i)) hv
      have zr := Same.upd (o := .tup [.str src', .ref v]) hr'
      have ev := zr _ _ (upd_same (H := L2.upd Hd u (.lst ((pl.map (·.s)).take i))) (a := v) (o := .tup ((pl.map (·.s)).take i)))
      have er := upd_same (H := L2.upd (L2.upd Hd u (.lst ((pl.map (·.s)).take i))) v (.tup ((pl.map (·.s)).take i))) (a := r) (o := .tup [.str src', .ref v])
      have se := sd.trans (zu.trans (zv.trans zr))
      generalize L2.upd (L2.upd (L2.upd Hd u (.lst ((pl.map (·.s)).take i))) v (.tup ((pl.map (·.s)).take i))) r (.tup [.str src', .ref v]) = He at ev er se ⊢
      clear zu zv zr hu hv hr' sd
      -- what is due
      refine ⟨_, rfl, _, rfl, Cc, _, _, .ref C, rfl, rfl, SqL.of (se _ _ eC), at_of (j := i) (by omega) eC2, two, fun d hd => ?_⟩
      have zd := Same.upd (o := .tup [.str "told", .ref C]) hd
      have ed := upd_same (H := He) (a := d) (o := .tup [.str "told", .ref C])
      have sf := se.trans zd
      have ev := zd _ _ ev
      have er := zd _ _ er
      generalize L2.upd He d (.tup [.str "told", .ref C]) = Hf at ed sf ev er ⊢
      clear zd hd se
      have li : ((pl.map (·.s)).take i).length = i := by rw [List.length_take, lS]; omega
      have hsi : StepsAt Hf ((pl.map (·.s)).take i) ((pl.take i).map (·.st)) := by
        rw [show (pl.take i).map (·.st) = (pl.map (·.st)).take i from List.map_take]
        exact (hst.same sf).take i
      -- long
      refine ⟨_, rfl, _, rfl, D, r, v, kvs, os, src', ps, cc, _, _, true, rfl, sf _ _ eD, hO.same sf, wO, hps, er, ev, hsi, runs, by omega, fun _ r1 cv1 Hg sg e1 c1 => ?_, fun z => by cases z⟩
      refine ⟨r1, toldD cc, rfl, told_de e1 c1, t1, t2, t3, _, rfl, d, toldD cc, rfl, told_de (sg _ _ ed) ((cC.same sf).same sg), t1, t2, t3, rfl, _, rfl, ?_⟩
      rw [decide_eq_true rfl]
      refine iteF ?_
      have sh := sf.trans sg
      have ev := sg _ _ ev
      have er := sg _ _ er
      have ed := sg _ _ ed
      have hsi := hsi.same sg
      clear e1 c1 sf
      -- short
      refine ⟨fun σ H' => ∃ d2 : Addr, σ = [some (.ref a0), some (.ref t), some (.ref D), some (.str src'), some (.ref O), none, some (.int many), some (.ref R), some (.ref S), none, some (.ref Cc), some (.str before), some (.int (0 + (i : Nat))), some (.ref r), some (.ref d2)] ∧ Same Hg H' ∧ (10 < i → H' d2 = some (.tup [.str "step", .non, .bl true])) ∧ (i ≤ 10 → d2 = d), ?_, ?_⟩
      · refine ⟨_, rfl, _, _, rfl, rfl, _, rfl, ite2 (fun q => ?_) (fun q => ?_)⟩
        · have q := of_decide_eq_true q
          refine ⟨three, fun d2 hd2 => ⟨d2, rfl, Same.upd hd2, fun _ => upd_same, fun _ => by omega⟩⟩
        · have q : ¬ (10 : Int) < 0 + (i : Nat) := fun z => q (decide_eq_true z)
          exact ⟨d, rfl, Same.refl _, fun _ => by omega, fun _ => rfl⟩
      rintro σ Hh ⟨d2, rfl, s2, k1, k2⟩
      have si := sh.trans s2
      refine ⟨_, rfl, _, rfl, D, r, v, kvs, os, src', ps, cc, _, _, false, rfl, si _ _ eD, hO.same si, wO, hps, s2 _ _ er, s2 _ _ ev, hsi.same s2, runs, by omega, fun z r1 cv1 Hi s3 e1 c1 => ?_, fun _ z r1 Hi s3 e1 => ?_⟩
      · have i10 : i ≤ 10 := by
          rcases z with z | z
          · cases z
          · omega
        obtain rfl := k2 i10
        refine ⟨r1, toldD cc, rfl, told_de e1 c1, t1, t2, t3, _, rfl, d2, toldD cc, rfl, told_de (s3 _ _ (s2 _ _ ed)) ((cC.same si).same s3), t1, t2, t3, rfl, _, rfl, ?_⟩
        rw [decide_eq_true rfl]
        exact iteF ⟨⟨_, _, _, rfl⟩, si.trans s3⟩
      · obtain ⟨y1, y2, y3⟩ := step_sz
        refine ⟨r1, stepDt, rfl, step_de e1, y1, y2, y3, _, rfl, d2, stepDt, rfl, step_de (s3 _ _ (k1 (by omega))), y1, y2, y3, rfl, _, rfl, ?_⟩
        rw [decide_eq_true rfl]
        exact iteF ⟨⟨_, _, _, rfl⟩, si.trans s3⟩
    · rintro σ Hd ⟨⟨x12, x13, x14, rfl⟩, sd⟩
      obtain ⟨cc, ecc⟩ : ∃ cc, (ps :: pl.map (·.qs))[pl.length]? = some cc := ⟨_, List.getElem?_eq_getElem (by rw [List.length_cons, List.length_map]; omega)⟩
      have ccp : ColP cc := cols cc (List.mem_of_getElem? ecc)
      have runs := ch.runs ecc
      rw [List.take_length] at runs
      obtain ⟨C, eC2, cC⟩ := hcs _ cc ecc
      obtain ⟨t1, t2, t3⟩ := toldD_sz ccp
      refine ⟨_, rfl, _, rfl, _, rfl, S, _, rfl, .inl ⟨SqL.of (sd _ _ eS), fun v hv => ⟨two, fun r hr' => ?_⟩⟩⟩
      have zv := Same.upd (o := .tup (pl.map (·.s))) hv
      have zr := Same.upd (o := .tup [.str src', .ref v]) hr'
      have ev := zr _ _ (upd_same (H := Hd) (a := v) (o := .tup (pl.map (·.s))))
      have er := upd_same (H := L2.upd Hd v (.tup (pl.map (·.s)))) (a := r) (o := .tup [.str src', .ref v])
      have se := sd.trans (zv.trans zr)
      generalize L2.upd (L2.upd Hd v (.tup (pl.map (·.s)))) r (.tup [.str src', .ref v]) = He at ev er se ⊢
      refine ⟨D, r, v, kvs, os, src', ps, cc, _, _, true, rfl, se _ _ eD, hO.same se, wO, hps, er, ev, hst.same se, runs, by omega, fun _ r1 cv1 Hg sg e1 c1 => ?_, fun z => by cases z⟩
      have sh := se.trans sg
      refine ⟨r1, toldD cc, rfl, told_de e1 c1, t1, t2, t3, _, rfl, _, rfl, Cc, _, _, .ref C, rfl, rfl, SqL.of (sh _ _ eC), ?_, two, fun d hd => ?_⟩
      · exact at_end (n := pl.length) (by rw [List.length_cons, List.length_map]) eC2
      have zd := Same.upd (o := .tup [.str "told", .ref C]) hd
      have si := sh.trans zd
      refine ⟨d, toldD cc, rfl, told_de upd_same ((cC.same sh).same zd), t1, t2, t3, rfl, _, rfl, ?_⟩
      rw [decide_eq_true rfl]
      refine iteF ⟨_, rfl, _, rfl, two, fun M2 hM2 => ⟨M2, _, rfl, whole (si.trans (Same.upd hM2)) upd_same, z1, z2, z3, _, rfl, rfl, ?_⟩⟩
      rw [hbs, decide_eq_true rfl]
      exact k _
end
end
end K13
set_option Elab.async false
set_option linter.all false
set_option maxRecDepth 100000
set_option maxHeartbeats 8000000
namespace K13
open PySem PySem.Spec PyProof.Rows L2 Lc He
theorem facts {P : Program} {w : World} {K : PySem.W.Frag} {h : Heap} {mg : Str → Option Value} {f : Addr} (X : K.In h) (G : h.Ns mainGlobals mg) (hfa : mg ("law" : Str) = some (.ref f)) (c : SaysD fa fn K) (e : ex K = true) (tb : TabsOk ts w K) :
    ∃ fd : FuncData, (∀ (s : Shared) (v : Value), BindsTo s fd ⟨[v], []⟩ [("_law_script", v)]) ∧ ∀ base : Heap, K.In base → base.Ns mainGlobals mg → FnG P w K mg base 22 f fd ["_law_script"] (spLaw K) := by
  obtain ⟨fd0, D0⟩ := c.def_ 0 (d := dMt "BadStep" "__init__" "BadStep.__init__" sIni) rfl
  obtain ⟨fd1, D1⟩ := c.def_ 1 (d := dOf "is_whole" sWhole) rfl
  obtain ⟨fd2, D2⟩ := c.def_ 2 (d := dOf "common_divisor" sCd) rfl
  obtain ⟨fd3, D3⟩ := c.def_ 3 (d := dOf "is_rational" sIsR) rfl
  obtain ⟨fd4, D4⟩ := c.def_ 4 (d := dOf "is_name" sName) rfl
  obtain ⟨fd5, D5⟩ := c.def_ 5 (d := dOf "within_limit" sWithin) rfl
  obtain ⟨fd6, D6⟩ := c.def_ 6 (d := dOf "is_value" sValue) rfl
  obtain ⟨fd7, D7⟩ := c.def_ 7 (d := dOf "kind_of" sKo) rfl
  obtain ⟨fd8, D8⟩ := c.def_ 8 (d := dOf "kind_or_none" sKn) rfl
  obtain ⟨fd9, D9⟩ := c.def_ 9 (d := dOf "kind_at" sKa) rfl
  obtain ⟨fd10, D10⟩ := c.def_ 10 (d := dOf "has_word" sHw) rfl
  obtain ⟨fd11, D11⟩ := c.def_ 11 (d := dOf "leaf_kind" sLk) rfl
  obtain ⟨fd12, D12⟩ := c.def_ 12 (d := dOf "kind_of_value" sKv) rfl
  obtain ⟨fd13, D13⟩ := c.def_ 13 (d := dOf "check_operands" sCk) rfl
  obtain ⟨fd14, D14⟩ := c.def_ 14 (d := dOf "result_kind" sRk) rfl
  obtain ⟨fd15, D15⟩ := c.def_ 15 (d := dOf "names_of" sNo) rfl
  obtain ⟨fd16, D16⟩ := c.def_ 16 (d := dOf "is_between" sBt) rfl
  obtain ⟨fd17, D17⟩ := c.def_ 17 (d := dOf "is_tuple_of" sTo) rfl
  obtain ⟨fd18, D18⟩ := c.def_ 18 (d := dOf "kind_in" sKi) rfl
  obtain ⟨fd19, D19⟩ := c.def_ 19 (d := dOf "are_columns" sAc) rfl
  obtain ⟨fd20, D20⟩ := c.def_ 20 (d := dOf "bounded" sBd) rfl
  obtain ⟨fd21, D21⟩ := c.def_ 21 (d := dOf "behind_keep" sBk) rfl
  obtain ⟨fd22, D22⟩ := c.def_ 22 (d := dOf "behind_set" sBe) rfl
  obtain ⟨fd23, D23⟩ := c.def_ 23 (d := dOf "behind_select" sBl) rfl
  obtain ⟨fd24, D24⟩ := c.def_ 24 (d := dOf "behind_rename" sBr) rfl
  obtain ⟨fd25, D25⟩ := c.def_ 25 (d := dOf "behind_sort" sSo) rfl
  obtain ⟨fd26, D26⟩ := c.def_ 26 (d := dOf "behind_first" sFi) rfl
  obtain ⟨fd27, D27⟩ := c.def_ 27 (d := dOf "behind_sample" sBs) rfl
  obtain ⟨fd28, D28⟩ := c.def_ 28 (d := dOf "behind_join" sJo) rfl
  obtain ⟨fd29, D29⟩ := c.def_ 29 (d := dOf "behind_union" sUo) rfl
  obtain ⟨fd30, D30⟩ := c.def_ 30 (d := dOf "is_total" sTt) rfl
  obtain ⟨fd31, D31⟩ := c.def_ 31 (d := dOf "behind_group" sGo) rfl
  obtain ⟨fd32, D32⟩ := c.def_ 32 (d := dOf "behind_distinct" sDi) rfl
  obtain ⟨fd33, D33⟩ := c.def_ 33 (d := dOf "word_of" sWd) rfl
  obtain ⟨fd34, D34⟩ := c.def_ 34 (d := dOf "columns_behind" sCb) rfl
  obtain ⟨fd35, D35⟩ := c.def_ 35 (d := dOf "other_of" sOo) rfl
  obtain ⟨fd36, D36⟩ := c.def_ 36 (d := dOf "check_step" sCs) rfl
  obtain ⟨fd37, D37⟩ := c.def_ 37 (d := dOf "is_choose" sIc) rfl
  obtain ⟨fd38, D38⟩ := c.def_ 38 (d := dOf "check_choose" sCh) rfl
  obtain ⟨fd39, D39⟩ := c.def_ 39 (d := dOf "is_pipeline" sIp) rfl
  obtain ⟨fd40, D40⟩ := c.def_ 40 (d := dKw "check" sChk [("long", .bl false)]) rfl
  obtain ⟨fd41, D41⟩ := c.def_ 41 (d := dOf "_law_tape" sTape) rfl
  obtain ⟨fd42, D42⟩ := c.def_ 42 (d := dOf "_law_draw" sDraw) rfl
  obtain ⟨fd43, D43⟩ := c.def_ 43 (d := dOf "_law_lowest" sLst) rfl
  obtain ⟨fd44, D44⟩ := c.def_ 44 (d := dOf "_law_rational" sRat) rfl
  obtain ⟨fd45, D45⟩ := c.def_ 45 (d := dOf "_law_name" sLnm) rfl
  obtain ⟨fd46, D46⟩ := c.def_ 46 (d := dOf "_law_fresh" sFr) rfl
  obtain ⟨fd47, D47⟩ := c.def_ 47 (d := dOf "_law_columns" sCls) rfl
  obtain ⟨fd48, D48⟩ := c.def_ 48 (d := dOf "_law_leaf" sLf) rfl
  obtain ⟨fd49, D49⟩ := c.def_ 49 (d := dOf "_law_expression" sXp) rfl
  obtain ⟨fd50, D50⟩ := c.def_ 50 (d := dOf "_law_pick" sPk) rfl
  obtain ⟨fd51, D51⟩ := c.def_ 51 (d := dOf "_law_set_step" sSst) rfl
  obtain ⟨fd52, D52⟩ := c.def_ 52 (d := dOf "_law_sort_step" sSrt) rfl
  obtain ⟨fd53, D53⟩ := c.def_ 53 (d := dOf "_law_sample_step" sSmp) rfl
  obtain ⟨fd54, D54⟩ := c.def_ 54 (d := dOf "_law_keeping_step" sKsp) rfl
  obtain ⟨fd55, D55⟩ := c.def_ 55 (d := dOf "_law_meeting_step" sMt) rfl
  obtain ⟨fd56, D56⟩ := c.def_ 56 (d := dOf "_law_group_step" sGrs) rfl
  obtain ⟨fd57, D57⟩ := c.def_ 57 (d := dOf "_law_same_step" sSas) rfl
  obtain ⟨fd58, D58⟩ := c.def_ 58 (d := dOf "_law_world" sWl) rfl
  obtain ⟨fd59, D59⟩ := c.def_ 59 (d := dOf "_law_any_step" sAs) rfl
  obtain ⟨fd60, D60⟩ := c.def_ 60 (d := dOf "_law_piped" sPi) rfl
  obtain ⟨fd61, D61⟩ := c.def_ 61 (d := dOf "_law_choose_any" sCa) rfl
  obtain ⟨fd62, D62⟩ := c.def_ 62 (d := dOf "_law_checked" sCkd) rfl
  obtain ⟨fd63, D63⟩ := c.def_ 63 (d := dOf "law" sLaw) rfl
  have ef := hfa.symm.trans (glo_ok X G (c.fact 0 (f := .glo "law") rfl))
  cases ef
  have g : ∀ (i : Nat) (x : Str), fa[i]? = some (.glo x) → mg x = some (.ref (ga K x)) := fun i x z => glo_ok X G (c.fact i (f := .glo x) z)
  have z : ∀ (i : Nat) (x : Str), fa[i]? = some (.free x) → mg x = none := fun i x z => free_ok X G (c.fact i (f := .free x) z)
  have T : Bt mg := ⟨z 74 _ rfl, z 75 _ rfl, z 76 _ rfl, z 77 _ rfl, z 78 _ rfl, z 79 _ rfl, z 80 _ rfl, z 81 _ rfl, z 82 _ rfl, z 83 _ rfl, z 84 _ rfl, z 85 _ rfl, z 86 _ rfl, z 87 _ rfl, z 88 _ rfl, z 89 _ rfl, z 90 _ rfl, z 91 _ rfl⟩
  obtain ⟨uc0, mc0⟩ := str_ok X G (c.fact 95 (f := .str "LETTERS" letters) rfl)
  obtain ⟨uc1, mc1⟩ := str_ok X G (c.fact 96 (f := .str "NAME_SIGNS" signs) rfl)
  obtain ⟨uc2, mc2⟩ := int_ok X G (c.fact 97 (f := .int "LONGEST_NAME" 12) rfl)
  obtain ⟨uc3, mc3⟩ := int_ok X G (c.fact 98 (f := .int "LIMIT" lim) rfl)
  obtain ⟨uc4, mc4⟩ := int_ok X G (c.fact 99 (f := .int "DEEPEST" 8) rfl)
  obtain ⟨uc5, mc5⟩ := int_ok X G (c.fact 100 (f := .int "MOST_COLUMNS" 8) rfl)
  obtain ⟨uc6, mc6⟩ := int_ok X G (c.fact 101 (f := .int "MOST_STEPS" 10) rfl)
  obtain ⟨uc7, mc7⟩ := int_ok X G (c.fact 102 (f := .int "MOST_LONG_STEPS" 40) rfl)
  obtain ⟨uc8, mc8⟩ := int_ok X G (c.fact 103 (f := .int "MOST_COUNT" 1000) rfl)
  obtain ⟨uc9, mc9⟩ := int_ok X G (c.fact 104 (f := .int "MOST_WHOLE" 1000) rfl)
  obtain ⟨uc10, mc10⟩ := int_ok X G (c.fact 105 (f := .int "MOST_SEED" 1000000000) rfl)
  obtain ⟨uc11, mc11⟩ := int_ok X G (c.fact 106 (f := .int "MOST_KEYS" 3) rfl)
  obtain ⟨uc12, mc12⟩ := int_ok X G (c.fact 107 (f := .int "MOST_TOTALS" 6) rfl)
  obtain ⟨uc13, mc13⟩ := int_ok X G (c.fact 108 (f := .int "LEAST_ALTERNATIVES" 2) rfl)
  obtain ⟨uc14, mc14⟩ := int_ok X G (c.fact 109 (f := .int "MOST_ALTERNATIVES" 4) rfl)
  obtain ⟨uc15, mc15⟩ := int_ok X G (c.fact 110 (f := .int "MOST_INNER_STEPS" 4) rfl)
  have a : ∀ (i : Nat) {b : Bool}, (exL K)[i]? = some b → b = true := fun i _ z => all_at e i z
  have b0 : Binds K fd0 ["self", "index"] [] := D0.bindsN fun _ _ _ _ _ _ us hl => match us, hl with | [_, _], _ => rfl
  have b1 : Binds K fd1 ["value"] [] := D1.bindsN fun _ _ _ _ _ _ us hl => match us, hl with | [_], _ => rfl
  have b2 : Binds K fd2 ["a", "b"] [] := D2.bindsN fun _ _ _ _ _ _ us hl => match us, hl with | [_, _], _ => rfl
  have b3 : Binds K fd3 ["value"] [] := D3.bindsN fun _ _ _ _ _ _ us hl => match us, hl with | [_], _ => rfl
  have b4 : Binds K fd4 ["value"] [] := D4.bindsN fun _ _ _ _ _ _ us hl => match us, hl with | [_], _ => rfl
  have b5 : Binds K fd5 ["number"] [] := D5.bindsN fun _ _ _ _ _ _ us hl => match us, hl with | [_], _ => rfl
  have b6 : Binds K fd6 ["value", "kind"] [] := D6.bindsN fun _ _ _ _ _ _ us hl => match us, hl with | [_, _], _ => rfl
  have b7 : Binds K fd7 ["columns", "expression"] [] := D7.bindsN fun _ _ _ _ _ _ us hl => match us, hl with | [_, _], _ => rfl
  have b8 : Binds K fd8 ["columns", "expression"] [] := D8.bindsN fun _ _ _ _ _ _ us hl => match us, hl with | [_, _], _ => rfl
  have b9 : Binds K fd9 ["kinds", "part", "path"] [] := D9.bindsN fun _ _ _ _ _ _ us hl => match us, hl with | [_, _, _], _ => rfl
  have b10 : Binds K fd10 ["part"] [] := D10.bindsN fun _ _ _ _ _ _ us hl => match us, hl with | [_], _ => rfl
  have b11 : Binds K fd11 ["kinds", "part"] [] := D11.bindsN fun _ _ _ _ _ _ us hl => match us, hl with | [_, _], _ => rfl
  have b12 : Binds K fd12 ["value"] [] := D12.bindsN fun _ _ _ _ _ _ us hl => match us, hl with | [_], _ => rfl
  have b13 : Binds K fd13 ["word", "found", "path"] [] := D13.bindsN fun _ _ _ _ _ _ us hl => match us, hl with | [_, _, _], _ => rfl
  have b14 : Binds K fd14 ["word", "found"] [] := D14.bindsN fun _ _ _ _ _ _ us hl => match us, hl with | [_, _], _ => rfl
  have b15 : Binds K fd15 ["columns"] [] := D15.bindsN fun _ _ _ _ _ _ us hl => match us, hl with | [_], _ => rfl
  have b16 : Binds K fd16 ["value", "low", "high"] [] := D16.bindsN fun _ _ _ _ _ _ us hl => match us, hl with | [_, _, _], _ => rfl
  have b17 : Binds K fd17 ["value", "low", "high"] [] := D17.bindsN fun _ _ _ _ _ _ us hl => match us, hl with | [_, _, _], _ => rfl
  have b18 : Binds K fd18 ["columns", "name"] [] := D18.bindsN fun _ _ _ _ _ _ us hl => match us, hl with | [_, _], _ => rfl
  have b19 : Binds K fd19 ["columns", "names"] [] := D19.bindsN fun _ _ _ _ _ _ us hl => match us, hl with | [_, _], _ => rfl
  have b20 : Binds K fd20 ["columns"] [] := D20.bindsN fun _ _ _ _ _ _ us hl => match us, hl with | [_], _ => rfl
  have b21 : Binds K fd21 ["tables", "columns", "step"] [] := D21.bindsN fun _ _ _ _ _ _ us hl => match us, hl with | [_, _, _], _ => rfl
  have b22 : Binds K fd22 ["tables", "columns", "step"] [] := D22.bindsN fun _ _ _ _ _ _ us hl => match us, hl with | [_, _, _], _ => rfl
  have b23 : Binds K fd23 ["tables", "columns", "step"] [] := D23.bindsN fun _ _ _ _ _ _ us hl => match us, hl with | [_, _, _], _ => rfl
  have b24 : Binds K fd24 ["tables", "columns", "step"] [] := D24.bindsN fun _ _ _ _ _ _ us hl => match us, hl with | [_, _, _], _ => rfl
  have b25 : Binds K fd25 ["tables", "columns", "step"] [] := D25.bindsN fun _ _ _ _ _ _ us hl => match us, hl with | [_, _, _], _ => rfl
  have b26 : Binds K fd26 ["tables", "columns", "step"] [] := D26.bindsN fun _ _ _ _ _ _ us hl => match us, hl with | [_, _, _], _ => rfl
  have b27 : Binds K fd27 ["tables", "columns", "step"] [] := D27.bindsN fun _ _ _ _ _ _ us hl => match us, hl with | [_, _, _], _ => rfl
  have b28 : Binds K fd28 ["tables", "columns", "step"] [] := D28.bindsN fun _ _ _ _ _ _ us hl => match us, hl with | [_, _, _], _ => rfl
  have b29 : Binds K fd29 ["tables", "columns", "step"] [] := D29.bindsN fun _ _ _ _ _ _ us hl => match us, hl with | [_, _, _], _ => rfl
  have b30 : Binds K fd30 ["columns", "thing"] [] := D30.bindsN fun _ _ _ _ _ _ us hl => match us, hl with | [_, _], _ => rfl
  have b31 : Binds K fd31 ["tables", "columns", "step"] [] := D31.bindsN fun _ _ _ _ _ _ us hl => match us, hl with | [_, _, _], _ => rfl
  have b32 : Binds K fd32 ["tables", "columns", "step"] [] := D32.bindsN fun _ _ _ _ _ _ us hl => match us, hl with | [_, _, _], _ => rfl
  have b33 : Binds K fd33 ["step"] [] := D33.bindsN fun _ _ _ _ _ _ us hl => match us, hl with | [_], _ => rfl
  have b34 : Binds K fd34 ["tables", "columns", "step"] [] := D34.bindsN fun _ _ _ _ _ _ us hl => match us, hl with | [_, _, _], _ => rfl
  have b35 : Binds K fd35 ["step"] [] := D35.bindsN fun _ _ _ _ _ _ us hl => match us, hl with | [_], _ => rfl
  have b36 : Binds K fd36 ["tables", "columns", "step", "index"] [] := D36.bindsN fun _ _ _ _ _ _ us hl => match us, hl with | [_, _, _, _], _ => rfl
  have b37 : Binds K fd37 ["step"] [] := D37.bindsN fun _ _ _ _ _ _ us hl => match us, hl with | [_], _ => rfl
  have b38 : Binds K fd38 ["tables", "columns", "step", "index"] [] := D38.bindsN fun _ _ _ _ _ _ us hl => match us, hl with | [_, _, _, _], _ => rfl
  have b39 : Binds K fd39 ["value", "most"] [] := D39.bindsN fun _ _ _ _ _ _ us hl => match us, hl with | [_, _], _ => rfl
  obtain ⟨ds40, v40, b40⟩ := FunD.binds0 (ps := ["tables", "pipeline", "long"]) D40 2 (List.cons_ne_nil _ _) rfl (fun D doc pm an cdv ct us ks hl hk => match us, ks, hl, hk with | [_, _], [_], _, _ => ⟨_, _, _, _, _, _, rfl, rfl, rfl⟩)
  obtain ⟨mv40, kb40⟩ := FunD.kbinds0 (ps := ["tables", "pipeline", "long"]) D40 2 ["long"] [] gKw (List.cons_ne_nil _ _) nofun (fun r1 _ r3 => Vals.append r1 r3) (fun D doc pm an cdv ct us mv ws h1 h2 h3 => match us, mv, ws, h1, h2, h3 with | [_, _], [], [_], _, _, _ => rfl)
  have b41 : Binds K fd41 ["_law_script"] [] := D41.bindsN fun _ _ _ _ _ _ us hl => match us, hl with | [_], _ => rfl
  have b42 : Binds K fd42 ["_law_tape_here", "_law_many"] [] := D42.bindsN fun _ _ _ _ _ _ us hl => match us, hl with | [_, _], _ => rfl
  have b43 : Binds K fd43 ["_law_n", "_law_d"] [] := D43.bindsN fun _ _ _ _ _ _ us hl => match us, hl with | [_, _], _ => rfl
  have b44 : Binds K fd44 ["_law_tape_here", "_law_wide"] [] := D44.bindsN fun _ _ _ _ _ _ us hl => match us, hl with | [_, _], _ => rfl
  have b45 : Binds K fd45 ["_law_tape_here"] [] := D45.bindsN fun _ _ _ _ _ _ us hl => match us, hl with | [_], _ => rfl
  have b46 : Binds K fd46 ["_law_tape_here", "_law_taken"] [] := D46.bindsN fun _ _ _ _ _ _ us hl => match us, hl with | [_, _], _ => rfl
  have b47 : Binds K fd47 ["_law_tape_here", "_law_lead", "_law_many", "_law_taken"] [] := D47.bindsN fun _ _ _ _ _ _ us hl => match us, hl with | [_, _, _, _], _ => rfl
  have b48 : Binds K fd48 ["_law_tape_here", "_law_columns_here", "_law_kind"] [] := D48.bindsN fun _ _ _ _ _ _ us hl => match us, hl with | [_, _, _], _ => rfl
  have b49 : Binds K fd49 ["_law_tape_here", "_law_columns_here", "_law_kind", "_law_depth"] [] := D49.bindsN fun _ _ _ _ _ _ us hl => match us, hl with | [_, _, _, _], _ => rfl
  have b50 : Binds K fd50 ["_law_tape_here", "_law_items", "_law_many"] [] := D50.bindsN fun _ _ _ _ _ _ us hl => match us, hl with | [_, _, _], _ => rfl
  have b51 : Binds K fd51 ["_law_tape_here", "_law_columns_here"] [] := D51.bindsN fun _ _ _ _ _ _ us hl => match us, hl with | [_, _], _ => rfl
  have b52 : Binds K fd52 ["_law_tape_here", "_law_columns_here"] [] := D52.bindsN fun _ _ _ _ _ _ us hl => match us, hl with | [_, _], _ => rfl
  have b53 : Binds K fd53 ["_law_tape_here"] [] := D53.bindsN fun _ _ _ _ _ _ us hl => match us, hl with | [_], _ => rfl
  have b54 : Binds K fd54 ["_law_tape_here", "_law_columns_here"] [] := D54.bindsN fun _ _ _ _ _ _ us hl => match us, hl with | [_, _], _ => rfl
  have b55 : Binds K fd55 ["_law_tape_here", "_law_columns_here", "_law_others", "_law_bound"] [] := D55.bindsN fun _ _ _ _ _ _ us hl => match us, hl with | [_, _, _, _], _ => rfl
  have b56 : Binds K fd56 ["_law_tape_here", "_law_columns_here"] [] := D56.bindsN fun _ _ _ _ _ _ us hl => match us, hl with | [_, _], _ => rfl
  have b57 : Binds K fd57 ["_law_tape_here", "_law_columns_here"] [] := D57.bindsN fun _ _ _ _ _ _ us hl => match us, hl with | [_, _], _ => rfl
  have b58 : Binds K fd58 ["_law_tape_here"] [] := D58.bindsN fun _ _ _ _ _ _ us hl => match us, hl with | [_], _ => rfl
  have b59 : Binds K fd59 ["_law_tape_here", "_law_columns_here", "_law_others", "_law_bound"] [] := D59.bindsN fun _ _ _ _ _ _ us hl => match us, hl with | [_, _, _, _], _ => rfl
  have b60 : Binds K fd60 ["_law_tape_here", "_law_columns_here", "_law_others", "_law_bound", "_law_many"] [] := D60.bindsN fun _ _ _ _ _ _ us hl => match us, hl with | [_, _, _, _, _], _ => rfl
  have b61 : Binds K fd61 ["_law_tape_here", "_law_columns_here", "_law_label", "_law_many"] [] := D61.bindsN fun _ _ _ _ _ _ us hl => match us, hl with | [_, _, _, _], _ => rfl
  have b62 : Binds K fd62 ["_law_tables", "_law_pipeline", "_law_far"] [] := D62.bindsN fun _ _ _ _ _ _ us hl => match us, hl with | [_, _, _], _ => rfl
  have bl := FunD.bindsA (ps := ["_law_script"]) D63 fun _ _ _ _ _ _ us hl => match us, hl with | [_], _ => rfl
  refine ⟨fd63, fun s v => bl s [v] rfl, fun base _ _ => ?_⟩
  have m_BadStep : mg "BadStep" = some (.ref (ga K "BadStep")) := g 1 _ rfl
  have m_UnknownName : mg "UnknownName" = some (.ref (ga K "UnknownName")) := g 2 _ rfl
  have m_BadExpression : mg "BadExpression" = some (.ref (ga K "BadExpression")) := g 3 _ rfl
  have m_LENGTHS : mg "LENGTHS" = some (.ref (ga K "LENGTHS")) := g 4 _ rfl
  have m_BEHIND : mg "BEHIND" = some (.ref (ga K "BEHIND")) := g 5 _ rfl
  have m_KINDS : mg "KINDS" = some (.ref (ga K "KINDS")) := g 6 _ rfl
  have m_OPERANDS : mg "OPERANDS" = some (.ref (ga K "OPERANDS")) := g 7 _ rfl
  have m_PAIRED : mg "PAIRED" = some (.ref (ga K "PAIRED")) := g 8 _ rfl
  have m_ARITHMETIC : mg "ARITHMETIC" = some (.ref (ga K "ARITHMETIC")) := g 9 _ rfl
  have m_ORDERS : mg "ORDERS" = some (.ref (ga K "ORDERS")) := g 10 _ rfl
  have m_FUNCTIONS : mg "FUNCTIONS" = some (.ref (ga K "FUNCTIONS")) := g 11 _ rfl
  have m_is_whole : mg "is_whole" = some (.ref (ga K "is_whole")) := g 12 _ rfl
  have m_common_divisor : mg "common_divisor" = some (.ref (ga K "common_divisor")) := g 13 _ rfl
  have m_is_rational : mg "is_rational" = some (.ref (ga K "is_rational")) := g 14 _ rfl
  have m_is_name : mg "is_name" = some (.ref (ga K "is_name")) := g 15 _ rfl
  have m_within_limit : mg "within_limit" = some (.ref (ga K "within_limit")) := g 16 _ rfl
  have m_is_value : mg "is_value" = some (.ref (ga K "is_value")) := g 17 _ rfl
  have m_kind_of : mg "kind_of" = some (.ref (ga K "kind_of")) := g 18 _ rfl
  have m_kind_or_none : mg "kind_or_none" = some (.ref (ga K "kind_or_none")) := g 19 _ rfl
  have m_kind_at : mg "kind_at" = some (.ref (ga K "kind_at")) := g 20 _ rfl
  have m_has_word : mg "has_word" = some (.ref (ga K "has_word")) := g 21 _ rfl
  have m_leaf_kind : mg "leaf_kind" = some (.ref (ga K "leaf_kind")) := g 22 _ rfl
  have m_kind_of_value : mg "kind_of_value" = some (.ref (ga K "kind_of_value")) := g 23 _ rfl
  have m_check_operands : mg "check_operands" = some (.ref (ga K "check_operands")) := g 24 _ rfl
  have m_result_kind : mg "result_kind" = some (.ref (ga K "result_kind")) := g 25 _ rfl
  have m_names_of : mg "names_of" = some (.ref (ga K "names_of")) := g 26 _ rfl
  have m_is_between : mg "is_between" = some (.ref (ga K "is_between")) := g 27 _ rfl
  have m_is_tuple_of : mg "is_tuple_of" = some (.ref (ga K "is_tuple_of")) := g 28 _ rfl
  have m_kind_in : mg "kind_in" = some (.ref (ga K "kind_in")) := g 29 _ rfl
  have m_are_columns : mg "are_columns" = some (.ref (ga K "are_columns")) := g 30 _ rfl
  have m_bounded : mg "bounded" = some (.ref (ga K "bounded")) := g 31 _ rfl
  have m_behind_keep : mg "behind_keep" = some (.ref (ga K "behind_keep")) := g 32 _ rfl
  have m_behind_set : mg "behind_set" = some (.ref (ga K "behind_set")) := g 33 _ rfl
  have m_behind_select : mg "behind_select" = some (.ref (ga K "behind_select")) := g 34 _ rfl
  have m_behind_rename : mg "behind_rename" = some (.ref (ga K "behind_rename")) := g 35 _ rfl
  have m_behind_sort : mg "behind_sort" = some (.ref (ga K "behind_sort")) := g 36 _ rfl
  have m_behind_first : mg "behind_first" = some (.ref (ga K "behind_first")) := g 37 _ rfl
  have m_behind_sample : mg "behind_sample" = some (.ref (ga K "behind_sample")) := g 38 _ rfl
  have m_behind_join : mg "behind_join" = some (.ref (ga K "behind_join")) := g 39 _ rfl
  have m_behind_union : mg "behind_union" = some (.ref (ga K "behind_union")) := g 40 _ rfl
  have m_is_total : mg "is_total" = some (.ref (ga K "is_total")) := g 41 _ rfl
  have m_behind_group : mg "behind_group" = some (.ref (ga K "behind_group")) := g 42 _ rfl
  have m_behind_distinct : mg "behind_distinct" = some (.ref (ga K "behind_distinct")) := g 43 _ rfl
  have m_word_of : mg "word_of" = some (.ref (ga K "word_of")) := g 44 _ rfl
  have m_columns_behind : mg "columns_behind" = some (.ref (ga K "columns_behind")) := g 45 _ rfl
  have m_other_of : mg "other_of" = some (.ref (ga K "other_of")) := g 46 _ rfl
  have m_check_step : mg "check_step" = some (.ref (ga K "check_step")) := g 47 _ rfl
  have m_is_choose : mg "is_choose" = some (.ref (ga K "is_choose")) := g 48 _ rfl
  have m_check_choose : mg "check_choose" = some (.ref (ga K "check_choose")) := g 49 _ rfl
  have m_is_pipeline : mg "is_pipeline" = some (.ref (ga K "is_pipeline")) := g 50 _ rfl
  have m_check : mg "check" = some (.ref (ga K "check")) := g 51 _ rfl
  have m__law_tape : mg "_law_tape" = some (.ref (ga K "_law_tape")) := g 52 _ rfl
  have m__law_draw : mg "_law_draw" = some (.ref (ga K "_law_draw")) := g 53 _ rfl
  have m__law_lowest : mg "_law_lowest" = some (.ref (ga K "_law_lowest")) := g 54 _ rfl
  have m__law_rational : mg "_law_rational" = some (.ref (ga K "_law_rational")) := g 55 _ rfl
  have m__law_name : mg "_law_name" = some (.ref (ga K "_law_name")) := g 56 _ rfl
  have m__law_fresh : mg "_law_fresh" = some (.ref (ga K "_law_fresh")) := g 57 _ rfl
  have m__law_columns : mg "_law_columns" = some (.ref (ga K "_law_columns")) := g 58 _ rfl
  have m__law_leaf : mg "_law_leaf" = some (.ref (ga K "_law_leaf")) := g 59 _ rfl
  have m__law_expression : mg "_law_expression" = some (.ref (ga K "_law_expression")) := g 60 _ rfl
  have m__law_pick : mg "_law_pick" = some (.ref (ga K "_law_pick")) := g 61 _ rfl
  have m__law_set_step : mg "_law_set_step" = some (.ref (ga K "_law_set_step")) := g 62 _ rfl
  have m__law_sort_step : mg "_law_sort_step" = some (.ref (ga K "_law_sort_step")) := g 63 _ rfl
  have m__law_sample_step : mg "_law_sample_step" = some (.ref (ga K "_law_sample_step")) := g 64 _ rfl
  have m__law_keeping_step : mg "_law_keeping_step" = some (.ref (ga K "_law_keeping_step")) := g 65 _ rfl
  have m__law_meeting_step : mg "_law_meeting_step" = some (.ref (ga K "_law_meeting_step")) := g 66 _ rfl
  have m__law_group_step : mg "_law_group_step" = some (.ref (ga K "_law_group_step")) := g 67 _ rfl
  have m__law_same_step : mg "_law_same_step" = some (.ref (ga K "_law_same_step")) := g 68 _ rfl
  have m__law_world : mg "_law_world" = some (.ref (ga K "_law_world")) := g 69 _ rfl
  have m__law_any_step : mg "_law_any_step" = some (.ref (ga K "_law_any_step")) := g 70 _ rfl
  have m__law_piped : mg "_law_piped" = some (.ref (ga K "_law_piped")) := g 71 _ rfl
  have m__law_choose_any : mg "_law_choose_any" = some (.ref (ga K "_law_choose_any")) := g 72 _ rfl
  have m__law_checked : mg "_law_checked" = some (.ref (ga K "_law_checked")) := g 73 _ rfl
  have mf_sorted : mg "sorted" = none := z 92 _ rfl
  have mf_any : mg "any" = none := z 93 _ rfl
  have mf_set : mg "set" = none := z 94 _ rfl
  have x1 : ErF K mg "BadStep" "index" (ga K "BadStep") _ := ⟨oexB_ok (a 0 rfl), eqO_ok (a 1 rfl), of_decide_eq_true (a 2 rfl), eqO_ok (a 3 rfl), m_BadStep⟩
  have x2 : ExB K (ga K "BadStep") (ga K "UnknownName") := ⟨xfB_ok (a 4 rfl), xisB_ok (a 5 rfl), of_decide_eq_true (a 6 rfl), of_decide_eq_true (a 7 rfl), of_decide_eq_true (a 8 rfl)⟩
  have x3 : SmK K := smN_of (a 9 rfl)
  have G0 : FnOk P w K mg base CX0 (1) _ fd0 ["self", "index"] (spIni (ga K "BadStep") "index") := ok_ini (fun_of D0) x1
  have G1 : FnOk P w K mg base CX0 (1) _ fd1 ["value"] (spWhole) := ok_whole (fun_of D1) T
  have G2 : FnOk P w K mg base CX0 (1) _ fd2 ["a", "b"] (spCd) := ok_cd (fun_of D2)
  have G3 : FnOk P w K mg base CX0 (2) _ fd3 ["value"] (spIsR) := ok_isr (fun_of D3) T G1 m_is_whole D1.kp b1 G2 m_common_divisor D2.kp b2
  have G5 : FnOk P w K mg base CX0 (1) _ fd5 ["number"] (spWithin) := ok_within (fun_of D5) T mc3
  have G4 : FnOk P w K mg base CX0 (1) _ fd4 ["value"] (spName) := ok_name (fun_of D4) T mc0 mc1 mc2
  have G6 : FnOk P w K mg base CX0 (3) _ fd6 ["value", "kind"] (spValue) := ok_value (fun_of D6) G3 m_is_rational D3.kp b3 G5 m_within_limit D5.kp b5 G4 m_is_name D4.kp b4
  have tO := tb 0 _ rfl
  have OA : OpsA K w mg (ga K "OPERANDS") (ga K "PAIRED") := ⟨m_OPERANDS, tO, opsV_all (dt_ok tO (a 13 rfl)) (dt_ok tO (a 14 rfl)) (dt_ok tO (a 15 rfl)) (dt_ok tO (a 16 rfl)) (dt_ok tO (a 17 rfl)) (dt_ok tO (a 18 rfl)) (dt_ok tO (a 19 rfl)) (dt_ok tO (a 20 rfl)) (dt_ok tO (a 21 rfl)) (dt_ok tO (a 22 rfl)) (dt_ok tO (a 23 rfl)), m_PAIRED, (fun H => tupB_ok (a 11 rfl) H)⟩
  have G10 : FnOk P w K mg base CX0 (1) _ fd10 ["part"] (spHw) := ok_hw (fun_of D10) T
  have G12 : FnOk P w K mg base CX0 (4) _ fd12 ["value"] (spKv) := ok_kv (fun_of D12) T G6 m_is_value D6.kp b6 m_KINDS (fun H => tupB_ok (a 10 rfl) H)
  have G11 : FnOk P w K mg base CX0 (5) _ fd11 ["kinds", "part"] (spLk) := ok_lk (fun_of D11) T G12 m_kind_of_value D12.kp b12
  have G13 : FnOk P w K mg base CX0 (1) _ fd13 ["word", "found", "path"] (spCk) := ok_ck (fun_of D13) T OA
  have G14 : FnOk P w K mg base CX0 (1) _ fd14 ["word", "found"] (spRk) := ok_rk (fun_of D14) m_ARITHMETIC (fun H => tupB_ok (a 12 rfl) H)
  have G9 : FnOk P w K mg base CX0 (5 + 8) _ fd9 ["kinds", "part", "path"] (spKa 8) := ok_ka (fun_of D9) T OA mc4 G10 m_has_word D10.kp b10 G11 m_leaf_kind D11.kp b11 G13 m_check_operands D13.kp b13 G14 m_result_kind D14.kp b14 m_kind_at D9.kp b9 8
  have G7 : FnOk P w K mg base CX0 (14) _ fd7 ["columns", "expression"] (spKo) := ok_ko (fun_of D7) G9 m_kind_at D9.kp b9
  have G8 : FnOk P w K mg base CX0 (15) _ fd8 ["columns", "expression"] (spKo) := ok_Kn (fun_of D8) T m_BadExpression G7 m_kind_of D7.kp b7
  have t0 : ∃ es n, KDict K w (ga K "LENGTHS") es n := tb 1 _ rfl
  have t1 : ∃ es n, KDict K w (ga K "BEHIND") es n := tb 2 _ rfl
  have G15 : FnOk P w K mg base CX0 (1) _ fd15 ["columns"] (spNo) := ok_No (fun_of D15) T
  have G16 : FnOk P w K mg base CX0 (2) _ fd16 ["value", "low", "high"] (spBt) := ok_Bt (fun_of D16) T G1 m_is_whole D1.kp b1
  have G17 : FnOk P w K mg base CX0 (1) _ fd17 ["value", "low", "high"] (spTo) := ok_To (fun_of D17) T
  have G18 : FnOk P w K mg base CX0 (1) _ fd18 ["columns", "name"] (spKi) := ok_Ki (fun_of D18) T
  have G19 : FnOk P w K mg base CX0 (2) _ fd19 ["columns", "names"] (spAc) := ok_Ac (fun_of D19) T G18 m_kind_in D18.kp b18
  have G20 : FnOk P w K mg base CX0 (1) _ fd20 ["columns"] (spBd) := ok_Bd (fun_of D20) T mc5
  have G21 : FnOk P w K mg base CX0 (16) _ fd21 ["tables", "columns", "step"] (spBeh "keep") := ok_Bk (fun_of D21) T G8 m_kind_or_none D8.kp b8
  have G22 : FnOk P w K mg base CX0 (16) _ fd22 ["tables", "columns", "step"] (spBeh "set") := ok_Be (fun_of D22) T G8 m_kind_or_none D8.kp b8 G4 m_is_name D4.kp b4 G18 m_kind_in D18.kp b18 G20 m_bounded D20.kp b20
  have G23 : FnOk P w K mg base CX0 (3) _ fd23 ["tables", "columns", "step"] (spBeh "select") := ok_Bl (fun_of D23) T mc5 G17 m_is_tuple_of D17.kp b17 G19 m_are_columns D19.kp b19 G18 m_kind_in D18.kp b18
  have G24 : FnOk P w K mg base CX0 (2) _ fd24 ["tables", "columns", "step"] (spBeh "rename") := ok_Br (fun_of D24) T G18 m_kind_in D18.kp b18 G4 m_is_name D4.kp b4
  have G25 : FnOk P w K mg base CX0 (2) _ fd25 ["tables", "columns", "step"] (spBeh "sort") := ok_So (fun_of D25) T m_ORDERS (fun H => tupB_ok (a 24 rfl) H) G18 m_kind_in D18.kp b18
  have G26 : FnOk P w K mg base CX0 (3) _ fd26 ["tables", "columns", "step"] (spBeh "first") := ok_Fi (fun_of D26) T mc8 G16 m_is_between D16.kp b16
  have G27 : FnOk P w K mg base CX0 (3) _ fd27 ["tables", "columns", "step"] (spBeh "sample") := ok_Bs (fun_of D27) T mc9 mc10 G16 m_is_between D16.kp b16
  have G28 : FnOk P w K mg base CX0 (3) _ fd28 ["tables", "columns", "step"] (spBeh "join") := ok_Jo (fun_of D28) T mf_any mc11 G4 m_is_name D4.kp b4 G17 m_is_tuple_of D17.kp b17 G19 m_are_columns D19.kp b19 G18 m_kind_in D18.kp b18 G20 m_bounded D20.kp b20
  have G29 : FnOk P w K mg base CX0 (2) _ fd29 ["tables", "columns", "step"] (spBeh "union") := ok_Uo (fun_of D29) T G4 m_is_name D4.kp b4
  have G30 : FnOk P w K mg base CX0 (2) _ fd30 ["columns", "thing"] (spTt) := ok_Tt (fun_of D30) T m_FUNCTIONS (fun H => tupB_ok (a 25 rfl) H) G17 m_is_tuple_of D17.kp b17 G4 m_is_name D4.kp b4 G18 m_kind_in D18.kp b18
  have G31 : FnOk P w K mg base CX0 (3) _ fd31 ["tables", "columns", "step"] (spBeh "group") := ok_Go (fun_of D31) T mf_set mc11 mc12 G17 m_is_tuple_of D17.kp b17 G19 m_are_columns D19.kp b19 G30 m_is_total D30.kp b30 G18 m_kind_in D18.kp b18 G15 m_names_of D15.kp b15 G20 m_bounded D20.kp b20
  have G32 : FnOk P w K mg base CX0 (1) _ fd32 ["tables", "columns", "step"] (spBeh "distinct") := ok_Di (fun_of D32) T
  have G33 : FnOk P w K mg base CX0 (1) _ fd33 ["step"] (spWd) := ok_Wd (fun_of D33) T
  have A2 : CbA P w K mg base (ga K "LENGTHS") (ga K "BEHIND") := by
    refine ⟨m_LENGTHS, m_BEHIND, t0, fun st => ?_, fun st => ?_⟩
    · cases st with
      | keep e => exact di_ok t0 (a 26 rfl)
      | set x e => exact di_ok t0 (a 27 rfl)
      | select ns => exact di_ok t0 (a 28 rfl)
      | rename x y => exact di_ok t0 (a 29 rfl)
      | sort x u => exact di_ok t0 (a 30 rfl)
      | first n => exact di_ok t0 (a 31 rfl)
      | sample n m s => exact di_ok t0 (a 32 rfl)
      | join t ks => exact di_ok t0 (a 33 rfl)
      | union t => exact di_ok t0 (a 34 rfl)
      | distinct => exact di_ok t0 (a 35 rfl)
      | group ks ts => exact di_ok t0 (a 36 rfl)
    · cases st with
      | keep e => exact ⟨_, kdct_of t1 (eqO_ok (a 37 rfl)), ⟨⟨_, _, G21.mono (by decide), D21.kp, b21⟩⟩⟩
      | set x e => exact ⟨_, kdct_of t1 (eqO_ok (a 38 rfl)), ⟨⟨_, _, G22.mono (by decide), D22.kp, b22⟩⟩⟩
      | select ns => exact ⟨_, kdct_of t1 (eqO_ok (a 39 rfl)), ⟨⟨_, _, G23.mono (by decide), D23.kp, b23⟩⟩⟩
      | rename x y => exact ⟨_, kdct_of t1 (eqO_ok (a 40 rfl)), ⟨⟨_, _, G24.mono (by decide), D24.kp, b24⟩⟩⟩
      | sort x u => exact ⟨_, kdct_of t1 (eqO_ok (a 41 rfl)), ⟨⟨_, _, G25.mono (by decide), D25.kp, b25⟩⟩⟩
      | first n => exact ⟨_, kdct_of t1 (eqO_ok (a 42 rfl)), ⟨⟨_, _, G26.mono (by decide), D26.kp, b26⟩⟩⟩
      | sample n m s => exact ⟨_, kdct_of t1 (eqO_ok (a 43 rfl)), ⟨⟨_, _, G27.mono (by decide), D27.kp, b27⟩⟩⟩
      | join t ks => exact ⟨_, kdct_of t1 (eqO_ok (a 44 rfl)), ⟨⟨_, _, G28.mono (by decide), D28.kp, b28⟩⟩⟩
      | union t => exact ⟨_, kdct_of t1 (eqO_ok (a 45 rfl)), ⟨⟨_, _, G29.mono (by decide), D29.kp, b29⟩⟩⟩
      | distinct => exact ⟨_, kdct_of t1 (eqO_ok (a 46 rfl)), ⟨⟨_, _, G32.mono (by decide), D32.kp, b32⟩⟩⟩
      | group ks ts => exact ⟨_, kdct_of t1 (eqO_ok (a 47 rfl)), ⟨⟨_, _, G31.mono (by decide), D31.kp, b31⟩⟩⟩
  have G34 : FnOk P w K mg base CX0 (17) _ fd34 ["tables", "columns", "step"] (spCb) := ok_Cb (fun_of D34) T A2 G33 m_word_of D33.kp b33
  have G35 : FnOk P w K mg base CX0 (2) _ fd35 ["step"] (spOo) := ok_Oo (fun_of D35) T A2 G33 m_word_of D33.kp b33 G4 m_is_name D4.kp b4
  have G36 : FnOk P w K mg base CX0 (18) _ fd36 ["tables", "columns", "step", "index"] (spCs) := ok_Cs (fun_of D36) T G35 m_other_of D35.kp b35 G34 m_columns_behind D34.kp b34
  have G37 : FnOk P w K mg base CX0 (2) _ fd37 ["step"] (spIc) := ok_Ic (fun_of D37) T mc13 mc14 mc15 G17 m_is_tuple_of D17.kp b17 G4 m_is_name D4.kp b4
  have G38 : FnOk P w K mg base CX0 (19) _ fd38 ["tables", "columns", "step", "index"] (spCh) := ok_Ch (fun_of D38) T mf_any G36 m_check_step D36.kp b36
  have G39 : FnOk P w K mg base CX0 (2) _ fd39 ["value", "most"] (spIp) := ok_Ip (fun_of D39) T G17 m_is_tuple_of D17.kp b17 G4 m_is_name D4.kp b4
  have G40 : FnOk P w K mg base (L2.CX P w) (20) _ fd40 ["tables", "pipeline", "long"] (spChk (ga K "BadStep")) := ok_Chk (He5.fun_of D40) T mc6 mc7 x1 G0 b0 G39 m_is_pipeline D39.kp b39 G33 m_word_of D33.kp b33 G37 m_is_choose D37.kp b37 G38 m_check_choose D38.kp b38 G36 m_check_step D36.kp b36
  have G41 : FnOk P w K mg base CX0 (1) _ fd41 ["_law_script"] (spTape K) := ok_tape (fun_of D41) T
  have G42 : FnOk P w K mg base CX0 (1) _ fd42 ["_law_tape_here", "_law_many"] (spDrawL) := ok_draw (fun_of D42) T
  have G43 : FnOk P w K mg base CX0 (1) _ fd43 ["_law_n", "_law_d"] (spLowest) := ok_lst (fun_of D43) T
  have G44 : FnOk P w K mg base CX0 (2) _ fd44 ["_law_tape_here", "_law_wide"] (spRatL) := ok_rat (fun_of D44) T G42 m__law_draw D42.kp b42 G43 m__law_lowest D43.kp b43
  have G45 : FnOk P w K mg base CX0 (2) _ fd45 ["_law_tape_here"] (spLNm) := ok_lnm (fun_of D45) T G42 m__law_draw D42.kp b42
  have G46 : FnOk P w K mg base CX0 (3) _ fd46 ["_law_tape_here", "_law_taken"] (spFr) := ok_fr (fun_of D46) G45 m__law_name D45.kp b45
  have G47 : FnOk P w K mg base CX0 (4) _ fd47 ["_law_tape_here", "_law_lead", "_law_many", "_law_taken"] (spCls) := ok_cls (fun_of D47) T G42 m__law_draw D42.kp b42 G46 m__law_fresh D46.kp b46
  have G48 : FnOk P w K mg base CX0 (3) _ fd48 ["_law_tape_here", "_law_columns_here", "_law_kind"] (spLf) := ok_lf (fun_of D48) T G42 m__law_draw D42.kp b42 G44 m__law_rational D44.kp b44
  have G49 : FnOk P w K mg base CX0 (6) _ fd49 ["_law_tape_here", "_law_columns_here", "_law_kind", "_law_depth"] (spXp 3) := ok_XpN (fun_of D49) T G42 m__law_draw D42.kp b42 G48 m__law_leaf D48.kp b48 m__law_expression D49.kp b49 3
  have G50 : FnOk P w K mg base CX0 (2) _ fd50 ["_law_tape_here", "_law_items", "_law_many"] (spPk) := ok_Pk (fun_of D50) T G42 m__law_draw D42.kp b42
  have G51 : FnOk P w K mg base CX0 (7) _ fd51 ["_law_tape_here", "_law_columns_here"] (spKs) := ok_Sst (fun_of D51) T G42 m__law_draw D42.kp b42 G46 m__law_fresh D46.kp b46 G49 m__law_expression D49.kp b49
  have G52 : FnOk P w K mg base CX0 (2) _ fd52 ["_law_tape_here", "_law_columns_here"] (spSrt) := ok_Srt (fun_of D52) T G42 m__law_draw D42.kp b42
  have G53 : FnOk P w K mg base CX0 (2) _ fd53 ["_law_tape_here"] (spSmp) := ok_Smp (fun_of D53) T G42 m__law_draw D42.kp b42
  have G54 : FnOk P w K mg base CX0 (8) _ fd54 ["_law_tape_here", "_law_columns_here"] (spKs) := ok_Ksp (fun_of D54) T G42 m__law_draw D42.kp b42 G50 m__law_pick D50.kp b50 G46 m__law_fresh D46.kp b46 G49 m__law_expression D49.kp b49 G53 m__law_sample_step D53.kp b53 G52 m__law_sort_step D52.kp b52 G51 m__law_set_step D51.kp b51
  have G55 : FnOk P w K mg base CX0 (4) _ fd55 ["_law_tape_here", "_law_columns_here", "_law_others", "_law_bound"] (spMt) := ok_Mt (fun_of D55) T mf_sorted G42 m__law_draw D42.kp b42
  have G56 : FnOk P w K mg base CX0 (8) _ fd56 ["_law_tape_here", "_law_columns_here"] (spKs) := ok_Grs (fun_of D56) T G42 m__law_draw D42.kp b42 G50 m__law_pick D50.kp b50 G46 m__law_fresh D46.kp b46
  have G57 : FnOk P w K mg base CX0 (7) _ fd57 ["_law_tape_here", "_law_columns_here"] (spSas) := ok_Sas (fun_of D57) T G42 m__law_draw D42.kp b42 G49 m__law_expression D49.kp b49 G53 m__law_sample_step D53.kp b53 G52 m__law_sort_step D52.kp b52
  have G58 : FnOk P w K mg base CX0 (5) _ fd58 ["_law_tape_here"] (spWld) := ok_Wl (fun_of D58) T G45 m__law_name D45.kp b45 G46 m__law_fresh D46.kp b46 G47 m__law_columns D47.kp b47 G42 m__law_draw D42.kp b42
  have G61 : FnOk P w K mg base CX0 (9) _ fd61 ["_law_tape_here", "_law_columns_here", "_law_label", "_law_many"] (spCa) := ok_Ca (fun_of D61) T G42 m__law_draw D42.kp b42 G54 m__law_keeping_step D54.kp b54 G57 m__law_same_step D57.kp b57
  have G59 : FnOk P w K mg base CX0 (10) _ fd59 ["_law_tape_here", "_law_columns_here", "_law_others", "_law_bound"] (spAs) := ok_As (fun_of D59) T G42 m__law_draw D42.kp b42 G55 m__law_meeting_step D55.kp b55 G56 m__law_group_step D56.kp b56 G57 m__law_same_step D57.kp b57 G61 m__law_choose_any D61.kp b61 G54 m__law_keeping_step D54.kp b54
  have G60 : FnOk P w K mg base CX0 (11) _ fd60 ["_law_tape_here", "_law_columns_here", "_law_others", "_law_bound", "_law_many"] (spPi) := ok_Pi (fun_of D60) T G42 m__law_draw D42.kp b42 G59 m__law_any_step D59.kp b59
  have G62 : FnOk P w K mg base CX0 (21) _ fd62 ["_law_tables", "_law_pipeline", "_law_far"] (spCkd) := ok_Ckd (fun_of D62) T x1 m_UnknownName x2 G40 m_check D40.kp (kb_at kb40 (by decide)) (kb_of b40 v40)
  exact ok_Law (fun_of D63) T x3 mf_sorted G41 m__law_tape D41.kp b41 G58 m__law_world D58.kp b58 G42 m__law_draw D42.kp b42 G60 m__law_piped D60.kp b60 G62 m__law_checked D62.kp b62
end K13
open PySem PySem.W PySem.Calls PyProof.Rows
theorem PySem.Challenge.cw_liveclaims_k13_checked_columns_holds : PySem.Challenge.rw_liveclaims_k13_checked_columns.Holds := by
  w_on; o_law
  refine HandSHeadRun.head_any (r := OpenLaw.row PySem.Challenge.rw_liveclaims_k13_checked_columns) (q := view (OpenLaw.row PySem.Challenge.rw_liveclaims_k13_checked_columns).prog [96]) (H := K13.hk) (ob := K13.ob) (M := 20000) (loose := K13.loose) (d := HandSHeadRun.topDef (OpenLaw.row PySem.Challenge.rw_liveclaims_k13_checked_columns).prog 96) (kwd := []) K13.ob_eq
    (by kernel_rfl) (fun s => by kernel_rfl) K13.run (by kernel_rfl) (by kernel_rfl) (by kernel_rfl) (by rfl) (by first | assumption | decide +kernel) (by decide +kernel) ⟨rfl, rfl, rfl, rfl, rfl, by decide +kernel⟩ ?hw ?hc
  case hw => w_witness2
  case hc =>
    refine Lc.walk_GE (l := PySem.Challenge.rw_liveclaims_k13_checked_columns) (n := 63) (k := 22) (x := "_law_script") rfl (by decide) (by kernel_rfl) ⟨rfl, by decide, by decide⟩ ?F
    intro w mg fa h Y G hmg0
    obtain ⟨K, KX, c, e, tb⟩ := Y
    have hmg : mg ("law" : PySem.Str) = some (.ref fa) := by
      have e : (HandSHeadRun.topDef (OpenLaw.row PySem.Challenge.rw_liveclaims_k13_checked_columns).prog 96).name = ("law" : PySem.Str) := by kernel_rfl
      rw [← e]
      exact hmg0
    obtain ⟨fd, hb, hF⟩ := K13.facts (P := (PySem.Challenge.rw_liveclaims_k13_checked_columns).prog) (w := w) KX G hmg c e tb
    exact ⟨K, fd, K13.spLaw K, KX, hb, fun H a ns hl hS => ⟨a, ns, rfl, hS, fun _ => rfl⟩, hF⟩
