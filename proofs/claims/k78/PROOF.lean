import PyProof.Rows.All
import Wide.All
import OpenK.AllK
import Wide.FinOn
import HandS.ForMost
import HandS.ForExc
import HandS.Wide
import HandS.Flow
import HandS.IsInst
import HandS.ExcInit
import HandS.ExcField
import HandS.ExcIs
import HandS.TryMany
import HandS.CallLocal
import HandS.RaiseMore
import HandS.CallSlots
import KE.KExcIs
import PyProof.ReprRoads
import PyProof.ReprText
import HandS.Evl
import HandS.Walk
import HandS.Style
import PyProof.StrBlock2
import PyProof.StrLawsRepr
import PyProof.ReprLen
import KE.GoesEnum
import HandS.Iter
import HandS.TupMul
import HandS.ListItems
import HandS.OwnIter
import HandS.More
import PyProof.InstSpecial
import HandS.Defaults
import HandS.DictComp
import HandS.Zip
import KE.KIntText
import PyProof.StrLawsTight
import PyProof.StrLawsChain
import HandS.StrMore
import HandS.Replace
import HandS.TupSets
import HandS.Strs
import HandS.Dict
import KE.KDictPairs
import HandS.Comp
import HandS.Head0
import HandS.Head1
import HandS.Head2
import HandS.HeadHook1
import HandS.HeadHook2
import KE.KStateDown
import HandS.HeadHook3
import HandS.FStr
import PyProof.StrLawsAffix
import PyProof.StrLawsIn
import KE.IntTextLaws
import HandS.WrittenGet
import HandS.TryOnly
import HandS.TupAny
import PySem.Challenge.RW_liveclaims_k78_pipelines_written_and_rea
set_option maxRecDepth 100000
set_option maxHeartbeats 4000000
set_option linter.all false
namespace Lc
/-! ## Greatest common divisors and lowest terms -/
def gd (a b : Int) : Int := (Int.gcd a b : Int)
theorem gd_nonneg (a b : Int) : 0 ≤ gd a b := Int.natCast_nonneg _
theorem gd_pos {a b : Int} (h : b ≠ 0) : 0 < gd a b := by
  have : 0 < Int.gcd a b := Int.gcd_pos_of_ne_zero_right a h
  unfold gd
  omega
theorem gd_zero {a : Int} (h : 0 ≤ a) : gd a 0 = a := by
  unfold gd
  rw [Int.gcd_zero_right]
  omega
theorem gd_step {a b : Int} (ha : 0 ≤ a) (hb : 0 < b) : gd b (a % b) = gd a b := by
  unfold gd Int.gcd
  have e1 : (a % b).natAbs = a.natAbs % b.natAbs := by
    have h0 : 0 ≤ a % b := Int.emod_nonneg a (by omega)
    have : ((a % b).natAbs : Int) = ((a.natAbs % b.natAbs : Nat) : Int) := by
      rw [Int.natCast_emod, Int.natAbs_of_nonneg h0, Int.natAbs_of_nonneg ha, Int.natAbs_of_nonneg (by omega : 0 ≤ b)]
    exact Int.ofNat.inj this
  rw [e1, Nat.gcd_comm b.natAbs, ← Nat.gcd_rec, Nat.gcd_comm]
theorem gd_abs (a b : Int) : gd (if a < 0 then -a else a) b = gd a b := by
  unfold gd
  split
  · rw [Int.neg_gcd]
  · rfl
theorem gd_abs2 (a b : Int) : gd a (if b < 0 then -b else b) = gd a b := by
  unfold gd
  split
  · rw [Int.gcd_neg]
  · rfl
theorem gd_dvd1 (a b : Int) : gd a b ∣ a := Int.gcd_dvd_left a b
theorem gd_dvd2 (a b : Int) : gd a b ∣ b := Int.gcd_dvd_right a b
theorem gd_natAbs_le {a b : Int} (h : b ≠ 0) : (gd a b).natAbs ≤ b.natAbs := by
  have h1 : Int.gcd a b ≤ b.natAbs := Nat.le_of_dvd (by omega) (Int.gcd_dvd_natAbs_right a b)
  unfold gd
  rw [Int.natAbs_natCast]
  exact h1
def lowN (n d : Int) : Int := n / gd n d
def lowD (n d : Int) : Int := d / gd n d
structure Rt (n d : Int) : Prop where
  pos : 0 < d
  cop : gd n d = 1
theorem low_mul {n d : Int} (h : d ≠ 0) : lowN n d * gd n d = n ∧ lowD n d * gd n d = d := ⟨Int.ediv_mul_cancel (gd_dvd1 n d), Int.ediv_mul_cancel (gd_dvd2 n d)⟩
theorem lowD_pos {n d : Int} (h : 0 < d) : 0 < lowD n d := Int.ediv_pos_of_pos_of_dvd h (gd_nonneg n d) (gd_dvd2 n d)
theorem low_rt {n d : Int} (h : 0 < d) : Rt (lowN n d) (lowD n d) := by
  refine ⟨lowD_pos h, ?_⟩
  have hg : 0 < Int.gcd n d := Int.gcd_pos_of_ne_zero_right n (by omega)
  unfold lowN lowD gd
  rw [Int.gcd_ediv_gcd_ediv_gcd hg]
  rfl
theorem dvd_cop {k m n : Int} (h : k ∣ n * m) (g : Int.gcd m k = 1) : k ∣ n := by
  have h1 : k.natAbs ∣ m.natAbs * n.natAbs := by
    rw [← Int.natAbs_mul, Int.mul_comm]
    exact Int.natAbs_dvd_natAbs.mpr h
  have c : Nat.Coprime k.natAbs m.natAbs := by
    show Nat.gcd k.natAbs m.natAbs = 1
    rw [Nat.gcd_comm]
    exact g
  exact Int.natAbs_dvd_natAbs.mp (c.dvd_of_dvd_mul_left h1)
/-- lowest terms are one pair alone -/
theorem rt_unique {a b c d : Int} (h1 : Rt a b) (h2 : Rt c d) (e : a * d = c * b) : a = c ∧ b = d := by
  have g1 : Int.gcd a b = 1 := by have := h1.cop; unfold gd at this; omega
  have g2 : Int.gcd c d = 1 := by have := h2.cop; unfold gd at this; omega
  have db : b ∣ d := by
    have : b ∣ d * a := ⟨c, by rw [Int.mul_comm d a, e, Int.mul_comm]⟩
    exact dvd_cop this g1
  have dd : d ∣ b := by
    have : d ∣ b * c := ⟨a, by rw [Int.mul_comm b c, ← e, Int.mul_comm]⟩
    exact dvd_cop this g2
  have hb := h1.pos
  have hd := h2.pos
  have ebd : b = d := Int.le_antisymm (Int.le_of_dvd hd db) (Int.le_of_dvd hb dd)
  subst ebd
  exact ⟨Int.eq_of_mul_eq_mul_right (by omega) e, rfl⟩
theorem low_is {n d a b : Int} (hd : 0 < d) (h : Rt a b) (e : n * b = a * d) : lowN n d = a ∧ lowD n d = b := by
  have m := low_mul (n := n) (d := d) (by omega)
  have g := gd_pos (a := n) (b := d) (by omega)
  refine rt_unique (low_rt hd) h ?_
  have e2 : (lowN n d * b) * gd n d = (a * lowD n d) * gd n d := by
    rw [Int.mul_right_comm, m.1, Int.mul_assoc, m.2, e]
  exact Int.eq_of_mul_eq_mul_right (by omega) e2
theorem fdiv_neg_dvd {a g : Int} (hg : 0 < g) (h : g ∣ a) : a.fdiv (-g) = (-a) / g := by
  obtain ⟨m, rfl⟩ := h
  have e1 : g * m = (-g) * (-m) := by rw [Int.neg_mul_neg]
  have e2 : -(g * m) = g * (-m) := by rw [Int.mul_neg]
  rw [e2, Int.mul_ediv_cancel_left _ (by omega), e1, Int.mul_fdiv_cancel_left _ (by omega)]
/-- the sums and products of the law -/
theorem sub_add {an ad bn bd p q : Int} (had : 0 < ad) (hbd : 0 < bd) (hq : 0 < q) (h : p * (ad * bd) = (an * bd + bn * ad) * q) : (p * bd - bn * q) * ad = an * (q * bd) := by
  have e1 : (p * bd - bn * q) * ad = p * (ad * bd) - bn * q * ad := by
    rw [Int.sub_mul, Int.mul_assoc p bd ad, Int.mul_comm bd ad]
  have e2 : (an * bd + bn * ad) * q = an * (q * bd) + bn * q * ad := by
    rw [Int.add_mul, Int.mul_assoc an bd q, Int.mul_comm bd q, Int.mul_assoc bn ad q, Int.mul_comm ad q, Int.mul_assoc bn q ad]
  rw [e1, h, e2]
  omega
theorem mul_div {an ad bn bd p q : Int} (h : p * (ad * bn) = (an * bd) * q) (hbn : bn ≠ 0) : (p * bn) * ad = an * (q * bd) := by
  rw [Int.mul_assoc p bn ad, Int.mul_comm bn ad, h, Int.mul_assoc an bd q, Int.mul_comm bd q]
end Lc
namespace Lc
theorem low_le {n d : Int} (h : d ≠ 0) : (lowN n d).natAbs ≤ n.natAbs ∧ (lowD n d).natAbs ≤ d.natAbs := by
  have m := low_mul (n := n) (d := d) h
  have g := gd_pos (a := n) (b := d) h
  have e1 : n.natAbs = (lowN n d).natAbs * (gd n d).natAbs := by rw [← Int.natAbs_mul, m.1]
  have e2 : d.natAbs = (lowD n d).natAbs * (gd n d).natAbs := by rw [← Int.natAbs_mul, m.2]
  have gp : 0 < (gd n d).natAbs := by omega
  exact ⟨by rw [e1]; exact Nat.le_mul_of_pos_right _ gp, by rw [e2]; exact Nat.le_mul_of_pos_right _ gp⟩
theorem rt_one (n : Int) : Rt n 1 := ⟨by decide, by unfold gd; rw [Int.gcd_one]; rfl⟩
theorem rt_inv {d : Int} (h : 0 < d) : Rt 1 d := ⟨h, by unfold gd; rw [Int.one_gcd]; rfl⟩
theorem rt_ninv {d : Int} (h : 0 < d) : Rt (-1) d := ⟨h, by unfold gd; rw [Int.neg_gcd, Int.one_gcd]; rfl⟩
end Lc
set_option Elab.async false
set_option linter.all false
set_option maxRecDepth 100000
set_option maxHeartbeats 4000000
namespace Lc
open PySem PySem.Spec PyProof.Rows L2
/-! ## A try with clauses of both forms, «except X:» and «except X as n:» -/
structure Cl where
  c : Value
  slot : Option Nat
  ts : Addr → Value → Option Addr → TS
def putS : Option Nat → Option V → L2.St → L2.St
  | none, _, σ => σ
  | some i, v, σ => σ.set i v
def endS (q : Option Nat) (D : Ends) : Ends := ⟨fun σ H => D.nx (putS q none σ) H, D.rt, fun σ H => D.bk (putS q none σ) H, fun σ H => D.ct (putS q none σ) H⟩
def wCl (K : PySem.W.Frag) (Wout : WX) (D : Ends) : List Cl → WX
  | [] => Wout
  | q :: r => fun cls d σ H => ∃ b, PySem.W.exmOne K cls q.c = some b ∧ (b = true → ∀ a, H a = none → q.ts a cls d (endS q.slot D) (putS q.slot (some (.ref a)) σ) H) ∧
      (b = false → wCl K Wout D r cls d σ H)
abbrev SuiteOk (X : Cx) (st : List Stmt) (ts : Addr → Value → Option Addr → TS) : Prop :=
  ∀ (a : Addr) (ob : Obj) (cls : Value) (d : Option Addr) (pn : List (Addr × Obj)), Zc cls d ob → (∃ vs, ob.data = .fields vs) → PSs (X.suite a ((a, ob) :: pn)) st (ts a cls d)
inductive ClsOk (X : Cx) : List ExceptHandler → List Cl → Prop
  | nil : ClsOk X [] []
  | bare {x : Str} {q : Cl} {st : Stmt} {sts : List Stmt} {p1 p2 : Pos} {hds : List ExceptHandler} {l : List Cl} (hc : Names X x q.c) (hq : q.slot = none) (su : SuiteOk X (st :: sts) q.ts) (r : ClsOk X hds l) :
      ClsOk X (.ExceptHandler (some (.Name x p1)) none (st :: sts) p2 :: hds) (q :: l)
  | named {x n : Str} {q : Cl} {i : Nat} {st : Stmt} {sts : List Stmt} {p1 p2 : Pos} {hds : List ExceptHandler} {l : List Cl} (hc : Names X x q.c) (hq : q.slot = some i) (hN : X.N.Nodup) (hi : X.N[i]? = some n) (hn : X.env.kindOf n = some .local)
      (su : SuiteOk X (st :: sts) q.ts) (r : ClsOk X hds l) : ClsOk X (.ExceptHandler (some (.Name x p1)) (some n) (st :: sts) p2 :: hds) (q :: l)
section
variable {X : Cx}
theorem clauses_go {Wout : WX} {D : Ends} {pins : List (Addr × Obj)} {σ : L2.St} {H : Hp} {cls : Value} {d : Option Addr} {a : Addr} {B : Heap} {sI s' : Shared} {h3 : Heap}
    (hs : X.stack = X.env :: X.outer) (hf : X.env.frame = some X.env.locals) (tk : Takes X Wout) (J : Inv X pins σ H sI)
    (nb : ∀ b o, sI.heap.get? b = some o → b ∉ frs X.stack → B.get? b = some o) (na : H a = none) (os : s'.os = sI.os) (ag : AllBare s'.gens)
    (up : sI.heap.UpToSlots h3) (fl : HandSPX.FlyingZ B (X.env :: X.outer) a (Zc cls d) h3) :
    ∀ {hds : List ExceptHandler} {l : List Cl}, ClsOk X hds l → wCl X.K Wout D l cls d σ H → wpAny (model X.prog X.w) X.A (handleBy (.ref a) X.env hds) (SP X pins D) X.xe { s' with heap := h3 } := by
  have ok := J.ok
  have land : ∀ {h4 : Heap}, HandSPX.FlyingZ B (X.env :: X.outer) a (Zc cls d) h4 → sI.heap.UpToSlots h4 → Inv X pins σ H { s' with heap := h4 } ∧ ∃ ob vs, Zc cls d ob ∧ ob.data = .fields vs ∧ h4.get? a = some ob ∧
      Inv (X.suite a ((a, ob) :: (X.pn ++ pins))) [] σ H { s' with heap := h4 } := by
    intro h4 f4 u4
    have J4 : Inv X pins σ H { s' with heap := h4 } := J.landed nb f4.1 u4 os ag
    obtain ⟨ob, vs, hob, hz, hd⟩ := f4.there
    have nfr : a ∉ frs (X.env :: X.outer) := fun hm => by
      obtain ⟨_, ox, ex, nf⟩ := f4.2.2.1.mem hm
      rw [hob] at ex
      cases ex
      exact nf _ hd
    have nL : a ≠ X.env.locals := fun z => nfr (List.mem_filterMap.mpr ⟨X.env, List.mem_cons_self, by rw [hf, z]⟩)
    have nF : a ∉ X.fs := fun hm => by
      obtain ⟨en, hen, qq⟩ := List.mem_filterMap.mp hm
      exact nfr (List.mem_filterMap.mpr ⟨en, List.mem_cons_of_mem _ hen, qq⟩)
    exact ⟨J4, ob, vs, hz, hd, hob, J4.suite hob hd na nL nF⟩
  obtain ⟨J3, o3, vs3, hz3, hd3, ho3, S3⟩ := land fl up
  have ty : PySem.W.Looks (model X.prog X.w) h3 (typeOf (.ref a)) cls := fun _ _ _ _ kk qq => wpAny_typeOf_ref (kk _ _ ho3) (by rw [hz3.1]; exact qq)
  have tst : ∀ {x : Str} {c : Value} {p1 : Pos} {Q : Value → Shared → Prop} {E : Value → Shared → Prop}, Names X x c → Q c { s' with heap := h3 } →
      wpAny (model X.prog X.w) (X.A.mark (some (.ref a))) (eval (.Name x p1) X.env) Q E { s' with heap := h3 } := by
    intro x c p1 Q E hc hq
    rcases hc with ⟨hg, hdb, hm | ⟨hm, hv, hne⟩⟩
    · exact ld_glob (X := X.suite a ((a, o3) :: (X.pn ++ pins))) S3 hg hm hq hdb
    · exact ld_blt (X := X.suite a ((a, o3) :: (X.pn ++ pins))) S3 hg hm hv hq hne hdb
  intro hds l hk
  induction hk with
  | nil =>
    intro wi
    refine wpAny_handleBy_nil ?_
    obtain ⟨_, _, _, ox, vx, T, _, _, hox, _, hdx, h1, _⟩ := id fl
    have out : wpAny (model X.prog X.w) X.A (setFlight (.ref a) X.env.frame) (fun _ s4 => wpAny (model X.prog X.w) X.A (throw (.ref a) : Sem Flow) (SP X pins D) X.xe s4) X.xe { s' with heap := h3 } := by
      rw [hf]
      exact HandSPX.setFlight_upZ fl fun h4 f4 u4 => wpAny_throw (tk _ _ ⟨a, B, sI, pins, σ, H, cls, d, rfl, J, nb, up.trans u4, .inr (.inr (by rw [hs]; exact f4)), na, os, ag, wi⟩)
    unfold PySem.passOn
    refine wpAny_bind (wpAny_field hox hdx h1 ?_)
    rw [if_neg (by simp : ¬ ((Value.ref T == Value.none) = true))]
    first
      | exact wpAny_bind out
      | exact wpAny_bind (wpAny_pure (wpAny_bind out))
  | @bare x q st sts p1 p2 hds2 l2 hc hq su r ih =>
    intro wi
    obtain ⟨b, hb, yes, no⟩ := wi
    refine wpAny_handleBy_cons (codeAny_handlers_test (tst hc ((PySem.W.exm_one (M := model X.prog X.w) J3.kIn ty hb).here ?_))) (by intro z; cases z)
    cases b with
    | false => exact ih (no rfl)
    | true =>
      refine codeAny_handlers_suite (HandSPX.lands_againZ fl fun h4 f4 u4 => ?_)
      obtain ⟨J4, o4, vs4, hz4, hd4, ho4, S4⟩ := land f4 (up.trans u4)
      have yy := yes rfl a na
      rw [hq] at yy
      refine wpAny_mono ((su a o4 cls d (X.pn ++ pins) hz4 ⟨_, hd4⟩).run [] _ _ H _ S4 yy) (fun f s6 hsp => ?_) (fun _ _ z => z.elim)
      cases f with
      | ret u =>
        obtain ⟨v6, σ6, H6, S6, r6, q6⟩ := hsp
        exact ⟨v6, σ6, H6, S6.unsuite ok, r6, q6⟩
      | next => obtain ⟨σ6, H6, S6, q6⟩ := hsp; exact ⟨σ6, H6, S6.unsuite ok, q6⟩
      | brk => obtain ⟨σ6, H6, S6, q6⟩ := hsp; exact ⟨σ6, H6, S6.unsuite ok, q6⟩
      | cont => obtain ⟨σ6, H6, S6, q6⟩ := hsp; exact ⟨σ6, H6, S6.unsuite ok, q6⟩
  | @named x n q i st sts p1 p2 hds2 l2 hc hq hN hi hn su r ih =>
    intro wi
    obtain ⟨b, hb, yes, no⟩ := wi
    refine wpAny_handleBy_cons (codeAny_handlers_test (tst hc ((PySem.W.exm_one (M := model X.prog X.w) J3.kIn ty hb).here ?_))) (by intro z; cases z)
    cases b with
    | false => exact ih (no rfl)
    | true =>
      refine codeAny_handlers_suite_as (HandSPX.lands_againZ fl fun h4 f4 u4 => ?_)
      obtain ⟨J4, o4, vs4, hz4, hd4, ho4, S4⟩ := land f4 (up.trans u4)
      have yy := yes rfl a na
      rw [hq] at yy
      refine store_ok (X := X.suite a ((a, o4) :: (X.pn ++ pins))) (v := .ref a) S4 hN hi (.inl hn) rfl (fun s5 S5 => ?_) (.inr hn)
      refine wpAny_mono ((su a o4 cls d (X.pn ++ pins) hz4 ⟨_, hd4⟩).run [] s5 _ H _ S5 yy) (fun f s6 hsp => ?_) (fun _ _ z => z.elim)
      have fin : ∀ {σ6 : L2.St} {H6 : Hp} {Q : Shared → Prop}, Inv (X.suite a ((a, o4) :: (X.pn ++ pins))) [] σ6 H6 s6 → (∀ s7, Inv X pins (σ6.set i none) H6 s7 → Q s7) →
          wpAny (model X.prog X.w) X.A (do bindName X.env n .none; unbindBehindTheSuite X.env n p2) (fun _ s7 => Q s7) X.xe s6 := fun S6 k => gone_ok (S6.unsuite ok) hN hi hn k
      cases f with
      | ret u =>
        obtain ⟨v6, σ6, H6, S6, r6, q6⟩ := hsp
        exact fin S6 fun s7 J7 => ⟨_, _, _, J7, r6, q6⟩
      | next => obtain ⟨σ6, H6, S6, q6⟩ := hsp; exact fin S6 fun s7 J7 => ⟨_, _, J7, q6⟩
      | brk => obtain ⟨σ6, H6, S6, q6⟩ := hsp; exact fin S6 fun s7 J7 => ⟨_, _, J7, q6⟩
      | cont => obtain ⟨σ6, H6, S6, q6⟩ := hsp; exact fin S6 fun s7 J7 => ⟨_, _, J7, q6⟩
theorem ps_tryL {body : List Stmt} {h₀ : ExceptHandler} {hds : List ExceptHandler} {l : List Cl} {pos : Pos} {tb : WX → TS} {Wout : WX} (hs : X.stack = X.env :: X.outer) (hf : X.env.frame = some X.env.locals) (tk : Takes X Wout)
    (hb : ∀ (W : WX) (pn : List (Addr × Obj)) (xe : Value → Shared → Prop), Takes (X.tr pn xe) W → PassesOwn (model X.prog X.w) X.A X.env xe → PSs (X.tr pn xe) body (tb W)) (hh : ClsOk X (h₀ :: hds) l) :
    PS X (.Try body (h₀ :: hds) [] [] pos) (fun D σ H => tb (wCl X.K Wout D l) D σ H) := by
  refine ⟨fun pins s σ H D I h => ?_⟩
  have ok := I.ok
  have fr : X.A.frames = some (X.env :: X.outer) := ok.frames.trans (congrArg some hs)
  refine wpAny_Try_except (wpAny_mono ((hb (wCl X.K Wout D l) (X.pn ++ pins) (fun e s₁ => wpAny (model X.prog X.w) X.A (noteFrame e X.env) (fun _ s₂ => wpAny (model X.prog X.w) X.A (setFlight e none)
    (fun _ s₃ => wpAny (model X.prog X.w) X.A (handleBy e X.env (h₀ :: hds)) (SP X pins D) X.xe s₃) X.xe s₂) X.xe s₁) (fun u s' xx => ?_) PassesOwn.looking).run [] s σ H D (I.toTry _) h) (fun f s1 hsp => ?_) (fun _ _ he => he))
  · obtain ⟨a, B, sI, _, σ1, H1, cls, d, rfl, J', nb, up, sky, na, os, ag, wi⟩ := xx
    rw [hs] at sky
    exact Sky.land Zc.steady fr hf sky fun h3 f3 u3 => clauses_go hs hf tk (J'.ofTry ok) nb na os ag (up.trans u3) f3 hh wi
  · cases f with
    | ret u =>
      obtain ⟨v1, σ1, H1, J1, r1, q1⟩ := hsp
      exact ⟨v1, σ1, H1, J1.ofTry ok, r1, q1⟩
    | next => obtain ⟨σ1, H1, J1, q1⟩ := hsp; exact wpAny_execs_nil ⟨σ1, H1, J1.ofTry ok, q1⟩
    | brk => obtain ⟨σ1, H1, J1, q1⟩ := hsp; exact ⟨σ1, H1, J1.ofTry ok, q1⟩
    | cont => obtain ⟨σ1, H1, J1, q1⟩ := hsp; exact ⟨σ1, H1, J1.ofTry ok, q1⟩
end
/-! ## isinstance of the caught error, whether it has a dict or not -/
structure XisC (K : PySem.W.Frag) (C : Addr) : Prop where
  hc : (PySem.W.clsIn K C).isSome = true
  ga : PySem.W.findIn K (.ref C) "__getattribute__" = some (some (.builtin "BaseException.__getattribute__"))
  gt : PySem.W.findIn K (.ref C) "__getattr__" = some none
  sb : PySem.W.subIn K (.ref C) (.type "BaseException") = some true
  cl : PySem.W.findIn K (.ref C) "__class__" = some (some (.builtin "object.__class__"))
  sp : PySem.W.specialIn K (.builtin "object.__class__") "__get__" = some (some (.builtin "getset_descriptor.__get__"))
  tk : PySem.W.takesIn K (.builtin "object.__class__") = some true
  mo : PySem.W.mroIn K C (.type "object") = some true
def rIsX (K : PySem.W.Frag) (cls : Value) (d : Option Addr) (C a : Addr) : List V → Hp → VK → Prop := fun xs H Q => cls = .ref C ∧ ∃ (c : V) (cv : Value) (b : Bool), xs = [.ref a, c] ∧ ClsV c cv ∧ (∀ dd, d = some dd → ∃ fs, H dd = some (.xd fs)) ∧
  PySem.W.kitOne K (.ref C) cv = some b ∧ Q (.bl b) H
section
variable {X : Cx}
theorem call_isX {a C : Addr} {ob : Obj} {cls : Value} {d : Option Addr} {pn : List (Addr × Obj)} (T : XisC X.K C) (hz : Zc cls d ob) (hf : ∃ vs, ob.data = .fields vs) : CallR (X.suite a ((a, ob) :: pn)) (.builtin "isinstance") (rIsX X.K cls d C a) := by
  intro pins s σ H xs us Q I r h
  obtain ⟨ec, c, cv, b, rfl, hcv, hd, e, q⟩ := h
  obtain ⟨u1, u2, rfl, r1, r2⟩ := vals2 r
  have e2 := hcv.eq r2
  subst e2 ec
  obtain rfl : u1 = Value.ref a := r1
  obtain ⟨vs, hv⟩ := hf
  obtain ⟨hget, _⟩ := I.pin (a, ob) (List.mem_append_left _ List.mem_cons_self)
  have nc : PySem.W.notCls ob = true := by unfold PySem.W.notCls; rw [hv]
  have key : ∃ od, PySem.W.InstAt s.heap a ob C od := by
    cases d with
    | none => exact ⟨none, hget, hz.1, nc, by rw [hz.2]; trivial⟩
    | some dd =>
      obtain ⟨fs, hfs⟩ := hd dd rfl
      obtain ⟨mA, ⟨o, _, _, ho, _⟩, _⟩ := (show ObjOk X.prog X.w H s.heap dd (.xd fs) from I.hok dd _ hfs)
      exact ⟨some o, hget, hz.1, nc, by rw [hz.2]; exact ho⟩
  obtain ⟨od, J⟩ := key
  exact PySem.W.kia_one (PySem.W.kitx_exc T.hc T.ga T.gt T.sb T.cl T.sp T.tk T.mo) I.kIn J e (fun z => nomatch z) fun tk => ⟨.bl b, H, I.kept (t' := tk) fun _ _ z => z, rfl, q⟩
/-! ## f(e, ..), f a local name that holds a def which may raise -/
def tCallLS (i : Nat) (f : Addr) (sp : Sp) (E : L2.St → XK) (t : TA) : TE := fun σ H Q => σ[i]? = some (some (.ref f)) ∧ t σ H fun vs H1 => sp vs H1 Q (E σ)
theorem pe_callLS {CX : CXT} {k i : Nat} {f : Addr} {fd : FuncData} {ps : List Str} {sp : Sp} {E : L2.St → XK} {x : Str} {p pos : Pos} {e : Expr} {es : List Expr} {t : TA}
    (F : FnOk X.prog X.w X.K X.mg X.base CX k f fd ps sp) (hr : Room k X.A) (hN : X.N[i]? = some x) (hv : Vis X.env.scope x) (hk : PySem.W.keepIn X.K (.ref f) = true) (hb : Binds X.K fd ps []) (hx : ∀ σ, PassesAt CX X σ (E σ)) (ha : PA X (e :: es) t)
    (hdb : (x == ("__debug__" : Str)) = false := by decide) (hcd : (x == ("__classdict__" : Str)) = false := by decide)
    (he : starEach (e :: es) X.env = (false, eval e X.env) :: starEach es X.env := by rfl) (hpl : (backTo pos (starEach es X.env)).any (·.1) = false := by rfl) : PE X (.Call (.Name x p) (e :: es) [] pos) (tCallLS i f sp E t) := by
  refine ⟨fun pins s σ H Q I ⟨hs, ht⟩ => wpAny_Call_Name_kw (thn ((pe_var (pos := p) hN hv hdb hcd).run pins s σ H (fun v H1 => v = .ref f ∧ H1 = H) I ⟨.ref f, hs, rfl, rfl⟩) fun u s1 ⟨v, H1, I1, r1, e1, e2⟩ => ?_)⟩
  subst e1 e2
  obtain rfl : u = Value.ref f := r1
  exact PySem.W.callWith_K (h₀ := X.base) I.ok.mod.kin hk (thn (ha.run pos pins s1 σ _ _ I1 ht) fun us s2 ⟨vs, H2, I2, r, q⟩ => ⟨I2.kIn, run_fnS F hr hb (hx σ) I2 r q⟩) he hpl
/-! ## C(), an own error class without an __init__ -/
theorem pmk_own0 {C : Addr} {bmB : List Value} {B newId initId : String} {x : Str} {p pos : Pos} (F : ExcBaseFacts B newId initId bmB) (q : PySem.W.excIn X.K C bmB newId = true) (gC : X.mg x = some (.ref C)) (kC : PySem.W.keepIn X.K (.ref C) = true)
    (r : Raises X (.ref C)) (hg : Gl X x) (hdb : (x == ("__debug__" : Str)) = false := by decide) : PMk X (.Call (.Name x p) [] [] pos) (fun _ H Q => Q (.ref C) none H) := by
  intro pins s σ H Q I h
  refine wpAny_Call_Name_kw (ld_glob I hg gC (PySem.W.callWith_K0 I.kIn kC ?_) hdb)
  obtain ⟨_, _, _, _, _, _, _, _, _, _, _, _, _, _, _, _, _, hC, hN, hni, T⟩ := exc_obj I.kIn q
  exact wpAny_call_exc_subT F T hC hN hni (fun h' e hm => mk_of I hm r h (I.hok.gone hm.new)) (by show 0 ≤ sizeLine; omega)
/-! ## // by any great number but 0 -/
theorem op_fdivZ : OpR X (binaryOp .FloorDiv) (rI (fun _ j => j ≠ 0 ∧ j.natAbs.log2 < 9000) fun i j => .int (i.fdiv j)) := opI fun _ _ _ _ _ _ _ hc q => floordiv_int hc.1 q (.inl (PyProof.noPylong_of_log2 hc.2))
/-! ## repr of data -/
def rReprD (K : PySem.W.Frag) : List V → Hp → VK → Prop := fun xs H Q => ∃ (a : Addr) (d : PyData), xs = [.ref a] ∧ Dp K H (.ref a) d ∧ d.showable = true ∧ d.hasDict = false ∧ d.depth ≤ 60 ∧ d.shown.length ≤ sizeLine ∧ Q (.str d.shown) H
theorem call_reprD (hu : X.A.units + 64 < cLine) (hg : X.A.guards = some []) : CallR X (.builtin "repr") (rReprD X.K) := by
  intro pins s σ H xs us Q I r h
  obtain ⟨a, d, rfl, hd, hs, hn, hde, hl, q⟩ := h
  obtain ⟨u, rfl, ru⟩ := vals1 r
  obtain rfl : u = Value.ref a := ru
  obtain ⟨as, rd⟩ := Dp.reads I d _ _ hd rfl
  exact repr_of_reads' rd hs (fun z => by rw [hn] at z; cases z) hg (by omega) (fun _ _ e => e) (fun h' u tk hk => ⟨.str d.shown, H, I.kept (t' := tk) hk, ⟨u, rfl⟩, q⟩) hl
end
end Lc
set_option Elab.async false
set_option linter.all false
set_option maxRecDepth 100000
set_option maxHeartbeats 4000000
namespace Lc
open PySem PySem.Spec PyProof.Rows L2
/-! ## Promises of defs that are called where no repr is under way -/
structure FnG (P : Program) (w : World) (K : PySem.W.Frag) (mg : Str → Option Value) (base : Heap) (k : Nat) (f : Addr) (fd : FuncData) (ps : List Str) (sp : Sp) : Prop where
  len : ∀ vs H Q E, sp vs H Q E → vs.length = ps.length
  run : ∀ (A : Around) (outer : List Env) (s : Shared) (H : Hp) (args : Args) (us : List Value) (vs : List V) (Q : VK) (E : XK), A.guards = some [] → Room k A → Env0 P w K mg base A outer s H → BindsTo s fd args (ps.zip us) → Vals vs us → sp vs H Q E →
    codeAny (model P w) A (.call (.ref f) args) (CR CX0 outer P w H s Q E) s
section
variable {P : Program} {w : World} {K : PySem.W.Frag} {mg : Str → Option Value} {base : Heap}
theorem Fun.okG {x qual : Str} {st : Stmt} {f : Addr} {fd : FuncData} {N ps : List Str} {k : Nat} {sp : Sp} (F : Fun K x qual st f fd) (S : FnScope N ps (defScope st)) (len : ∀ vs H Q E, sp vs H Q E → vs.length = ps.length)
    (go : ∀ (cdv : Value) (A : Around) (outer : List Env) (s : Shared) (H : Hp) (vs : List V) (Q : VK) (E : XK), A.guards = some [] → Room k (A.deeper (envOfC qual (defScope st) s.heap.objs.size f cdv)) → sp vs H Q E →
      ∃ t, PSs (cxOf CX0 P w K mg base N qual (defScope st) f cdv A outer s H E).nox (defBody st) t ∧ t { nx := fun _ H' => Q .non H', rt := Q } (start N vs) H) : FnG P w K mg base (k + 1) f fd ps sp := by
  obtain ⟨oc, od, kV, doc, pm, an, cdv, ct, osl, rfl, lk, hcd⟩ := F.ex
  refine ⟨len, fun A outer s H args us vs Q E hg hr e0 hb r hsp => ?_⟩
  have up : ∀ b o, base.get? b = some o → s.heap.get? b = some o := fun b o z => (e0.bs b o z).1
  have KX := e0.mod.kin.keeps up
  refine codeAny_call_function hr.depth (KX _ _ lk) rfl S.co S.gen rfl (PySem.W.codeRec_of KX hcd) (hb _ _ _ _ ?_)
  refine wpAny_newFunctionEnv_cells S.kind (fun y hy => ?_) fun env he s1 x => ?_
  · rcases S.par y.1 (List.of_mem_zip (a := y.1) (b := y.2) hy).1 with z | z
    · exact .inl z
    · exact .inr ⟨z, PySem.W.cellsFrom_some _ _ _ (.inl z)⟩
  subst he
  obtain ⟨t, ht, hq⟩ := go cdv A outer s H vs Q E hg (hr.deeper _) hsp
  have I : Inv (cxOf CX0 P w K mg base N qual (defScope st) f cdv A outer s H E) [] (start N vs) H s1 := inv_start S hr.hd e0 (len _ _ _ _ hsp) r x
  refine ⟨(e0.mod.nolimit.keeps up).keeps x.toInCall.keep, codeAny_func (wpAny_mono (ht.nox.run [] s1 (start N vs) H _ I hq) (fun fl s' hs => ?_) fun _ _ z => z)⟩
  cases fl with
  | ret u => obtain ⟨v, _, H', J, rv, q⟩ := hs; exact ⟨v, H', J.os, J.bare, J.base, J.hok, rv, q⟩
  | next => obtain ⟨_, H', J, q⟩ := hs; exact ⟨V.non, H', J.os, J.bare, J.base, J.hok, rfl, q⟩
  | brk => obtain ⟨_, _, _, q⟩ := hs; exact q.elim
  | cont => obtain ⟨_, _, _, q⟩ := hs; exact q.elim
end
section
variable {X : Cx} {k : Nat} {f : Addr} {fd : FuncData} {ps : List Str} {sp : Sp} {x : Str} {p pos : Pos} {e : Expr} {es : List Expr} {t : TA}
/-- f(e, ..), f kept under FnG -/
theorem pe_callG (F : FnG X.prog X.w X.K X.mg X.base k f fd ps sp) (gg : X.A.guards = some []) (hr : Room k X.A) (hg : Gl X x) (hm : X.mg x = some (.ref f)) (hk : PySem.W.keepIn X.K (.ref f) = true) (hb : Binds X.K fd ps [])
    (ha : PA X (e :: es) t) (hdb : (x == ("__debug__" : Str)) = false := by decide) (he : starEach (e :: es) X.env = (false, eval e X.env) :: starEach es X.env := by rfl) (hpl : (backTo pos (starEach es X.env)).any (·.1) = false := by rfl) :
    PE X (.Call (.Name x p) (e :: es) [] pos) (tCall sp [] E0 t) := by
  refine ⟨fun pins s σ H Q I h => wpAny_Call_Name_kw (ld_glob I hg hm ?_ hdb)⟩
  refine PySem.W.callWith_K (h₀ := X.base) I.ok.mod.kin hk (thn (ha.run pos pins s σ H _ I h) fun us s1 ⟨vs, H1, I1, r, q⟩ => ⟨I1.kIn, ?_⟩) he hpl
  replace q : sp vs H1 Q E0 := by
    have z : sp (vs ++ []) H1 Q E0 := q
    rw [List.append_nil] at z
    exact z
  have hl : us.length = ps.length := by rw [← r.length]; exact F.len _ _ _ _ q
  have b := hb s1 us I1.kIn (by rw [List.append_nil]; exact hl)
  rw [List.append_nil] at b
  refine wpAny_call (codeAny_mono (F.run X.A X.stack s1 H1 ⟨us, []⟩ us vs Q E0 gg hr I1.env0 b r q) fun rr s' hq => ?_)
  cases rr with
  | error er => exact False.elim hq
  | ok fl =>
    cases fl with
    | ret u => exact I1.after hq
    | next => exact False.elim hq
    | brk => exact False.elim hq
    | cont => exact False.elim hq
end
/-! ## The law itself -/
section
variable {P : Program} {w : World} {K : PySem.W.Frag} {mg mb : Str → Option Value} {k : Nat} {fa a : Addr} {fd : FuncData} {x : Str} {sp : Sp} {s : Shared} {vs : List Value} {ns : List Int}
theorem env_of {H : Hp} (KX : K.In s.heap) (hns : s.heap.Ns mainGlobals mg) (hb : s.heap.Ns builtinsNs mb) (hbb : ∀ x : Str, x ≠ "__name__" → mb x = bootBuiltins x) (hlim : s.heap.NoLimit) (hg : s.gens = #[])
    (ha : s.heap.get? a = some { cls := .type "list", data := .seq vs.toArray }) (hok : HOk P w H s.heap) (one : ∀ b, b ≠ a → H b = none) (nk : H a = none ∨ K.lookup a = none) :
    K.In (hidT s.heap H) ∧ (hidT s.heap H).Ns mainGlobals mg ∧ Env0 P w K mg (hidT s.heap H) callerA [] s H := by
  have keepN : ∀ {b : Addr} {m : Str → Option Value}, s.heap.Ns b m → (hidT s.heap H).Ns b m := by
    rintro b m ⟨o, es, ep, e, d, r⟩
    have nb : b ≠ a := fun z => by
      rw [z, ha] at e
      cases e
      exact nomatch (show Data.seq vs.toArray _ = Data.dict es ep from d)
    exact ⟨o, es, ep, hidT_get e (one b nb), d, r⟩
  have kin : K.In (hidT s.heap H) := fun b o e => hidT_get (KX b o e) (by
    by_cases z : b = a
    · rcases nk with q | q
      · rw [z]; exact q
      · rw [z, q] at e; cases e
    · exact one b z)
  obtain ⟨mc, l1, l2⟩ := hlim
  exact ⟨kin, keepN hns, rfl, ⟨kin, keepN hns, ⟨mb, keepN hb, hbb⟩, ⟨mc, keepN l1, l2⟩⟩, fun b o e => of_hidT e, Nat.le_of_eq (hidT_size _ _), trivial, fun b z => absurd (show b ∈ ([] : List Addr) from z) (by simp), hok, .of_eq hg⟩
theorem law_callG (KX : K.In s.heap) (hns : s.heap.Ns mainGlobals mg) (hb : s.heap.Ns builtinsNs mb) (hbb : ∀ x : Str, x ≠ "__name__" → mb x = bootBuiltins x) (hlim : s.heap.NoLimit) (hg : s.gens = #[])
    (ha : s.heap.get? a = some { cls := .type "list", data := .seq vs.toArray }) (hi : IntsAre vs ns) (hl : ns.length ≤ sizeLine) (hr : Room k callerA)
    (F : ∀ base : Heap, K.In base → base.Ns mainGlobals mg → FnG P w K mg base k fa fd [x] sp) (hbind : ∀ (s : Shared) (u : Value), BindsTo s fd ⟨[u], []⟩ [(x, u)])
    (hsp : ∀ H : Hp, SqL K H a (ns.map V.int) → sp [.ref a] H (fun v _ => v = .bl true) fun _ _ _ => False) :
    codeAny (model P w) callerA (.call (.ref fa) ⟨[.ref a], []⟩) (fun r s' => r = .ok (.ret (.bool true)) ∧ OldK s.heap s'.heap ∧ s'.os = s.os ∧ AllBare s'.gens) s := by
  have rv := vals_ints hi
  have go : ∀ H : Hp, SqL K H a (ns.map V.int) → HOk P w H s.heap → (∀ b, b ≠ a → H b = none) → (H a = none ∨ K.lookup a = none) → (∀ o, H a = some o → ∃ ob u, o = .frz ob u) →
      codeAny (model P w) callerA (.call (.ref fa) ⟨[.ref a], []⟩) (fun r s' => r = .ok (.ret (.bool true)) ∧ OldK s.heap s'.heap ∧ s'.os = s.os ∧ AllBare s'.gens) s := by
    intro H hS hok one nk fz
    obtain ⟨k1, k2, e0⟩ := env_of KX hns hb hbb hlim hg ha hok one nk
    refine codeAny_mono ((F _ k1 k2).run callerA [] s H ⟨[.ref a], []⟩ [.ref a] [.ref a] _ _ rfl hr e0 (hbind s (.ref a)) (.cons rfl .nil) (hsp H hS)) fun r s' h => ?_
    cases r with
    | error _ => exact False.elim h
    | ok fl =>
      cases fl with
      | next => exact False.elim h
      | brk => exact False.elim h
      | cont => exact False.elim h
      | ret u =>
        obtain ⟨v, H', os, bare, un, hok', ru, ev⟩ := h
        subst ev
        obtain rfl : u = Value.bool true := ru
        refine ⟨rfl, OldK.of_keep fun b o e => ?_, os, bare⟩
        cases q : H b with
        | none => exact un.keep b o e q (fun z => absurd (show b ∈ ([] : List Addr) from z) (by simp)) (by simp)
        | some oo =>
          have zb : b = a := Classical.byContradiction fun z => by rw [one b z] at q; cases q
          subst zb
          obtain ⟨ob, u, rfl⟩ := fz oo q
          obtain ⟨e1, _⟩ := hok b _ q
          obtain ⟨e2, _⟩ := hok' b _ (un.frzs b ob u q)
          rw [e] at e1
          cases e1
          exact e2
  cases hk : K.lookup a with
  | some o =>
    have e := KX a o hk
    rw [ha] at e
    cases e
    exact go (fun _ => none) (.inr ⟨_, vs.toArray, _, hk, rfl, rfl, rfl, by rw [List.size_toArray, hi.length]; exact hl, by simpa using rv⟩) (fun b u z => nomatch z) (fun _ _ => rfl) (.inl rfl) (fun o z => nomatch z)
  | none =>
    let ob : Obj := { cls := .type "list", data := .seq vs.toArray }
    refine go (upd (fun _ => none) a (.frz ob (.lst (ns.map V.int)))) (.inl (.inr ⟨ob, upd_same⟩)) (fun b u z => ?_) (fun b z => upd_ne z) (.inr hk) (fun o z => ?_)
    · by_cases q : b = a
      · subst q
        rw [upd_same] at z
        cases z
        exact ⟨ha, by rw [List.length_map]; exact hl, vs, _, rv, ha⟩
      · rw [upd_ne q] at z
        cases z
    · rw [upd_same] at z
      cases z
      exact ⟨_, _, rfl⟩
end
theorem walk_G {l : PySem.W.OpenLaw} {n k : Nat} {q : Program} {loose : List Str} {XP : (Str → Option Value) → Heap → Prop} {YP : World → Heap → Prop} {d : DefRec} {K : Params → PySem.W.Frag} {sp : PySem.W.Frag → Sp} {x : Str}
    (hn : l.most = some n) (hn2 : n ≤ sizeLine) (hdf : d.params.defaults = []) (hr : Room k callerA) (hY : ∀ (w : World) (h : Heap), YP w h → (K w.params).In h)
    (F : ∀ (w : World) (mg : Str → Option Value) (fa : Addr) (h : Heap), (K w.params).In h → h.Ns mainGlobals mg → mg d.name = some (.ref fa) →
      ∃ fd : FuncData, (∀ (s : Shared) (u : Value), BindsTo s fd ⟨[u], []⟩ [(x, u)]) ∧ ∀ base : Heap, (K w.params).In base → base.Ns mainGlobals mg → FnG l.prog w (K w.params) mg base k fa fd [x] (sp (K w.params)))
    (hsp : ∀ (K : PySem.W.Frag) (H : Hp) (a : Addr) (ns : List Int), ns.length ≤ n → SqL K H a (ns.map V.int) → sp K [.ref a] H (fun v _ => v = .bl true) fun _ _ _ => False) :
    PySem.W.WalkO q loose XP YP l.row.toRowW d [] (fun f vs => PySem.call f vs) := by
  refine Att.attach_call hn hdf fun w _ s mg mb fa _ _ _ _ a vs ns G Y _ _ _ hmg hobj hints hlen hg => ?_
  obtain ⟨fd, hb, hF⟩ := F w mg fa _ (hY w _ Y) G.T.g hmg
  exact law_callG (hY w _ Y) G.T.g G.T.b G.T.builtins G.T.nolimit hg hobj hints (Nat.le_trans hlen hn2) hr hF hb fun H hS => hsp _ H a ns hlen hS
end Lc
set_option Elab.async false
set_option linter.all false
set_option maxRecDepth 100000
set_option maxHeartbeats 4000000
namespace Lc
open PySem PySem.Spec PyProof.Rows L2
/-! ## Kinds of values -/
inductive TyN (H : Hp) : V → String → Prop
  | non : TyN H .non "NoneType"
  | bl (b : Bool) : TyN H (.bl b) "bool"
  | int (i : Int) : TyN H (.int i) "int"
  | str (x : Str) : TyN H (.str x) "str"
  | tup {a : Addr} {xs : List V} (e : H a = some (.tup xs)) : TyN H (.ref a) "tuple"
  | lst {a : Addr} {xs : List V} (e : H a = some (.lst xs)) : TyN H (.ref a) "list"
  | dct {a : Addr} {kvs : List (Key × V)} (e : H a = some (.dK kvs)) : TyN H (.ref a) "dict"
theorem TyN.x {K : PySem.W.Frag} {H : Hp} {v : V} {t : String} (h : TyN H v t) : TyX K H v (.type t) := by
  cases h with
  | non => exact .base .non
  | bl b => exact .base (.bl b)
  | int i => exact .base (.int i)
  | str x => exact .base (.str x)
  | tup e => exact .base (.tup e)
  | lst e => exact .base (.lst e)
  | dct e => exact .base (.dK e)
theorem TyN.same {H H' : Hp} {v : V} {t : String} (h : TyN H v t) (s : Same H H') : TyN H' v t := by
  cases h with
  | non => exact .non
  | bl b => exact .bl b
  | int i => exact .int i
  | str x => exact .str x
  | tup e => exact .tup (s _ _ e)
  | lst e => exact .lst (s _ _ e)
  | dct e => exact .dct (s _ _ e)
theorem TyN.isInt {H : Hp} {v : V} {t : String} (h : TyN H v t) (e : t = "int") : ∃ i, v = .int i := by
  cases h <;> first | exact ⟨_, rfl⟩ | exact absurd e (by decide)
theorem TyN.isStr {H : Hp} {v : V} {t : String} (h : TyN H v t) (e : t = "str") : ∃ x, v = .str x := by
  cases h <;> first | exact ⟨_, rfl⟩ | exact absurd e (by decide)
theorem TyN.isTup {H : Hp} {v : V} {t : String} (h : TyN H v t) (e : t = "tuple") : ∃ a xs, v = .ref a ∧ H a = some (.tup xs) := by
  cases h <;> first | exact ⟨_, _, rfl, by assumption⟩ | exact absurd e (by decide)
def tyNames : List String := ["NoneType", "bool", "int", "str", "tuple", "list", "dict"]
theorem TyN.mem {H : Hp} {v : V} {t : String} (h : TyN H v t) : t ∈ tyNames := by
  cases h <;> simp [tyNames]
theorem kit_int {K : PySem.W.Frag} {t : String} (h : t ∈ tyNames) : PySem.W.kitOne K (.type t) (.type "int") = some (t == "int" || t == "bool") := by
  have : ∀ t ∈ tyNames, kitB t "int" = some (t == "int" || t == "bool") := by decide +kernel
  exact kit_ty (this t h)
theorem kit_bool {K : PySem.W.Frag} {t : String} (h : t ∈ tyNames) : PySem.W.kitOne K (.type t) (.type "bool") = some (t == "bool") := by
  have : ∀ t ∈ tyNames, kitB t "bool" = some (t == "bool") := by decide +kernel
  exact kit_ty (this t h)
theorem kit_tuple {K : PySem.W.Frag} {t : String} (h : t ∈ tyNames) : PySem.W.kitOne K (.type t) (.type "tuple") = some (t == "tuple") := by
  have : ∀ t ∈ tyNames, kitB t "tuple" = some (t == "tuple") := by decide +kernel
  exact kit_ty (this t h)
theorem kit_str {K : PySem.W.Frag} {t : String} (h : t ∈ tyNames) : PySem.W.kitOne K (.type t) (.type "str") = some (t == "str") := by
  have : ∀ t ∈ tyNames, kitB t "str" = some (t == "str") := by decide +kernel
  exact kit_ty (this t h)
/-! ## What is a rational -/
def ratB : V → V → Bool
  | .int n, .int d => decide (0 < d) && decide (gd n d = 1)
  | _, _ => false
inductive Rk (H : Hp) : V → Bool → Prop
  | other {v : V} {t : String} (h : TyN H v t) (n : t ≠ "tuple") : Rk H v false
  | len {a : Addr} {xs : List V} (e : H a = some (.tup xs)) (n : xs.length ≠ 2) : Rk H (.ref a) false
  | pair {a : Addr} {x y : V} {tx ty : String} (e : H a = some (.tup [x, y])) (hx : TyN H x tx) (hy : TyN H y ty) : Rk H (.ref a) (ratB x y)
theorem Rk.same {H H' : Hp} {v : V} {b : Bool} (h : Rk H v b) (s : Same H H') : Rk H' v b := by
  cases h with
  | other h n => exact .other (h.same s) n
  | len e n => exact .len (s _ _ e) n
  | pair e hx hy => exact .pair (s _ _ e) (hx.same s) (hy.same s)
theorem Rk.of {H : Hp} {a : Addr} {n d : Int} (e : H a = some (.tup [.int n, .int d])) (r : Rt n d) : Rk H (.ref a) true := by
  have z : ratB (.int n) (.int d) = true := by
    show (decide (0 < d) && decide (gd n d = 1)) = true
    rw [decide_eq_true r.pos, decide_eq_true r.cop]
    rfl
  rw [← z]
  exact .pair e (.int n) (.int d)
/-! ## repr -/
inductive Shw (K : PySem.W.Frag) (H : Hp) : V → Str → Prop
  | data {v : V} {d : PyData} (h : Dp K H v d) (h1 : d.showable = true) (h2 : d.hasDict = false) (h3 : d.depth ≤ 60) (h4 : d.shown.length ≤ sizeLine) : Shw K H v d.shown
  | empty {a : Addr} (e : H a = some (.dK [])) : Shw K H (.ref a) (PyData.dict []).shown
def rReprV (K : PySem.W.Frag) : List V → Hp → VK → Prop := fun xs H Q => ∃ (v : V) (z : Str), xs = [v] ∧ Shw K H v z ∧ Q (.str z) H
theorem call_reprV {X : Cx} (hg : X.A.guards = some []) (hu : X.A.units + 64 < cLine) : CallR X (.builtin "repr") (rReprV X.K) := by
  intro pins s σ H xs us Q I r h
  obtain ⟨v, z, rfl, hd, q⟩ := h
  obtain ⟨u, rfl, ru⟩ := vals1 r
  cases hd with
  | @data _ d hd h1 h2 h3 h4 =>
    obtain ⟨as, rd⟩ := Dp.reads I d _ _ hd ru
    cases hd with
    | non =>
      obtain rfl : u = Value.none := ru
      exact P.repr_of_none ⟨.str _, H, I.tok _, ⟨_, rfl⟩, q⟩
    | bl b =>
      obtain rfl : u = Value.bool b := ru
      exact P.repr_of_bool ⟨.str _, H, I.tok _, ⟨_, rfl⟩, q⟩
    | int i =>
      obtain ⟨t, rfl⟩ := (show ∃ t, u = Value.int i t from ru)
      exact P.repr_of_int (of_decide_eq_true (by simpa [PyData.showable] using h1)) ⟨.str _, H, I.tok _, ⟨_, rfl⟩, q⟩
    | str x =>
      obtain ⟨t, rfl⟩ := (show ∃ t, u = Value.str x t from ru)
      exact P.repr_of_str ⟨.str _, H, I.tok _, ⟨_, rfl⟩, q⟩ h4
    | @lst a xs ds e1 e2 =>
      obtain rfl : u = Value.ref a := ru
      exact repr_of_reads' rd h1 (PyData.noDict_hsm h2) hg (by omega) (fun _ _ e => e) (fun h' u tk hk => ⟨.str _, H, I.kept (t' := tk) hk, ⟨u, rfl⟩, q⟩) h4
    | @tup a xs ds e1 e2 =>
      obtain rfl : u = Value.ref a := ru
      exact repr_of_reads' rd h1 (PyData.noDict_hsm h2) hg (by omega) (fun _ _ e => e) (fun h' u tk hk => ⟨.str _, H, I.kept (t' := tk) hk, ⟨u, rfl⟩, q⟩) h4
  | @empty a e =>
    obtain rfl : u = Value.ref a := ru
    obtain ⟨_, ns, vs, kv, o, es, ep, h1, h2, h3, h4⟩ := (show ObjOk X.prog X.w H s.heap a (.dK []) from I.hok a _ e)
    cases kv
    have es0 : es.toList = [] := by
      obtain ⟨_, hp, _⟩ := h4
      generalize es.toList = l at hp
      cases hp
      rfl
    have rd : Reads s.heap (.ref a) (.dict []) (a :: [] ++ []) := Reads.dict h1 h2.1 h3 (by rw [es0]; exact .nil) (by rw [es0]; exact .nil)
    exact repr_of_reads' rd (by decide) (fun _ hm => by
      have : sysModules = a := by simpa using hm
      rw [this] at ns
      simp at ns) hg (by show X.A.units + (PyData.depth (.dict []) + 1) < cLine; have : PyData.depth (.dict []) ≤ 60 := by decide +kernel
                         omega) (fun _ _ e => e) (fun h' u tk hk => ⟨.str _, H, I.kept (t' := tk) hk, ⟨u, rfl⟩, q⟩) (by decide +kernel)
theorem dp_same {K : PySem.W.Frag} {H H' : Hp} (s : Same H H') : ∀ {v : V} {d : PyData}, Dp K H v d → Dp K H' v d := by
  have sq : ∀ {a xs}, SqT K H a xs → SqT K H' a xs := by
    intro a xs h
    rcases h with (h | ⟨o, h⟩) | h
    · exact .inl (.inl (s _ _ h))
    · exact .inl (.inr ⟨o, s _ _ h⟩)
    · exact .inr h
  intro v d h
  induction h using Dp.rec (motive_2 := fun vs ds _ => DpAll K H' vs ds) with
  | non => exact .non
  | bl b => exact .bl b
  | int i => exact .int i
  | str x => exact .str x
  | lst h1 _ ih => exact .lst (s.seq h1) ih
  | tup h1 _ ih => exact .tup (sq h1) ih
  | nil => exact .nil
  | cons _ _ i1 i2 => exact .cons i1 i2
theorem Shw.same {K : PySem.W.Frag} {H H' : Hp} (s : Same H H') {v : V} {z : Str} (h : Shw K H v z) : Shw K H' v z := by
  cases h with
  | data h h1 h2 h3 h4 => exact .data (dp_same s h) h1 h2 h3 h4
  | empty e => exact .empty (s _ _ e)
theorem Same.upd {H : Hp} {p : Addr} {o : HO} (h : H p = none) : Same H (upd H p o) := fun b u e => by rw [upd_ne (ne_of_none e h)]; exact e
end Lc
set_option Elab.async false
set_option linter.all false
set_option maxRecDepth 100000
set_option maxHeartbeats 4000000
namespace Lc
open PySem PySem.Spec PyProof.Rows L2
/-! ## The law's tape -/
def Tape (H : Hp) (t : Addr) : Prop := ∃ (l : Addr) (ns : List Int) (pos rest mix : Int), H t = some (.lst [.ref l, .int pos, .int rest, .int mix]) ∧ H l = some (.lst (ns.map V.int)) ∧ 0 ≤ pos ∧ 0 ≤ rest ∧ 0 ≤ mix ∧ mix < 2147483647
/-- all but what stands at t is as it was -/
def SameB (t : Addr) (H H' : Hp) : Prop := ∀ b o, b ≠ t → H b = some o → H' b = some o
theorem SameB.refl (t : Addr) (H : Hp) : SameB t H H := fun _ _ _ e => e
theorem SameB.trans {t : Addr} {H H1 H2 : Hp} (a : SameB t H H1) (b : SameB t H1 H2) : SameB t H H2 := fun c o n e => b c o n (a c o n e)
theorem Same.b {H H' : Hp} (t : Addr) (s : Same H H') : SameB t H H' := fun b o _ e => s b o e
theorem SameB.upd {t : Addr} {H : Hp} {o : HO} : SameB t H (upd H t o) := fun b u n e => by rw [upd_ne n]; exact e
theorem tape_ne {l t : Addr} {H : Hp} {ns : List Int} {vs : List V} (h1 : H t = some (.lst (.ref l :: vs))) (h2 : H l = some (.lst (ns.map V.int))) : l ≠ t := by
  refine ne_of h2 h1 fun z => ?_
  cases ns with
  | nil => injection z with z; cases z
  | cons n ns => injection z with z; injection z with z; cases z
theorem Tape.same {H H' : Hp} {t : Addr} (h : Tape H t) (s : Same H H') : Tape H' t := by
  obtain ⟨l, ns, pos, rest, mix, h1, h2, h3⟩ := h
  exact ⟨l, ns, pos, rest, mix, s _ _ h1, s _ _ h2, h3⟩
theorem cut_ints (ns : List Int) (lo hi : Option Int) : ∃ ms : List Int, cutV (ns.map V.int) lo hi = ms.map V.int := by
  unfold cutV
  rw [← List.map_drop, ← List.map_take]
  exact ⟨_, rfl⟩
def spTape (K : PySem.W.Frag) : Sp := fun vs H Q _ => ∃ (a : Addr) (ns : List Int), vs = [.ref a] ∧ SqL K H a (ns.map V.int) ∧ ∀ (t : Addr) (H' : Hp), Same H H' → H t = none → Tape H' t → Q (.ref t) H'
def spDraw : Sp := fun vs H Q _ => ∃ (t : Addr) (many : Int), vs = [.ref t, .int many] ∧ Tape H t ∧ 0 < many ∧ many.natAbs < 2 ^ 4000 ∧ ∀ (k : Int) (H' : Hp), 0 ≤ k → k < many → Tape H' t → SameB t H H' → Q (.int k) H'
def New2' (H : Hp) (Q : VK) (n d : Int) : Prop := ∀ p, H p = none → Q (.ref p) (upd H p (.tup [.int n, .int d]))
def spLowest : Sp := fun vs H Q _ => ∃ n d : Int, vs = [.int n, .int d] ∧ 0 < d ∧ d.natAbs < 2 ^ 4000 ∧ New2' H Q (lowN n d) (lowD n d)
def spRational : Sp := fun vs H Q _ => ∃ (t : Addr) (b : Bool), vs = [.ref t, .bl b] ∧ Tape H t ∧ ∀ (p : Addr) (n d : Int) (H' : Hp), Rt n d → n.natAbs < 2 ^ 140 → d.natAbs < 2 ^ 140 → H' p = some (.tup [.int n, .int d]) → H p = none → Tape H' t → SameB t H H' → Q (.ref p) H'
theorem log_lt' {n : Int} (h : n.natAbs < 2 ^ 4000) : n.natAbs.log2 < 9000 := by
  by_cases z : n.natAbs = 0
  · rw [z]
    decide
  · exact Nat.lt_of_lt_of_le ((Nat.log2_lt z).mpr h) (by decide)
end Lc
namespace Lc
open PySem PySem.Spec PyProof.Rows L2
theorem SameB.free {t p : Addr} {H H' : Hp} (s : SameB t H H') (h : Tape H' t) (e : H' p = none) : H p = none := by
  cases q : H p with
  | none => rfl
  | some o =>
    by_cases z : p = t
    · subst z
      obtain ⟨_, _, _, _, _, h1, _⟩ := h
      rw [h1] at e
      cases e
    · rw [s p o z q] at e
      cases e
theorem Tape.ne {t p : Addr} {H : Hp} (h : Tape H t) (e : H p = none) : p ≠ t := by
  intro z
  subst z
  obtain ⟨_, _, _, _, _, h1, _⟩ := h
  rw [h1] at e
  cases e
theorem Tape.neT {t p : Addr} {H : Hp} {xs : List V} (h : Tape H t) (e : H p = some (.tup xs)) : p ≠ t := by
  intro z
  subst z
  obtain ⟨_, _, _, _, _, h1, _⟩ := h
  rw [h1] at e
  cases e
theorem p18 : (10 : Int) ^ (18 : Int).toNat = 1000000000000000000 := by decide
theorem p40 : (10 : Int) ^ (40 : Int).toNat = 10000000000000000000000000000000000000000 := by decide
end Lc
namespace Lc
open PySem PySem.Spec PyProof.Rows L2
/-- the tape, its list at l -/
def TapeL (l : Addr) (H : Hp) (t : Addr) : Prop := ∃ (ns : List Int) (pos rest mix : Int), H t = some (.lst [.ref l, .int pos, .int rest, .int mix]) ∧ H l = some (.lst (ns.map V.int)) ∧ 0 ≤ pos ∧ 0 ≤ rest ∧ 0 ≤ mix ∧ mix < 2147483647
theorem TapeL.tape {l : Addr} {H : Hp} {t : Addr} (h : TapeL l H t) : Tape H t := ⟨l, h⟩
theorem TapeL.same {l : Addr} {H H' : Hp} {t : Addr} (h : TapeL l H t) (s : Same H H') : TapeL l H' t := by
  obtain ⟨ns, pos, rest, mix, h1, h2, h3⟩ := h
  exact ⟨ns, pos, rest, mix, s _ _ h1, s _ _ h2, h3⟩
theorem TapeL.list {l : Addr} {H : Hp} {t : Addr} (h : TapeL l H t) : ∃ xs, H l = some (.lst xs) := by
  obtain ⟨ns, pos, rest, mix, h1, h2, h3⟩ := h
  exact ⟨_, h2⟩
/-- another object is written -/
theorem TapeL.upd {l : Addr} {H : Hp} {t a : Addr} {o : HO} (h : TapeL l H t) (n1 : a ≠ t) (n2 : a ≠ l) : TapeL l (upd H a o) t := by
  obtain ⟨ns, pos, rest, mix, h1, h2, h3⟩ := h
  exact ⟨ns, pos, rest, mix, by rw [upd_ne (Ne.symm n1)]; exact h1, by rw [upd_ne (Ne.symm n2)]; exact h2, h3⟩
def spDrawL : Sp := fun vs H Q _ => ∃ (t l : Addr) (many : Int), vs = [.ref t, .int many] ∧ TapeL l H t ∧ 0 < many ∧ many.natAbs < 2 ^ 4000 ∧ ∀ (k : Int) (H' : Hp), 0 ≤ k → k < many → TapeL l H' t → SameB t H H' → Q (.int k) H'
theorem fn_weak {P : Program} {w : World} {K : PySem.W.Frag} {mg : Str → Option Value} {base : Heap} {CX : CXT} {k : Nat} {f : Addr} {fd : FuncData} {ps : List Str} {sp sp' : Sp} (h : ∀ vs H Q E, sp vs H Q E → sp' vs H Q E) (F : FnOk P w K mg base CX k f fd ps sp') : FnOk P w K mg base CX k f fd ps sp :=
  ⟨fun vs H Q E z => F.len vs H Q E (h vs H Q E z), fun A outer s H args us vs Q E a b c d z => F.run A outer s H args us vs Q E a b c d (h vs H Q E z)⟩
theorem draw_weak {vs : List V} {H : Hp} {Q : VK} {E : XK} (h : spDraw vs H Q E) : spDrawL vs H Q E := by
  obtain ⟨t, m, e, ⟨l, hT⟩, h1, h2, k⟩ := h
  exact ⟨t, l, m, e, hT, h1, h2, fun k1 H' a b c d => k k1 H' a b c.tape d⟩
end Lc
set_option Elab.async false
set_option linter.all false
set_option maxRecDepth 100000
set_option maxHeartbeats 4000000
namespace Lc
open PySem PySem.Spec PyProof.Rows L2
/-- names of built-ins that no text binds -/
structure Bt (mg : Str → Option Value) : Prop where
  isi : mg "isinstance" = none
  int : mg "int" = none
  bool : mg "bool" = none
  str : mg "str" = none
  tuple : mg "tuple" = none
  list : mg "list" = none
  dict : mg "dict" = none
  len : mg "len" = none
  abs : mg "abs" = none
  min : mg "min" = none
  all : mg "all" = none
  repr : mg "repr" = none
  range : mg "range" = none
  enum : mg "enumerate" = none
  ve : mg "ValueError" = none
  zd : mg "ZeroDivisionError" = none
  ie : mg "IndexError" = none
  oe : mg "OverflowError" = none
def btNames : List Str := ["isinstance", "int", "bool", "str", "tuple", "list", "dict", "len", "abs", "min", "all", "repr", "range", "enumerate", "ValueError", "ZeroDivisionError", "IndexError", "OverflowError"]
/-! ## x is True, x any value -/
def rIsBA : R2 := fun x y H Q => ∃ b : Bool, y = .bl b ∧ Q (.bl (decide (x = .bl b))) H
theorem op_isBA {X : Cx} : OpR X (compareOp .Is) rIsBA := by
  intro pins s σ H x y v u Q I rx ry h
  obtain ⟨b, rfl, q⟩ := h
  cases (show u = Value.bool b from ry)
  have key : plainIs v (.bool b) = true ∧ (v == Value.bool b) = decide (x = .bl b) := by
    cases x with
    | non => cases (show v = Value.none from rx); exact ⟨rfl, by cases b <;> rfl⟩
    | bl c => cases (show v = Value.bool c from rx); exact ⟨rfl, by cases b <;> cases c <;> rfl⟩
    | int i => obtain ⟨t, rfl⟩ := (show ∃ t, v = Value.int i t from rx); exact ⟨rfl, by cases b <;> rfl⟩
    | str i => obtain ⟨t, rfl⟩ := (show ∃ t, v = Value.str i t from rx); exact ⟨rfl, by cases b <;> rfl⟩
    | byt i => obtain ⟨t, rfl⟩ := (show ∃ t, v = Value.bytes i t from rx); exact ⟨rfl, by cases b <;> rfl⟩
    | flt i => obtain ⟨t, rfl⟩ := (show ∃ t, v = Value.float i t from rx); exact ⟨rfl, by cases b <;> rfl⟩
    | ref a => cases (show v = Value.ref a from rx); exact ⟨rfl, by cases b <;> rfl⟩
    | ty n => cases (show v = Value.type n from rx); exact ⟨rfl, by cases b <;> rfl⟩
  refine wpAny_is_plain key.1 ?_
  rw [key.2]
  exact ⟨.bl _, H, I, rfl, q⟩
/-! ## Texts of few signs -/
structure Sh (n : Nat) (x : Str) : Prop where
  len : x.cps.toList.length ≤ n
  ok : ∀ c ∈ x.cps.toList, c < 1114112
theorem Sh.mono {n m : Nat} {x : Str} (h : Sh n x) (l : n ≤ m) : Sh m x := ⟨Nat.le_trans h.len l, h.ok⟩
theorem Sh.line {n : Nat} {x : Str} (h : Sh n x) (l : n ≤ 1000) : x.length ≤ sizeLine := by
  have : x.length = x.cps.toList.length := by show x.cps.size = _; simp
  rw [this]
  exact Nat.le_trans h.len (Nat.le_trans l (by decide))
theorem sh_app {n m : Nat} {x y : Str} (h : Sh n x) (g : Sh m y) : Sh (n + m) (x ++ y) := by
  have e : (x ++ y).cps.toList = x.cps.toList ++ y.cps.toList := by
    show (x.cps ++ y.cps).toList = _
    simp
  refine ⟨?_, fun c hc => ?_⟩
  · rw [e, List.length_append]
    exact Nat.add_le_add h.len g.len
  · rw [e] at hc
    rcases List.mem_append.mp hc with hc | hc
    · exact h.ok c hc
    · exact g.ok c hc
theorem sh_one {c : Nat} (h : c < 1114112) : Sh 1 ⟨#[c]⟩ := ⟨Nat.le_refl _, fun d hd => by
  have : d = c := by simpa using hd
  rw [this]
  exact h⟩
theorem sh_sub {n : Nat} {x : Str} {l : List Nat} (h : Sh n x) (s : l.Sublist x.cps.toList) : Sh n ⟨l.toArray⟩ := by
  refine ⟨?_, fun c hc => ?_⟩
  · show l.toArray.toList.length ≤ n
    exact Nat.le_trans s.length_le h.len
  · exact h.ok c (s.subset (by simpa using hc))
theorem sh_cut {n : Nat} {x : Str} (lo hi : Option Int) (h : Sh n x) : Sh n (cutS x lo hi) := sh_sub h ((List.take_sublist _ _).trans (List.drop_sublist _ _))
theorem foldl_app : ∀ (l : List (Array Nat)) (a : Array Nat), (l.foldl (· ++ ·) a).toList = a.toList ++ (l.map Array.toList).flatten
  | [], a => by simp
  | b :: l, a => by
    show ((l.foldl (· ++ ·) (a ++ b))).toList = _
    rw [foldl_app l (a ++ b)]
    simp [List.append_assoc]
theorem sh_mul {x : Str} {n k : Nat} {i : Int} (h : Sh n x) (hi : i.toNat ≤ k) (hn : n ≤ 1) : Sh k (Txt.mul x i) := by
  unfold Txt.mul
  by_cases h1 : i < 1
  · rw [if_pos h1]
    exact ⟨Nat.zero_le _, fun c hc => by cases (by simpa [Str.empty] using hc : c ∈ ([] : List Nat))⟩
  · rw [if_neg h1]
    by_cases h2 : (i == 1 || x.length == 0) = true
    · rw [if_pos h2]
      exact h.mono (by omega)
    · rw [if_neg h2]
      have e : ((List.replicate i.toNat x.cps).foldl (· ++ ·) #[]).toList = (List.replicate i.toNat x.cps.toList).flatten := by
        rw [foldl_app]
        simp
      refine ⟨?_, fun c hc => ?_⟩
      · show ((List.replicate i.toNat x.cps).foldl (· ++ ·) #[]).toList.length ≤ k
        rw [e, List.length_flatten]
        have : ((List.replicate i.toNat x.cps.toList).map List.length).sum ≤ i.toNat * 1 := by
          have key : ∀ m : Nat, ((List.replicate m x.cps.toList).map List.length).sum ≤ m * 1 := by
            intro m
            induction m with
            | zero => simp
            | succ m ih =>
              rw [List.replicate_succ, List.map_cons, List.sum_cons]
              have := Nat.le_trans h.len hn
              omega
          exact key _
        omega
      · have hc : c ∈ ((List.replicate i.toNat x.cps).foldl (· ++ ·) #[]).toList := hc
        rw [e] at hc
        obtain ⟨l, hl, hcl⟩ := List.mem_flatten.mp hc
        rw [List.eq_of_mem_replicate hl] at hcl
        exact h.ok c hcl
theorem mul_ok {x : Str} {i : Int} (h : x.cps.size ≤ 1) (h2 : i < 1000) (h3 : -1000 < i) : MulOk x i := by
  have hx : x.length ≤ 1 := h
  refine ⟨by simp; omega, fun h1 _ => ?_, fun h1 _ => ?_⟩
  · have : (2 ^ 63 - 1 : Int) / i ≥ 1 := by
      have : (1 : Int) * i ≤ 2 ^ 63 - 1 := by omega
      exact (Int.le_ediv_iff_mul_le (by omega)).mpr this
    omega
  · unfold Builtin.Str.tooLong
    have : x.length * i.toNat ≤ 1000 := by
      have : x.length * i.toNat ≤ 1 * i.toNat := Nat.mul_le_mul_right _ hx
      omega
    have : ¬ (x.length * i.toNat > sizeLine) := by
      have : (1000 : Nat) ≤ sizeLine := by decide
      omega
    simpa using this
def rMulS : R2 := fun x y H Q => ∃ (z : Str) (i : Int), x = .str z ∧ y = .int i ∧ MulOk z i ∧ Q (.str (Txt.mul z i)) H
theorem op_mulS {X : Cx} : OpR X (binaryOp .Mult) rMulS := by
  intro pins s σ H x y v u Q I rx ry h
  obtain ⟨z, i, rfl, rfl, ok, q⟩ := h
  obtain ⟨t, rfl⟩ := (show ∃ t, v = Value.str z t from rx)
  obtain ⟨t2, rfl⟩ := (show ∃ t, u = Value.int i t from ry)
  exact SB.mul ok fun t' k => ⟨.str _, H, I.tok _, ⟨_, rfl⟩, q⟩
theorem glued_sh : ∀ (ys : List Str), (∀ y ∈ ys, Sh 1 y) → Sh ys.length (Str.join Str.empty ys)
  | [], _ => ⟨Nat.le_refl _, fun c hc => by cases (by simpa [Str.join, Str.empty] using hc : c ∈ ([] : List Nat))⟩
  | [x], h => h x List.mem_cons_self
  | x :: y :: r, h => by
    have ih := glued_sh (y :: r) fun z hz => h z (List.mem_cons_of_mem _ hz)
    have e : Str.join Str.empty (x :: y :: r) = x ++ Str.empty ++ Str.join Str.empty (y :: r) := rfl
    rw [e]
    have s0 : Sh 0 Str.empty := ⟨Nat.le_refl _, fun c hc => by cases (by simpa [Str.empty] using hc : c ∈ ([] : List Nat))⟩
    exact (sh_app (sh_app (h x List.mem_cons_self) s0) ih).mono (by simp; omega)
/-! ## repr of a short text, of a bounded number -/
theorem shw_text {K : PySem.W.Frag} {H : Hp} {n : Nat} {x : Str} (h : Sh n x) (l : n ≤ 1000) : Shw K H (.str x) (PyData.str x).shown := by
  refine .data (.str x) rfl rfl (by simp [PyData.depth]) ?_
  show (reprText x).length ≤ sizeLine
  have := StrLaws.reprText_len x (fun c hc => Nat.lt_trans (h.ok c hc) (by decide))
  have e : x.length = x.cps.toList.length := by show x.cps.size = _; simp
  have := h.len
  have : (10002 : Nat) ≤ sizeLine := by decide
  omega
theorem num_len {i : Int} (h : i.natAbs < 2 ^ 1000) : (PyData.int i).showable = true ∧ (PyData.int i).shown.length ≤ 1921 := by
  have l : i.natAbs.log2 < 1920 := by
    by_cases z : i.natAbs = 0
    · rw [z]
      decide
    · exact Nat.lt_of_lt_of_le ((Nat.log2_lt z).mpr h) (by decide)
  exact ⟨decide_eq_true l, int_text_len_1921 l⟩
end Lc
namespace Lc
open PySem PySem.Spec PyProof.Rows L2
/-! ## Names -/
def letters : Str := "abcdefghijklmnopqrstuvwxyz"
def signs : Str := "abcdefghijklmnopqrstuvwxyz0123456789"
def inS (c : Nat) : Bool := decide (c ∈ signs.cps.toList)
def inL (c : Nat) : Bool := decide (c ∈ letters.cps.toList)
def nameL : List Nat → Bool
  | [] => false
  | c :: r => decide ((c :: r).length ≤ 12) && (inL c && (c :: r).all inS)
def nameB : V → Bool
  | .str x => nameL x.cps.toList
  | _ => false
abbrev rInS : R2 := fun x y H Q => ∃ (c : Nat) (z : Str), x = .str ⟨#[c]⟩ ∧ y = .str z ∧ Q (.bl (decide (c ∈ z.cps.toList))) H
def spName : Sp := fun vs H Q _ => ∃ (v : V) (t : String), vs = [v] ∧ TyN H v t ∧ (∀ x, v = .str x → x.length ≤ sizeLine) ∧ ∀ H', Same H H' → Q (.bl (nameB v)) H'
def spLName : Sp := fun vs H Q _ => ∃ t : Addr, vs = [.ref t] ∧ Tape H t ∧ ∀ (x : Str) (H' : Hp), Sh 12 x → Tape H' t → SameB t H H' → Q (.str x) H'
theorem lenL (x : Str) : x.length = x.cps.toList.length := by show x.cps.size = _; simp
theorem nil_of {x : Str} (h : x.cps.toList = []) : x = ⟨#[]⟩ := by
  obtain ⟨⟨l⟩⟩ := x
  have : l = [] := h
  rw [this]
theorem dec_empty (x : Str) : decide (V.str x = V.str "") = decide (x.cps.toList = []) := by
  rw [Bool.eq_iff_iff, decide_eq_true_iff, decide_eq_true_iff]
  constructor
  · intro h
    injection h with h
    rw [h]
    rfl
  · intro h
    rw [nil_of h]
    rfl
theorem name_nil {x : Str} (h : x.cps.toList = []) : nameB (.str x) = false := by
  show nameL x.cps.toList = false
  rw [h]
  rfl
theorem name_long {x : Str} (h : ¬ x.cps.toList.length ≤ 12) : nameB (.str x) = false := by
  show nameL x.cps.toList = false
  cases e : x.cps.toList with
  | nil => rfl
  | cons c r =>
    rw [e] at h
    show (decide ((c :: r).length ≤ 12) && _) = false
    rw [decide_eq_false h]
    rfl
theorem name_is {x : Str} {c : Nat} {r : List Nat} (e : x.cps.toList = c :: r) (h : x.cps.toList.length ≤ 12) : nameB (.str x) = (inL c && (c :: r).all inS) := by
  show nameL x.cps.toList = _
  rw [e] at h ⊢
  show (decide ((c :: r).length ≤ 12) && _) = _
  rw [decide_eq_true h]
  rfl
/-- the list of a comprehension over a text's signs, as it grows -/
theorem grow {x : Str} {i : Nat} {c : Nat} (h : x.cps[i]? = some c) (p : Nat → Bool) : (x.cps.toList.take i).map (fun c => V.bl (p c)) ++ [V.bl (p c)] = (x.cps.toList.take (i + 1)).map fun c => V.bl (p c) := by
  have h2 : x.cps.toList[i]? = some c := by rw [Array.getElem?_toList]; exact h
  rw [List.take_succ, h2, List.map_append]
  rfl
end Lc
namespace Lc
open PySem PySem.Spec PyProof.Rows L2
theorem cut26 : cutS signs none (some 26) = letters := by decide +kernel
theorem signs_ok : ∀ c ∈ signs.cps.toList, c < 1114112 := by decide +kernel
theorem signs_len : signs.cps.toList.length = 36 := by decide +kernel
theorem at_text {l : List Nat} {i : Int} (h0 : 0 ≤ i) (h1 : i < (l.length : Int)) : ∃ c, atI l i = some c ∧ c ∈ l := by
  obtain ⟨n, rfl⟩ : ∃ n : Nat, i = (n : Int) := ⟨i.toNat, by omega⟩
  have h : n < l.length := by omega
  exact ⟨l[n], atI_nat (List.getElem?_eq_getElem h), List.getElem_mem h⟩
theorem big1000 {z : Int} (h1 : 0 ≤ z) (h2 : z ≤ 1000) : z.natAbs < 2 ^ 4000 := by
  have e : (2 : Nat) ^ 10 = 1024 := by decide
  exact Nat.lt_of_lt_of_le (show z.natAbs < 2 ^ 10 by omega) (Nat.pow_le_pow_right (by decide) (by decide))
theorem sh_a : Sh 1 (PySem.Str.ofString "a") := ⟨by decide +kernel, by decide +kernel⟩
theorem a_size : (PySem.Str.ofString "a").cps.size ≤ 1 := by decide +kernel
theorem sh_len {n : Nat} {x : Str} (h : Sh n x) : x.length ≤ n := by rw [lenL]; exact h.len
end Lc
namespace Lc
open PySem PySem.Spec PyProof.Rows L2
theorem join_sh (ys : List Str) (h : ∀ y ∈ ys, Sh 1 y) : Sh ys.length (Txt.join (PySem.Str.ofString "") ys) := by
  have e : Txt.join (PySem.Str.ofString "") ys = Str.join Str.empty ys := by
    exact (StrLaws.glued_eq_join (PySem.Str.ofString "") ys).trans rfl
  rw [e]
  exact glued_sh ys h
end Lc
set_option Elab.async false
set_option linter.all false
set_option maxRecDepth 100000
set_option maxHeartbeats 4000000
namespace Lc
open PySem PySem.Spec PyProof.Rows L2
/-! ## Flat values and what they are shown as -/
structure Fl (v : V) (d : PyData) (s : String) : Prop where
  dp : ∀ (K : PySem.W.Frag) (H : Hp), Dp K H v d
  ty : ∀ H : Hp, TyN H v s
  sh : d.showable = true
  nd : d.hasDict = false
  dz : d.depth = 0
  ln : d.shown.length ≤ 20000
theorem fl_non : Fl .non .none "NoneType" := ⟨fun _ _ => .non, fun _ => .non, rfl, rfl, rfl, by decide +kernel⟩
theorem fl_bl (b : Bool) : Fl (.bl b) (.bool b) "bool" := ⟨fun _ _ => .bl b, fun _ => .bl b, rfl, rfl, rfl, by cases b <;> decide +kernel⟩
theorem fl_int {i : Int} (h : i.natAbs < 2 ^ 1000) : Fl (.int i) (.int i) "int" := ⟨fun _ _ => .int i, fun _ => .int i, (num_len h).1, rfl, rfl, Nat.le_trans (num_len h).2 (by decide)⟩
theorem fl_str {x : Str} {n : Nat} (h : Sh n x) (l : n ≤ 1930) : Fl (.str x) (.str x) "str" := by
  refine ⟨fun _ _ => .str x, fun _ => .str x, rfl, rfl, rfl, ?_⟩
  show (reprText x).length ≤ 20000
  have := StrLaws.reprText_len x (fun c hc => Nat.lt_trans (h.ok c hc) (by decide))
  have e := lenL x
  have := h.len
  omega
theorem sh_string (s : String) : ∀ c ∈ (PySem.Str.ofString s).cps.toList, c < 1114112 := by
  intro c hc
  rw [Str.ofString_eq_toList] at hc
  have hc : c ∈ s.toList.map Char.toNat := by simpa using hc
  obtain ⟨ch, _, rfl⟩ := List.mem_map.mp hc
  have := ch.valid
  rcases this with h | ⟨_, h⟩
  · exact Nat.lt_trans h (by decide)
  · exact h
theorem sh_num {i : Int} (h : i.natAbs < 2 ^ 1000) : Sh 1921 (PySem.Str.ofString (toString i)) := ⟨by rw [← lenL]; exact (num_len h).2, sh_string _⟩
/-! ## Things: is it a number within the limit, how is it shown -/
def lim : Int := 10000000000000000000000000000000000000000
def limB : V → V → Bool
  | .int n, .int d => decide ((if n < 0 then -n else n) ≤ lim) && decide (d ≤ lim)
  | _, _ => false
def numB (x y : V) : Bool := ratB x y && limB x y
inductive Thing (H : Hp) : V → Bool → Prop
  | other {v : V} {t : String} (h : TyN H v t) (n : t ≠ "tuple") (l : ∀ x, v = .str x → x.length ≤ sizeLine) : Thing H v false
  | len {a : Addr} {xs : List V} (e : H a = some (.tup xs)) (n : xs.length ≠ 2) : Thing H (.ref a) false
  | pair {a : Addr} {x y : V} {tx ty : String} (e : H a = some (.tup [x, y])) (hx : TyN H x tx) (hy : TyN H y ty) : Thing H (.ref a) (numB x y)
theorem Thing.same {H H' : Hp} {v : V} {b : Bool} (h : Thing H v b) (s : Same H H') : Thing H' v b := by
  cases h with
  | other h n l => exact .other (h.same s) n l
  | len e n => exact .len (s _ _ e) n
  | pair e hx hy => exact .pair (s _ _ e) (hx.same s) (hy.same s)
theorem Thing.ty {H : Hp} {v : V} {b : Bool} (h : Thing H v b) : ∃ t, TyN H v t ∧ ∀ x, v = .str x → x.length ≤ sizeLine := by
  cases h with
  | other h n l => exact ⟨_, h, l⟩
  | len e n => exact ⟨_, .tup e, fun x z => nomatch z⟩
  | pair e hx hy => exact ⟨_, .tup e, fun x z => nomatch z⟩
/-- whatever is done to the tape at t -/
def Thg (K : PySem.W.Frag) (t : Addr) (H : Hp) (v : V) : Prop := ∃ (b : Bool) (z : Str), ∀ H', SameB t H H' → Thing H' v b ∧ Shw K H' v z
theorem thg_flat {K : PySem.W.Frag} {t : Addr} {H : Hp} {v : V} {d : PyData} {s : String} (h : Fl v d s) (n : s ≠ "tuple") (l : ∀ x, v = .str x → x.length ≤ sizeLine) : Thg K t H v :=
  ⟨false, d.shown, fun H' _ => ⟨.other (h.ty H') n l, .data (h.dp K H') h.sh h.nd (by rw [h.dz]; decide) (Nat.le_trans h.ln (by decide))⟩⟩
/-- the items of a display -/
inductive Fls : List V → List PyData → Prop
  | nil : Fls [] []
  | cons {v : V} {d : PyData} {s : String} {vs : List V} {ds : List PyData} (h : Fl v d s) (r : Fls vs ds) : Fls (v :: vs) (d :: ds)
theorem Fls.dps {K : PySem.W.Frag} {H : Hp} : ∀ {vs : List V} {ds : List PyData}, Fls vs ds → DpAll K H vs ds
  | _, _, .nil => .nil
  | _, _, .cons h r => .cons (h.dp K H) r.dps
theorem Fls.facts : ∀ {vs : List V} {ds : List PyData}, Fls vs ds → PyData.showableAll ds = true ∧ PyData.hasDictAll ds = false ∧ PyData.depthAll ds = 0 ∧ ((PyData.shownAll ds).map (·.length)).sum ≤ 20000 * ds.length ∧ (PyData.shownAll ds).length = ds.length ∧ ds.length = vs.length
  | _, _, .nil => ⟨rfl, rfl, rfl, by simp [PyData.shownAll], rfl, rfl⟩
  | _, _, .cons (d := d) (ds := ds) h r => by
    obtain ⟨h1, h2, h3, h4, h5, h6⟩ := r.facts
    refine ⟨?_, ?_, ?_, ?_, ?_, ?_⟩
    · simp [PyData.showableAll, h.sh, h1]
    · simp [PyData.hasDictAll, h.nd, h2]
    · simp [PyData.depthAll, h.dz, h3]
    · simp only [PyData.shownAll, List.map_cons, List.sum_cons, List.length_cons]
      have := h.ln
      omega
    · simp [PyData.shownAll, h5]
    · simp [h6]
theorem shw_tup {K : PySem.W.Frag} {H : Hp} {a : Addr} {vs : List V} {ds : List PyData} (e : H a = some (.tup vs)) (h : Fls vs ds) (l : vs.length ≤ 100) : Shw K H (.ref a) (PyData.tuple ds).shown := by
  obtain ⟨h1, h2, h3, h4, h5, h6⟩ := h.facts
  refine .data (.tup (SqT.of e) h.dps) (by simpa [PyData.showable] using h1) (by simpa [PyData.hasDict] using h2) (by simp [PyData.depth, h3]) ?_
  have := tupleText_len_le (PyData.shownAll ds)
  have s : (3000000 : Nat) ≤ sizeLine := by decide
  simp only [PyData.shown]
  omega
theorem shw_lst {K : PySem.W.Frag} {H : Hp} {a : Addr} {vs : List V} {ds : List PyData} (e : H a = some (.lst vs)) (h : Fls vs ds) (l : vs.length ≤ 100) : Shw K H (.ref a) (PyData.list ds).shown := by
  obtain ⟨h1, h2, h3, h4, h5, h6⟩ := h.facts
  refine .data (.lst (SqL.of e) h.dps) (by simpa [PyData.showable] using h1) (by simpa [PyData.hasDict] using h2) (by simp [PyData.depth, h3]) ?_
  have := listText_len_le (PyData.shownAll ds)
  have s : (3000000 : Nat) ≤ sizeLine := by decide
  simp only [PyData.shown]
  omega
theorem thg_tup {K : PySem.W.Frag} {t a : Addr} {H : Hp} {vs : List V} {ds : List PyData} (n : a ≠ t) (e : H a = some (.tup vs)) (h : Fls vs ds) (l : vs.length ≤ 100) : Thg K t H (.ref a) := by
  by_cases z : vs.length = 2
  · match vs, h, z with
    | [x, y], .cons h1 (.cons h2 .nil), _ => exact ⟨numB x y, _, fun H' s => ⟨.pair (s _ _ n e) (h1.ty H') (h2.ty H'), shw_tup (s _ _ n e) (.cons h1 (.cons h2 .nil)) (by show 2 ≤ 100; decide)⟩⟩
  · exact ⟨false, _, fun H' s => ⟨.len (s _ _ n e) z, shw_tup (s _ _ n e) h l⟩⟩
theorem thg_lst {K : PySem.W.Frag} {t a : Addr} {H : Hp} {vs : List V} {ds : List PyData} (n : a ≠ t) (e : H a = some (.lst vs)) (h : Fls vs ds) (l : vs.length ≤ 100) : Thg K t H (.ref a) :=
  ⟨false, _, fun H' s => ⟨.other (.lst (s _ _ n e)) (by decide) (fun x z => nomatch z), shw_lst (s _ _ n e) h l⟩⟩
theorem thg_dct {K : PySem.W.Frag} {t a : Addr} {H : Hp} (n : a ≠ t) (e : H a = some (.dK [])) : Thg K t H (.ref a) :=
  ⟨false, _, fun H' s => ⟨.other (.dct (s _ _ n e)) (by decide) (fun x z => nomatch z), .empty (s _ _ n e)⟩⟩
theorem Thg.sameB {K : PySem.W.Frag} {t : Addr} {H H' : Hp} {v : V} (h : Thg K t H v) (s : SameB t H H') : Thg K t H' v := by
  obtain ⟨b, z, k⟩ := h
  exact ⟨b, z, fun H2 s2 => k H2 (s.trans s2)⟩
theorem thg_str {K : PySem.W.Frag} {t : Addr} {H : Hp} {n : Nat} {x : Str} (h : Sh n x) (l : n ≤ 1930) : Thg K t H (.str x) :=
  thg_flat (fl_str h l) (by decide) fun y e => by
    injection e with e
    subst e
    rw [lenL]
    exact Nat.le_trans h.len (Nat.le_trans l (by decide))
end Lc
namespace Lc
open PySem PySem.Spec PyProof.Rows L2
theorem ratB_ints {x y : V} (h : ratB x y = true) : ∃ n d : Int, x = .int n ∧ y = .int d ∧ 0 < d ∧ gd n d = 1 := by
  cases x with
  | int n =>
    cases y with
    | int d =>
      have h' : (decide (0 < d) && decide (gd n d = 1)) = true := h
      obtain ⟨h1, h2⟩ := Bool.and_eq_true_iff.mp h'
      exact ⟨n, d, rfl, rfl, of_decide_eq_true h1, of_decide_eq_true h2⟩
    | _ => cases h
  | _ => cases y <;> cases h
end Lc
namespace Lc
open PySem PySem.Spec PyProof.Rows L2
/-! ## A word behind an expression: what follows is shown once -/
def tMid (te : TE) : TE := fun σ H Q => ∃ M : V → Hp → Prop, te σ H M ∧ ∀ v H', M v H' → Q v H'
theorem pe_mid {X : Cx} {e : Expr} {te : TE} (h : PE X e te) : PE X e (tMid te) := by
  refine ⟨fun pins s σ H Q I hq => ?_⟩
  obtain ⟨M, h1, h2⟩ := hq
  exact thn (h.run pins s σ H M I h1) fun u s1 ⟨v, H1, I1, r, q⟩ => ⟨v, H1, I1, r, h2 v H1 q⟩
end Lc
set_option Elab.async false
set_option linter.all false
set_option maxRecDepth 100000
set_option maxHeartbeats 4000000
namespace Lc
open PySem PySem.Spec PyProof.Rows L2
/-! ## enumerate(v), v whatever begins; for .., .. in enumerate(tuple) -/
def itB (h : Heap) (o : Obj) : Heap := (h.push o).push { cls := .type "enumerate", data := .fields #[.none, .bool false, .ref h.objs.size, rawInt 0, .none, .none] }
theorem meets_enum1 {v : Value} {o : Obj} {H : Heap → Prop} (B : Begins v o H) :
    Meets (Builtin.«enumerate.__new__» ⟨[.type "enumerate", v], []⟩) (fun _ R s => H s.heap ∧ R (.ok (.ret (.ref (s.heap.push o).objs.size))) { s with heap := itB s.heap o }) :=
  .of_wp fun prog w A R s h => by
    obtain ⟨hp, g, d, tk, os⟩ := s
    obtain ⟨h1, h⟩ := h
    have hsub := sub_enumerate
    have it1 : ∀ {A' : Around} {E : Value → Shared → Prop} {Q : Value → Shared → Prop}, Q (.ref hp.objs.size) ⟨hp.push o, g, d, tk, os⟩ → wpAny (model prog w) A' (pyIter v) Q E ⟨hp, g, d, tk, os⟩ := fun q => B.iter prog w _ _ ⟨hp, g, d, tk, os⟩ _ h1 q
    wp_walk using it1
    refine wpAny_stack_any fun st => wpAny_pure ?_
    split
    · rename_i c _ _ _ _ _
      cases (c == Value.type "enumerate") <;> (wp_walk using it1; exact ⟨_, rfl, h⟩)
    · wp_walk using it1
      exact ⟨_, rfl, h⟩
theorem call_enum1 {prog : Program} {w : World} {A : Around} {E : Value → Shared → Prop} {s : Shared} {v : Value} {o : Obj} {H : Heap → Prop} {Q : Value → Shared → Prop} (B : Begins v o H) (h1 : H s.heap)
    (h : IsEnum (itB s.heap o) (s.heap.objs.size + 1) s.heap.objs.size 0 .none → (itB s.heap o).get? s.heap.objs.size = some o → (∀ b u, s.heap.get? b = some u → (itB s.heap o).get? b = some u) → Q (.ref (s.heap.objs.size + 1)) { s with heap := itB s.heap o }) :
    wpAny (model prog w) A (call (.type "enumerate") [v]) Q E s := by
  have sz : (s.heap.push o).objs.size = s.heap.objs.size + 1 := Heap.size_push ..
  have en : IsEnum (itB s.heap o) (s.heap.objs.size + 1) s.heap.objs.size 0 .none := by
    have z := Heap.get?_push_size (s.heap.push o) (o := { cls := .type "enumerate", data := .fields #[.none, .bool false, .ref s.heap.objs.size, rawInt 0, .none, .none] }) rfl
    rw [sz] at z
    exact z
  refine callType_new F.called_enumerate (by decide) (F.typeCall_enumerate_1 _) (F.newCall_enumerate_1 _) (fun obj => F.args_object_init_2 obj _) F.entry_enumerate_new (meets_enum1 B) ⟨h1, ?_⟩
  show _ ∧ _
  rw [sz]
  exact ⟨⟨_, en, rfl⟩, h en (Heap.get?_push_of_some _ (Heap.get?_push_size _ B.free)) fun b u e => Heap.get?_push_of_some _ (Heap.get?_push_of_some _ e)⟩
/-- the tuple at a, each item in a new pair with its number -/
def IteT (K : PySem.W.Frag) (a : Addr) : It where
  go := fun i H => ∃ (xs : List V) (x : V), SqT K H a xs ∧ xs[i]? = some x
  yld := fun i H v H' => ∃ (q : Addr) (x : V), v = .ref q ∧ H q = none ∧ H' = upd H q (.tup [.int (i : Nat), x]) ∧ ∀ xs, SqT K H a xs → xs[i]? = some x
  stop := fun i H => ∃ xs : List V, SqT K H a xs ∧ xs.length = i
structure EnT (e it a : Addr) (i : Nat) (h : Heap) : Prop where
  en : ∃ old, IsEnum h e it ((i : Nat) : Int) old
  ti : h.IsTupleIter it a i
  n1 : e ≠ it
  n2 : a ≠ it
  n3 : a ≠ e
theorem turn_enT {P : Program} {w : World} {K : PySem.W.Frag} {elts : List Expr} {kk : Nat} {tpos : Pos} (a e it : Addr) : Turn P w K (.Tuple elts kk tpos) (IteT K a) [e, it] e (EnT e it a) where
  mem := List.mem_cons_self
  obj := fun i h st b hb => by
    rcases List.mem_cons.mp hb with rfl | hb
    · obtain ⟨old, he⟩ := st.en
      exact ⟨_, he, fun v q => nomatch q⟩
    · obtain rfl := List.mem_singleton.mp hb
      obtain ⟨o, ho, _, hd⟩ := st.ti
      exact ⟨o, ho, fun v q => by rw [hd] at q; cases q⟩
  keep := fun i h h' st k => by
    obtain ⟨old, he⟩ := st.en
    obtain ⟨o, ho, r⟩ := st.ti
    exact ⟨⟨old, k e List.mem_cons_self _ he⟩, ⟨o, k it (by simp) o ho, r⟩, st.n1, st.n2, st.n3⟩
  item := by
    intro X hP hw hK hc i pins s σ H E I hf st hg
    subst hP hw hK
    obtain ⟨xs, x, hq, hx⟩ := hg
    obtain ⟨its, rv, tp, _⟩ := I.tuple hq
    obtain ⟨u, hu, ru⟩ := rv.get hx
    obtain ⟨old, he⟩ := st.en
    have hu' : its.toArray[i]? = some u := by simpa using hu
    have li : i < its.toArray.size := (Array.getElem?_eq_some_iff.mp hu').1
    refine wpAny_pyNext_enum_itemD (Draws.tuple (A := X.A.in1) (I.ok.hd hc) it a st.n2 its.toArray) he ⟨st.ti, tp⟩ li st.n1 (by simp [st.n1, Ne.symm st.n3]) fun y h' tk hy ho hs hT hz hk => ?_
    obtain rfl : u = y := Option.some.inj (hu'.symm.trans hy)
    have le : e < s.heap.objs.size := Heap.lt_size he
    have lt : it < s.heap.objs.size := by obtain ⟨_, q, _⟩ := st.ti; exact Heap.lt_size q
    refine ⟨_, rfl, wpAny_letOwnedTupleGo_enum (s := { s with heap := h', toks := tk + 1 }) ho fun h2 he2 sb => ?_⟩
    have pair : h2.get? s.heap.objs.size = some { cls := .type "tuple", data := .seq #[.int i tk, u] } := (sb.2 _ (Nat.ne_of_gt le)).trans hT
    have I2 : Inv X pins σ (upd H s.heap.objs.size (.tup [.int (i : Nat), x])) { s with heap := h2, toks := tk + 1 } := by
      refine I.turnedNew (ch := [e, it]) (fun b ob hb q => ?_) hf (Nat.le_refl _) ⟨by show 2 ≤ sizeLine; decide, [.int i tk, u], .cons ⟨_, rfl⟩ (.cons ru .nil), ⟨_, pair, rfl, _, rfl⟩⟩
      have nb : b ≠ e ∧ b ≠ it := by simpa using hb
      exact (sb.2 b nb.1).trans (hk b ob nb.1 nb.2 q)
    refine ⟨.ref s.heap.objs.size, _, I2, rfl, ⟨_, x, rfl, I.hok.fresh (Nat.le_refl _), rfl, fun ys hy => by rw [I.tuple_inj hy hq]; exact hx⟩, ⟨⟨u, ?_⟩, ?_, st.n1, st.n2, st.n3⟩, fun b hb => ?_⟩
    · rw [show ((i + 1 : Nat) : Int) = (i : Int) + 1 by omega]
      exact he2
    · obtain ⟨o, q, r⟩ := hs.1
      exact ⟨o, (sb.2 it (Ne.symm st.n1)).trans q, r⟩
    · have lb : b < s.heap.objs.size := by
        rcases List.mem_cons.mp hb with rfl | hb
        · exact le
        · rw [List.mem_singleton.mp hb]; exact lt
      rw [upd_ne (Nat.ne_of_lt lb)]
      exact (hf b hb).1
  done := by
    intro X hP hw hK hc i pins s σ H E I hf st hg
    subst hP hw hK
    obtain ⟨xs, hq, hx⟩ := hg
    obtain ⟨its, rv, tp, _⟩ := I.tuple hq
    obtain ⟨old, he⟩ := st.en
    have hl : i = its.toArray.size := by rw [List.size_toArray, ← rv.length]; exact hx.symm
    obtain ⟨f0, f1, _, f3, f4, f5⟩ := hf it (by simp)
    subst hl
    exact wpAny_pyNext_enum_endD (Draws.tuple (A := X.A.in1) (I.ok.hd hc) it a st.n2 its.toArray) he ⟨st.ti, tp⟩ fun h' eb => ⟨rfl, I.turned (t' := s.toks) (fun b o hb q => eb b o hb q) f0 f1 f3 f4 f5⟩
  self := fun A i s Q E st h => by
    obtain ⟨old, he⟩ := st.en
    exact wpAny_pyIter_enum he h
def iEnT (K : PySem.W.Frag) (ta : TA) : TI := fun σ H R => ta σ H fun vs H1 => ∃ a xs, vs = [.ref a] ∧ SqT K H1 a xs ∧ R (IteT K a) H1
theorem pi_enT {X : Cx} {e : Expr} {ta : TA} {p pos tpos : Pos} {elts : List Expr} {kk : Nat} (hg : Gl X "enumerate") (hm : X.mg "enumerate" = none) (ha : PA X [e] ta) (hs : starEach [e] X.env = [(false, eval e X.env)] := by rfl) :
    PI X (.Tuple elts kk tpos) (.Call (.Name "enumerate" p) [e] [] pos) (iEnT X.K ta) := by
  refine ⟨fun pins s σ H R I h => Call_ (ld_blt I hg hm boot_enumerate (PyProof.Rows.callWith_type1 (thn (ha.run pos pins s σ H _ I h) fun us s1 ⟨vs, H1, I1, r1, q1⟩ => ?_) hs rfl))⟩
  obtain ⟨a, xs, rfl, hq, q⟩ := q1
  obtain ⟨u, rfl, ru⟩ := vals1 r1
  cases ru
  obtain ⟨its, rv, tp, _⟩ := I1.tuple hq
  have la : a < s1.heap.objs.size := by obtain ⟨_, z, _⟩ := tp; exact Heap.lt_size z
  refine call_enum1 (begins_tuple a its.toArray) tp fun en ito kp => wpAny_pyIter_enum en ?_
  refine ⟨_, [s1.heap.objs.size + 1, s1.heap.objs.size], _, _, H1, rfl, I1.kept (t' := s1.toks) kp, turn_enT a (s1.heap.objs.size + 1) s1.heap.objs.size, ⟨⟨.none, en⟩, ⟨_, ito, rfl, rfl⟩, Nat.succ_ne_self _, Nat.ne_of_lt la, Nat.ne_of_lt (Nat.lt_succ_of_lt la)⟩, fun b hb => ?_, q⟩
  have le : s1.heap.objs.size ≤ b := by
    rcases List.mem_cons.mp hb with rfl | hb
    · exact Nat.le_add_right _ _
    · rw [List.mem_singleton.mp hb]; exact Nat.le_refl _
  exact I1.fpOk le (I1.hok.fresh le)
theorem walk_enT {K : PySem.W.Frag} {a : Addr} {xs : List V} : Walk (IteT K a) xs.length (fun H => SqT K H a xs) (YPair (fun i => some (.int (i : Nat))) (fun i => xs[i]?)) := by
  refine ⟨fun i _ hi q => ⟨xs, xs[i], q, by simp [hi]⟩, fun _ q => ⟨xs, q, rfl⟩, fun i H v H' _ q y => ?_⟩
  obtain ⟨c, x, h1, h2, h3, h4⟩ := y
  exact ⟨c, .int (i : Nat), x, h1, h2, h3, rfl, h4 xs q⟩
end Lc
set_option Elab.async false
set_option linter.all false
set_option maxRecDepth 100000
set_option maxHeartbeats 4000000
namespace Lc
open PySem PySem.Spec PyProof.Rows L2
/-! ## for .., .. in enumerate(text) -/
def IteS (x : Str) : It where
  go := fun i _ => i < x.cps.size
  yld := fun i H v H' => ∃ (q : Addr) (c : Nat), v = .ref q ∧ H q = none ∧ H' = upd H q (.tup [.int (i : Nat), .str ⟨#[c]⟩]) ∧ x.cps[i]? = some c
  stop := fun i _ => x.cps.size = i
structure EnS (e it : Addr) (x : Str) (t : Tok) (i : Nat) (h : Heap) : Prop where
  en : ∃ old, IsEnum h e it ((i : Nat) : Int) old
  ti : h.IsStrIter it (strIterType x) x t i
  n1 : e ≠ it
theorem turn_enS {P : Program} {w : World} {K : PySem.W.Frag} {elts : List Expr} {kk : Nat} {tpos : Pos} (x : Str) (t : Tok) (e it : Addr) : Turn P w K (.Tuple elts kk tpos) (IteS x) [e, it] e (EnS e it x t) where
  mem := List.mem_cons_self
  obj := fun i h st b hb => by
    rcases List.mem_cons.mp hb with rfl | hb
    · obtain ⟨old, he⟩ := st.en
      exact ⟨_, he, fun v q => nomatch q⟩
    · obtain rfl := List.mem_singleton.mp hb
      obtain ⟨o, ho, _, hd⟩ := st.ti
      exact ⟨o, ho, fun v q => by rw [hd] at q; cases q⟩
  keep := fun i h h' st k => by
    obtain ⟨old, he⟩ := st.en
    obtain ⟨o, ho, r⟩ := st.ti
    exact ⟨⟨old, k e List.mem_cons_self _ he⟩, ⟨o, k it (by simp) o ho, r⟩, st.n1⟩
  item := by
    intro X hP hw hK hc i pins s σ H E I hf st hg
    subst hP hw hK
    obtain ⟨old, he⟩ := st.en
    refine wpAny_pyNext_enum_itemD (Draws.text (A := X.A.in1) (I.ok.hd hc) it x t) he st.ti hg st.n1 (by simp [st.n1]) fun y h' tk hy ho hs hT hz hk => ?_
    obtain ⟨c, u, hcx, rfl⟩ := hy
    have le : e < s.heap.objs.size := Heap.lt_size he
    have lt : it < s.heap.objs.size := by obtain ⟨_, q, _⟩ := st.ti; exact Heap.lt_size q
    refine ⟨_, rfl, wpAny_letOwnedTupleGo_enum (s := { s with heap := h', toks := tk + 1 }) ho fun h2 he2 sb => ?_⟩
    have pair : h2.get? s.heap.objs.size = some { cls := .type "tuple", data := .seq #[.int i tk, .str ⟨#[c]⟩ u] } := (sb.2 _ (Nat.ne_of_gt le)).trans hT
    have I2 : Inv X pins σ (upd H s.heap.objs.size (.tup [.int (i : Nat), .str ⟨#[c]⟩])) { s with heap := h2, toks := tk + 1 } := by
      refine I.turnedNew (ch := [e, it]) (fun b ob hb q => ?_) hf (Nat.le_refl _) ⟨by show 2 ≤ sizeLine; decide, [.int i tk, .str ⟨#[c]⟩ u], .cons ⟨_, rfl⟩ (.cons ⟨_, rfl⟩ .nil), ⟨_, pair, rfl, _, rfl⟩⟩
      have nb : b ≠ e ∧ b ≠ it := by simpa using hb
      exact (sb.2 b nb.1).trans (hk b ob nb.1 (by simpa using nb.2) q)
    refine ⟨.ref s.heap.objs.size, _, I2, rfl, ⟨_, c, rfl, I.hok.fresh (Nat.le_refl _), rfl, hcx⟩, ⟨⟨.str ⟨#[c]⟩ u, ?_⟩, ?_, st.n1⟩, fun b hb => ?_⟩
    · rw [show ((i + 1 : Nat) : Int) = (i : Int) + 1 by omega]
      exact he2
    · obtain ⟨o, q, r⟩ := hs
      exact ⟨o, (sb.2 it (Ne.symm st.n1)).trans q, r⟩
    · have lb : b < s.heap.objs.size := by
        rcases List.mem_cons.mp hb with rfl | hb
        · exact le
        · rw [List.mem_singleton.mp hb]; exact lt
      rw [upd_ne (Nat.ne_of_lt lb)]
      exact (hf b hb).1
  done := by
    intro X hP hw hK hc i pins s σ H E I hf st hg
    subst hP hw hK
    obtain ⟨old, he⟩ := st.en
    obtain ⟨f0, f1, _, f3, f4, f5⟩ := hf it (by simp)
    have hg : x.cps.size = i := hg
    subst hg
    exact wpAny_pyNext_enum_endD (Draws.text (A := X.A.in1) (I.ok.hd hc) it x t) he st.ti fun h' eb => ⟨rfl, I.turned (t' := s.toks) (fun b o hb q => eb b o hb q) f0 f1 f3 f4 f5⟩
  self := fun A i s Q E st h => by
    obtain ⟨old, he⟩ := st.en
    exact wpAny_pyIter_enum he h
def iEnS (ta : TA) : TI := fun σ H R => ta σ H fun vs H1 => ∃ x, vs = [.str x] ∧ R (IteS x) H1
theorem pi_enS {X : Cx} {e : Expr} {ta : TA} {p pos tpos : Pos} {elts : List Expr} {kk : Nat} (hg : Gl X "enumerate") (hm : X.mg "enumerate" = none) (ha : PA X [e] ta) (hs : starEach [e] X.env = [(false, eval e X.env)] := by rfl) :
    PI X (.Tuple elts kk tpos) (.Call (.Name "enumerate" p) [e] [] pos) (iEnS ta) := by
  refine ⟨fun pins s σ H R I h => Call_ (ld_blt I hg hm boot_enumerate (PyProof.Rows.callWith_type1 (thn (ha.run pos pins s σ H _ I h) fun us s1 ⟨vs, H1, I1, r1, q1⟩ => ?_) hs rfl))⟩
  obtain ⟨x, rfl, q⟩ := q1
  obtain ⟨u, rfl, ru⟩ := vals1 r1
  obtain ⟨t, rfl⟩ := (show ∃ t, u = Value.str x t from ru)
  refine call_enum1 (begins_text x t) trivial fun en ito kp => wpAny_pyIter_enum en ?_
  refine ⟨_, [s1.heap.objs.size + 1, s1.heap.objs.size], _, _, H1, rfl, I1.kept (t' := s1.toks) kp, turn_enS x t (s1.heap.objs.size + 1) s1.heap.objs.size, ⟨⟨.none, en⟩, ⟨_, ito, rfl, rfl⟩, Nat.succ_ne_self _⟩, fun b hb => ?_, q⟩
  have le : s1.heap.objs.size ≤ b := by
    rcases List.mem_cons.mp hb with rfl | hb
    · exact Nat.le_add_right _ _
    · rw [List.mem_singleton.mp hb]; exact Nat.le_refl _
  exact I1.fpOk le (I1.hok.fresh le)
theorem walk_enS {x : Str} : Walk (IteS x) x.cps.size (fun _ => True) (YPair (fun i => some (.int (i : Nat))) (fun i => (x.cps[i]?).map fun c => V.str ⟨#[c]⟩)) := by
  refine ⟨fun i _ hi _ => hi, fun _ _ => rfl, fun i H v H' _ _ y => ?_⟩
  obtain ⟨q, c, h1, h2, h3, h4⟩ := y
  exact ⟨q, .int (i : Nat), .str ⟨#[c]⟩, h1, h2, h3, rfl, by show Option.map _ _ = _; rw [h4]; rfl⟩
end Lc
set_option Elab.async false
set_option linter.all false
set_option maxRecDepth 100000
set_option maxHeartbeats 4000000
namespace Lc
open PySem PySem.Spec PyProof.Rows L2
/-! ## Deep data that stands in the abstract heap -/
mutual
inductive Dh (H : Hp) : V → PyData → Prop
  | non : Dh H .non .none
  | bl (b : Bool) : Dh H (.bl b) (.bool b)
  | int (i : Int) : Dh H (.int i) (.int i)
  | str (x : Str) : Dh H (.str x) (.str x)
  | tup {a : Addr} {xs : List V} {ds : List PyData} (e : H a = some (.tup xs)) (h : DhAll H xs ds) : Dh H (.ref a) (.tuple ds)
  | lst {a : Addr} {xs : List V} {ds : List PyData} (e : H a = some (.lst xs)) (h : DhAll H xs ds) : Dh H (.ref a) (.list ds)
  | dct {a : Addr} (e : H a = some (.dK [])) : Dh H (.ref a) (.dict [])
inductive DhAll (H : Hp) : List V → List PyData → Prop
  | nil : DhAll H [] []
  | cons {v : V} {vs : List V} {d : PyData} {ds : List PyData} (h : Dh H v d) (r : DhAll H vs ds) : DhAll H (v :: vs) (d :: ds)
end
mutual
theorem Dh.same {H H' : Hp} (s : Same H H') : ∀ {v : V} {d : PyData}, Dh H v d → Dh H' v d
  | _, _, .non => .non
  | _, _, .bl b => .bl b
  | _, _, .int i => .int i
  | _, _, .str x => .str x
  | _, _, .tup e h => .tup (s _ _ e) (DhAll.same s h)
  | _, _, .lst e h => .lst (s _ _ e) (DhAll.same s h)
  | _, _, .dct e => .dct (s _ _ e)
theorem DhAll.same {H H' : Hp} (s : Same H H') : ∀ {vs : List V} {ds : List PyData}, DhAll H vs ds → DhAll H' vs ds
  | _, _, .nil => .nil
  | _, _, .cons h r => .cons (Dh.same s h) (DhAll.same s r)
end
def tyD : PyData → String
  | .none => "NoneType"
  | .bool _ => "bool"
  | .int _ => "int"
  | .str _ => "str"
  | .tuple _ => "tuple"
  | .list _ => "list"
  | .dict _ => "dict"
theorem Dh.ty {H : Hp} {v : V} {d : PyData} (h : Dh H v d) : TyN H v (tyD d) := by
  cases h with
  | non => exact .non
  | bl b => exact .bl b
  | int i => exact .int i
  | str x => exact .str x
  | tup e _ => exact .tup e
  | lst e _ => exact .lst e
  | dct e => exact .dct e
theorem DhAll.len {H : Hp} {vs : List V} {ds : List PyData} (h : DhAll H vs ds) : vs.length = ds.length := by
  match h with
  | .nil => rfl
  | .cons _ r => rw [List.length_cons, List.length_cons, DhAll.len r]
theorem DhAll.get {H : Hp} : ∀ {vs : List V} {ds : List PyData}, DhAll H vs ds → ∀ (i : Nat) (v : V), vs[i]? = some v → ∃ d, ds[i]? = some d ∧ Dh H v d
  | _, _, .nil, i, v, e => by simp at e
  | _, _, .cons h r, 0, v, e => by
    obtain rfl := Option.some.inj e
    exact ⟨_, rfl, h⟩
  | _, _, .cons h r, i + 1, v, e => by
    obtain ⟨d, e1, e2⟩ := DhAll.get r i v (by simpa using e)
    exact ⟨d, by simpa using e1, e2⟩
theorem DhAll.append {H : Hp} : ∀ {vs : List V} {ds : List PyData} {us : List V} {es : List PyData}, DhAll H vs ds → DhAll H us es → DhAll H (vs ++ us) (ds ++ es)
  | _, _, _, _, .nil, r => r
  | _, _, _, _, .cons h t, r => .cons h (DhAll.append t r)
mutual
theorem Dh.dp {K : PySem.W.Frag} {H : Hp} : ∀ {v : V} {d : PyData}, Dh H v d → d.hasDict = false → Dp K H v d
  | _, _, .non, _ => .non
  | _, _, .bl b, _ => .bl b
  | _, _, .int i, _ => .int i
  | _, _, .str x, _ => .str x
  | _, _, .tup e h, n => .tup (SqT.of e) (DhAll.dp h (by simpa [PyData.hasDict] using n))
  | _, _, .lst e h, n => .lst (SqL.of e) (DhAll.dp h (by simpa [PyData.hasDict] using n))
  | _, _, .dct e, n => by simp [PyData.hasDict] at n
theorem DhAll.dp {K : PySem.W.Frag} {H : Hp} : ∀ {vs : List V} {ds : List PyData}, DhAll H vs ds → PyData.hasDictAll ds = false → DpAll K H vs ds
  | _, _, .nil, _ => .nil
  | _, _, .cons h r, n => by
    rw [PyData.hasDictAll, Bool.or_eq_false_iff] at n
    exact .cons (Dh.dp h n.1) (DhAll.dp r n.2)
end
theorem Dh.shw {K : PySem.W.Frag} {H : Hp} {v : V} {d : PyData} (h : Dh H v d) (h1 : d.showable = true) (h2 : d.hasDict = false) (h3 : d.depth ≤ 60) (h4 : d.shown.length ≤ sizeLine) : Shw K H v d.shown := .data (h.dp h2) h1 h2 h3 h4
/-! ## How large it is when it is shown -/
structure Tm (k n : Nat) (d : PyData) : Prop where
  sh : d.showable = true
  nd : d.hasDict = false
  dz : d.depth ≤ k
  ln : d.shown.length ≤ n
theorem Tm.mono {k n k' n' : Nat} {d : PyData} (h : Tm k n d) (a : k ≤ k') (b : n ≤ n') : Tm k' n' d := ⟨h.sh, h.nd, Nat.le_trans h.dz a, Nat.le_trans h.ln b⟩
theorem tm_fl {v : V} {d : PyData} {s : String} (h : Fl v d s) : Tm 0 20000 d := ⟨h.sh, h.nd, Nat.le_of_eq h.dz, h.ln⟩
theorem tm_all {k n : Nat} : ∀ {ds : List PyData}, (∀ d ∈ ds, Tm k n d) → PyData.showableAll ds = true ∧ PyData.hasDictAll ds = false ∧ PyData.depthAll ds ≤ k ∧ ((PyData.shownAll ds).map (·.length)).sum ≤ n * ds.length ∧ (PyData.shownAll ds).length = ds.length
  | [], _ => ⟨rfl, rfl, Nat.zero_le _, by simp [PyData.shownAll], rfl⟩
  | d :: ds, h => by
    obtain ⟨h1, h2, h3, h4, h5⟩ := tm_all (ds := ds) fun x hx => h x (List.mem_cons_of_mem _ hx)
    have hd := h d List.mem_cons_self
    refine ⟨?_, ?_, ?_, ?_, ?_⟩
    · simp [PyData.showableAll, hd.sh, h1]
    · simp [PyData.hasDictAll, hd.nd, h2]
    · simp only [PyData.depthAll]
      have := hd.dz
      omega
    · simp only [PyData.shownAll, List.map_cons, List.sum_cons, List.length_cons]
      have := hd.ln
      rw [Nat.mul_succ]
      omega
    · simp [PyData.shownAll, h5]
theorem tm_tup {k n : Nat} {ds : List PyData} (h : ∀ d ∈ ds, Tm k n d) : Tm (k + 1) (n * ds.length + 2 * ds.length + 4) (.tuple ds) := by
  obtain ⟨h1, h2, h3, h4, h5⟩ := tm_all h
  refine ⟨by simpa [PyData.showable] using h1, by simpa [PyData.hasDict] using h2, ?_, ?_⟩
  · simp only [PyData.depth]
    omega
  · have := tupleText_len_le (PyData.shownAll ds)
    simp only [PyData.shown]
    omega
theorem tm_lst {k n : Nat} {ds : List PyData} (h : ∀ d ∈ ds, Tm k n d) : Tm (k + 1) (n * ds.length + 2 * ds.length + 4) (.list ds) := by
  obtain ⟨h1, h2, h3, h4, h5⟩ := tm_all h
  refine ⟨by simpa [PyData.showable] using h1, by simpa [PyData.hasDict] using h2, ?_, ?_⟩
  · simp only [PyData.depth]
    omega
  · have := listText_len_le (PyData.shownAll ds)
    simp only [PyData.shown]
    omega
theorem Dh.shwT {K : PySem.W.Frag} {H : Hp} {v : V} {d : PyData} {k n : Nat} (h : Dh H v d) (t : Tm k n d) (a : k ≤ 60) (b : n ≤ 3000000) : Shw K H v d.shown := h.shw t.sh t.nd (Nat.le_trans t.dz a) (Nat.le_trans t.ln (Nat.le_trans b (by decide)))
end Lc
set_option Elab.async false
set_option linter.all false
set_option maxRecDepth 100000
set_option maxHeartbeats 4000000
namespace Lc
open PySem PySem.Spec PyProof.Rows L2
/-! ## (x, y) * 0, (x, y) * 1 -/
theorem tuple_mul1 (l : Addr) (items : Array Value) (n : Nat) (dd : Option Addr) (sl : Array (Option Value)) (u : Tok) :
    Meets (Builtin.«tuple.__mul__» ⟨[.ref l, .int 1 u], []⟩) (fun _ R s => s.heap.get? l = some { cls := .type "tuple", dict := dd, data := .seq items n, slots := sl } ∧ R (.ok (.ret (Value.ref l))) s) :=
  .of_wp fun prog w A R s h => by
    obtain ⟨hp, g, d, tk, os⟩ := s
    obtain ⟨hl, h⟩ := h
    have f1 := AutoSeq1.idx_int
    have c0 : (decide ((1 : Int) < -(2 ^ 63)) || decide ((1 : Int) ≥ 2 ^ 63)) = false := by decide
    have c1 : (items.isEmpty || (1 : Int) == 1) = true := by simp
    wp_walk using wpAny_loadPart' hl
    repeat (first
      | (refine wpAny_ite_false (decide_eq_false (by rw [c0]; exact Bool.false_ne_true)) ?_; wp_walk using wpAny_loadPart' hl)
      | (refine wpAny_ite_true (decide_eq_true c1) ?_; wp_walk using wpAny_loadPart' hl))
    exact ⟨_, rfl, h⟩
theorem tuple_mul0 (l : Addr) (items : Array Value) (n : Nat) (dd : Option Addr) (sl : Array (Option Value)) (u : Tok) (hne : items.isEmpty = false) :
    Meets (Builtin.«tuple.__mul__» ⟨[.ref l, .int 0 u], []⟩) (fun _ R s => s.heap.get? l = some { cls := .type "tuple", dict := dd, data := .seq items n, slots := sl } ∧
      R (.ok (.ret (Value.ref s.heap.objs.size))) { s with heap := s.heap.push { cls := Value.type "tuple", data := Data.seq #[] } }) :=
  .of_wp fun prog w A R s h => by
    obtain ⟨hp, g, d, tk, os⟩ := s
    obtain ⟨hl, h⟩ := h
    have f1 := AutoSeq1.idx_int
    have c0 : (decide ((0 : Int) < -(2 ^ 63)) || decide ((0 : Int) ≥ 2 ^ 63)) = false := by decide
    have c1 : (items.isEmpty || (0 : Int) == 1) = false := by rw [hne]; rfl
    have c2 : (decide ((0 : Int) ≤ 0) || items.isEmpty) = true := by simp
    wp_walk using wpAny_loadPart' hl
    repeat (first
      | (refine wpAny_ite_false (decide_eq_false (by rw [c0]; exact Bool.false_ne_true)) ?_; wp_walk using wpAny_loadPart' hl)
      | (refine wpAny_ite_false (decide_eq_false (by rw [c1]; exact Bool.false_ne_true)) ?_; wp_walk using wpAny_loadPart' hl)
      | (refine wpAny_ite_true (decide_eq_true c2) ?_; wp_walk using wpAny_loadPart' hl))
    exact ⟨_, rfl, h⟩
def rRep01 (K : PySem.W.Frag) : R2 := fun x y H Q => ∃ l k xs, x = .ref l ∧ y = .int k ∧ SqT K H l xs ∧ xs ≠ [] ∧ ((k = 1 ∧ Q (.ref l) H) ∨ (k = 0 ∧ ∀ p, H p = none → Q (.ref p) (upd H p (.tup []))))
section
variable {X : Cx}
theorem op_rep01 : OpR X (binaryOp .Mult) (rRep01 X.K) := by
  intro pins s σ H x y v u Q I rx ry h
  obtain ⟨l, k, xs, rfl, rfl, hT, hne, h⟩ := h
  cases rx
  obtain ⟨t, rfl⟩ := ry
  obtain ⟨its, r, ⟨⟨cls, dd, data, sl⟩, ho, hc, n, hd⟩, hs⟩ := I.tuple hT
  simp only at hc hd
  subst hc hd
  have hle : its.length = xs.length := r.length.symm
  have hn : its ≠ [] := fun e => hne (by
    rw [e] at hle
    exact List.eq_nil_of_length_eq_zero hle.symm)
  have hi : its.toArray.isEmpty = false := by
    cases its with
    | nil => exact absurd rfl hn
    | cons a b => rfl
  rcases h with ⟨rfl, q⟩ | ⟨rfl, q⟩
  · exact wpAny_binaryOp_repeat_ref (T := "tuple") (U := "int") (by decide) ⟨_, ho, rfl⟩ (fun s' => typeIs_int s' 1 t) noFill_tuple_mul F.fills_int_mul F.slot_int_rmul repeat_tuple F.slot_int_index.lookup
      (call_meets F.slot_int_rmul (typeIs_int s 1 t) F.entry_int_rmul (F.args_int_rmul_2 _ _) (int_rmul_tuple 1 t l its.toArray n dd sl)
        ⟨ho, rfl, ⟨_, ho, rfl⟩, call_meets F.slot_tuple_mul ⟨_, ho, rfl⟩ F.entry_tuple_mul (F.args_tuple_mul_2 _ _) (tuple_mul1 l its.toArray n dd sl t) ⟨ho, .ref l, H, I, rfl, q⟩⟩)
  · refine wpAny_binaryOp_repeat_ref (T := "tuple") (U := "int") (by decide) ⟨_, ho, rfl⟩ (fun s' => typeIs_int s' 0 t) noFill_tuple_mul F.fills_int_mul F.slot_int_rmul repeat_tuple F.slot_int_index.lookup
      (call_meets F.slot_int_rmul (typeIs_int s 0 t) F.entry_int_rmul (F.args_int_rmul_2 _ _) (int_rmul_tuple 0 t l its.toArray n dd sl)
        ⟨ho, rfl, ⟨_, ho, rfl⟩, call_meets F.slot_tuple_mul ⟨_, ho, rfl⟩ F.entry_tuple_mul (F.args_tuple_mul_2 _ _) (tuple_mul0 l its.toArray n dd sl t hi) ⟨ho, ?_⟩⟩)
    refine ⟨.ref s.heap.objs.size, _, I.laid (t' := s.toks) (o := .tup []) (fun b ob q => Heap.get?_push_of_some _ q) (Nat.le_refl _) ?_, rfl, q _ (I.hok.fresh (Nat.le_refl _))⟩
    exact ⟨Nat.zero_le _, [], .nil, IsTup.new _ _⟩
/-! ## What is never reached -/
theorem pss_dead {b : List Stmt} : PSs X b (fun _ _ _ => False) := ⟨fun _ _ _ _ _ _ h => h.elim⟩
theorem pg_dead {e : Expr} : PG X e (fun _ _ _ _ => False) := ⟨fun _ _ _ _ _ _ _ _ _ h => h.elim⟩
/-! ## C(e, ..) in a try -/
def tMakeS (C : Addr) (sp : Sp) (E : L2.St → XK) (t : TA) : TE := fun σ H Q => t σ H fun vs H1 => ∀ x dx, H1 x = none → H1 dx = none → dx ≠ x →
  sp (.ref x :: vs) (upd (upd H1 dx (.own x)) x (.ins C dx [])) (fun v H2 => v = .non ∧ Q (.ref x) H2) (E σ)
theorem pe_makeS {CX : CXT} {k : Nat} {C f : Addr} {fd : FuncData} {ps : List Str} {sp : Sp} {E : L2.St → XK} {x : Str} {p pos : Pos} {e : Expr} {es : List Expr} {t : TA}
    (M : Mk X.K C f) (F : FnOk X.prog X.w X.K X.mg X.base CX k f fd ps sp) (hr : Room (k + 1) X.A) (hg : Gl X x) (hm : X.mg x = some (.ref C)) (hb : Binds X.K fd ps []) (hx : ∀ σ, PassesAt CX X σ (E σ))
    (ha : PA X (e :: es) t) (hdb : (x == ("__debug__" : Str)) = false := by decide) (he : starEach (e :: es) X.env = (false, eval e X.env) :: starEach es X.env := by rfl) (hpl : (backTo pos (starEach es X.env)).any (·.1) = false := by rfl) :
    PE X (.Call (.Name x p) (e :: es) [] pos) (tMakeS C sp E t) := by
  refine ⟨fun pins s0 σ H0 Q I0 h0 => ?_⟩
  refine wpAny_Call_Name_kw (ld_glob I0 hg hm ?_ hdb)
  refine PySem.W.callWith_K (h₀ := X.base) I0.ok.mod.kin M.kp (thn (ha.run pos pins s0 σ H0 _ I0 h0) fun us s ⟨vs, H, I, r, h⟩ => ⟨I.kIn, ?_⟩) he hpl
  have hq := h (s.heap.objs.size + 1) s.heap.objs.size (I.hok.fresh (Nat.le_succ _)) (I.hok.fresh (Nat.le_refl _)) (Nat.ne_of_lt (Nat.lt_succ_self _))
  have I2 := Inv.made (C := C) I
  have r2 : Vals (V.ref (s.heap.objs.size + 1) :: vs) (Value.ref (s.heap.objs.size + 1) :: us) := .cons rfl r
  have hl : (Value.ref (s.heap.objs.size + 1) :: us).length = ps.length := by
    have e := r2.length
    rw [F.len _ _ _ _ hq] at e
    exact e.symm
  refine wpAny_call (make_map (f := f) I.kIn M.makes M.init (beq_iff_eq.mp M.fn) (codeAny_mono (F.run _ X.stack _ _ ⟨Value.ref (s.heap.objs.size + 1) :: us, []⟩ (Value.ref (s.heap.objs.size + 1) :: us) _ _ (E σ) (hr.make C us [])
    (I2.env0.make C us []) (by
      have z := hb _ (Value.ref (s.heap.objs.size + 1) :: us) I2.kIn (by rw [List.append_nil]; exact hl)
      rw [List.append_nil] at z
      exact z) r2 hq) fun r s' hq' => ?_))
  cases r with
  | error e => exact hx σ pins _ _ e s' I2 hq'
  | ok fl =>
    cases fl with
    | ret u =>
      obtain ⟨v, H', I3, rv, ev, q3⟩ := I2.after hq'
      subst ev
      exact ⟨rv, ⟨V.ref (s.heap.objs.size + 1), H', I3, rfl, q3⟩⟩
    | next => exact False.elim hq'
    | brk => exact False.elim hq'
    | cont => exact False.elim hq'
/-! ## len(o), o of an own class -/
structure LenC (K : PySem.W.Frag) (C f : Addr) : Prop where
  at_ : PySem.W.findIn K (.ref C) "__len__" = some (some (.ref f))
  fn : PySem.W.isFn K (.ref f) = true
def rLenI (C : Addr) (sp : Sp) : List V → Hp → VK → Prop := fun xs H Q => ∃ a dx fs, xs = [.ref a] ∧ H a = some (.ins C dx fs) ∧ sp [.ref a] H (fun v H' => ∃ n : Int, v = .int n ∧ 0 ≤ n ∧ n < 2 ^ 63 ∧ Q (.int n) H') E0
theorem call_lenI {k : Nat} {C f : Addr} {fd : FuncData} {ps : List Str} {sp : Sp} (c : LenC X.K C f) (F : FnOk X.prog X.w X.K X.mg X.base CX0 k f fd ps sp) (hr : Room (k + 1) X.A) (hb : Binds X.K fd ps []) : CallR X (.builtin "len") (rLenI C sp) := by
  intro pins s σ H xs us Q I rv h
  obtain ⟨a, dx, fs, rfl, ha, hsp⟩ := h
  obtain ⟨u, rfl, ru⟩ := vals1 rv
  cases ru
  obtain ⟨mA, J, _⟩ := ins_get I.hok ha
  obtain ⟨od, J, _⟩ := J.look
  refine Calls.call_function_entry kind_len plain_len entry_len (args_len1 _) ?_
  unfold Builtin.«len»
  refine wpAny_bind (m := oneArg "len" _) (wpAny_pure ?_)
  refine wpAny_bind (m := callSpecial? (.ref a) (Str.ofString "__len__")) (PySem.W.special_fn I.kIn J c.at_ (beq_iff_eq.mp c.fn) ?_)
  have e0 : Env0 X.prog X.w X.K X.mg X.base X.A.in1 X.stack s H := by
    have e := I.env0
    exact ⟨e.frames, e.mod, e.bs, e.bsz, e.funs, e.frf, e.hok, e.bare⟩
  have hl := F.len _ _ _ _ hsp
  have r2 : Vals [V.ref a] [Value.ref a] := .cons rfl .nil
  refine wpAny_call (codeAny_mono (F.run X.A.in1 X.stack s H ⟨[.ref a], []⟩ [.ref a] [.ref a] _ _ hr.in1 e0 (by
    have := hb s [.ref a] I.kIn (by simpa using hl)
    simpa using this) r2 hsp) fun r s' hq => ?_)
  cases r with
  | error e => exact hq.elim
  | ok fl =>
    cases fl with
    | ret u =>
      obtain ⟨v, H', I3, rv, n, rfl, h0, h1, q3⟩ := I.after hq
      obtain ⟨t, rfl⟩ := rv
      refine wpAny_bind (wpAny_holding (wpAny_pure ?_))
      refine wpAny_bind (wpAny_letGo ?_)
      show wpAny _ _ (if n < 0 then _ else _) _ _ _
      rw [if_neg (by omega)]
      show wpAny _ _ (if n ≥ 2 ^ 63 then _ else _) _ _ _
      rw [if_neg (by omega)]
      exact wpAny_bind (wpAny_mkInt (wpAny_pure ⟨_, rfl, .int n, H', I3.tok _, ⟨_, rfl⟩, q3⟩))
    | next => exact False.elim hq
    | brk => exact False.elim hq
    | cont => exact False.elim hq
end
end Lc
set_option Elab.async false
set_option linter.all false
set_option maxRecDepth 100000
set_option maxHeartbeats 4000000
namespace Lc
open PySem PySem.Spec PyProof.Rows L2
/-! ## Names that are drawn are names -/
theorem name_of {l : List Nat} {x : Str} (e : x.cps.toList = l) (ne : l ≠ []) (ln : l.length ≤ 12) (h1 : ∀ c r, l = c :: r → inL c = true) (h2 : ∀ c ∈ l, inS c = true) : nameB (.str x) = true := by
  show nameL x.cps.toList = true
  rw [e]
  cases l with
  | nil => exact absurd rfl ne
  | cons c r =>
    show (decide ((c :: r).length ≤ 12) && (inL c && (c :: r).all inS)) = true
    rw [decide_eq_true ln, h1 c r rfl, List.all_eq_true.mpr h2]
    rfl
theorem name_has {x : Str} (h : nameB (.str x) = true) : x.cps.toList ≠ [] ∧ x.cps.toList.length ≤ 12 ∧ (∀ c r, x.cps.toList = c :: r → inL c = true) ∧ ∀ c ∈ x.cps.toList, inS c = true := by
  have h : nameL x.cps.toList = true := h
  generalize x.cps.toList = l at h
  cases l with
  | nil => cases h
  | cons c r =>
    have h : (decide ((c :: r).length ≤ 12) && (inL c && (c :: r).all inS)) = true := h
    obtain ⟨a, h⟩ := Bool.and_eq_true_iff.mp h
    obtain ⟨b, h⟩ := Bool.and_eq_true_iff.mp h
    exact ⟨List.cons_ne_nil _ _, of_decide_eq_true a, fun c' r' e => by cases e; exact b, List.all_eq_true.mp h⟩
theorem app_list (x y : Str) : (x ++ y).cps.toList = x.cps.toList ++ y.cps.toList := by
  show (x.cps ++ y.cps).toList = _
  simp
theorem mul_list (i : Int) : (Txt.mul (PySem.Str.ofString "a") i).cps.toList = List.replicate i.toNat 97 := by
  have ea : (PySem.Str.ofString "a").cps.toList = [97] := by decide +kernel
  have el : ((PySem.Str.ofString "a").length == 0) = false := by decide +kernel
  unfold Txt.mul
  by_cases h1 : i < 1
  · rw [if_pos h1, show i.toNat = 0 by omega]
    rfl
  · rw [if_neg h1, el, Bool.or_false]
    by_cases h2 : (i == 1) = true
    · rw [if_pos h2, ea, show i.toNat = 1 by have := beq_iff_eq.mp h2; omega]
      rfl
    · rw [if_neg h2]
      show ((List.replicate i.toNat (PySem.Str.ofString "a").cps).foldl (· ++ ·) #[]).toList = _
      rw [foldl_app]
      simp only [List.map_replicate, ea]
      generalize i.toNat = n
      induction n with
      | zero => rfl
      | succ n ih =>
        rw [List.replicate_succ, List.replicate_succ]
        simpa using ih
theorem sgn_at {i : Int} (h0 : 0 ≤ i) (h1 : i < 36) : ∃ c, atI signs.cps.toList i = some c ∧ c ∈ signs.cps.toList ∧ inS c = true ∧ (i < 26 → inL c = true) := by
  obtain ⟨n, rfl⟩ : ∃ n : Nat, i = (n : Int) := ⟨i.toNat, by omega⟩
  have h : n < signs.cps.toList.length := by rw [signs_len]; omega
  have m := List.getElem_mem h
  refine ⟨signs.cps.toList[n], atI_nat (List.getElem?_eq_getElem h), m, decide_eq_true m, fun l => ?_⟩
  have all : ∀ k : Fin 26, (signs.cps.toList[k.1]?).all inL = true := by decide +kernel
  have z := all ⟨n, by omega⟩
  rw [List.getElem?_eq_getElem h] at z
  exact z
theorem in97 : inL 97 = true ∧ inS 97 = true := by decide +kernel
theorem name_one {k m : Int} {c : Nat} (h0 : 0 ≤ k) (hm : 0 ≤ m) (l : k + m ≤ 11) (hs : inS c = true) (hl : k = 0 → inL c = true) : nameB (.str (Txt.mul (PySem.Str.ofString "a") k ++ ⟨#[c]⟩ ++ Txt.mul (PySem.Str.ofString "a") m)) = true := by
  have e : (Txt.mul (PySem.Str.ofString "a") k ++ (⟨#[c]⟩ : Str) ++ Txt.mul (PySem.Str.ofString "a") m).cps.toList = List.replicate k.toNat 97 ++ [c] ++ List.replicate m.toNat 97 := by
    rw [app_list, app_list, mul_list, mul_list]
  refine name_of e (by simp) (by simp; omega) (fun c' r' q => ?_) (fun c' q => ?_)
  · by_cases z : k = 0
    · subst z
      have q : c :: List.replicate m.toNat 97 = c' :: r' := q
      cases q
      exact hl rfl
    · obtain ⟨n, hn⟩ : ∃ n, k.toNat = n + 1 := ⟨k.toNat - 1, by omega⟩
      rw [hn, List.replicate_succ] at q
      cases q
      exact in97.1
  · rcases List.mem_append.mp q with q | q
    · rcases List.mem_append.mp q with q | q
      · rw [List.eq_of_mem_replicate q]; exact in97.2
      · rw [List.mem_singleton.mp q]; exact hs
    · rw [List.eq_of_mem_replicate q]; exact in97.2
theorem glued_list : ∀ (cs : List Nat), (Str.join Str.empty (cs.map fun c => (⟨#[c]⟩ : Str))).cps.toList = cs
  | [] => rfl
  | [c] => rfl
  | c :: d :: r => by
    have ih := glued_list (d :: r)
    have e : Str.join Str.empty ((c :: d :: r).map fun c => (⟨#[c]⟩ : Str)) = (⟨#[c]⟩ : Str) ++ Str.empty ++ Str.join Str.empty ((d :: r).map fun c => (⟨#[c]⟩ : Str)) := rfl
    rw [e, app_list, app_list, ih]
    rfl
theorem name_join {cs : List Nat} (ne : cs ≠ []) (ln : cs.length ≤ 12) (h1 : ∀ c r, cs = c :: r → inL c = true) (h2 : ∀ c ∈ cs, inS c = true) : nameB (.str (Txt.join (PySem.Str.ofString "") (cs.map fun c => (⟨#[c]⟩ : Str)))) = true := by
  have e : Txt.join (PySem.Str.ofString "") (cs.map fun c => (⟨#[c]⟩ : Str)) = Str.join Str.empty (cs.map fun c => (⟨#[c]⟩ : Str)) := (StrLaws.glued_eq_join (PySem.Str.ofString "") _).trans rfl
  rw [e]
  exact name_of (glued_list cs) ne ln h1 h2
theorem cut_list (x : Str) : (cutS x none (some 11)).cps.toList = x.cps.toList.take 11 := by
  unfold cutS
  rw [lenL]
  simp [HT.sIx]
theorem name_cut {x : Str} {c : Nat} (h : nameB (.str x) = true) (hc : inS c = true) : nameB (.str (cutS x none (some 11) ++ ⟨#[c]⟩)) = true := by
  obtain ⟨a1, a2, a3, a4⟩ := name_has h
  have e : (cutS x none (some 11) ++ (⟨#[c]⟩ : Str)).cps.toList = x.cps.toList.take 11 ++ [c] := by rw [app_list, cut_list]
  refine name_of e (by simp) (by simp; omega) (fun c' r' q => ?_) (fun c' q => ?_)
  · cases z : x.cps.toList with
    | nil => exact absurd z a1
    | cons d r =>
      rw [z] at q
      have q : d :: (r.take 10 ++ [c]) = c' :: r' := q
      injection q with q1 _
      rw [← q1]
      exact a3 d r z
  · rcases List.mem_append.mp q with q | q
    · exact a4 c' (List.mem_of_mem_take q)
    · rw [List.mem_singleton.mp q]; exact hc
/-! ## Some letter is free -/
theorem pigeon {α : Type} [DecidableEq α] : ∀ {l m : List α}, l.Nodup → (∀ x ∈ l, x ∈ m) → l.length ≤ m.length
  | [], _, _, _ => Nat.zero_le _
  | x :: l, m, n, h => by
    obtain ⟨n1, n2⟩ := List.nodup_cons.mp n
    have hx := h x List.mem_cons_self
    have := pigeon (l := l) (m := m.erase x) n2 fun y hy => (List.mem_erase_of_ne (fun e => n1 (by rw [← e]; exact hy))).mpr (h y (List.mem_cons_of_mem _ hy))
    rw [List.length_erase_of_mem hx] at this
    have := List.length_pos_of_mem hx
    rw [List.length_cons]
    omega
theorem in_strs {z : Str} {ss : List Str} : inV (.str z) (ss.map V.str) = decide (z ∈ ss) := by
  rw [Bool.eq_iff_iff, decide_eq_true_iff]
  unfold inV
  rw [List.any_eq_true]
  constructor
  · rintro ⟨y, hy, e⟩
    obtain ⟨s, hs, rfl⟩ := List.mem_map.mp hy
    have : s = z := by simpa [eqV] using e
    rw [← this]; exact hs
  · intro h
    exact ⟨.str z, List.mem_map.mpr ⟨z, h, rfl⟩, by simp [eqV]⟩
theorem free_letter {x : Str} {ss : List Str} (l : ss.length < 36) (h : ∀ c ∈ signs.cps.toList, cutS x none (some 11) ++ (⟨#[c]⟩ : Str) ∈ ss) : False := by
  have inj : ∀ c d : Nat, cutS x none (some 11) ++ (⟨#[c]⟩ : Str) = cutS x none (some 11) ++ (⟨#[d]⟩ : Str) → c = d := fun c d e => by
    have e := congrArg (fun s : Str => s.cps.toList) e
    simp only [app_list] at e
    have := List.append_cancel_left e
    simpa using this
  have nd : signs.cps.toList.Nodup := by decide +kernel
  have := pigeon (l := signs.cps.toList.map fun c => cutS x none (some 11) ++ (⟨#[c]⟩ : Str)) (m := ss) (List.Pairwise.map _ (fun a b n e => n (inj a b e)) nd) fun y hy => by
    obtain ⟨c, hc, rfl⟩ := List.mem_map.mp hy
    exact h c hc
  rw [List.length_map, signs_len] at this
  omega
end Lc
set_option Elab.async false
set_option linter.all false
set_option maxRecDepth 100000
set_option maxHeartbeats 4000000
namespace Lc
open PySem PySem.Spec PyProof.Rows L2
/-! ## o.m(e, .., k = v, ..) -/
def tMethK (C : Addr) (m : Str) (n l : Nat) (sp : Sp) (gV : List V → List V → List V) (E : XK) (ta : TE) (t tk : TA) : TE := fun σ H Q => ta σ H fun x H1 => ∃ a dx fs, x = .ref a ∧ H1 a = some (.ins C dx fs) ∧ fs.lookup m = none ∧
  t σ H1 fun vs H2 => tk σ H2 fun zs H3 => vs.length = n ∧ zs.length = l ∧ sp (gV (x :: vs) zs) H3 Q E
section
variable {X : Cx} {CX : CXT} {k n : Nat} {f C : Addr} {fd : FuncData} {ps ks : List Str} {sp : Sp} {E : XK} {m : Str} {pos apos : Pos} {e o : Expr} {es : List Expr} {kws : List Keyword} {ta : TE} {t tk : TA} {g : List Value → List Value → List Value} {gV : List V → List V → List V}
theorem pe_methK {pl : Sem Bool} (he : PE X o ta) (c : Cls X.K C) (hm : Meth X.K C m f) (F : FnOk X.prog X.w X.K X.mg X.base CX k f fd ps sp) (hr : Room k X.A) (hb : KBn X.K fd ps (n + 1) ks g gV) (hx : Passes CX X E) (ha : PA X (e :: es) t) (hkw : PK X kws tk)
    (hall : (backToKw pos (keywordEach kws X.env)).all (·.1.isSome) = true := by rfl) (hks : (backToKw pos (keywordEach kws X.env)).filterMap (·.1) = ks := by rfl) (hst : starEach (e :: es) X.env = (false, eval e X.env) :: starEach es X.env := by rfl)
    (hpl : ((backTo pos (starEach (e :: es) X.env)).any (·.1) || (backToKw pos (keywordEach kws X.env)).any (·.1.isNone)) = false := by rfl)
    (ht : eval (.Call (.Attribute o m apos) (e :: es) kws pos) X.env = (do
      let ov ← eval o X.env
      standAt apos.atName
      let (f, first) ← holding [ov] (getMethod ov m pl)
      callWith pos f first (backTo pos (starEach (e :: es) X.env)) (backToKw pos (keywordEach kws X.env))) := by rfl) :
    PE X (.Call (.Attribute o m apos) (e :: es) kws pos) (tMethK C m n ks.length sp gV E ta t tk) := by
  refine ⟨fun pins s σ H Q I h => ?_⟩
  refine PySem.W.methodCall_KW (pl := pl) (thn (he.run pins s σ H _ I h) fun u s1 ⟨x, H1, I1, rx, a, dx, fs, ex, ea, l, q⟩ => ?_) ht
  subst ex
  obtain rfl : u = Value.ref a := rx
  refine getmeth_ok I1 ea c hm l ?_
  refine PySem.W.callWith_KW (first := [.ref a]) (h₀ := X.base) I.ok.mod.kin hm.kp hall (thn (ha.run pos pins s1 σ H1 _ I1 q) fun us s2 ⟨vs, H2, I2, r, q2⟩ => ?_) hpl hst
  refine thn (hkw.run pos pins s2 σ H2 _ I2 q2) fun ws s3 ⟨zs, H3, I3, rz, l1, l2, q3⟩ => ⟨I3.kIn, ?_⟩
  rw [hks]
  exact run_fnN (us := .ref a :: us) (vs := .ref a :: vs) F hr hb hx I3 (.cons rfl r) rz (by rw [List.length_cons, l1]) l2 q3
end
theorem kbN {K : PySem.W.Frag} {x qual : Str} {params : Arguments} {body : List Stmt} {scope : Scope} {kws : List (Str × V)} {f : Addr} {fd : FuncData} {ps ks : List Str} {n : Nat} (F : FunD K x qual params body scope [] kws f fd)
    (h : ∀ (kV doc pm : Value) (an : Option Addr) (cdv ct : Value) (us ws : List Value), us.length = n → ws.length = ks.length → bindArgs (PySem.W.fnOf x qual params body scope .none kV doc pm an cdv ct) ⟨us, ks.zip ws⟩ = pure (ps.zip (us ++ ws))) : KBn K fd ps n ks (fun us ws => us ++ ws) (fun vs zs => vs ++ zs) := by
  obtain ⟨oc, od, dV, kV, doc, pm, an, cdv, ct, osl, rfl, lk, hcd, hD, hK⟩ := F.ex
  rcases hD with ⟨_, rfl⟩ | ⟨e, _⟩
  · exact ⟨fun s us ws X l1 l2 => .of_eq (h kV doc pm an cdv ct us ws l1 l2), fun r1 r2 => r1.append r2⟩
  · exact absurd rfl e
/-! ## Data without lists: it stands as long as the tuples stand -/
def SameT (H H' : Hp) : Prop := ∀ b xs, H b = some (.tup xs) → H' b = some (.tup xs)
theorem SameT.refl (H : Hp) : SameT H H := fun _ _ e => e
theorem SameT.trans {H H1 H2 : Hp} (a : SameT H H1) (b : SameT H1 H2) : SameT H H2 := fun c xs e => b c xs (a c xs e)
theorem SameT.of {H H' : Hp} (s : Same H H') : SameT H H' := fun b xs e => s _ _ e
theorem SameT.b {t : Addr} {H H' : Hp} (T : Tape H t) (s : SameB t H H') : SameT H H' := fun b xs e => s _ _ (T.neT e) e
theorem SameT.at {a : Addr} {H H' : Hp} {o : HO} (h : H a = some o) (n : ∀ xs, o ≠ .tup xs) (s : SameB a H H') : SameT H H' := fun b xs e => s _ _ (fun z => by rw [z, h] at e; exact n xs (Option.some.inj e)) e
theorem SameT.lst {H : Hp} {a : Addr} {ys : List V} {o : HO} (h : H a = some (.lst ys)) : SameT H (upd H a o) := fun b xs e => by rw [upd_ne (ne_of e h nofun)]; exact e
mutual
def noL : PyData → Bool
  | .list _ => false
  | .dict _ => false
  | .tuple ds => noLs ds
  | _ => true
def noLs : List PyData → Bool
  | [] => true
  | d :: ds => noL d && noLs ds
end
mutual
theorem Dh.t {H H' : Hp} (s : SameT H H') : ∀ {v : V} {d : PyData}, Dh H v d → noL d = true → Dh H' v d
  | _, _, .non, _ => .non
  | _, _, .bl b, _ => .bl b
  | _, _, .int i, _ => .int i
  | _, _, .str x, _ => .str x
  | _, _, .tup e h, n => .tup (s _ _ e) (DhAll.t s h (by simpa [noL] using n))
  | _, _, .lst e h, n => by simp [noL] at n
  | _, _, .dct e, n => by simp [noL] at n
theorem DhAll.t {H H' : Hp} (s : SameT H H') : ∀ {vs : List V} {ds : List PyData}, DhAll H vs ds → noLs ds = true → DhAll H' vs ds
  | _, _, .nil, _ => .nil
  | _, _, .cons h r, n => by
    rw [noLs, Bool.and_eq_true_iff] at n
    exact .cons (Dh.t s h n.1) (DhAll.t s r n.2)
end
theorem noLs_app {a b : List PyData} : noLs (a ++ b) = (noLs a && noLs b) := by
  induction a with
  | nil => rfl
  | cons x a ih => rw [List.cons_append, noLs, noLs, ih, Bool.and_assoc]
theorem noLs_all {a : List PyData} : noLs a = true ↔ ∀ d ∈ a, noL d = true := by
  induction a with
  | nil => exact ⟨fun _ => nofun, fun _ => rfl⟩
  | cons x a ih =>
    rw [noLs, Bool.and_eq_true_iff, ih]
    constructor
    · rintro ⟨h1, h2⟩ d hd
      rcases List.mem_cons.mp hd with rfl | hd
      · exact h1
      · exact h2 d hd
    · exact fun h => ⟨h x List.mem_cons_self, fun d hd => h d (List.mem_cons_of_mem _ hd)⟩
end Lc
set_option Elab.async false
set_option linter.all false
set_option maxRecDepth 100000
set_option maxHeartbeats 4000000
namespace Lc
open PySem PySem.Spec PyProof.Rows L2
/-! ## a dict comprehension that is stored in a local name -/
section
variable {X : Cx}
theorem sw_dict {e1 e2 : Expr} {cs : List Comprehension} {sc : Scope} {p1 p2 : Pos} {nm : Str} {ln : Nat} {en : Env} (h1 : en.scope.kind = .function) (h2 : en.scope.names.lookup nm = some .local) (h3 : (p2.line == p1.line) = true)
    (h4 : (sc.names.any fun (a, b) => a == nm && (b == .local || b == .cell)) = false) : swapsWith (.DictComp e1 e2 cs sc p1) (some (.Name nm p2)) ln en = pure true := by
  have k1 : en.kindOf nm = some .local := h2
  have k2 : en.blockKind = .function := by
    unfold Env.blockKind
    rw [h1]
    rfl
  unfold swapsWith
  simp only [k2, k1, h4, Expr.pos, h3]
  rfl
theorem ps_setDc {i : Nat} {nm : Str} {p2 p1 p3 : Pos} {kx vx tg it : Expr} {ifs : List Expr} {sc : Scope} {own : List (Str × Nat)} {wi : TI} {g : TG} {tt : TT} {tk tv : TE} (calm : X.calm = true) (nd : X.N.Nodup) (at_ : X.N[i]? = some nm) (loc : X.env.scope.names.lookup nm = some .local)
    (sw : swapsWith (.DictComp kx vx [⟨tg, it, ifs, 0⟩] sc p1) (some (.Name nm p2)) p3.line X.env = pure true) (hi : PI X tg it wi) (ok : BlkOk X.N X.env.scope sc own)
    (hg : ∀ (s : Shared) (H : Hp) (C : Addr) (cl : List (Str × Addr)) (fp : List Addr), PG (X.blk s H sc (compEnvC sc cl C X.env) fp) tg g) (ht : ∀ (s : Shared) (H : Hp) (C : Addr) (cl : List (Str × Addr)) (fp : List Addr), PTs (X.blk s H sc (compEnvC sc cl C X.env) fp) ifs tt)
    (hk : ∀ (s : Shared) (H : Hp) (C : Addr) (cl : List (Str × Addr)) (fp : List Addr), PE (X.blk s H sc (compEnvC sc cl C X.env) fp) kx tk) (hv : ∀ (s : Shared) (H : Hp) (C : Addr) (cl : List (Str × Addr)) (fp : List Addr), PE (X.blk s H sc (compEnvC sc cl C X.env) fp) vx tv) (hs : ∀ x, foldedSetIterable it X.env x = pure x := by intro _; rfl) :
    PS X (.Assign [.Name nm p2] (.DictComp kx vx [⟨tg, it, ifs, 0⟩] sc p1) p3) (tAsg (tDc wi g tt tk tv (own.map (·.2))) (gName i)) := by
  refine ⟨fun pins st σ H D I q0 => ?_⟩
  rw [exec_Assign_Name_used _ _ _ _ sw]
  refine wpAny_bind (wpAny_standAt (wpAny_bind ?_))
  show wpAny _ X.A (do let _ ← comprehension (.DictComp kx vx [⟨tg, it, ifs, 0⟩] sc p1) sc X.env (firstIterPos [⟨tg, it, ifs, 0⟩] p1) newDict false (eval it X.env) (some (assign (.Name nm p2) X.env))) _ _ st
  have q1 : tDc wi g tt tk tv (own.map (·.2)) σ H (fun x H1 => gName i x σ H1 D.nx) := q0
  refine wpAny_bind (thn (dc_core (Qf := fun _ s' => SP X pins D .next s') calm nd I hi ok hg ht hk hv hs q1 fun L C s' mm H' I' qq hn fr => ?_) fun _ s' z => wpAny_pure (wpAny_pure z))
  show wpAny _ _ (assign (.Name nm p2) X.env (.ref L)) _ _ _
  refine wpAny_assign_Name (store_ok2 (v := V.ref L) I' nd at_ (.inl loc) rfl (fun s2 I2 ⟨a, sb, ha⟩ => ?_) (.inr loc))
  obtain ⟨g0, g1, _, g3, g4, g5⟩ := fr
  have ne : C ≠ a := by
    rcases ha with z | z
    · exact z ▸ g1
    · exact fun e => g4 nm a z e.symm
  refine ⟨mm, hn.sameBut sb ne, fun h3 sb3 => ?_⟩
  refine ⟨_, H', I2.turned (t' := s2.toks) (fun b o hb e => ?_) g0 g1 g3 g4 g5, qq⟩
  exact (sb3.2 b hb).trans e
end
/-- a dict comprehension over zip of two tuples of one length -/
theorem dc_zip {K : PySem.W.Frag} {a b : Addr} {xs ys : List V} {g : TG} {tt : TT} {tk tv : TE} {vs : List Nat} {σ : L2.St} {H1 : Hp} {D : Addr} {Qd : Hp → Prop} (hl : xs.length = ys.length) (Pv : Nat → Hp → Prop) (h0 : Pv 0 (upd H1 D (.dK []))) (hq : ∀ i H, Pv i H → SqT K H a xs ∧ SqT K H b ys)
    (hs : ∀ (i : Nat) (x y : V) (T : Addr) (H : Hp), xs[i]? = some x → ys[i]? = some y → Pv i H → H T = none → g (.ref T) (wipe σ vs) (upd H T (.tup [x, y])) fun σ2 H2 => wipe σ2 vs = wipe σ vs ∧ tt σ2 H2 fun c H3 =>
      if c = true then tk σ2 H3 fun k H4 => tv σ2 H4 fun z H5 => ∃ kvs kk, k = kV kk ∧ H5 D = some (.dK kvs) ∧ kvs.length < sizeLine ∧ Pv (i + 1) (upd H5 D (.dK (putK kvs kk z))) else Pv (i + 1) H3) (hd : ∀ H, Pv xs.length H → Qd H) :
    ∃ W : Nat → Nat → Hp → Prop, (∃ m, W 0 m (upd H1 D (.dK []))) ∧ ∀ i m H, W i m H →
      ((RZ.ItzT K a b).stop i H ∧ Qd H) ∨ ((RZ.ItzT K a b).go i H ∧ ∃ N : Hp → Prop, (∀ H', N H' → ∃ m', m' < m ∧ W (i + 1) m' H') ∧ ∀ v H', (RZ.ItzT K a b).yld i H v H' → g v (wipe σ vs) H' fun σ2 H2 => wipe σ2 vs = wipe σ vs ∧ tt σ2 H2 fun c H3 =>
        if c = true then tk σ2 H3 fun k H4 => tv σ2 H4 fun z H5 => ∃ kvs kk, k = kV kk ∧ H5 D = some (.dK kvs) ∧ kvs.length < sizeLine ∧ N (upd H5 D (.dK (putK kvs kk z))) else N H3) := by
  refine ⟨fun i m H => i + m = xs.length ∧ Pv i H, ⟨xs.length, Nat.zero_add _, h0⟩, ?_⟩
  rintro i m H ⟨em, pv⟩
  obtain ⟨q1, q2⟩ := hq i H pv
  cases m with
  | zero =>
    obtain rfl : i = xs.length := by omega
    exact .inl ⟨⟨xs, ys, q1, q2, .inl (Nat.le_refl _)⟩, hd H pv⟩
  | succ m =>
    have l1 : i < xs.length := by omega
    have l2 : i < ys.length := by omega
    refine .inr ⟨⟨xs, ys, _, _, q1, q2, List.getElem?_eq_getElem l1, List.getElem?_eq_getElem l2⟩, Pv (i + 1), fun H' p' => ⟨m, by omega, by omega, p'⟩, fun v H' yl => ?_⟩
    obtain ⟨T, x', y', rfl, hT, rfl, f1, f2⟩ := yl
    exact hs i x' y' T H (f1 xs q1) (f2 ys q2) pv hT
section
variable {X : Cx} {k : Nat} {f : Addr} {fd : FuncData} {ps : List Str} {sp : Sp} {x : Str} {p pos : Pos}
/-- f(), f kept under FnG -/
theorem pe_callG0 (F : FnG X.prog X.w X.K X.mg X.base k f fd ps sp) (gg : X.A.guards = some []) (hr : Room k X.A) (hg : Gl X x) (hm : X.mg x = some (.ref f)) (hk : PySem.W.keepIn X.K (.ref f) = true) (hb : Binds X.K fd ps []) (hdb : (x == ("__debug__" : Str)) = false := by decide) :
    PE X (.Call (.Name x p) [] [] pos) (tCall sp [] E0 tNil) := by
  refine ⟨fun pins s σ H Q I h => wpAny_Call_Name_kw (ld_glob I hg hm ?_ hdb)⟩
  refine PySem.W.callWith_K0 I.kIn hk ?_
  have q : sp [] H Q E0 := h
  have hl : ([] : List V).length = ps.length := F.len _ _ _ _ q
  have b := hb s [] I.kIn hl
  refine wpAny_call (codeAny_mono (F.run X.A X.stack s H ⟨[], []⟩ [] [] Q E0 gg hr I.env0 b .nil q) fun rr s' hq => ?_)
  cases rr with
  | error er => exact hq.elim
  | ok fl =>
    cases fl with
    | ret u => exact I.after hq
    | next => exact hq.elim
    | brk => exact hq.elim
    | cont => exact hq.elim
end
/-- a list comprehension over zip of two tuples of one length -/
theorem lc_zip {K : PySem.W.Frag} {a b : Addr} {xs ys : List V} {g : TG} {tt : TT} {te : TE} {vs : List Nat} {σ : L2.St} {H1 : Hp} {D : Addr} {Qd : Hp → Prop} (hl : xs.length = ys.length) (Pv : Nat → Hp → Prop) (h0 : Pv 0 (upd H1 D (.lst []))) (hq : ∀ i H, Pv i H → SqT K H a xs ∧ SqT K H b ys)
    (hs : ∀ (i : Nat) (x y : V) (T : Addr) (H : Hp), xs[i]? = some x → ys[i]? = some y → Pv i H → H T = none → g (.ref T) (wipe σ vs) (upd H T (.tup [x, y])) fun σ2 H2 => wipe σ2 vs = wipe σ vs ∧ tt σ2 H2 fun c H3 =>
      if c = true then te σ2 H3 fun z H4 => ∃ acc, H4 D = some (.lst acc) ∧ acc.length < sizeLine ∧ Pv (i + 1) (upd H4 D (.lst (acc ++ [z]))) else Pv (i + 1) H3) (hd : ∀ H, Pv xs.length H → Qd H) :
    ∃ W : Nat → Nat → Hp → Prop, (∃ m, W 0 m (upd H1 D (.lst []))) ∧ ∀ i m H, W i m H →
      ((RZ.ItzT K a b).stop i H ∧ Qd H) ∨ ((RZ.ItzT K a b).go i H ∧ ∃ N : Hp → Prop, (∀ H', N H' → ∃ m', m' < m ∧ W (i + 1) m' H') ∧ ∀ v H', (RZ.ItzT K a b).yld i H v H' → g v (wipe σ vs) H' fun σ2 H2 => wipe σ2 vs = wipe σ vs ∧ tt σ2 H2 fun c H3 =>
        if c = true then te σ2 H3 fun z H4 => ∃ acc, H4 D = some (.lst acc) ∧ acc.length < sizeLine ∧ N (upd H4 D (.lst (acc ++ [z]))) else N H3) := by
  refine ⟨fun i m H => i + m = xs.length ∧ Pv i H, ⟨xs.length, Nat.zero_add _, h0⟩, ?_⟩
  rintro i m H ⟨em, pv⟩
  obtain ⟨q1, q2⟩ := hq i H pv
  cases m with
  | zero =>
    obtain rfl : i = xs.length := by omega
    exact .inl ⟨⟨xs, ys, q1, q2, .inl (Nat.le_refl _)⟩, hd H pv⟩
  | succ m =>
    have l1 : i < xs.length := by omega
    have l2 : i < ys.length := by omega
    refine .inr ⟨⟨xs, ys, _, _, q1, q2, List.getElem?_eq_getElem l1, List.getElem?_eq_getElem l2⟩, Pv (i + 1), fun H' p' => ⟨m, by omega, by omega, p'⟩, fun v H' yl => ?_⟩
    obtain ⟨T, x', y', rfl, hT, rfl, f1, f2⟩ := yl
    exact hs i x' y' T H (f1 xs q1) (f2 ys q2) pv hT
theorem paired_snoc {α β : Type} {R : α → β → Prop} {a : α} {b : β} (h : R a b) : ∀ {l : List α} {m : List β}, Paired R l m → Paired R (l ++ [a]) (m ++ [b])
  | _, _, .nil => .cons h .nil
  | _, _, .cons g r => .cons g (paired_snoc h r)
theorem paired_imp {α β : Type} {R S : α → β → Prop} (h : ∀ a b, R a b → S a b) : ∀ {l : List α} {m : List β}, Paired R l m → Paired S l m
  | _, _, .nil => .nil
  | _, _, .cons g r => .cons (h _ _ g) (paired_imp h r)
end Lc
set_option Elab.async false
set_option linter.all false
set_option maxRecDepth 100000
set_option maxHeartbeats 4000000
namespace Lc
open PySem PySem.Spec PyProof.Rows L2 PySem.NumText
/-! ## Digits -/
def digs (m : Nat) : List Nat := (Nat.toDigits 10 m).map Char.toNat
theorem digs_small {m : Nat} (h : m < 10) : digs m = [48 + m] := by
  unfold digs
  rw [Nat.toDigits_of_lt_base h]
  have : ∀ k < 10, (Nat.digitChar k).toNat = 48 + k := by decide
  show [(Nat.digitChar m).toNat] = _
  rw [this m h]
theorem digs_big {m : Nat} (h : 10 ≤ m) : digs m = digs (m / 10) ++ [48 + m % 10] := by
  have hm : m % 10 < 10 := Nat.mod_lt m (by decide)
  have t : Nat.toDigits 10 (m / 10) ++ Nat.toDigits 10 (m % 10) = Nat.toDigits 10 (10 * (m / 10) + m % 10) := Nat.toDigits_append_toDigits (by decide) (by omega) hm
  rw [Nat.div_add_mod] at t
  have e := digs_small hm
  unfold digs at e ⊢
  rw [← t, List.map_append, e]
theorem digs_val (m : Nat) : digitsVal (digs m) = m := W.KIN.val_back m
theorem digs_all : ∀ m, AllDigits (digs m) := by
  intro m
  induction m using Nat.strongRecOn with
  | _ m ih =>
    by_cases h : m < 10
    · rw [digs_small h]
      intro c hc
      have : c = 48 + m := by simpa using hc
      omega
    · rw [digs_big (by omega)]
      intro c hc
      rcases List.mem_append.mp hc with hc | hc
      · exact ih (m / 10) (by omega) c hc
      · have : c = 48 + m % 10 := by simpa using hc
        omega
theorem digs_head : ∀ m, ∃ c r, digs m = c :: r ∧ (c = 48 → r = []) := by
  intro m
  have key : ∀ m, ∃ c r, digs m = c :: r ∧ (0 < m → 49 ≤ c) := by
    intro m
    induction m using Nat.strongRecOn with
    | _ m ih =>
      by_cases h : m < 10
      · exact ⟨48 + m, [], digs_small h, fun _ => by omega⟩
      · obtain ⟨c, r, e, g⟩ := ih (m / 10) (by omega)
        refine ⟨c, r ++ [48 + m % 10], ?_, fun _ => g (by omega)⟩
        rw [digs_big (by omega), e]
        rfl
  by_cases z : m = 0
  · exact ⟨48, [], by rw [z]; exact digs_small (by decide), fun _ => rfl⟩
  · obtain ⟨c, r, e, g⟩ := key m
    exact ⟨c, r, e, fun h => by have := g (by omega); omega⟩
theorem digs_len : ∀ (p m : Nat), 0 < p → m < 10 ^ p → (digs m).length ≤ p := by
  intro p
  induction p with
  | zero => intro m h; omega
  | succ p ih =>
    intro m _ h
    by_cases z : m < 10
    · rw [digs_small z]
      simp
    · rw [digs_big (by omega), List.length_append]
      have hp : 0 < p := by
        cases p with
        | zero => omega
        | succ q => omega
      have : m / 10 < 10 ^ p := by
        rw [Nat.div_lt_iff_lt_mul (by decide)]
        rw [Nat.pow_succ] at h
        exact h
      have := ih (m / 10) hp this
      simp only [List.length_cons, List.length_nil]
      omega
def zf (p r : Nat) : List Nat := List.replicate (p - (digs r).length) 48 ++ digs r
theorem zf_len {p r : Nat} (hp : 0 < p) (h : r < 10 ^ p) : (zf p r).length = p := by
  have := digs_len p r hp h
  unfold zf
  rw [List.length_append, List.length_replicate]
  omega
theorem zf_all (p r : Nat) : AllDigits (zf p r) := by
  intro c hc
  rcases List.mem_append.mp hc with hc | hc
  · have := List.eq_of_mem_replicate hc
    omega
  · exact digs_all r c hc
theorem val_from (l : List Nat) : ∀ a : Nat, l.foldl (fun acc c => acc * 10 + (c - 48)) a = a * 10 ^ l.length + digitsVal l := by
  induction l with
  | nil => intro a; simp [digitsVal]
  | cons c l ih =>
    intro a
    show l.foldl _ (a * 10 + (c - 48)) = _
    have e2 : digitsVal (c :: l) = l.foldl (fun acc c => acc * 10 + (c - 48)) (0 * 10 + (c - 48)) := rfl
    rw [ih, e2, ih, List.length_cons, Nat.pow_succ, Nat.zero_mul, Nat.zero_add, Nat.add_mul, Nat.mul_assoc, Nat.mul_comm 10]
    omega
theorem val_app (a b : List Nat) : digitsVal (a ++ b) = digitsVal a * 10 ^ b.length + digitsVal b := by
  unfold digitsVal
  rw [List.foldl_append]
  exact val_from b _
theorem val_zeros (k : Nat) : digitsVal (List.replicate k 48) = 0 := by
  induction k with
  | zero => rfl
  | succ k ih =>
    rw [List.replicate_succ, digitsVal_zero]
    exact ih
theorem zf_val (p r : Nat) : digitsVal (zf p r) = r := by
  unfold zf
  rw [val_app, val_zeros, digs_val]
  omega
/-! ## A text cut at the point -/
def jl : List (List Nat) → List Nat
  | [] => []
  | [x] => x
  | x :: y :: r => x ++ 46 :: jl (y :: r)
theorem cut_eq : ∀ {a b x y : List Nat}, 46 ∉ a → 46 ∉ b → a ++ 46 :: x = b ++ 46 :: y → a = b ∧ x = y
  | [], [], _, _, _, _, e => ⟨rfl, (List.cons.inj e).2⟩
  | [], c :: b, _, _, _, hb, e => absurd (List.cons.inj e).1 (fun z => hb (by rw [z]; exact List.mem_cons_self))
  | c :: a, [], _, _, ha, _, e => absurd (List.cons.inj e).1.symm (fun z => ha (by rw [z]; exact List.mem_cons_self))
  | c :: a, d :: b, x, y, ha, hb, e => by
    obtain ⟨e1, e2⟩ := List.cons.inj e
    obtain ⟨h1, h2⟩ := cut_eq (fun z => ha (List.mem_cons_of_mem _ z)) (fun z => hb (List.mem_cons_of_mem _ z)) e2
    exact ⟨by rw [e1, h1], h2⟩
theorem jl_one {ps : List (List Nat)} {a : List Nat} (hne : a ≠ []) (ha : 46 ∉ a) (e : jl ps = a) : ps = [a] := by
  match ps, e with
  | [], e => exact absurd e.symm hne
  | [x], e => rw [← show x = a from e]
  | x :: y :: r, e => exact absurd (by rw [← show x ++ 46 :: jl (y :: r) = a from e]; simp) ha
theorem jl_two {ps : List (List Nat)} {a b : List Nat} (hf : ∀ p ∈ ps, 46 ∉ p) (ha : 46 ∉ a) (hb : 46 ∉ b) (hne : b ≠ []) (e : jl ps = a ++ 46 :: b) : ps = [a, b] := by
  match ps, hf, e with
  | [], _, e => exact absurd e (by simp [jl])
  | [x], hf, e => exact absurd (by rw [show x = a ++ 46 :: b from e]; simp) (hf x List.mem_cons_self)
  | x :: y :: r, hf, e =>
    obtain ⟨h1, h2⟩ := cut_eq (hf x List.mem_cons_self) ha (show x ++ 46 :: jl (y :: r) = a ++ 46 :: b from e)
    rw [h1, jl_one hne hb h2]
theorem toL_join : ∀ ps : List Str, (Str.join ⟨#[46]⟩ ps).cps.toList = jl (ps.map fun p => p.cps.toList)
  | [] => rfl
  | [x] => rfl
  | x :: y :: r => by
    have ih := toL_join (y :: r)
    have e : Str.join ⟨#[46]⟩ (x :: y :: r) = x ++ ⟨#[46]⟩ ++ Str.join ⟨#[46]⟩ (y :: r) := rfl
    rw [e]
    show (x.cps ++ #[46] ++ (Str.join ⟨#[46]⟩ (y :: r)).cps).toList = _
    rw [Array.toList_append, Array.toList_append, ih]
    show x.cps.toList ++ [46] ++ jl (y.cps.toList :: r.map fun p => p.cps.toList) = x.cps.toList ++ 46 :: jl (y.cps.toList :: r.map fun p => p.cps.toList)
    rw [List.append_assoc]
    rfl
theorem dot_eq : PySem.Str.ofString "." = ⟨#[46]⟩ := by decide +kernel
theorem map_toL {ps : List Str} {ls : List (List Nat)} (h : ps.map (fun p => p.cps.toList) = ls) : ps = ls.map fun l => (⟨l.toArray⟩ : Str) := by
  rw [← h, List.map_map]
  have : ((fun l => (⟨l.toArray⟩ : Str)) ∘ fun p : Str => p.cps.toList) = id := by
    funext p
    obtain ⟨⟨l⟩⟩ := p
    rfl
  rw [this, List.map_id]
theorem split_jl (x : Str) : jl ((Txt.split x ⟨#[46]⟩).map fun p => p.cps.toList) = x.cps.toList := by
  rw [← toL_join, StrLaws.join_split]
theorem split_one {x : Str} (h : 46 ∉ x.cps.toList) (hne : x.cps.toList ≠ []) : Txt.split x ⟨#[46]⟩ = [x] := by
  have e := map_toL (jl_one hne h (split_jl x))
  rw [e]
  obtain ⟨⟨l⟩⟩ := x
  rfl
theorem split_two {x : Str} {a b : List Nat} (e : x.cps.toList = a ++ 46 :: b) (ha : 46 ∉ a) (hb : 46 ∉ b) (hne : b ≠ []) : Txt.split x ⟨#[46]⟩ = [⟨a.toArray⟩, ⟨b.toArray⟩] := by
  refine map_toL (jl_two (fun p hp => ?_) ha hb hne ((split_jl x).trans e))
  obtain ⟨q, hq, rfl⟩ := List.mem_map.mp hp
  exact StrLaws.split_free x 46 q hq
/-! ## Rounding -/
def ab (n : Int) : Int := if n < 0 then -n else n
def nu (n d s : Int) : Int := if n < 0 then -((2 * ab n * s + d) / (2 * d)) else (2 * ab n * s + d) / (2 * d)
theorem ab_nonneg (n : Int) : 0 ≤ ab n := by unfold ab; split <;> omega
theorem ab_nat (n : Int) : ab n = (n.natAbs : Int) := by unfold ab; split <;> omega
theorem nu_ab {n d s : Int} (hd : 0 < d) (hs : 0 < s) : ab (nu n d s) = (2 * ab n * s + d) / (2 * d) ∧ (nu n d s < 0 → n < 0) := by
  have h0 : 0 ≤ (2 * ab n * s + d) / (2 * d) := Int.ediv_nonneg (by have := Int.mul_nonneg (Int.mul_nonneg (by decide : (0:Int) ≤ 2) (ab_nonneg n)) (Int.le_of_lt hs); omega) (by omega)
  unfold nu
  generalize (2 * ab n * s + d) / (2 * d) = q at h0
  split
  · exact ⟨by unfold ab; split <;> omega, fun _ => by assumption⟩
  · exact ⟨by unfold ab; split <;> omega, fun h => by omega⟩
theorem nu_near {n d s : Int} (hd : 0 < d) (hs : 0 < s) : 2 * (ab (nu n d s) * d) ≤ 2 * (ab n * s) + d ∧ 2 * (ab n * s) < 2 * (ab (nu n d s) * d) + d := by
  rw [(nu_ab hd hs).1]
  have e := Int.mul_ediv_add_emod (2 * ab n * s + d) (2 * d)
  have r0 := Int.emod_nonneg (2 * ab n * s + d) (by omega : 2 * d ≠ 0)
  have r1 := Int.emod_lt_of_pos (2 * ab n * s + d) (by omega : 0 < 2 * d)
  generalize (2 * ab n * s + d) / (2 * d) = q at e
  generalize (2 * ab n * s + d) % (2 * d) = r at e r0 r1
  rw [Int.mul_assoc 2 d q, Int.mul_comm d q, Int.mul_assoc 2 (ab n) s] at e
  omega
/-- the same units again -/
theorem nu_again {u s a b : Int} (hs : 0 < s) (hb : 0 < b) (h : a * s = u * b) (hsg : (a < 0) ↔ (u < 0)) : nu a b s = u := by
  have e1 : ab a * s = ab u * b := by
    unfold ab
    by_cases z : a < 0
    · rw [if_pos z, if_pos (hsg.mp z), Int.neg_mul, Int.neg_mul, h]
    · rw [if_neg z, if_neg (fun q => z (hsg.mpr q)), h]
  have e2 : (2 * ab a * s + b) / (2 * b) = ab u := by
    have : 2 * ab a * s + b = b + 2 * b * ab u := by
      rw [Int.mul_assoc, e1, Int.mul_comm (ab u) b, ← Int.mul_assoc]
      omega
    rw [this, Int.add_mul_ediv_left _ _ (by omega : 2 * b ≠ 0), Int.ediv_eq_zero_of_lt (by omega) (by omega)]
    omega
  unfold nu
  rw [e2]
  unfold ab
  by_cases z : a < 0
  · rw [if_pos z, if_pos (hsg.mp z)]
    omega
  · rw [if_neg z, if_neg (fun q => z (hsg.mpr q))]
/-! ## What a decimal looks like -/
def tenP (p : Nat) : Nat := 10 ^ p
def decB (u : Int) (p : Nat) : List Nat := digs (u.natAbs / 10 ^ p) ++ (if p = 0 then [] else 46 :: zf p (u.natAbs % 10 ^ p))
def decL (u : Int) (p : Nat) : List Nat := (if u < 0 then [45] else []) ++ decB u p
end Lc
namespace Lc
open PySem PySem.Spec PyProof.Rows L2 PySem.NumText
theorem appL (x y : Str) : (x ++ y).cps.toList = x.cps.toList ++ y.cps.toList := by
  show (x.cps ++ y.cps).toList = _
  simp
theorem numL (m : Nat) : (PySem.Str.ofString (toString ((m : Nat) : Int))).cps.toList = digs m := W.KIN.signs_num m
theorem zfillL {a : Str} {k r : Nat} (h : a.cps.toList = digs r) : (Txt.zfill a (k : Int)).cps.toList = zf k r := by
  have ln : a.length = (digs r).length := by rw [lenL, h]
  unfold Txt.zfill
  by_cases z : (k : Int) ≤ a.length
  · rw [if_pos z, h]
    unfold zf
    rw [show k - (digs r).length = 0 by omega]
    rfl
  · rw [if_neg z]
    obtain ⟨c, rr, e, _⟩ := digs_head r
    have c0 : a.cps[0]? = some c := by
      rw [← Array.getElem?_toList, h, e]
      rfl
    have cd := digs_all r c (by rw [e]; exact List.mem_cons_self)
    have e2 : zfilled a ((k : Int).toNat - a.length) = Builtin.Str.padded a ((k : Int).toNat - a.length) 0 48 := by
      unfold zfilled
      rw [c0]
      split
      · rename_i q
        injection q with q
        omega
      · rename_i q
        injection q with q
        omega
      · rfl
    rw [e2]
    unfold Builtin.Str.padded zf
    show (Array.replicate ((k : Int).toNat - a.length) 48 ++ a.cps ++ Array.replicate 0 48).toList = _
    rw [Array.toList_append, Array.toList_append, Array.toList_replicate, Array.toList_replicate, h, ln]
    simp
theorem nu_le {n d s : Int} (hd : 0 < d) (hs : 0 < s) : ab (nu n d s) ≤ ab n * s := by
  have h := (nu_near (n := n) hd hs).1
  have N0 : 0 ≤ ab n * s := Int.mul_nonneg (ab_nonneg n) (Int.le_of_lt hs)
  generalize ab n * s = N at h N0
  generalize ab (nu n d s) = U at h
  rcases (by omega : N < U ∨ U ≤ N) with z | z
  · have a1 : (N + 1) * d ≤ U * d := Int.mul_le_mul_of_nonneg_right (by omega) (by omega)
    have a2 : N * 1 ≤ N * d := Int.mul_le_mul_of_nonneg_left (by omega) N0
    rw [Int.add_mul, Int.one_mul] at a1
    omega
  · exact z
inductive Pk (H : Hp) : V → Prop
  | ty {v : V} {t : String} (h : TyN H v t) (n : t ≠ "int") : Pk H v
  | out {k : Int} (h : k < 0 ∨ 9 < k) : Pk H (.int k)
theorem Pk.same {H H' : Hp} {v : V} (h : Pk H v) (s : Same H H') : Pk H' v := by
  cases h with
  | ty h n => exact .ty (h.same s) n
  | out h => exact .out h
theorem pad9 {k : Nat} (h : k ≤ 9) : PadOk (k : Int) = true := by
  have : ∀ k ≤ 9, PadOk ((k : Nat) : Int) = true := by decide +kernel
  exact this k h
theorem ten_pos (k : Nat) : (0 : Int) < 10 ^ k := Int.pow_pos (by decide)
theorem ten_small {k : Nat} (h : k ≤ 9) : ((10 : Int) ^ k).natAbs < 2 ^ 40 := by
  have : ∀ k ≤ 9, ((10 : Int) ^ k).natAbs < 2 ^ 40 := by decide +kernel
  exact this k h
end Lc
namespace Lc
open PySem PySem.Spec PyProof.Rows L2 PySem.NumText
theorem cut_first (x : Str) : (cutS x none (some 1)).cps.toList = x.cps.toList.take 1 := by
  have e : HT.sIx x.length 0 none = 0 := rfl
  have e2 : HT.sIx x.length x.length (some 1) = min 1 x.length := rfl
  unfold cutS
  rw [e, e2]
  show (x.cps.toList.drop 0).take (min 1 x.length - 0) = _
  rw [List.drop_zero, Nat.sub_zero, lenL]
  cases x.cps.toList with
  | nil => rfl
  | cons c r => simp
theorem cut_rest (x : Str) : (cutS x (some 1) none).cps.toList = x.cps.toList.drop 1 := by
  have e : HT.sIx x.length 0 (some 1) = min 1 x.length := rfl
  have e2 : HT.sIx x.length x.length none = x.length := rfl
  unfold cutS
  rw [e, e2]
  show (x.cps.toList.drop (min 1 x.length)).take (x.length - min 1 x.length) = _
  rw [lenL]
  cases x.cps.toList with
  | nil => rfl
  | cons c r => simp
theorem str_ext {x y : Str} (h : x.cps.toList = y.cps.toList) : x = y := by
  obtain ⟨⟨l⟩⟩ := x
  obtain ⟨⟨m⟩⟩ := y
  have : l = m := h
  rw [this]
theorem dec_head (u : Int) (k : Nat) : ∃ c r, decB u k = c :: r ∧ 48 ≤ c ∧ c ≤ 57 := by
  obtain ⟨c, r, e, _⟩ := digs_head (u.natAbs / 10 ^ k)
  have h := digs_all (u.natAbs / 10 ^ k) c (by rw [e]; exact List.mem_cons_self)
  exact ⟨c, _, by unfold decB; rw [e]; rfl, h.1, h.2⟩
theorem minus_is {x : Str} {u : Int} {k : Nat} (h : x.cps.toList = decL u k) : decide (V.str (cutS x none (some 1)) = V.str "-") = decide (u < 0) := by
  rw [Bool.eq_iff_iff, decide_eq_true_iff, decide_eq_true_iff]
  have e45 : (PySem.Str.ofString "-").cps.toList = [45] := by decide +kernel
  constructor
  · intro q
    injection q with q
    have z := cut_first x
    rw [q, h, e45] at z
    rcases (by omega : u < 0 ∨ ¬ u < 0) with g | g
    · exact g
    · obtain ⟨c, r, e, h1, h2⟩ := dec_head u k
      unfold decL at z
      rw [if_neg g, e] at z
      have : (45 : Nat) = c := by simpa using z
      omega
  · intro q
    have : cutS x none (some 1) = PySem.Str.ofString "-" := by
      apply str_ext
      rw [cut_first, h, e45]
      unfold decL
      rw [if_pos q]
      rfl
    rw [this]
theorem below_is {x : Str} {u : Int} {k : Nat} (h : x.cps.toList = decL u k) (n : u < 0) : (cutS x (some 1) none).cps.toList = decB u k := by
  rw [cut_rest, h]
  unfold decL
  rw [if_pos n]
  rfl
theorem digs_len_le {m : Nat} (h : m < 2 ^ 1100) : (digs m).length ≤ 1921 := by
  rw [← numL, ← lenL]
  refine int_text_len_1921 ?_
  rw [Int.natAbs_natCast]
  by_cases z : m = 0
  · rw [z]
    decide
  · exact Nat.lt_of_lt_of_le ((Nat.log2_lt z).mpr h) (by decide)
theorem decL_len {u : Int} {k : Nat} (h : u.natAbs < 2 ^ 1100) (k9 : k ≤ 9) : (decL u k).length ≤ 1940 ∧ (decB u k).length ≤ 1939 := by
  have h1 := digs_len_le (Nat.lt_of_le_of_lt (Nat.div_le_self u.natAbs (10 ^ k)) h)
  have h2 : (decB u k).length ≤ 1939 := by
    unfold decB
    rw [List.length_append]
    split
    · simp; omega
    · have := zf_len (p := k) (r := u.natAbs % 10 ^ k) (by omega) (Nat.mod_lt _ (Nat.pow_pos (by decide)))
      rw [List.length_cons, this]
      omega
  refine ⟨?_, h2⟩
  unfold decL
  rw [List.length_append]
  split
  · simp only [List.length_cons, List.length_nil]; omega
  · simp only [List.length_nil]; omega
theorem joinL_toL (ys : List Str) : (Txt.join (PySem.Str.ofString "") ys).cps.toList = (ys.map fun y => y.cps.toList).flatten := by
  have e : Txt.join (PySem.Str.ofString "") ys = Str.join Str.empty ys := (StrLaws.glued_eq_join (PySem.Str.ofString "") ys).trans rfl
  rw [e]
  have key : ∀ ys : List Str, (Str.join Str.empty ys).cps.toList = (ys.map fun y => y.cps.toList).flatten := by
    intro ys
    induction ys with
    | nil => rfl
    | cons x r ih =>
      cases r with
      | nil =>
        show x.cps.toList = _
        simp
      | cons y r =>
        have e : Str.join Str.empty (x :: y :: r) = x ++ Str.empty ++ Str.join Str.empty (y :: r) := rfl
        rw [e, appL, appL, ih]
        simp [Str.empty]
  exact key ys
def ten10 : Str := "0123456789"
theorem index_ten {c : Nat} (h : 48 ≤ c ∧ c ≤ 57) : Builtin.Str.occurrences ten10 ⟨#[c]⟩ 0 ten10.length 1 = [c - 48] := by
  have key : ∀ d < 10, Builtin.Str.occurrences ten10 ⟨#[48 + d]⟩ 0 ten10.length 1 = [d] := by decide +kernel
  have := key (c - 48) (by omega)
  rw [show 48 + (c - 48) = c by omega] at this
  exact this
theorem in_ten {c : Nat} (h : 48 ≤ c ∧ c ≤ 57) : decide (c ∈ ten10.cps.toList) = true := by
  have key : ∀ d < 10, decide (48 + d ∈ ten10.cps.toList) = true := by decide +kernel
  have := key (c - 48) (by omega)
  rw [show 48 + (c - 48) = c by omega] at this
  exact this
end Lc
set_option Elab.async false
set_option linter.all false
set_option maxRecDepth 100000
set_option maxHeartbeats 4000000
namespace Lc
open PySem PySem.Spec PyProof.Rows L2
/-! ## sets of texts: made of a list, sorted -/
def keyX (e : Int × Value) : Str := match e.2 with | .str k _ => k | _ => Str.empty
def GoodX (w : World) (e : Int × Value) : Prop := ∃ k tk, e.2 = Value.str k tk ∧ e.1 = hashStr w k
/-- the set of the texts ks at a -/
def SetX (w : World) (h : Heap) (a : Addr) (ks : List Str) : Prop :=
  ∃ o es ep t, h.get? a = some o ∧ o.ExactSet ∧ o.data = .set es ep t ∧ (∀ e ∈ es.toList, GoodX w e) ∧ (es.toList.map keyX).Nodup ∧ (∀ k, k ∈ ks ↔ k ∈ es.toList.map keyX) ∧
    es.size < scanBound ∧ es.size ≤ ks.length ∧ t.fits es.size = true ∧ Ris t.place.toList ∧ (w.params.followText "set-order" = true ∨ t.led = true)
section
variable {P : Program} {w : World} {h h' : Heap} {a : Addr} {ks : List Str}
theorem SetX.at (R : SetX w h a ks) (k : ∀ o, h.get? a = some o → h'.get? a = some o) : SetX w h' a ks := by
  obtain ⟨o, es, ep, t, ho, r⟩ := R
  exact ⟨o, es, ep, t, k o ho, r⟩
theorem goodX_elems {l : List (Int × Value)} (g : ∀ e ∈ l, GoodX w e) : ElemsOf (strKind P w) l := fun e he => by
  obtain ⟨k, tk, h1, h2⟩ := g e he
  exact ⟨⟨k, by rw [h1]; exact strKind_is _ _ _ _, h2⟩, by rw [h1] <;> rfl⟩
theorem goodX_is {e : Int × Value} (g : GoodX w e) (k : Str) : (strKind P w).is k e.2 = true ↔ keyX e = k := by
  obtain ⟨k0, tk, h1, _⟩ := g
  unfold keyX
  rw [h1]
  constructor
  · intro q
    exact (strKind P w).inj (.str k0 tk) k0 k (strKind_is _ _ _ _) q
  · intro q
    rw [← q]
    exact strKind_is _ _ _ _
theorem goodX_mem {l : List (Int × Value)} (g : ∀ e ∈ l, GoodX w e) (k : Str) : k ∈ l.map keyX ↔ ∃ e ∈ l, (strKind P w).is k e.2 = true := by
  rw [List.mem_map]
  constructor
  · rintro ⟨e, he, q⟩
    exact ⟨e, he, (goodX_is (g e he) k).2 q⟩
  · rintro ⟨e, he, q⟩
    exact ⟨e, he, (goodX_is (g e he) k).1 q⟩
end
section
variable {P : Program} {w : World} {A : Around} {E : Value → Shared → Prop} {s : Shared} {a : Addr} {ks : List Str}
theorem setX_tail {g : Bool → Sem Unit} (hg : ∀ (b : Bool) (s₁ : Shared) (Q' : Unit → Shared → Prop), Q' () s₁ → wpAny (model P w) A (g b) Q' E s₁)
    {o : Obj} {es : Array (Int × Value)} {ep : Nat} {t : SetTable} (ho : s.heap.get? a = some o) (hex : o.ExactSet) (hd : o.data = .set es ep t)
    {es1 : Array (Int × Value)} {t2 : SetTable} {ks' : List Str} (g1 : ∀ e ∈ es1.toList, GoodX w e) (nd1 : (es1.toList.map keyX).Nodup) (m1 : ∀ k, k ∈ ks' ↔ k ∈ es1.toList.map keyX)
    (hb1 : es1.size < scanBound) (hl1 : es1.size ≤ ks'.length) (hf2 : t2.fits es1.size = true) (hr : Ris t2.place.toList) (hl : w.params.followText "set-order" = true ∨ t2.led = true) {wasDummy : Bool} {R : Option Bool → Shared → Prop}
    (hR : ∀ h', Heap.SameBut a s.heap h' → SetX w h' a ks' → R (some true) { s with heap := h' }) :
    wpAny (model P w) A (do
        storeSet a es1 t2
        if (!wasDummy && t2.tooFull) = true then do
            g (relayAll t2 es1 (SetTable.grown es1.size)).2.2
            storeSet a (relayAll t2 es1 (SetTable.grown es1.size)).1 (relayAll t2 es1 (SetTable.grown es1.size)).2.1
            pure (some true)
          else pure (some true)) R E s := by
  refine wpAny_bind (wpAny_storeSet_of ho hd ?_ (fits_of_scanBound hb1))
  have ho1 := store_at (es' := es1) (t' := t2) ho hd
  have sb1 := Heap.SameBut.update s.heap a (Obj.putSet es1 t2)
  split
  · have pm := relayAll_perm t2 es1 (SetTable.grown es1.size)
    have hf3 := relayAll_fits t2 es1 (SetTable.grown es1.size)
    have hr3 := relayAll_ris t2 es1 (SetTable.grown es1.size)
    have hl3 := relayAll_led t2 es1 (SetTable.grown es1.size)
    generalize relayAll t2 es1 (SetTable.grown es1.size) = Z at pm hf3 hr3 hl3 ⊢
    obtain ⟨es2, t3, gave⟩ := Z
    dsimp only at pm hf3 hr3 hl3 ⊢
    have hsz : es2.size = es1.size := by rw [← Array.length_toList, pm.length_eq, Array.length_toList]
    refine wpAny_bind (hg _ _ _ ?_)
    refine wpAny_bind (wpAny_storeSet_of ho1 rfl ?_ (fits_of_scanBound (by rw [hsz]; exact hb1)))
    have ho2 := store_at (es' := es2) (t' := t3) ho1 rfl
    refine wpAny_pure (hR _ (sb1.trans (Heap.SameBut.update _ a _)) ?_)
    exact ⟨_, es2, _, t3, ho2, hex, rfl, fun e he => g1 e (pm.mem_iff.mp he), (pm.map keyX).nodup_iff.mpr nd1, fun k => (m1 k).trans (pm.map keyX).mem_iff.symm, by rw [hsz]; exact hb1, by rw [hsz]; exact hl1, hf3, hr3,
      hl.imp id fun z => by rw [hl3]; exact z⟩
  · exact wpAny_pure (hR _ sb1 ⟨_, es1, _, t2, ho1, hex, rfl, g1, nd1, m1, hb1, hl1, hf2, hr, hl⟩)
theorem setX_add {k : Str} {tk : Tok} {Q : Bool → Shared → Prop} (R : SetX w s.heap a ks) (room : ks.length + 1 < scanBound)
    (hQ : ∀ b h', Heap.SameBut a s.heap h' → SetX w h' a (ks ++ [k]) → Q b { s with heap := h' }) :
    wpAny (model P w) A (setAddHashed a (.str k tk) ((strKind P w).hash k)) Q E s := by
  obtain ⟨o, es, ep, t, ho, hex, hd, g, nd, hm, hb, hlen, hf, hr, hl⟩ := R
  have hkey : (strKind P w).is k (.str k tk) = true := strKind_is _ _ _ _
  have hsc : (Value.str k tk).scannable = true := rfl
  have hel : ElemsOf (strKind P w) es.toList := goodX_elems g
  unfold setAddHashed setAddHashedIn
  refine wpAny_holding (wpAny_bind (wpAny_setState_of ho hd hf ?_))
  dsimp only
  rw [byScan_of hsc hb hel]
  simp only [↓reduceIte]
  unfold setAddByScan
  refine wpAny_bind ?_
  refine wpAny_bind (wpAny_rule ?_)
  refine wpAny_bind (wpAny_setScan_of hkey ho hd hf hel ?_)
  cases hfi : List.findIdx? (fun e => (strKind P w).is k e.2) es.toList with
  | some j =>
    dsimp only
    obtain ⟨hj, pj, _⟩ := List.findIdx?_eq_some_iff_getElem.mp hfi
    have hk : k ∈ es.toList.map keyX := (goodX_mem (P := P) (w := w) g k).2 ⟨es.toList[j], List.getElem_mem hj, pj⟩
    refine wpAny_pure (wpAny_pure ?_)
    exact hQ _ s.heap (Heap.SameBut.refl a s.heap) ⟨o, es, ep, t, ho, hex, hd, g, nd, fun i => by
      rw [List.mem_append, List.mem_singleton, hm i]
      exact ⟨fun z => z.elim id (fun e => e ▸ hk), .inl⟩, hb, by rw [List.length_append]; omega, hf, hr, hl⟩
  | none =>
    dsimp only
    have hnk : k ∉ es.toList.map keyX := fun z => by
      obtain ⟨e, he, q⟩ := (goodX_mem (P := P) (w := w) g k).1 z
      have c := List.findIdx?_eq_none_iff.mp hfi e he
      rw [q] at c
      cases c
    have hgw : ∀ (b : Bool) {s₁ : Shared} {Q' : Unit → Shared → Prop}, Q' () s₁ → wpAny (model P w) A (match b with | true => rule "set.scan.the-table-gave-way" | false => pure ()) Q' E s₁ :=
      fun b s₁ Q' q => by cases b <;> first | exact wpAny_pure q | exact wpAny_rule q
    have pm := layNew_perm t es ((strKind P w).hash k) (.str k tk)
    have hf1 := layNew_fits t es ((strKind P w).hash k) (.str k tk)
    have hr1 := layNew_ris t es ((strKind P w).hash k) (.str k tk) hr
    have hl1 := layNew_led t es ((strKind P w).hash k) (.str k tk)
    generalize layNew t es ((strKind P w).hash k) (.str k tk) = Z at pm hf1 hr1 hl1 ⊢
    obtain ⟨es1, t1, wasDummy, gave⟩ := Z
    dsimp only at pm hf1 hr1 hl1 ⊢
    rw [Array.toList_push] at pm
    have pc : es1.toList.Perm (((strKind P w).hash k, Value.str k tk) :: es.toList) := pm.trans (List.perm_append_singleton _ _)
    have pk : (es1.toList.map keyX).Perm (k :: es.toList.map keyX) := pc.map keyX
    have g1 : ∀ e ∈ es1.toList, GoodX w e := fun e he => by
      rcases List.mem_cons.mp (pc.mem_iff.mp he) with z | z
      · rw [z]; exact ⟨k, tk, rfl, rfl⟩
      · exact g e z
    have nd1 : (es1.toList.map keyX).Nodup := pk.nodup_iff.mpr (List.nodup_cons.mpr ⟨hnk, nd⟩)
    have m1 : ∀ i, i ∈ ks ++ [k] ↔ i ∈ es1.toList.map keyX := fun i => by
      rw [List.mem_append, List.mem_singleton, hm i, pk.mem_iff, List.mem_cons]
      exact Or.comm
    have hsz : es1.size = es.size + 1 := by rw [← Array.length_toList, pc.length_eq, List.length_cons, Array.length_toList]
    have hb1 : es1.size < scanBound := by omega
    have hln : es1.size ≤ (ks ++ [k]).length := by rw [List.length_append]; show _ ≤ _ + 1; omega
    have hled : w.params.followText "set-order" = true ∨ t1.led = true := hl.imp id fun z => by rw [hl1]; exact z
    refine wpAny_bind (hgw _ ?_)
    split
    · refine wpAny_bind ?_
      rw [hashByValue_scannable 8 hsc]
      refine wpAny_pure ?_
      refine setX_tail ?_ ho hex hd g1 nd1 m1 hb1 hln ?_ ?_ ?_ ?_
      · intro b s₁ Q' q; cases b <;> first | exact wpAny_pure q | exact wpAny_rule q
      · first | (split <;> first | exact hf1 | exact SetTable.fits_plain_off hf1) | exact hf1
      · first | (split <;> exact hr1) | exact hr1
      · first | (split <;> exact hled) | exact hled
      · intro h' sb r; dsimp only; exact wpAny_pure (hQ _ h' sb r)
    · refine wpAny_bind (wpAny_pure ?_)
      simp only [↓reduceIte]
      refine setX_tail ?_ ho hex hd g1 nd1 m1 hb1 hln hf1 hr1 hled ?_
      · intro b s₁ Q' q; cases b <;> first | exact wpAny_pure q | exact wpAny_rule q
      · intro h' sb r; dsimp only; exact wpAny_pure (hQ _ h' sb r)
theorem setX_fresh {h : Heap} {a : Addr} (ho : h.get? a = some { cls := .type "set", dict := none, data := .set #[] 0 (.fresh 0 0 (!w.params.followText "set-order")) }) : SetX w h a [] :=
  ⟨_, #[], 0, _, ho, ⟨rfl, rfl, rfl⟩, rfl, (fun e he => by simp at he), (by simp), (fun k => by simp), (by decide), Nat.le_refl _, (by rfl), List.Pairwise.nil, by
    show _ ∨ (!w.params.followText "set-order") = true
    cases w.params.followText "set-order"
    · exact .inr rfl
    · exact .inl rfl⟩
end
/-! ### set(xs) -/
section
variable {P : Program} {w : World} {A : Around} {R : Result → Shared → Prop} {I : Addr} {fp wr : List Addr} {G : Array GenState → Array GenState → Prop} {n : Nat} {Pv : Nat → Value → Prop} {St : Nat → Shared → Prop}
theorem setX_loop (W : WalksS P w A.in1 I fp wr G n Pv St) (S : Addr) (hSf : S ∉ fp) (ks : List Str) (hn : n = ks.length) (hfew : ks.length < 1000) (hval : ∀ i v, Pv i v → ∃ x t, ks[i]? = some x ∧ v = .str x t) :
    ∀ (k i : Nat) (s : Shared), n - i = k → i ≤ n → St i s → SetX w s.heap S (ks.take i) →
      (∀ s', Moved (S :: wr) G s s' → SetX w s'.heap S ks → R (.ok (.ret .none)) s') →
      codeAny (model P w) A (.builtin "set.update.loop" ⟨[.ref S, .ref I], []⟩) R s := by
  have hSw : S ∉ wr := fun h => hSf (W.sub _ h)
  have hsub : ∀ b ∈ wr, b ∈ S :: wr := fun b hb => List.mem_cons_of_mem _ hb
  intro k
  induction k with
  | zero =>
    intro i s hk hi hst hS hR
    have hin : i = n := by omega
    subst hin
    refine codeAny_builtin F.entry_set_update_loop ?_
    rw [Around.under_plainId F.plain_set_update_loop _]
    show wpAny _ A.in1 (pyNext (.ref I) >>= _) _ _ s
    refine wpAny_bind (W.done s _ _ hst fun s' hm => ?_)
    show wpAny _ A.in1 (ret Value.none) _ _ s'
    rw [hn, List.take_length] at hS
    exact wpAny_pure (hR s' (hm.mono hsub) (hS.at fun o e => hm.heap S o hSw e))
  | succ k ih =>
    intro i s hk hi hst hS hR
    have hlt : i < n := by omega
    refine codeAny_builtin F.entry_set_update_loop ?_
    rw [Around.under_plainId F.plain_set_update_loop _]
    show wpAny _ A.in1 (pyNext (.ref I) >>= _) _ _ s
    refine wpAny_bind (W.item i s _ _ hlt hst fun v s' hP hst' hm => ?_)
    obtain ⟨x, t, ex, rfl⟩ := hval i v hP
    have hS' : SetX w s'.heap S (ks.take i) := hS.at fun o e => hm.heap S o hSw e
    show wpAny _ A.in1 (holding [Value.str x t] (setAdd S (.str x t)) >>= _) _ _ s'
    refine wpAny_bind (wpAny_holding ?_)
    unfold setAdd
    refine wpAny_holding ?_
    refine wpAny_bind ((strKind P w).pyHash (k := x) (strKind_is _ _ _ _) ?_)
    refine setX_add (s := { s' with toks := s'.toks + 1 }) hS' (by rw [List.length_take]; unfold scanBound; omega) fun b h' hsb hS2 => ?_
    have e2 : ks.take i ++ [x] = ks.take (i + 1) := by rw [List.take_add_one, ex] <;> rfl
    rw [e2] at hS2
    refine wpAny_pure ⟨plainId_quiet F.plain_set_update_loop _, ih (i + 1) _ (by omega) hlt (W.frame _ s' _ _ hst' (Nat.le_succ _) fun b hb o e => ?_) hS2 fun s'' hm'' hS'' => ?_⟩
    · rw [hsb.2 b (fun h : b = S => hSf (by rw [← h]; exact hb))]; exact e
    · refine hR s'' (Moved.trans W.gtrans ((hm.mono hsub).then_heap (Nat.le_succ _) fun b o hb e => ?_) hm'') hS''
      rw [hsb.2 b (fun h : b = S => hb (by rw [h]; exact List.mem_cons_self))]; exact e
end
section
variable {P : Program} {w : World} {A : Around} {E : Value → Shared → Prop} {s : Shared}
theorem call_setX {l : Addr} {items : Array Value} {ks : List Str} {Q : Value → Shared → Prop} (hh : A.handled = none) (hl : s.heap.IsList l items) (hit : StrsAre items.toList ks) (hfew : ks.length < 1000)
    (h : ∀ (h' : Heap) (tk : Nat), SetX w h' s.heap.objs.size ks → (∀ b o, s.heap.get? b = some o → h'.get? b = some o) → Q (.ref s.heap.objs.size) { s with heap := h', toks := tk }) :
    wpAny (model P w) A (call (.type "set") [.ref l]) Q E s := by
  have hisz : items.size = ks.length := by rw [← Array.length_toList]; exact StrsAre.len_eq hit
  obtain ⟨c, tl, hmro⟩ := F.called_set.mro
  have hmade := F.called_set.made
  have hsub := F.called_set.sub
  refine wpAny_call (codeAny_of_tree ?_)
  show wpAny _ _ (callAny (.type "set") _) _ _ _
  refine wpAny_pure ⟨Code.quiet_builtin _ (by decide +kernel), codeAny_builtin F.entry_type_call ?_⟩
  rw [Around.under_plain (weight_type_call_type "set" [.ref l] []) rfl]
  have h1 := F.called_set.notType
  have h2 := F.called_set.canCreate
  have hct := F.typeCall_set_1 (.ref l)
  repeat (any_goals (first | assumption | wp_step))
  refine codeAny_mono (code_set_led1 (.ref l) (E := E) (Q₁ := fun obj s₁ => obj = .ref s.heap.objs.size ∧ s₁ = { s with heap := s.heap.push { cls := .type "set", dict := none, data := .set #[] 0 (.fresh 0 0 (!w.params.followText "set-order")) } }) ⟨rfl, rfl⟩) fun r s₁ hr => ?_
  cases r with
  | error e => exact hr
  | ok fl =>
    cases fl with
    | ret obj =>
      obtain ⟨rfl, rfl⟩ := hr
      have hS : (s.heap.push { cls := .type "set", dict := none, data := .set #[] 0 (.fresh 0 0 (!w.params.followText "set-order")) }).get? s.heap.objs.size = some { cls := .type "set", dict := none, data := .set #[] 0 (.fresh 0 0 (!w.params.followText "set-order")) } := Heap.get?_push_size _ rfl
      have hT : Shared.TypeIs { s with heap := s.heap.push { cls := .type "set", dict := none, data := .set #[] 0 (.fresh 0 0 (!w.params.followText "set-order")) } } (.ref s.heap.objs.size) "set" := ⟨_, hS, rfl⟩
      have hli := F.called_set.init.lookup
      have hbi := F.called_set.init.bind (.ref s.heap.objs.size)
      repeat (any_goals (first | assumption | wp_step))
      refine codeAny_mono (codeAny_call_builtin (R := wants (fun r s₂ => r = .none ∧ ∃ h' tk, s₂ = { s with heap := h', toks := tk } ∧ SetX w h' s.heap.objs.size ks ∧ (∀ b o, s.heap.get? b = some o → h'.get? b = some o)) E) F.called_set.init.plain F.entry_set_init (check_set_init_1 hT ?_)) fun r₂ s₂ hr₂ => ?_
      · obtain ⟨ol, hol, hcl, nl, hdl⟩ := hl
        obtain ⟨ocls, odict, odata, oslots⟩ := ol
        simp only at hcl hdl
        subst hcl; subst hdl
        have hol' : (s.heap.push { cls := .type "set", dict := none, data := .set #[] 0 (.fresh 0 0 (!w.params.followText "set-order")) }).get? l = some { cls := .type "list", dict := odict, data := .seq items nl, slots := oslots } := Heap.get?_push_of_some _ hol
        have hsls := F.sub_list_set
        have hslf := F.sub_list_frozenset
        have hne : (Value.type "list" == Value.type "dict") = false := by decide
        have hl1 : (s.heap.push { cls := .type "set", dict := none, data := .set #[] 0 (.fresh 0 0 (!w.params.followText "set-order")) }).IsList l items := ⟨_, hol', rfl, nl, rfl⟩
        unfold Builtin.«set.__init__» noKeywords Builtin.Frozenset.updateFrom
        generalize hPI : pyIter = PI
        wp_walk
        subst hPI
        refine wpAny_pyIter_list hl1 ?_
        refine wpAny_bind (wpAny_runValue ?_)
        have hlS : l < s.heap.objs.size := Heap.lt_size hol
        have hh3 : A.in1.in1.in1.handled = none := by simp [hh]
        have hneI : l ≠ (s.heap.push { cls := .type "set", dict := none, data := .set #[] 0 (.fresh 0 0 (!w.params.followText "set-order")) }).objs.size := by
          rw [Heap.size_push]; exact Nat.ne_of_lt (Nat.lt_succ_of_lt hlS)
        have hSf : s.heap.objs.size ∉ [(s.heap.push { cls := .type "set", dict := none, data := .set #[] 0 (.fresh 0 0 (!w.params.followText "set-order")) }).objs.size, l] := by
          rw [Heap.size_push]; simp only [List.mem_cons, List.mem_singleton, List.not_mem_nil, or_false, not_or]
          exact ⟨Nat.ne_of_lt (Nat.lt_succ_self _), Nat.ne_of_gt hlS⟩
        have hval : ∀ (i : Nat) (v : Value), items[i]? = some v → ∃ x t, ks[i]? = some x ∧ v = .str x t := fun i v hv => by
          obtain ⟨t, e⟩ := SS.strs_at hit i v (by rw [Array.getElem?_toList]; exact hv)
          have hi : i < ks.length := by rw [← hisz]; exact (Array.getElem?_eq_some_iff.mp hv).1
          refine ⟨_, t, List.getElem?_eq_getElem hi, ?_⟩
          rw [e, List.getD_eq_getElem?_getD, List.getElem?_eq_getElem hi] <;> rfl
        refine setX_loop ((Walks.list hh3 _ l hneI items).toS) s.heap.objs.size hSf ks hisz hfew hval (items.size - 0) 0 _ (by omega) (Nat.zero_le _)
          ⟨⟨_, Heap.get?_push_size _ rfl, rfl, rfl⟩, (hl1.push _)⟩ ?hS0 ?hR
        case hS0 =>
          exact setX_fresh (Heap.get?_push_of_some _ hS)
        case hR =>
          intro s' hm hS'
          obtain ⟨h', g2, d', tk', os'⟩ := s'
          have eg : g2 = s.gens := hm.gens
          have ed : d' = s.drawn := hm.drawn
          have eo : os' = s.os := hm.os
          subst eg; subst ed; subst eo
          show wpAny _ _ _ _ _ _
          refine wpAny_pure ?_
          show wpAny _ _ (ret Value.none) _ _ _
          refine wpAny_pure ⟨rfl, h', tk', rfl, hS', fun b o e => ?_⟩
          have hb := Heap.lt_size e
          have hb1 : b ≠ s.heap.objs.size := Nat.ne_of_lt hb
          have hb2 : b ≠ (s.heap.push { cls := .type "set", dict := none, data := .set #[] 0 (.fresh 0 0 (!w.params.followText "set-order")) }).objs.size := by
            rw [Heap.size_push]; exact Nat.ne_of_lt (Nat.lt_succ_of_lt hb)
          exact hm.heap b o (by simp only [List.mem_cons, List.mem_singleton, List.not_mem_nil, or_false, not_or]; exact ⟨hb1, hb2⟩) (Heap.get?_push_of_some _ (Heap.get?_push_of_some _ e))
      · cases r₂ with
        | error e => exact hr₂
        | ok fl₂ =>
          cases fl₂ with
          | ret r =>
            obtain ⟨rfl, h', tk, rfl, hS', hk'⟩ := hr₂
            repeat (any_goals (first | assumption | wp_step))
            exact h _ _ hS' hk'
          | _ => exact hr₂.elim
    | _ => exact hr.elim
end
end Lc
set_option Elab.async false
set_option linter.all false
set_option maxRecDepth 100000
set_option maxHeartbeats 4000000
namespace Lc
open PySem PySem.Spec PyProof.Rows L2
/-! ## sorted(set(xs)), xs a list of texts -/
def SetXO (w : World) (a : Addr) (ks : List Str) : HO := .ext fun h => SetX w h a ks
theorem setXO_new {P : Program} {w : World} {H : Hp} {h : Heap} {a : Addr} {ks : List Str} (R : SetX w h a ks) : ObjOk P w H h a (SetXO w a ks) := by
  have ⟨o, es, ep, t, ho, r⟩ := R
  refine ⟨R, ⟨o, ho⟩, fun h1 h2 p k => ?_⟩
  exact SetX.at (show SetX w h1 a ks from p) k
theorem strs_vals : ∀ {ks : List Str} {us : List Value}, Vals (ks.map V.str) us → StrsAre us ks
  | [], _, .nil => .nil
  | k :: ks, _, .cons r t => by
    obtain ⟨tk, rfl⟩ := r
    exact .cons _ _ (strs_vals t)
section
variable {P : Program} {w : World} {A : Around} {E : Value → Shared → Prop} {s : Shared} {a : Addr} {ks : List Str}
theorem strs_key : ∀ (l : List Value), (∀ v ∈ l, ∃ k tk, v = Value.str k tk) → StrsAre l (l.map fun v => keyX (0, v))
  | [], _ => .nil
  | v :: l, h => by
    obtain ⟨k, tk, rfl⟩ := h v List.mem_cons_self
    exact .cons k tk (strs_key l fun u hu => h u (List.mem_cons_of_mem _ hu))
theorem sorted_setX {Q : Value → Shared → Prop} (R : SetX w s.heap a ks) (hh : A.handled = none) (h64 : ks.length < 64)
    (hQ : ∀ s' p (out : Array Value) (c : Nat) (ys : List Str), (∀ b o, s.heap.get? b = some o → s'.heap.get? b = some o) → s'.gens = s.gens → s'.os = s.os → s.heap.objs.size ≤ p →
      s'.heap.get? p = some (seqObj "list" out c) → StrsAre out.toList ys → sortedS ys = true → ys.Nodup → (∀ k, k ∈ ys ↔ k ∈ ks) → ys.length < 64 → Q (.ref p) s') :
    wpAny (model P w) A (call (.builtin "sorted") [.ref a]) Q E s := by
  obtain ⟨o, es, ep, t, ho, hex, hd, g, nd, hm, hb, hlen, hf, hr, hl⟩ := R
  refine Calls.call_function_entry kind_sorted plain_sorted entry_sorted (args_sorted1 _) ?_
  unfold Builtin.«sorted»
  refine wpAny_bind (m := checkCount "sorted" 1 1 _) (wpAny_pure ?_)
  refine wpAny_bind (collect_set (A := A.in1) hh ⟨o, ho, hex.1, hd⟩ hf hb hr hl fun s1 vs k1 hz g1 o1 pm => ?_)
  have hvl : vs.length = es.size := by rw [pm.length_eq, List.length_map, Array.length_toList]
  have hI : StrsAre vs (vs.map fun v => keyX (0, v)) := strs_key vs fun v hv => by
    obtain ⟨e, he, q⟩ := List.mem_map.mp (pm.mem_iff.mp hv)
    obtain ⟨k, tk, h1, _⟩ := g e he
    exact ⟨k, tk, by rw [← q]; exact h1⟩
  have pk : (vs.map fun v => keyX (0, v)).Perm (es.toList.map keyX) := by
    have q := pm.map fun v => keyX (0, v)
    rw [List.map_map] at q
    exact q
  refine wpAny_bind (wpAny_newList ?_ (by rw [hvl, sizeLine_eq]; omega))
  have hoL : (s1.heap.push (seqObj "list" vs.toArray 0)).get? s1.heap.objs.size = some (seqObj "list" vs.toArray 0) := Heap.get?_push_size _ rfl
  refine wpAny_bind (wpAny_holding (wpAny_call_entry slot_list_sort ⟨_, hoL, rfl⟩ entry_list_sort
    (list_sort_treeK strKind_oneLt (s := { s1 with heap := s1.heap.push (seqObj "list" vs.toArray 0) }) hoL hI.keysOf (fun v₁ v₂ rest e => keyKind_strs (by rw [← e]; exact hI)) (by rw [hvl]; omega) fun st' hp hs => ⟨_, rfl, ?_⟩) (args_list_sort _)))
  obtain ⟨ys, q1, q2, q3⟩ := sorted_out_str hI hp hs
  obtain ⟨c, hc⟩ := sortedHeap_at (vs := vs) (out := (arrOf st').map (·.2)) hoL
  have pn : ys.Perm (es.toList.map keyX) := q2.trans pk
  refine wpAny_pure ⟨_, rfl, hQ _ s1.heap.objs.size ((arrOf st').map (·.2)) c ys (fun b u e => ?_) g1 o1 hz hc q1 q3 (pn.nodup_iff.mpr nd) (fun k => by rw [pn.mem_iff, ← hm k]) ?_⟩
  · have q := k1 b u e
    have hlt := Heap.lt_size q
    rw [sortedHeap_old (Nat.ne_of_lt hlt) (by rw [size_push']; exact Nat.lt_succ_of_lt hlt)]
    exact Heap.get?_push_of_some _ q
  · rw [pn.length_eq, List.length_map, Array.length_toList]; omega
end
section
variable {X : Cx}
def rSetX (K : PySem.W.Frag) (w : World) : List V → Hp → VK → Prop := fun xs H Q => ∃ (l : Addr) (ks : List Str), xs = [V.ref l] ∧ SqL K H l (ks.map V.str) ∧ ks.length < 1000 ∧ ∀ a, H a = none → Q (.ref a) (upd H a (SetXO w a ks))
theorem cr_setX (hc : X.calm = true) : CallR X (.type "set") (rSetX X.K X.w) := by
  intro pins s σ H xs us Q I r h
  obtain ⟨l, ks, rfl, hl, hf, q⟩ := h
  rw [Vals.ref1 r]
  obtain ⟨its, rv, pl, hz⟩ := I.list hl
  have hn : H s.heap.objs.size = none := I.hok.fresh (Nat.le_refl _)
  refine call_setX (P := X.prog) (w := X.w) (I.ok.hd hc) pl.isList (by simpa using strs_vals rv) hf fun h' tk R k => ?_
  exact ⟨.ref s.heap.objs.size, upd H s.heap.objs.size (SetXO X.w s.heap.objs.size ks), I.laid (t' := tk) k (Nat.le_refl _) (setXO_new R), rfl, q _ hn⟩
def rSortX (w : World) : List V → Hp → VK → Prop := fun vs H Q => ∃ (a : Addr) (ks : List Str), vs = [V.ref a] ∧ H a = some (SetXO w a ks) ∧ ks.length < 64 ∧
  ∀ (ys : List Str) (p : Addr), sortedS ys = true → ys.Nodup → (∀ k, k ∈ ys ↔ k ∈ ks) → H p = none → Q (.ref p) (upd H p (.lst (ys.map V.str)))
theorem cr_sortX (hc : X.calm = true) : CallR X (.builtin "sorted") (rSortX X.w) := by
  intro pins s σ H vs us Q I r h
  obtain ⟨a, ks, rfl, ha, h64, q⟩ := h
  have R0 : SetX X.w s.heap a ks := (I.hok a _ ha).1
  rw [Vals.ref1 r]
  refine sorted_setX R0 (I.ok.hd hc) h64 fun s' p out c ys k g o hp hg hout so nd mem few => ?_
  have hlen : (ys.map V.str).length ≤ sizeLine := by rw [List.length_map, sizeLine_eq]; omega
  have hn : H p = none := I.hok.fresh hp
  have J : Inv X pins σ (upd H p (.lst (ys.map V.str))) { s with heap := s'.heap, gens := s'.gens, drawn := s'.drawn, toks := s'.toks } :=
    I.call (ch := []) (Un.laid k hp hn) (I.hok.laid k hp ⟨hlen, out.toList, c, vals_of_strs hout, hg⟩) (by rw [g]; exact I.bare) (fun _ z => nomatch z)
  have e : s' = { s with heap := s'.heap, gens := s'.gens, drawn := s'.drawn, toks := s'.toks } := by
    cases s'
    cases s
    cases o
    rfl
  rw [e]
  exact ⟨.ref p, _, J, rfl, q ys p so nd mem hn⟩
end
end Lc
set_option Elab.async false
set_option linter.all false
set_option maxRecDepth 100000
set_option maxHeartbeats 4000000
namespace Lc
open PySem PySem.Spec PyProof.Rows L2
/-! ## len(set(xs)), xs a list of texts: as many as there are different ones -/
theorem nodup_of_len {α : Type} [DecidableEq α] : ∀ {ks l : List α}, l.Nodup → (∀ k ∈ l, k ∈ ks) → l.length = ks.length → ks.Nodup
  | [], _, _, _, _ => List.nodup_nil
  | x :: r, l, n, s, e => by
    have xr : x ∉ r := fun hx => by
      have := List.Nodup.length_le_of_subset n (l₂ := r) fun k hk => by
        rcases List.mem_cons.mp (s k hk) with q | q
        · rw [q]; exact hx
        · exact q
      rw [List.length_cons] at e
      omega
    have xl : x ∈ l := Classical.byContradiction fun hx => by
      have := List.Nodup.length_le_of_subset n (l₂ := r) fun k hk => by
        rcases List.mem_cons.mp (s k hk) with q | q
        · rw [q] at hk; exact absurd hk hx
        · exact q
      rw [List.length_cons] at e
      omega
    refine List.nodup_cons.mpr ⟨xr, nodup_of_len (l := l.erase x) (n.erase x) (fun k hk => ?_) ?_⟩
    · have hk2 := (List.Nodup.mem_erase_iff n).mp hk
      rcases List.mem_cons.mp (s k hk2.2) with q | q
      · exact absurd q hk2.1
      · exact q
    · rw [List.length_erase_of_mem xl, e, List.length_cons]
      rfl
def rLenX (w : World) : List V → Hp → VK → Prop := fun xs H Q => ∃ (S : Addr) (ks : List Str), xs = [.ref S] ∧ H S = some (SetXO w S ks) ∧ ∀ n : Nat, n ≤ ks.length → (n = ks.length ↔ ks.Nodup) → Q (.int n) H
theorem call_lenX {X : Cx} : CallR X (.builtin "len") (rLenX X.w) := by
  intro pins s σ H xs us Q I r h
  obtain ⟨S, ks, rfl, hS, q⟩ := h
  obtain ⟨u, rfl, ru⟩ := vals1 r
  obtain rfl : u = Value.ref S := ru
  obtain ⟨R, _⟩ := (show ObjOk X.prog X.w H s.heap S (SetXO X.w S ks) from I.hok S _ hS)
  obtain ⟨o, es, ep, t, ho, hex, hd, g, nd, hm, hb, hlen, hf, hr, hl⟩ := (show SetX X.w s.heap S ks from R)
  have e0 : (es.toList.map keyX).length = es.size := by rw [List.length_map, Array.length_toList]
  refine call_len_set ho hex hd hf (by unfold scanBound at hb; omega) ⟨.int es.size, H, I.tok _, ⟨_, rfl⟩, q es.size hlen ⟨fun e => ?_, fun n => ?_⟩⟩
  · exact nodup_of_len nd (fun k hk => (hm k).mpr hk) (by rw [e0, e])
  · have := List.Nodup.length_le_of_subset n (l₂ := es.toList.map keyX) fun k hk => (hm k).mp hk
    omega
end Lc
set_option Elab.async false
set_option linter.all false
set_option maxRecDepth 100000
set_option maxHeartbeats 4000000
namespace Lc
open PySem PySem.Spec PyProof.Rows L2
theorem ud_entry : entryFor table "dict.update.loop" = some Builtin.«dict.update.loop» := entryFor_of_tree (by kernel_rfl)
theorem ud_plain : plainId "dict.update.loop" = true := by decide +kernel
section
variable {prog : Program} {w : World} {A : Around} {E : Value → Shared → Prop}
/-- the walk over the pairs -/
theorem upd_loopT {R : Result → Shared → Prop} {S I l : Addr} {items : Array Value} {res : Value} (hh : A.handled = none) (hlI : l ≠ I) (hSI : S ≠ I) (hSl : S ≠ l) :
    ∀ (rest : List (Key × Value)) (i : Nat) (acc : List (Key × Value)) (ix : Int) (t : Tok) (s : Shared), items.size = i + rest.length → acc.length + rest.length ≤ sizeLine →
      (∀ (j : Nat) (q : Key × Value), rest[j]? = some q → ∃ (b : Addr) (u : Value), items[i + j]? = some (.ref b) ∧ b ≠ S ∧ b ≠ I ∧ IsTup s.heap b #[u, q.2] ∧ keyIs q.1 u = true) →
      s.heap.IsTupleIter I l i → s.heap.IsTuple l items → s.heap.DictOf (mixKind prog w) S acc →
      (∀ h' tk, h'.DictOf (mixKind prog w) S (merged acc rest) → (∀ b o, b ≠ S → b ≠ I → s.heap.get? b = some o → h'.get? b = some o) → R (.ok (.ret res)) { s with heap := h', toks := tk }) →
      codeAny (model prog w) A (.builtin "dict.update.loop" ⟨[.ref S, .ref I, .int ix t, res], []⟩) R s
  | [], i, acc, ix, t, s, hsz, hln, ht, hit, hl, hm, hR => by
    refine codeAny_builtin ud_entry ?_
    rw [Around.under_plainId ud_plain _]
    show wpAny _ A.in1 (pyNext (.ref I) >>= _) _ _ s
    refine wpAny_bind (wpAny_pyNext_tuple_end (A := A.in1) hh hit hl (by first | exact Array.getElem?_eq_none (Nat.le_of_eq hsz) | (simp at hsz; simp; omega)) fun h' he => ?_)
    show wpAny _ A.in1 (Builtin.Dict.addKeywords S [] >>= _) _ _ _
    refine wpAny_bind (wpAny_pure (wpAny_pure ?_))
    exact hR h' s.toks (hm.extBut he hSI) fun b o _ hb e => he b o hb e
  | q :: rest, i, acc, ix, t, s, hsz, hln, ht, hit, hl, hm, hR => by
    obtain ⟨b, u, hb, hbS, hbI, htup, hk⟩ := ht 0 q rfl
    rw [List.length_cons] at hsz hln
    refine codeAny_builtin ud_entry ?_
    rw [Around.under_plainId ud_plain _]
    show wpAny _ A.in1 (pyNext (.ref I) >>= _) _ _ s
    refine wpAny_bind (wpAny_pyNext_tuple_item (x := .ref b) hit hl (by simpa using hb) fun h1 hit1 hs1 => ?_)
    have ht1 : IsTup h1 b #[u, q.2] := htup.extBut hs1.extBut hbI
    have hl1 : h1.IsTuple l items := hl.extBut hs1.extBut hlI
    have hm1 : h1.DictOf (mixKind prog w) S acc := hm.extBut hs1.extBut hSI
    obtain ⟨o, ho, hc, n, hd⟩ := id ht1
    show wpAny _ A.in1 (holding [Value.ref b] _ >>= _) _ _ _
    refine wpAny_bind (wpAny_holding ?_)
    refine wpAny_bind (wpAny_tryCatch ?_)
    unfold Builtin.Dict.pairItems
    refine wpAny_bind (wpAny_typeOf (T := "tuple") ⟨o, ho, hc⟩ ?_)
    rw [if_pos (by first | decide | rfl | simp)]
    refine wpAny_bind (wpAny_seqItems ho hd (wpAny_pure ?_))
    show wpAny _ A.in1 (holding [u, q.2] (dictSet S u q.2)) _ _ _
    refine wpAny_holding (wpAny_dictSet_pairs (knd := mixKind prog w) (k := q.1) hk hm1 (fun h2 hm2 hs2 => ?_) (by omega))
    refine wpAny_pure ⟨plainId_quiet ud_plain _, upd_loopT (items := items) hh hlI hSI hSl rest (i + 1) (stored acc q.1 q.2) (ix + 1) 0 _ (show items.size = i + 1 + rest.length by omega) ?_ (fun j q' e => ?_) ?_ ?_ hm2 fun h' tk hd' k => ?_⟩
    · have z := stored_length_le acc q.1 q.2
      omega
    · obtain ⟨b', u', hb', hbS', hbI', htup', hk'⟩ := ht (j + 1) q' (by simpa using e)
      refine ⟨b', u', ?_, hbS', hbI', (htup'.extBut hs1.extBut hbI').extBut hs2.extBut hbS', hk'⟩
      rw [show i + 1 + j = i + (j + 1) by omega]
      exact hb'
    · exact hit1.at fun o' e => hs2.extBut I o' (Ne.symm hSI) e
    · exact hl1.extBut hs2.extBut (Ne.symm hSl)
    · exact hR h' tk hd' fun c oc h3 h4 e => k c oc h3 h4 (hs2.extBut c oc h3 (hs1.extBut c oc h4 e))
/-- dict(t) of a tuple of pairs -/
theorem call_dict_pairsT {s : Shared} {l : Addr} {ol : Obj} {items : Array Value} {n : Nat} {prs : List (Key × Value)} {Q : Value → Shared → Prop} (hh : A.handled = none) (hl : s.heap.get? l = some ol) (hc : ol.cls = .type "tuple") (hd : ol.dict = none)
    (hdat : ol.data = .seq items n) (hsz : items.size = prs.length) (hln : prs.length ≤ sizeLine)
    (ht : ∀ (j : Nat) (q : Key × Value), prs[j]? = some q → ∃ (b : Addr) (u : Value), items[j]? = some (.ref b) ∧ IsTup s.heap b #[u, q.2] ∧ keyIs q.1 u = true)
    (h : ∀ h' tk, h'.DictOf (mixKind prog w) s.heap.objs.size (merged [] prs) → (∀ b o, s.heap.get? b = some o → h'.get? b = some o) → Q (.ref s.heap.objs.size) { s with heap := h', toks := tk }) :
    wpAny (model prog w) A (call (.type "dict") [.ref l]) Q E s := by
  refine callType_codes (Q₁ := fun obj s₁ => obj = .ref s.heap.objs.size ∧ s₁ = { s with heap := s.heap.push { cls := .type "dict", data := .dict #[] } }) PySem.F.kt_called_dict (PySem.F.kt_typeCall_dict_1 _) PySem.F.entry_dict_init (kt_code_dict_new _ ⟨rfl, rfl⟩) ?_
  rintro obj s₁ ⟨rfl, rfl⟩
  have hnew : (s.heap.push { cls := .type "dict", data := .dict #[] }).DictOf (mixKind prog w) s.heap.objs.size [] := Heap.DictOf.new s.heap
  have k0 : ∀ b o, s.heap.get? b = some o → (s.heap.push { cls := .type "dict", data := .dict #[] }).get? b = some o := fun b o e => Heap.get?_push_of_some _ e
  refine ⟨hnew.typeIs, PySem.F.args_dict_init_2 _ _, ?_⟩
  unfold Builtin.«dict.__init__»
  refine wpAny_bind ?_
  unfold Builtin.Dict.selfAndRest
  refine wpAny_bind (wpAny_notOrdered_dict hnew.typeIs ?_)
  show wpAny _ _ (pure (s.heap.objs.size, [Value.ref l])) _ _ _
  refine wpAny_pure ?_
  show wpAny _ _ (Builtin.Dict.updateFrom "dict.__init__" s.heap.objs.size (.ref l) [] .none) _ _ _
  unfold Builtin.Dict.updateFrom
  refine wpAny_bind (wpAny_typeOf (T := "tuple") ⟨ol, k0 _ _ hl, hc⟩ ?_)
  rw [if_pos (by first | decide | rfl | simp)]
  refine wpAny_bind (getAttrOr_miss_tuple (k0 _ _ hl) hc hdat hd tuple_no_keys (by decide +kernel) hh fun h1 tk1 hk1 => ?_)
  rw [if_pos (show (none : Option Value).isNone = true from rfl)]
  refine wpAny_bind (wpAny_rule ?_)
  have hl1 : h1.IsTuple l items := ⟨ol, hk1 _ _ (k0 _ _ hl), hc, n, hdat⟩
  have hS1 : s.heap.objs.size < h1.objs.size := by
    have e : (s.heap.push { cls := .type "dict", data := .dict #[] }).get? s.heap.objs.size = some { cls := .type "dict", data := .dict #[] } := Heap.get?_push_size _ rfl
    exact Heap.lt_size (hk1 _ _ e)
  refine wpAny_bind (wpAny_pyIter_tuple hl1 ?_)
  have k2 : ∀ b o, h1.get? b = some o → (h1.push { cls := .type "tuple_iterator", data := .fields #[.ref l, .int 0 0] }).get? b = some o := fun b o e => Heap.get?_push_of_some _ e
  have hlt : l < s.heap.objs.size := Heap.lt_size hl
  have key := upd_loopT (prog := prog) (w := w) (A := A.in1) (R := wants (fun r s₂ => r = .none ∧ Q (.ref s.heap.objs.size) s₂) E) (S := s.heap.objs.size) (I := h1.objs.size) (l := l) (items := items) (res := Value.none) hh
    (Nat.ne_of_lt (Nat.lt_trans hlt hS1)) (Nat.ne_of_lt hS1) (Nat.ne_of_gt hlt) prs 0 [] 0 0
    { s with heap := h1.push { cls := .type "tuple_iterator", data := .fields #[.ref l, .int 0 0] }, toks := tk1 } (by rw [hsz, Nat.zero_add]) (by rw [List.length_nil, Nat.zero_add]; exact hln)
    (fun j q e => by
      obtain ⟨b, u, e1, e2, e3⟩ := ht j q e
      have hb : b < s.heap.objs.size := e2.lt
      exact ⟨b, u, by rw [Nat.zero_add]; exact e1, Nat.ne_of_lt hb, Nat.ne_of_lt (Nat.lt_trans hb hS1), e2.keeps fun c o z => k2 _ _ (hk1 _ _ (k0 _ _ z)), e3⟩)
    ⟨_, Heap.get?_push_size _ rfl, rfl, rfl⟩ (hl1.at fun o e => k2 _ _ e) ((hnew.at fun o e => hk1 _ _ e).at fun o e => k2 _ _ e)
    (fun h' tk hd' k => ⟨rfl, h h' tk hd' fun b o e => k b o (Nat.ne_of_lt (Heap.lt_size e)) (Nat.ne_of_lt (Nat.lt_trans (Heap.lt_size e) hS1)) (k2 _ _ (hk1 _ _ (k0 _ _ e)))⟩)
  first
    | exact wpAny_pure ⟨plainId_quiet ud_plain _, key⟩
    | exact wpAny_bind (wpAny_pure (wpAny_pure ⟨plainId_quiet ud_plain _, key⟩))
end
/-! ## tuples whose very object is known: they have no table of their own -/
def ZT (H : Hp) (a : Addr) (xs : List V) : Prop := ∃ ob : Obj, ob.cls = .type "tuple" ∧ ob.dict = none ∧ H a = some (.frz ob (.tup xs))
theorem ZT.rd {H : Hp} {a : Addr} {xs : List V} (h : ZT H a xs) : Rd H a (.tup xs) := let ⟨ob, _, _, e⟩ := h; .inr ⟨ob, e⟩
theorem ZT.sq {K : PySem.W.Frag} {H : Hp} {a : Addr} {xs : List V} (h : ZT H a xs) : SqT K H a xs := .inl h.rd
theorem ZT.same {H H' : Hp} {a : Addr} {xs : List V} (h : ZT H a xs) (s : Same H H') : ZT H' a xs := let ⟨ob, c, d, e⟩ := h; ⟨ob, c, d, s _ _ e⟩
theorem _root_.L2.Rd.same {H H' : Hp} {a : Addr} {xs : List V} (h : Rd H a (.tup xs)) (s : Same H H') : Rd H' a (.tup xs) := by
  rcases h with h | ⟨o, h⟩
  · exact .inl (s _ _ h)
  · exact .inr ⟨o, s _ _ h⟩
theorem _root_.L2.Rd.sq {K : PySem.W.Frag} {H : Hp} {a : Addr} {xs : List V} (h : Rd H a (.tup xs)) : SqT K H a xs := .inl h
theorem Tape.neR {t p : Addr} {H : Hp} {xs : List V} (h : Tape H t) (e : Rd H p (.tup xs)) : p ≠ t := by
  intro z
  subst z
  obtain ⟨_, _, _, _, _, h1, _⟩ := h
  rcases e with e | ⟨o, e⟩ <;> (rw [h1] at e; cases e)
theorem _root_.L2.Rd.b {t : Addr} {H H' : Hp} {a : Addr} {xs : List V} (h : Rd H a (.tup xs)) (T : Tape H t) (s : SameB t H H') : Rd H' a (.tup xs) := by
  have n := T.neR h
  rcases h with h | ⟨o, h⟩
  · exact .inl (s _ _ n h)
  · exact .inr ⟨o, s _ _ n h⟩
theorem ZT.b {t : Addr} {H H' : Hp} {a : Addr} {xs : List V} (h : ZT H a xs) (T : Tape H t) (s : SameB t H H') : ZT H' a xs := by
  have n := T.neR h.rd
  obtain ⟨ob, c, d, e⟩ := h
  exact ⟨ob, c, d, s _ _ n e⟩
section
variable {X : Cx}
theorem zt_new {pins : List (Addr × Obj)} {σ : L2.St} {H : Hp} {s : Shared} {ys : List V} {its : List Value} (I : Inv X pins σ H s) (hz : ys.length ≤ sizeLine) (r : Vals ys its) :
    Inv X pins σ (upd H s.heap.objs.size (.frz { cls := .type "tuple", data := .seq its.toArray } (.tup ys))) { s with heap := s.heap.push { cls := .type "tuple", data := .seq its.toArray } } :=
  I.laid (t' := s.toks) (fun b o e => Heap.get?_push_of_some _ e) (Nat.le_refl _) (show ObjOk X.prog X.w _ _ _ (.frz _ (.tup ys)) from ⟨Heap.get?_push_size _ rfl, hz, its, r, IsTup.new _ _⟩)
/-- tuple(list): what is made is known to be plain -/
theorem call_tupleZ : CallR X (.type "tuple") (fun xs H Q => ∃ p ys, xs = [.ref p] ∧ SqL X.K H p ys ∧ ∀ l ob, H l = none → ob.cls = .type "tuple" → ob.dict = none → Q (.ref l) (upd H l (.frz ob (.tup ys)))) := by
  intro pins s σ H xs us Q I r h
  obtain ⟨p, ys, rfl, hq, q⟩ := h
  obtain ⟨u, rfl, rx⟩ := vals1 r
  cases rx
  obtain ⟨its, r', pl, hz⟩ := I.list hq
  have hlen := r'.length
  refine call_tuple_list pl.isList (fun h' kp => ?_) (by simp only [List.size_toArray] <;> omega)
  have I1 : Inv X pins σ H { s with heap := h' } := I.kept (t' := s.toks) kp
  exact ⟨.ref h'.objs.size, _, zt_new I1 hz r', rfl, q _ _ (I1.hok.fresh (Nat.le_refl _)) rfl rfl⟩
abbrev rCatZ (K : PySem.W.Frag) : V → V → Hp → VK → Prop := fun x y H Q => ∃ (a b : Addr) (xs ys : List V), x = .ref a ∧ y = .ref b ∧ SqT K H a xs ∧ SqT K H b ys ∧ xs ≠ [] ∧ xs.length + ys.length ≤ sizeLine ∧ (ys = [] → Q (.ref a) H) ∧ (ys ≠ [] → ∀ p ob, H p = none → ob.cls = .type "tuple" → ob.dict = none → Q (.ref p) (upd H p (.frz ob (.tup (xs ++ ys)))))
theorem op_catZ : OpR X (binaryOp .Add) (rCatZ X.K) := by
  intro pins s σ H x y v u Q I rx ry h
  obtain ⟨a, b, xs, ys, rfl, rfl, ha, hb, hx, hz, q1, q2⟩ := h
  cases rx
  cases ry
  obtain ⟨its, r1, p1, _⟩ := I.tuple ha
  obtain ⟨its2, r2, p2, _⟩ := I.tuple hb
  refine HT.cat_tup p1 p2 (fun z => hx (r1.nil_iff.mp z)) (fun z => ⟨.ref a, H, I, rfl, q1 (r2.nil_iff.mp z)⟩) (fun z => ?_) (by rw [← r1.length, ← r2.length]; exact hz)
  exact ⟨.ref s.heap.objs.size, _, zt_new I (by rw [List.length_append]; exact hz) (r1.append r2), rfl, q2 (fun w => z (r2.nil_iff.mpr w)) _ _ (I.hok.fresh (Nat.le_refl _)) rfl rfl⟩
/-- dict(t) of a plain tuple of pairs: later pairs win -/
theorem call_dictZ (hcalm : X.calm = true) : CallR X (.type "dict") (fun xs H Q => ∃ (a : Addr) (ps : List Addr) (kvs : List (Key × V)), xs = [.ref a] ∧ ZT H a (ps.map V.ref) ∧ Paired (fun p kv => SqT X.K H p [kV kv.1, kv.2]) ps kvs ∧
    ∀ p, H p = none → Q (.ref p) (upd H p (.dK (mergeK [] kvs)))) := by
  intro pins s σ H xs us Q I r q
  obtain ⟨a, ps, kvs, ex, ⟨o, hc, hd, hq⟩, hp, q⟩ := q
  subst ex
  obtain ⟨u, eu, rx⟩ := vals1 r
  subst eu
  cases rx
  obtain ⟨ho, hz, its, rv, o', ho', _, n, hdat⟩ := I.hok a _ hq
  rw [ho] at ho'
  cases ho'
  have ei := refs_at rv
  subst ei
  rw [List.length_map] at hz
  obtain ⟨prs, rel, hl, hpr⟩ := pairs_of I hp
  refine call_dict_pairsT (prs := prs) (I.ok.hd hcalm) ho hc hd hdat (by simp [hl]) (by rw [hl]; exact hz) (fun j q' e => ?_) fun h' tk hd' k => ?_
  · obtain ⟨b, u, e1, e2, e3⟩ := hpr j q' e
    exact ⟨b, u, by simp [e1], e2, e3⟩
  · have hm : (s.heap.objs.size == sysModules) = false := beq_eq_false_iff_ne.mpr (Nat.ne_of_gt I.big)
    have hlen : (mergeK [] kvs).length ≤ sizeLine := by
      refine Nat.le_trans (length_mergeK kvs []) ?_
      rw [List.length_nil, Nat.zero_add, rel.length, hl]
      exact hz
    exact ⟨.ref s.heap.objs.size, upd H s.heap.objs.size (.dK (mergeK [] kvs)), I.laid (t' := tk) k (Nat.le_refl _) (show ObjOk X.prog X.w _ _ _ (.dK (mergeK [] kvs)) from ⟨hlen, hm, merged [] prs, KV.merge rel .nil, hd'⟩), rfl, q _ (I.hok.fresh (Nat.le_refl _))⟩
end
end Lc
namespace Lc
open PySem PySem.Spec PyProof.Rows L2
/-- a tuple, or a list -/
def LT (H : Hp) (a : Addr) (xs : List V) : Prop := H a = some (.tup xs) ∨ H a = some (.lst xs)
theorem LT.same {H H' : Hp} {a : Addr} {xs : List V} (h : LT H a xs) (s : Same H H') : LT H' a xs := h.imp (s _ _) (s _ _)
theorem LT.sq {K : PySem.W.Frag} {H : Hp} {a : Addr} {xs : List V} (h : LT H a xs) : SqL K H a xs ∨ SqT K H a xs := h.symm.imp SqL.of SqT.of
end Lc
set_option Elab.async false
set_option linter.all false
set_option maxRecDepth 100000
set_option maxHeartbeats 4000000
namespace Lc
open PySem PySem.Spec PyProof.Rows L2
/-! ## a comprehension with two for: over a tuple, and over a list that each of its items gives -/
theorem lc2_tup {K : PySem.W.Frag} {a : Addr} {xs : List V} {g g1 : TG} {tt tt1 : TT} {wi1 : TI} {te : TE} {vs vs1 : List Nat} {σ : L2.St} {H1 : Hp} {D : Addr} {Qd : Hp → Prop} (Pv : Nat → Hp → Prop) (h0 : Pv 0 (upd H1 D (.lst []))) (hl : ∀ i H, i ≤ xs.length → Pv i H → SqT K H a xs)
    (hs : ∀ i x H, xs[i]? = some x → Pv i H → g x (wipe σ vs) H fun σ2 H2 => wipe σ2 vs = wipe σ vs ∧ tt σ2 H2 fun b H3 =>
      if b = true then wi1 σ2 H3 fun J1 H4 => ∃ W1 : Nat → Nat → Hp → Prop, (∃ m, W1 0 m H4) ∧ ∀ j k H, W1 j k H →
      (J1.stop j H ∧ Pv (i + 1) H) ∨ (J1.go j H ∧ ∃ Nx1 : Hp → Prop, (∀ H', Nx1 H' → ∃ k', k' < k ∧ W1 (j + 1) k' H') ∧ ∀ x H', J1.yld j H x H' → g1 x (wipe σ2 vs1) H' fun σ3 H5 => wipe σ3 vs1 = wipe σ2 vs1 ∧ tt1 σ3 H5 fun b H6 =>
        if b = true then te σ3 H6 fun y H7 => ∃ acc, H7 D = some (.lst acc) ∧ acc.length < sizeLine ∧ Nx1 (upd H7 D (.lst (acc ++ [y]))) else Nx1 H6)
      else Pv (i + 1) H3) (hd : ∀ H, Pv xs.length H → Qd H) :
    ∃ W : Nat → Nat → Hp → Prop, (∃ m, W 0 m (upd H1 D (.lst []))) ∧ ∀ i m H, W i m H →
      ((Itt K a).stop i H ∧ Qd H) ∨ ((Itt K a).go i H ∧ ∃ Nx : Hp → Prop, (∀ H', Nx H' → ∃ m', m' < m ∧ W (i + 1) m' H') ∧ ∀ x H', (Itt K a).yld i H x H' → g x (wipe σ vs) H' fun σ2 H2 => wipe σ2 vs = wipe σ vs ∧ tt σ2 H2 fun b H3 =>
        if b = true then wi1 σ2 H3 fun J1 H4 => ∃ W1 : Nat → Nat → Hp → Prop, (∃ m, W1 0 m H4) ∧ ∀ j k H, W1 j k H →
      (J1.stop j H ∧ Nx H) ∨ (J1.go j H ∧ ∃ Nx1 : Hp → Prop, (∀ H', Nx1 H' → ∃ k', k' < k ∧ W1 (j + 1) k' H') ∧ ∀ x H', J1.yld j H x H' → g1 x (wipe σ2 vs1) H' fun σ3 H5 => wipe σ3 vs1 = wipe σ2 vs1 ∧ tt1 σ3 H5 fun b H6 =>
        if b = true then te σ3 H6 fun y H7 => ∃ acc, H7 D = some (.lst acc) ∧ acc.length < sizeLine ∧ Nx1 (upd H7 D (.lst (acc ++ [y]))) else Nx1 H6)
        else Nx H3) := by
  refine ⟨fun i m H => m = xs.length - i ∧ i ≤ xs.length ∧ Pv i H, ⟨xs.length, by simp, Nat.zero_le _, h0⟩, ?_⟩
  rintro i m H ⟨rfl, hi, p⟩
  have q := hl i H hi p
  by_cases hlt : i < xs.length
  · refine .inr ⟨⟨xs, xs[i], q, by simp [hlt]⟩, Pv (i + 1), fun H' p' => ⟨xs.length - (i + 1), by omega, rfl, hlt, p'⟩, fun x H' y => ?_⟩
    obtain ⟨e, y⟩ := y
    subst e
    exact hs i x _ (y xs q) p
  · have e : i = xs.length := by omega
    subst e
    exact .inl ⟨⟨xs, q, Nat.le_refl _⟩, hd H p⟩
/-- the inner walk, over a list -/
theorem lc_in {K : PySem.W.Frag} {a : Addr} {xs : List V} {g1 : TG} {tt1 : TT} {te : TE} {vs1 : List Nat} {σ2 : L2.St} {H4 : Hp} {D : Addr} {Nx : Hp → Prop} (Pv : Nat → Hp → Prop) (h0 : Pv 0 H4) (hl : ∀ i H, i ≤ xs.length → Pv i H → SqL K H a xs)
    (hs : ∀ i x H, xs[i]? = some x → Pv i H → g1 x (wipe σ2 vs1) H fun σ3 H5 => wipe σ3 vs1 = wipe σ2 vs1 ∧ tt1 σ3 H5 fun b H6 =>
      if b = true then te σ3 H6 fun y H7 => ∃ acc, H7 D = some (.lst acc) ∧ acc.length < sizeLine ∧ Pv (i + 1) (upd H7 D (.lst (acc ++ [y]))) else Pv (i + 1) H6) (hd : ∀ H, Pv xs.length H → Nx H) :
    ∃ W1 : Nat → Nat → Hp → Prop, (∃ m, W1 0 m H4) ∧ ∀ j k H, W1 j k H →
      ((Itl K a).stop j H ∧ Nx H) ∨ ((Itl K a).go j H ∧ ∃ Nx1 : Hp → Prop, (∀ H', Nx1 H' → ∃ k', k' < k ∧ W1 (j + 1) k' H') ∧ ∀ x H', (Itl K a).yld j H x H' → g1 x (wipe σ2 vs1) H' fun σ3 H5 => wipe σ3 vs1 = wipe σ2 vs1 ∧ tt1 σ3 H5 fun b H6 =>
        if b = true then te σ3 H6 fun y H7 => ∃ acc, H7 D = some (.lst acc) ∧ acc.length < sizeLine ∧ Nx1 (upd H7 D (.lst (acc ++ [y]))) else Nx1 H6) := by
  refine ⟨fun i m H => m = xs.length - i ∧ i ≤ xs.length ∧ Pv i H, ⟨xs.length, by simp, Nat.zero_le _, h0⟩, ?_⟩
  rintro i m H ⟨rfl, hi, p⟩
  have q := hl i H hi p
  by_cases hlt : i < xs.length
  · refine .inr ⟨⟨xs, xs[i], q, by simp [hlt]⟩, Pv (i + 1), fun H' p' => ⟨xs.length - (i + 1), by omega, rfl, hlt, p'⟩, fun x H' y => ?_⟩
    obtain ⟨e, y⟩ := y
    subst e
    exact hs i x _ (y xs q) p
  · have e : i = xs.length := by omega
    subst e
    exact .inl ⟨⟨xs, q, Nat.le_refl _⟩, hd H p⟩
section
variable {X : Cx}
/-- str(x) of a text or a whole number -/
theorem call_strE : CallR X (.type "str") (fun xs H Q => (∃ a, xs = [.str a] ∧ Q (.str a) H) ∨ ∃ i, xs = [.int i] ∧ i.natAbs.log2 < 1920 ∧ Q (.str (toString i)) H) := by
  intro pins s σ H xs us Q I r h
  rcases h with h | h
  · exact SkE.call_str_str pins s σ H xs us Q I r h
  · exact call_str_int pins s σ H xs us Q I r h
end
end Lc
set_option Elab.async false
set_option linter.all false
set_option maxRecDepth 100000
set_option maxHeartbeats 4000000
namespace Lc
open PySem PySem.Spec PyProof.Rows L2 He
/-! ## The head's facts, with one more Bool -/
abbrev AlE : Type := AlD × Bool
def obsE (n : Nat) (fa : List Fa) (fn : List DefD) (ex : PySem.W.Frag → Bool) (g : Addr → Option Obj) : AlE := (obsD fa fn (frG g (asD g n)), ex (frG g (asD g n)))
def hookE (n : Nat) (fa : List Fa) (fn : List DefD) (ex : PySem.W.Frag → Bool) : PySem.W.Hook where
  α := AlE
  obs := fun s => obsE n fa fn ex s.heap.get?
  val := fun _ => (valD fn, true)
  says := fun _ h => ∃ K : PySem.W.Frag, K.In h ∧ SaysD fa fn K ∧ ex K = true
  of := fun _ _ e => ⟨_, frG_in, congrArg (fun z : AlE => z.1) e, congrArg (fun z : AlE => z.2) e⟩
  keeps := fun _ _ _ ⟨K, hK, c⟩ k => ⟨K, PySem.W.Frag.In.keeps hK k, c⟩
theorem obsE_eq {n : Nat} {fa : List Fa} {fn : List DefD} {ex : PySem.W.Frag → Bool} {g : Addr → Option Obj} {s : Shared} (h : ∀ a, g a = s.heap.get? a) : obsE n fa fn ex g = (hookE n fa fn ex).obs s := by
  have e : g = s.heap.get? := funext h
  rw [e] <;> rfl
/-! ## What is asked of the error classes -/
def optB (a b : Option Bool) : Bool := decide (a = b)
def optV (a b : Option Value) : Bool := decide (a = b)
def oexB (K : PySem.W.Frag) (C : Addr) : Bool := (match K.lookup C with
  | some ⟨.type "type", _, .cls cd, sl⟩ => (match cd.mro, sl.toList with
    | .ref C' :: bm, [_, _, _, _, some (.builtin n), _] => C' == C && n == "ValueError.__new__" && !cd.hasDel && cd.hasDict && PySem.HandSPX.refsVE bm
    | _, _ => false)
  | _ => false) && (eqO (PySem.W.findIn K (.ref C) "__setattr__") (some (some (.builtin "object.__setattr__"))) && (optB (PySem.W.subIn K (.ref C) (.type "BaseException")) (some true) && (optV (PySem.W.typeIn K (.ref C)) (some (.type "type")) && PySem.W.keepIn K (.ref C))))
theorem oexB_ok {K : PySem.W.Frag} {C : Addr} (h : oexB K C = true) : OexC K C := by
  obtain ⟨q, h⟩ := ba h
  obtain ⟨h1, h⟩ := ba h
  obtain ⟨h2, h⟩ := ba h
  obtain ⟨h3, h4⟩ := ba h
  refine ⟨?_, eqO_ok h1, of_decide_eq_true h2, of_decide_eq_true h3, h4⟩
  split at q
  · rename_i dd cd sl ho
    split at q
    · rename_i C' bm k0 k1 k2 k3 n k5 hm hs
      simp only [Bool.and_eq_true, beq_iff_eq, Bool.not_eq_true'] at q
      obtain ⟨⟨⟨⟨rfl, rfl⟩, hdel⟩, hdi⟩, ht⟩ := q
      obtain ⟨nm, bs, mro, ns, qn, hd, sn, sub, ab, col, del⟩ := cd
      dsimp only at hm hdel hdi
      subst hm hdel hdi
      have hsl : sl = #[k0, k1, k2, k3, some (.builtin "ValueError.__new__"), k5] := by
        obtain ⟨l⟩ := sl
        simp only at hs
        rw [hs]
      subst hsl
      exact ⟨nm, qn, ns, bs, bm, sn, sub, ab, col, dd, k0, k1, k2, k3, k5, ho, ht⟩
    · cases q
  · cases q
def xisB (K : PySem.W.Frag) (C : Addr) : Bool := (PySem.W.clsIn K C).isSome && (eqO (PySem.W.findIn K (.ref C) "__getattribute__") (some (some (.builtin "BaseException.__getattribute__"))) && (eqO (PySem.W.findIn K (.ref C) "__getattr__") (some none) &&
  (optB (PySem.W.subIn K (.ref C) (.type "BaseException")) (some true) && (eqO (PySem.W.findIn K (.ref C) "__class__") (some (some (.builtin "object.__class__"))) && (eqO (PySem.W.specialIn K (.builtin "object.__class__") "__get__") (some (some (.builtin "getset_descriptor.__get__"))) &&
  (optB (PySem.W.takesIn K (.builtin "object.__class__")) (some true) && optB (PySem.W.mroIn K C (.type "object")) (some true)))))))
theorem xisB_ok {K : PySem.W.Frag} {C : Addr} (h : xisB K C = true) : XisC K C := by
  obtain ⟨h1, h⟩ := ba h
  obtain ⟨h2, h⟩ := ba h
  obtain ⟨h3, h⟩ := ba h
  obtain ⟨h4, h⟩ := ba h
  obtain ⟨h5, h⟩ := ba h
  obtain ⟨h6, h⟩ := ba h
  obtain ⟨h7, h8⟩ := ba h
  exact ⟨h1, eqO_ok h2, eqO_ok h3, of_decide_eq_true h4, eqO_ok h5, eqO_ok h6, of_decide_eq_true h7, of_decide_eq_true h8⟩
/-- a def without defaults -/
theorem fun_of {K : PySem.W.Frag} {x qual : Str} {st : Stmt} {f : Addr} {fd : FuncData} (F : FunD K x qual (defArgs st) (defBody st) (defScope st) [] [] f fd) : Fun K x qual st f fd := by
  obtain ⟨oc, od, dV, kV, doc, pm, an, cdv, ct, osl, rfl, lk, hcd, hD, hK⟩ := F.ex
  rcases hD with ⟨_, rfl⟩ | ⟨e, _⟩
  · exact ⟨⟨oc, od, kV, doc, pm, an, cdv, ct, osl, rfl, lk, hcd⟩, F.kp⟩
  · exact absurd rfl e
/-! ## The end of a law whose defs are promised where no repr is under way -/
theorem walk_GE {l : PySem.W.OpenLaw} {n k : Nat} {q : Program} {loose : List Str} {XP : (Str → Option Value) → Heap → Prop} {YP : World → Heap → Prop} {d : DefRec} {x : Str}
    (hn : l.most = some n) (hn2 : n ≤ sizeLine) (hdf : d.params.defaults = []) (hr : Room k callerA)
    (F : ∀ (w : World) (mg : Str → Option Value) (fa : Addr) (h : Heap), YP w h → h.Ns mainGlobals mg → mg d.name = some (.ref fa) →
      ∃ (K : PySem.W.Frag) (fd : FuncData) (sp : Sp), K.In h ∧ (∀ (s : Shared) (u : Value), BindsTo s fd ⟨[u], []⟩ [(x, u)]) ∧
        (∀ (H : Hp) (a : Addr) (ns : List Int), ns.length ≤ n → SqL K H a (ns.map V.int) → sp [.ref a] H (fun v _ => v = .bl true) fun _ _ _ => False) ∧
        ∀ base : Heap, K.In base → base.Ns mainGlobals mg → FnG l.prog w K mg base k fa fd [x] sp) :
    PySem.W.WalkO q loose XP YP l.row.toRowW d [] (fun f vs => PySem.call f vs) := by
  refine Att.attach_call hn hdf fun w _ s mg mb fa _ _ _ _ a vs ns G Y _ _ _ hmg hobj hints hlen hg => ?_
  obtain ⟨K, fd, sp, KX, hb, hsp, hF⟩ := F w mg fa _ Y G.T.g hmg
  exact law_callG KX G.T.g G.T.b G.T.builtins G.T.nolimit hg hobj hints (Nat.le_trans hlen hn2) hr hF hb fun H hS => hsp H a ns hlen hS
end Lc
namespace Lc
theorem all_at {l : List Bool} (h : l.all id = true) (i : Nat) {b : Bool} (e : l[i]? = some b := by rfl) : b = true := List.all_eq_true.mp h b (List.mem_of_getElem? e)
end Lc
set_option Elab.async false
set_option linter.all false
set_option maxRecDepth 100000
set_option maxHeartbeats 4000000
namespace Lc
open PySem PySem.Spec PyProof.Rows L2 He
/-! ## The head's facts, with dicts of the module that have text keys -/
abbrev AlF : Type := AlE × List (Option (List (Option (Str × Int))))
def obsF (n : Nat) (fa : List Fa) (fn : List DefD) (ex : PySem.W.Frag → Bool) (ts : List Tab) (g : Addr → Option Obj) : AlF := (obsE n fa fn ex g, ts.map fun t => dicW (frG g (asD g n)) (t.1 (frG g (asD g n))))
def TabsOk (ts : List Tab) (w : World) (K : PySem.W.Frag) : Prop := ∀ (i : Nat) (t : Tab), ts[i]? = some t → ∃ es n, KDict K w (t.1 K) es n
theorem tabs_of {ts : List Tab} {w : World} {K : PySem.W.Frag} (e : ts.map (fun t => dicW K (t.1 K)) = ts.map fun t => some (keysIn w.params t.2)) : TabsOk ts w K := by
  intro i t h
  have e2 : (ts.map fun t => dicW K (t.1 K))[i]? = (ts.map fun t => some (keysIn w.params t.2))[i]? := congrArg (fun l => l[i]?) e
  rw [List.getElem?_map, h, List.getElem?_map, h] at e2
  exact dicW_ok (Option.some.inj e2)
def hookF (n : Nat) (fa : List Fa) (fn : List DefD) (ex : PySem.W.Frag → Bool) (ts : List Tab) : PySem.W.Hook where
  α := AlF
  obs := fun s => obsF n fa fn ex ts s.heap.get?
  val := fun w => ((valD fn, true), ts.map fun t : Tab => some (keysIn w.params t.2))
  says := fun w h => ∃ K : PySem.W.Frag, K.In h ∧ SaysD fa fn K ∧ ex K = true ∧ TabsOk ts w K
  of := fun _ _ e => ⟨_, frG_in, congrArg (fun z : AlF => z.1.1) e, congrArg (fun z : AlF => z.1.2) e, tabs_of (show _ = _ from congrArg (fun z : AlF => z.2) e)⟩
  keeps := fun _ _ _ ⟨K, hK, c⟩ k => ⟨K, PySem.W.Frag.In.keeps hK k, c⟩
theorem obsF_eq {n : Nat} {fa : List Fa} {fn : List DefD} {ex : PySem.W.Frag → Bool} {ts : List Tab} {g : Addr → Option Obj} {s : Shared} (h : ∀ a, g a = s.heap.get? a) : obsF n fa fn ex ts g = (hookF n fa fn ex ts).obs s := by
  have e : g = s.heap.get? := funext h
  rw [e] <;> rfl
/-! ## what stands in such a dict -/
def atD (K : PySem.W.Frag) (d : Addr) (x : Str) : Addr := match PySem.W.nsIn K d x with
  | some (some (.ref a)) => a
  | _ => 0
def tupA (K : PySem.W.Frag) (a : Addr) (vs : List Dv) : Bool := match K.lookup a with
  | some ⟨.type c, _, .seq its _, _⟩ => decide (c = "tuple") && (decide (its.size ≤ sizeLine) && relAll (vs.map (Dv.v K)) its.toList)
  | _ => false
theorem tupA_ok {K : PySem.W.Frag} {a : Addr} {vs : List Dv} (h : tupA K a vs = true) (H : Hp) : SqT K H a (vs.map (Dv.v K)) := by
  unfold tupA at h
  split at h
  · rename_i c od its n osl q
    obtain ⟨h1, h2⟩ := ba h
    obtain ⟨h3, h4⟩ := ba h2
    exact .inr ⟨_, its, n, q, congrArg Value.type (of_decide_eq_true h1), rfl, of_decide_eq_true h3, relAll_ok h4⟩
  · cases h
/-- at the key x a tuple of these -/
def dtB (K : PySem.W.Frag) (d : Addr) (x : Str) (vs : List Dv) : Bool := eqO (PySem.W.nsIn K d x) (some (some (.ref (atD K d x)))) && tupA K (atD K d x) vs
theorem kdct_of {K : PySem.W.Frag} {w : World} {d a : Addr} {x : Str} (D : ∃ es n, KDict K w d es n) (h : PySem.W.nsIn K d x = some (some (.ref a))) : KDct K w d x (.ref a) := by
  obtain ⟨es, n, D⟩ := D
  exact ⟨es, n, _, D.at_, D.lit, h, rfl⟩
theorem dt_ok {K : PySem.W.Frag} {w : World} {d : Addr} {x : Str} {vs : List Dv} (D : ∃ es n, KDict K w d es n) (h : dtB K d x vs = true) : ∃ a, KDct K w d x (.ref a) ∧ PySem.W.nsIn K d x = some (some (.ref a)) ∧ ∀ H, SqT K H a (vs.map (Dv.v K)) := by
  obtain ⟨h1, h2⟩ := ba h
  exact ⟨_, kdct_of D (eqO_ok h1), eqO_ok h1, fun H => tupA_ok h2 H⟩
/-- at the key x the def y -/
def dfB (K : PySem.W.Frag) (d : Addr) (x y : Str) : Bool := eqO (PySem.W.nsIn K d x) (some (some (.ref (ga K y))))
def dnB (K : PySem.W.Frag) (d : Addr) (x : Str) : Bool := eqO (PySem.W.nsIn K d x) (some none)
end Lc
set_option Elab.async false
set_option linter.all false
set_option maxRecDepth 100000
set_option maxHeartbeats 4000000
namespace Lc
open PySem PySem.Spec PyProof.Rows L2 He
/-! ## what does not stand in a dict of the module with text keys -/
def keysB (K : PySem.W.Frag) (d : Addr) (ks : List Str) : Bool := match K.lookup d with
  | some ⟨_, _, .dict es _, _⟩ => es.toList.all fun e => match e.key with
    | .str x _ => ks.contains x
    | _ => false
  | _ => false
theorem keys_no {K : PySem.W.Frag} {d : Addr} {ks : List Str} (h : keysB K d ks = true) {x : Str} (hx : x ∉ ks) : PySem.W.nsIn K d x = some none := by
  unfold keysB at h
  unfold PySem.W.nsIn
  split at h
  · rename_i ty o es n sl q
    rw [q]
    have key := List.all_eq_true.mp h
    have f : es.toList.find? (·.key.isStr x) = none := List.find?_eq_none.mpr fun e he hs => by
      have k := key e he
      split at k
      · rename_i y t qk
        rw [qk] at hs
        have e1 : y = x := by simpa [Value.isStr] using hs
        rw [e1] at k
        exact hx (by simpa using k)
      · cases k
    have g : es.toList.any (·.refKey) = false := by
      rw [List.any_eq_false]
      intro e he hs
      have k := key e he
      unfold DictEntry.refKey at hs
      split at k
      · rename_i y t qk
        rw [qk] at hs
        cases hs
      · cases k
    dsimp only
    rw [f, g]
    rfl
  · cases h
end Lc
set_option Elab.async false
set_option linter.all false
set_option maxRecDepth 100000
set_option maxHeartbeats 4000000
namespace Lc
open PySem PySem.Spec PyProof.Rows L2 He
/-! ## The head's facts from a few globals alone: what is reached from the named ones, but not through the globals' own dict -/
def growN (g : Addr → Option Obj) (as : List Addr) : List Addr := ((as ++ as.flatMap fun a => match g a with
  | some o => refsD o
  | none => []).filter fun a => !Nat.beq a mainGlobals).eraseDups
def asN (names : List Str) (g : Addr → Option Obj) : Nat → List Addr
  | 0 => (names.map fun x => ga (frG g [mainGlobals]) x).eraseDups
  | n + 1 => growN g (asN names g n)
def asM (sm : Bool) (names : List Str) (g : Addr → Option Obj) (n : Nat) : List Addr := mainGlobals :: (if sm = true then [sysModules] else []) ++ asN names g n
def obsK (fa : List Fa) (fn : List DefD) (ex : PySem.W.Frag → Bool) (ts : List Tab) (K : PySem.W.Frag) : AlF := ((obsD fa fn K, ex K), ts.map fun t => dicW K (t.1 K))
def obsN (sm : Bool) (names : List Str) (n : Nat) (fa : List Fa) (fn : List DefD) (ex : PySem.W.Frag → Bool) (ts : List Tab) (g : Addr → Option Obj) : AlF := obsK fa fn ex ts (frG g (asM sm names g n))
def hookN (sm : Bool) (names : List Str) (n : Nat) (fa : List Fa) (fn : List DefD) (ex : PySem.W.Frag → Bool) (ts : List Tab) : PySem.W.Hook where
  α := AlF
  obs := fun s => obsN sm names n fa fn ex ts s.heap.get?
  val := fun w => ((valD fn, true), ts.map fun t : Tab => some (keysIn w.params t.2))
  says := fun w h => ∃ K : PySem.W.Frag, K.In h ∧ SaysD fa fn K ∧ ex K = true ∧ TabsOk ts w K
  of := fun _ _ e => ⟨_, frG_in, congrArg (fun z : AlF => z.1.1) e, congrArg (fun z : AlF => z.1.2) e, tabs_of (show _ = _ from congrArg (fun z : AlF => z.2) e)⟩
  keeps := fun _ _ _ ⟨K, hK, c⟩ k => ⟨K, PySem.W.Frag.In.keeps hK k, c⟩
theorem obsN_eq {sm : Bool} {names : List Str} {n : Nat} {fa : List Fa} {fn : List DefD} {ex : PySem.W.Frag → Bool} {ts : List Tab} {g : Addr → Option Obj} {s : Shared} (h : ∀ a, g a = s.heap.get? a) : obsN sm names n fa fn ex ts g = (hookN sm names n fa fn ex ts).obs s := by
  have e : g = s.heap.get? := funext h
  rw [e] <;> rfl
theorem smN_of {K : PySem.W.Frag} (h : (K.lookup sysModules).isSome = true) : ∃ o, K.lookup sysModules = some o := Option.isSome_iff_exists.mp h
end Lc
set_option Elab.async false
set_option linter.all false
set_option maxRecDepth 100000
set_option maxHeartbeats 4000000
namespace K78
open PySem PySem.Spec PyProof.Rows L2 Lc
def top (i : Nat) : Stmt := PySem.Challenge.pw_liveclaims_k78_pipelines_written_and_rea.main.body.getD i (.Pass ⟨0, 0, 0, 0⟩)
/-! ## is_whole, common_divisor, is_rational -/
abbrev sWhole : Stmt := top 11
abbrev sCd : Stmt := top 12
abbrev sIsR : Stmt := top 13
def spWhole : Sp := fun vs H Q _ => ∃ (v : V) (t : String), vs = [v] ∧ TyN H v t ∧ Q (.bl (t == "int")) H
def spCd : Sp := fun vs H Q _ => ∃ a b : Int, vs = [.int a, .int b] ∧ 0 ≤ a ∧ 0 ≤ b ∧ Q (.int (gd a b)) H
def spIsR : Sp := fun vs H Q _ => ∃ (v : V) (b : Bool), vs = [v] ∧ Rk H v b ∧ Q (.bl b) H
section
variable {P : Program} {w : World} {K : PySem.W.Frag} {mg : Str → Option Value} {base : Heap} {f C : Addr} {fd : FuncData}
theorem scWhole : FnScope ["value"] ["value"] (defScope sWhole) := ⟨rfl, rfl, rfl, by decide +kernel, rfl, by decide +kernel, by decide +kernel⟩
theorem ok_whole (F : Fun K "is_whole" "is_whole" sWhole f fd) (T : Bt mg) : FnOk P w K mg base CX0 1 f fd ["value"] spWhole := by
  refine F.ok scWhole (fun vs H Q E h => ?_) (fun cdv A outer s H vs Q E hr h => ?_)
  · obtain ⟨v, t, rfl, _⟩ := h
    rfl
  · obtain ⟨v, t, rfl, ty, k⟩ := h
    refine ⟨_, pss_one (ps_ret (pe_and (pe_callB call_isi (by rfl) T.isi boot_isinstance (pa_cons (pv 0) (pa_cons (pe_bltn (v := .ty "int") (by rfl) T.int boot_int rfl) pa_nil)))
      (pe_one (pe_not (pe_callB call_isi (by rfl) T.isi boot_isinstance (pa_cons (pv 0) (pa_cons (pe_bltn (v := .ty "bool") (by rfl) T.bool boot_bool rfl) pa_nil))))))), ?_⟩
    refine ⟨_, rfl, v, .ty "int", _, _, _, rfl, .ty "int", ty.x, kit_int ty.mem, _, rfl, ?_⟩
    refine ite2 (fun hi => ?_) (fun hi => ?_)
    · refine ⟨_, rfl, v, .ty "bool", _, _, _, rfl, .ty "bool", ty.x, kit_bool ty.mem, _, rfl, ?_⟩
      have e : (!(t == "bool")) = (t == "int") := by cases ty <;> first | rfl | exact absurd hi (by decide)
      show Q (.bl (!(t == "bool"))) H
      rw [e]
      exact k
    · have e : false = (t == "int") := by cases ty <;> first | rfl | exact absurd rfl hi
      show Q (.bl false) H
      rw [e]
      exact k
theorem scCd : FnScope ["a", "b"] ["a", "b"] (defScope sCd) := ⟨rfl, rfl, rfl, by decide +kernel, rfl, by decide +kernel, by decide +kernel⟩
theorem ok_cd (F : Fun K "common_divisor" "common_divisor" sCd f fd) : FnOk P w K mg base CX0 1 f fd ["a", "b"] spCd := by
  refine F.ok scCd (fun vs H Q E h => ?_) (fun cdv A outer s H vs Q E hr h => ?_)
  · obtain ⟨a, b, rfl, _⟩ := h
    rfl
  · obtain ⟨a, b, rfl, ha, hb, k⟩ := h
    refine ⟨_, pss_cons (ps_while PassesOwn.never (pt_cmpR op_ne (pv 1) pe_int (nomark _)) (pss_one (ps_par (i := 0) (j := 1) (by rfl) scCd.nd rfl rfl (by decide) rfl rfl (pa_cons (pv 1) (pa_cons (pe_op op_mod (pv 0) (pv 1)) pa_nil)) (by rfl))))
      (pss_one (ps_ret (pv 0))), ?_⟩
    refine ⟨fun m σ H' => ∃ a' b' : Int, σ = [some (.int a'), some (.int b')] ∧ 0 ≤ a' ∧ 0 ≤ b' ∧ b'.toNat = m ∧ gd a' b' = gd a b ∧ H' = H, ⟨_, a, b, rfl, ha, hb, rfl, rfl, rfl⟩, ?_⟩
    rintro m σ H' ⟨a', b', rfl, ha', hb', rfl, e, rfl⟩
    refine ⟨_, rfl, rfl, _, rfl, ?_⟩
    rw [show (decide (V.int b' = V.int 0)) = decide (b' = 0) from dec_int.trans (by rw [Bool.eq_iff_iff]; simp)]
    by_cases z : b' = 0
    · rw [decide_eq_true z]
      refine iteF ⟨_, rfl, ?_⟩
      rw [← e, z, gd_zero ha'] at k
      exact k
    · rw [decide_eq_false z]
      have pb : 0 < b' := by omega
      refine iteT ⟨fun σ' H'' => ∃ a2 b2 : Int, σ' = [some (.int a2), some (.int b2)] ∧ 0 ≤ a2 ∧ 0 ≤ b2 ∧ b2.toNat < b'.toNat ∧ gd a2 b2 = gd a b ∧ H'' = H', ?_, ?_⟩
      · rintro σ' H'' ⟨a2, b2, h1, h2, h3, h4, h5, h6⟩
        exact ⟨_, h4, a2, b2, h1, h2, h3, rfl, h5, h6⟩
      · refine ⟨_, rfl, _, rfl, _, rfl, _, _, rfl, rfl, pb, _, _, rfl, b', a' % b', rfl, hb', Int.emod_nonneg _ (by omega), ?_, ?_, rfl⟩
        · have := Int.emod_lt_of_pos a' pb
          have := Int.emod_nonneg a' (by omega : b' ≠ 0)
          omega
        · rw [gd_step ha' pb]
          exact e
theorem scIsR : FnScope ["value", "n", "d"] ["value"] (defScope sIsR) := ⟨rfl, rfl, rfl, by decide +kernel, rfl, by decide +kernel, by decide +kernel⟩
theorem ok_isr {fW fC : Addr} {fdW fdC : FuncData} (F : Fun K "is_rational" "is_rational" sIsR f fd) (T : Bt mg) (GW : FnOk P w K mg base CX0 1 fW fdW ["value"] spWhole) (mW : mg "is_whole" = some (.ref fW)) (kW : PySem.W.keepIn K (.ref fW) = true) (bW : Binds K fdW ["value"] [])
    (GC : FnOk P w K mg base CX0 1 fC fdC ["a", "b"] spCd) (mC : mg "common_divisor" = some (.ref fC)) (kC : PySem.W.keepIn K (.ref fC) = true) (bC : Binds K fdC ["a", "b"] []) : FnOk P w K mg base CX0 2 f fd ["value"] spIsR := by
  refine F.ok scIsR (fun vs H Q E h => ?_) (fun cdv A outer s H vs Q E hr h => ?_)
  · obtain ⟨v, b, rfl, _⟩ := h
    rfl
  · obtain ⟨v, b, rfl, hk, k⟩ := h
    refine ⟨_, pss_cons (ps_if (PW.pt (pw_or (pt_not (pt_val (pe_callB call_isi (by rfl) T.isi boot_isinstance (pa_cons (pv 0) (pa_cons (pe_bltn (v := .ty "tuple") (by rfl) T.tuple boot_tuple rfl) pa_nil)))))
        (pw_or1 (pt_cmpR op_ne (pe_callB call_len_seq (by rfl) T.len PySem.boot_len (pa_cons (pv 0) pa_nil)) pe_int (nomark _))))) (pss_one (ps_ret pe_bl)) pss_nil)
      (pss_cons (ps_asg (pv 0) (pg_tup rfl (pgs_cons (pg_name (i := 1) scIsR.nd rfl (.inl rfl)) (pgs_cons (pg_name (i := 2) scIsR.nd rfl (.inl rfl)) pgs_nil))))
      (pss_cons (ps_if (PW.pt (pw_or (pt_not (pt_val (pe_call GW hr (by rfl) mW kW bW .nil pass0 (pa_cons (pv 1) pa_nil)))) (pw_or (pt_not (pt_val (pe_call GW hr (by rfl) mW kW bW .nil pass0 (pa_cons (pv 2) pa_nil))))
        (pw_or1 (pt_cmpR op_lt (pv 2) pe_int (nomark _)))))) (pss_one (ps_ret pe_bl)) pss_nil)
      (pss_one (ps_ret (pe_cmpR op_eq (pe_call GC hr (by rfl) mC kC bC .nil pass0 (pa_cons (pe_callB call_abs (by rfl) T.abs boot_abs (pa_cons (pv 1) pa_nil)) (pa_cons (pv 2) pa_nil))) pe_int (nomark _)))))), ?_⟩
    cases hk with
    | @other _ t ty n =>
      refine ⟨_, rfl, v, .ty "tuple", _, _, _, rfl, .ty "tuple", ty.x, kit_tuple ty.mem, _, rfl, ?_⟩
      have e : (t == "tuple") = false := by simpa using n
      rw [e]
      exact iteT (iteT k)
    | @len a xs e n =>
      refine ⟨_, rfl, .ref a, .ty "tuple", _, _, _, rfl, .ty "tuple", (TyN.tup e).x, kit_tuple (by decide), _, rfl, ?_⟩
      refine iteF ⟨_, rfl, a, xs, rfl, .inr (SqT.of e), rfl, _, rfl, ?_⟩
      have z : decide (V.int (xs.length : Int) = V.int 2) = false := decide_eq_false (fun q => n (by injection q with q; omega))
      rw [z]
      exact iteT k
    | @pair a x y tx ty e hx hy =>
      refine ⟨_, rfl, .ref a, .ty "tuple", _, _, _, rfl, .ty "tuple", (TyN.tup e).x, kit_tuple (by decide), _, rfl, ?_⟩
      refine iteF ⟨_, rfl, a, _, rfl, .inr (SqT.of e), rfl, _, rfl, ?_⟩
      refine iteF ?_
      refine ⟨_, rfl, a, _, rfl, SqT.of e, rfl, _, _, rfl, _, _, rfl, rfl, ?_⟩
      refine ⟨_, rfl, x, tx, rfl, hx, _, rfl, ?_⟩
      by_cases ix : tx = "int"
      · obtain ⟨n, rfl⟩ := hx.isInt ix
        subst ix
        · refine iteF ⟨_, rfl, y, ty, rfl, hy, _, rfl, ?_⟩
          by_cases iy : ty = "int"
          · obtain ⟨d, rfl⟩ := hy.isInt iy
            subst iy
            · refine iteF ⟨_, rfl, _, _, rfl, rfl, _, rfl, ?_⟩
              by_cases hd : d < 1
              · rw [decide_eq_true hd]
                have z : ratB (.int n) (.int d) = false := by
                  show (decide (0 < d) && _) = false
                  rw [decide_eq_false (by omega : ¬ 0 < d)]
                  rfl
                rw [z] at k
                exact iteT k
              · rw [decide_eq_false hd]
                refine iteF ?_
                refine ⟨_, rfl, n, rfl, _, rfl, _, d, rfl, by split <;> omega, by omega, rfl, ?_⟩
                have z : ratB (.int n) (.int d) = decide (V.int (gd (if n < 0 then -n else n) d) = V.int 1) := by
                  show (decide (0 < d) && decide (gd n d = 1)) = _
                  rw [decide_eq_true (by omega : 0 < d), gd_abs]
                  rw [Bool.eq_iff_iff]
                  simp
                rw [z] at k
                exact k
          · have z : (ty == "int") = false := by simpa using iy
            have z2 : ratB (.int n) y = false := by
              cases hy <;> first | rfl | exact absurd rfl iy
            rw [z2] at k
            rw [z]
            exact iteT (iteT k)
      · have z : (tx == "int") = false := by simpa using ix
        have z2 : ratB x y = false := by
          cases hx <;> first | rfl | exact absurd rfl ix
        rw [z2] at k
        rw [z]
        exact iteT (iteT k)
end
abbrev sTape : Stmt := top 74
section
variable {P : Program} {w : World} {K : PySem.W.Frag} {mg : Str → Option Value} {base : Heap} {f : Addr} {fd : FuncData}
theorem scTape : FnScope ["_law_script"] ["_law_script"] (defScope sTape) := ⟨rfl, rfl, rfl, by decide +kernel, rfl, by decide +kernel, by decide +kernel⟩
theorem ok_tape (F : Fun K "_law_tape" "_law_tape" sTape f fd) (T : Bt mg) : FnOk P w K mg base CX0 1 f fd ["_law_script"] (spTape K) := by
  refine F.ok scTape (fun vs H Q E h => ?_) (fun cdv A outer s H vs Q E hr h => ?_)
  · obtain ⟨a, ns, rfl, _⟩ := h
    rfl
  · obtain ⟨a, ns, rfl, hS, k⟩ := h
    refine ⟨_, pss_one (ps_ret (pe_lst (pa_cons (pe_callTy call_list_of (by rfl) T.list boot_list (pa_cons (pe_slice sl_list (pv 0) po_none (po_some pe_int)) pa_nil)) (pa_cons pe_int (pa_cons pe_int (pa_cons pe_int pa_nil)))))), ?_⟩
    obtain ⟨ms, e⟩ := cut_ints ns none (some 63)
    refine ⟨_, rfl, _, rfl, a, _, rfl, hS, fun p hp => ⟨p, _, rfl, .inl (SqL.of upd_same), fun l hl => ⟨by show 4 ≤ sizeLine; decide, fun t ht => ?_⟩⟩⟩
    have s1 : Same H (upd H p (.lst (cutV (ns.map V.int) none (some 63)))) := Same.upd hp
    have s2 := Same.upd (o := .lst (cutV (ns.map V.int) none (some 63))) hl
    have s3 := Same.upd (o := .lst [.ref l, .int 0, .int 0, .int 17]) ht
    refine k t _ ((s1.trans s2).trans s3) ((s1.trans s2).free ht) ⟨l, ms, 0, 0, 17, upd_same, ?_, by decide, by decide, by decide, by decide⟩
    rw [← e]
    exact s3 _ _ upd_same
end
abbrev sDraw : Stmt := top 75
section
variable {P : Program} {w : World} {K : PySem.W.Frag} {mg : Str → Option Value} {base : Heap} {f : Addr} {fd : FuncData}
theorem scDraw : FnScope ["_law_tape_here", "_law_many", "_law_digit", "_law_cell", "_law_near"] ["_law_tape_here", "_law_many"] (defScope sDraw) := ⟨rfl, rfl, rfl, by decide +kernel, rfl, by decide +kernel, by decide +kernel⟩
theorem ok_draw (F : Fun K "_law_draw" "_law_draw" sDraw f fd) (T : Bt mg) : FnOk P w K mg base CX0 1 f fd ["_law_tape_here", "_law_many"] spDrawL := by
  refine F.ok scDraw (fun vs H Q E h => ?_) (fun cdv A outer s H vs Q E hr h => ?_)
  · obtain ⟨t, l, m, rfl, _⟩ := h
    rfl
  · obtain ⟨t, l, m, rfl, ⟨ns, pos, rest, mix, ht, hl, p0, r0, m0, m1⟩, hm, hm2, k⟩ := h
    refine ⟨_, pss_cons (ps_if (pt_cmpR op_gt (pe_ix ix_list (pv 0) pe_int (fun _ _ => rfl)) pe_int (nomark _))
        (pss_cons (ps_set (i := 2) scDraw.nd rfl (Or.inl rfl) (pe_op op_mod (pe_ix ix_list (pv 0) pe_int (fun _ _ => rfl)) (pv 1)))
        (pss_cons (ps_asg (pe_op op_fdivW (pe_ix ix_list (pv 0) pe_int (fun _ _ => rfl)) (pv 1)) (pg_sub (pv 0) pe_int set_list)) (pss_one (ps_ret (pv 2))))) pss_nil)
      (pss_cons (ps_set (i := 3) scDraw.nd rfl (Or.inl rfl) pe_int)
      (Evl.pss_cut (ps_if (pt_cmpR op_lt (pe_ix ix_list (pv 0) pe_int (fun _ _ => rfl)) (pe_callB call_len_seq (by rfl) T.len PySem.boot_len (pa_cons (pe_ix ix_list (pv 0) pe_int (fun _ _ => rfl)) pa_nil)) (nomark _))
        (pss_one (ps_set (i := 3) scDraw.nd rfl (Or.inl rfl) (pe_ix ix_list (pe_ix ix_list (pv 0) pe_int (fun _ _ => rfl)) (pe_ix ix_list (pv 0) pe_int (fun _ _ => rfl)) (fun _ _ => rfl)))) pss_nil)
      (pss_cons (ps_asg (pe_op op_add (pe_ix ix_list (pv 0) pe_int (fun _ _ => rfl)) pe_int) (pg_sub (pv 0) pe_int set_list))
      (pss_cons (ps_if (pt_cmpR op_ge (pv 3) (pe_op op_pow pe_int pe_int) (nomark _))
        (pss_cons (ps_asg (pe_op op_fdivW (pv 3) (pv 1)) (pg_sub (pv 0) pe_int set_list)) (pss_one (ps_ret (pe_op op_mod (pv 3) (pv 1))))) pss_nil)
      (pss_cons (ps_set (i := 4) scDraw.nd rfl (Or.inl rfl) (pe_op op_add (pe_op op_add (pe_op op_mod (pv 3) pe_int) (pe_op op_mul pe_int (pe_ix ix_list (pv 0) pe_int (fun _ _ => rfl)))) pe_int))
      (pss_cons (ps_asg (pe_op op_mod (pe_op op_add (pe_op op_mul (pe_ix ix_list (pv 0) pe_int (fun _ _ => rfl)) pe_int) (pv 4)) pe_int) (pg_sub (pv 0) pe_int set_list))
      (pss_one (ps_ret (pe_op op_mod (pe_op op_mod (pe_op op_pow (pe_ix ix_list (pv 0) pe_int (fun _ _ => rfl)) pe_int) pe_int) (pv 1)))))))))), ?_⟩
    have nl := tape_ne ht hl
    have dv : ∀ c : Int, CDivW c m := fun c => ⟨hm, log_lt' hm2⟩
    have M0 : (0 : Int) < 2147483647 := by decide
    refine ⟨_, rfl, t, _, _, _, rfl, rfl, SqL.of ht, rfl, _, _, rfl, rfl, _, rfl, ?_⟩
    refine ite2 (fun z => ?_) (fun z => ?_)
    · have z' : 0 < rest := of_decide_eq_true z
      refine ⟨_, rfl, t, _, _, _, rfl, rfl, SqL.of ht, rfl, _, rfl, _, _, rfl, rfl, hm, ?_⟩
      refine ⟨_, rfl, t, _, _, _, rfl, rfl, SqL.of ht, rfl, _, rfl, _, _, rfl, rfl, dv _, _, rfl, t, _, _, 2, rfl, rfl, ht, rfl, ?_⟩
      refine ⟨_, rfl, ?_⟩
      refine k _ _ (Int.emod_nonneg _ (by omega)) (Int.emod_lt_of_pos _ hm) ⟨ns, pos, rest / m, mix, upd_same, by rw [upd_ne nl]; exact hl, p0, Int.ediv_nonneg r0 (by omega), m0, m1⟩ SameB.upd
    · refine ⟨fun σ' H' => ∃ c : Int, σ' = [some (.ref t), some (.int m), none, some (.int c), none] ∧ H' = H, ?_, ?_⟩
      · refine ⟨_, rfl, t, _, _, _, rfl, rfl, SqL.of ht, rfl, _, rfl, t, _, _, _, rfl, rfl, SqL.of ht, rfl, l, _, rfl, .inl (SqL.of hl), _, _, rfl, rfl, _, rfl, ?_⟩
        refine ite2 (fun y => ?_) (fun y => ?_)
        · have y' : pos < ((ns.map V.int).length : Int) := of_decide_eq_true y
          rw [List.length_map] at y'
          have g : (ns.map V.int)[pos.toNat]? = some (.int (ns[pos.toNat]'(by omega))) := by
            rw [List.getElem?_map, List.getElem?_eq_getElem (by omega : pos.toNat < ns.length)]
            rfl
          exact ⟨_, rfl, t, _, _, _, rfl, rfl, SqL.of ht, rfl, _, rfl, t, _, _, _, rfl, rfl, SqL.of ht, rfl, l, _, _, _, rfl, rfl, SqL.of hl, at_of (by omega) g, _, rfl, rfl⟩
        · exact ⟨0, rfl, rfl⟩
      · rintro σ' H' ⟨c, rfl, rfl⟩
        refine ⟨_, rfl, t, _, _, _, rfl, rfl, SqL.of ht, rfl, _, _, rfl, rfl, _, rfl, t, _, _, 1, rfl, rfl, ht, rfl, ?_⟩
        refine ⟨_, rfl, _, _, rfl, rfl, ⟨by decide, by decide, by decide⟩, _, _, rfl, rfl, _, rfl, ?_⟩
        refine ite2 (fun y => ?_) (fun y => ?_)
        · have y' : (10 : Int) ^ (18 : Int).toNat ≤ c := of_decide_eq_true y
          have c0 : 0 ≤ c := Int.le_trans (by decide) y'
          refine ⟨_, rfl, _, rfl, _, _, rfl, rfl, dv _, _, rfl, t, _, _, 2, rfl, rfl, upd_same, rfl, ?_⟩
          refine ⟨_, rfl, _, rfl, _, _, rfl, rfl, hm, ?_⟩
          exact k _ _ (Int.emod_nonneg _ (by omega)) (Int.emod_lt_of_pos _ hm) ⟨ns, pos + 1, c / m, mix, upd_same, by rw [upd_ne nl, upd_ne nl]; exact hl, by omega, Int.ediv_nonneg c0 (by omega), m0, m1⟩ (SameB.upd.trans SameB.upd)
        · refine ⟨_, rfl, _, _, rfl, rfl, M0, _, rfl, t, _, _, _, rfl, rfl, SqL.of upd_same, rfl, _, _, rfl, rfl, .inl ⟨by decide, by decide⟩, _, _, rfl, rfl, _, _, rfl, rfl, ?_⟩
          refine ⟨_, rfl, t, _, _, _, rfl, rfl, SqL.of upd_same, rfl, _, _, rfl, rfl, .inl ⟨by omega, by omega⟩, _, rfl, _, _, rfl, rfl, _, _, rfl, rfl, M0, _, rfl, t, _, _, 3, rfl, rfl, upd_same, rfl, ?_⟩
          have q0 := Int.emod_nonneg (mix * 48271 + (c % 2147483647 + 7919 * (pos + 1) + 11)) (by decide : (2147483647 : Int) ≠ 0)
          have q1 := Int.emod_lt_of_pos (mix * 48271 + (c % 2147483647 + 7919 * (pos + 1) + 11)) M0
          refine ⟨_, rfl, t, _, _, _, rfl, rfl, SqL.of upd_same, rfl, _, _, rfl, rfl, ⟨by decide, by decide, ?_⟩, _, _, rfl, rfl, M0, _, rfl, _, _, rfl, rfl, hm, ?_⟩
          · omega
          · exact k _ _ (Int.emod_nonneg _ (by omega)) (Int.emod_lt_of_pos _ hm) ⟨ns, pos + 1, rest, _, upd_same, by rw [upd_ne nl, upd_ne nl]; exact hl, by omega, r0, q0, q1⟩ (SameB.upd.trans SameB.upd)
end
abbrev sLst : Stmt := top 76
section
variable {P : Program} {w : World} {K : PySem.W.Frag} {mg : Str → Option Value} {base : Heap} {f : Addr} {fd : FuncData}
theorem scLst : FnScope ["_law_n", "_law_d", "_law_a", "_law_b", "_law_rest"] ["_law_n", "_law_d"] (defScope sLst) := ⟨rfl, rfl, rfl, by decide +kernel, rfl, by decide +kernel, by decide +kernel⟩
theorem ok_lst (F : Fun K "_law_lowest" "_law_lowest" sLst f fd) (T : Bt mg) : FnOk P w K mg base CX0 1 f fd ["_law_n", "_law_d"] spLowest := by
  refine F.ok scLst (fun vs H Q E h => ?_) (fun cdv A outer s H vs Q E hr h => ?_)
  · obtain ⟨n, d, rfl, _⟩ := h
    rfl
  · obtain ⟨n, d, rfl, hd, hd2, k⟩ := h
    refine ⟨_, pss_cons (ps_set (i := 2) scLst.nd rfl (Or.inl rfl) (pe_callB call_abs (by rfl) T.abs boot_abs (pa_cons (pv 0) pa_nil)))
      (pss_cons (ps_set (i := 3) scLst.nd rfl (Or.inl rfl) (pv 1))
      (pss_cons (ps_while PassesOwn.never (pt_cmpR op_gt (pv 3) pe_int (nomark _))
        (pss_cons (ps_set (i := 4) scLst.nd rfl (Or.inl rfl) (pe_op op_mod (pv 2) (pv 3))) (pss_cons (ps_set (i := 2) scLst.nd rfl (Or.inl rfl) (pv 3)) (pss_one (ps_set (i := 3) scLst.nd rfl (Or.inl rfl) (pv 4))))))
      (pss_one (ps_ret (pe_tup (pa_cons (pe_op op_fdivW (pv 0) (pv 2)) (pa_cons (pe_op op_fdivW (pv 1) (pv 2)) pa_nil))))))), ?_⟩
    refine ⟨_, rfl, n, rfl, _, rfl, ?_⟩
    refine ⟨fun m σ H' => ∃ (a' b' : Int) (r : Option V), σ = [some (.int n), some (.int d), some (.int a'), some (.int b'), r] ∧ 0 ≤ a' ∧ 0 ≤ b' ∧ b'.toNat = m ∧ gd a' b' = gd n d ∧ H' = H, ⟨_, _, d, none, rfl, by split <;> omega, by omega, rfl, gd_abs n d, rfl⟩, ?_⟩
    rintro m σ H' ⟨a', b', r, rfl, ha', hb', rfl, e, rfl⟩
    refine ⟨_, rfl, _, _, rfl, rfl, _, rfl, ?_⟩
    refine ite2 (fun z => ?_) (fun z => ?_)
    · have pb : 0 < b' := of_decide_eq_true z
      refine ⟨fun σ' H'' => ∃ (a2 b2 : Int) (r : Option V), σ' = [some (.int n), some (.int d), some (.int a2), some (.int b2), r] ∧ 0 ≤ a2 ∧ 0 ≤ b2 ∧ b2.toNat < b'.toNat ∧ gd a2 b2 = gd n d ∧ H'' = H', ?_, ?_⟩
      · rintro σ' H'' ⟨a2, b2, r2, h1, h2, h3, h4, h5, h6⟩
        exact ⟨_, h4, a2, b2, r2, h1, h2, h3, rfl, h5, h6⟩
      · refine ⟨_, rfl, _, rfl, _, _, rfl, rfl, pb, _, rfl, _, rfl, b', a' % b', _, rfl, hb', Int.emod_nonneg _ (by omega), ?_, ?_, rfl⟩
        · have := Int.emod_lt_of_pos a' pb
          have := Int.emod_nonneg a' (by omega : b' ≠ 0)
          omega
        · rw [gd_step ha' pb]
          exact e
    · have zb : ¬ 0 < b' := fun q => z (decide_eq_true q)
      have z0 : b' = 0 := by omega
      rw [z0, gd_zero ha'] at e
      subst e
      have g0 : 0 < gd n d := gd_pos (by omega)
      have gl : (gd n d).natAbs < 2 ^ 4000 := Nat.lt_of_le_of_lt (gd_natAbs_le (by omega)) hd2
      exact ⟨_, rfl, _, rfl, _, _, rfl, rfl, ⟨g0, log_lt' gl⟩, _, rfl, _, rfl, _, _, rfl, rfl, ⟨g0, log_lt' gl⟩, by show 2 ≤ sizeLine; decide, k⟩
end
abbrev sName : Stmt := top 20
section
variable {P : Program} {w : World} {K : PySem.W.Frag} {mg : Str → Option Value} {base : Heap} {f : Addr} {fd : FuncData} {u1 u2 : Tok} {u3 : Tok}
theorem scName : FnScope ["value", "sign"] ["value"] (defScope sName) := ⟨rfl, rfl, rfl, by decide +kernel, rfl, by decide +kernel, by decide +kernel⟩
theorem ok_name (F : Fun K "is_name" "is_name" sName f fd) (T : Bt mg) (m1 : mg "LETTERS" = some (.str letters u1)) (m2 : mg "NAME_SIGNS" = some (.str signs u2)) (m3 : mg "LONGEST_NAME" = some (.int 12 u3)) : FnOk P w K mg base CX0 1 f fd ["value"] spName := by
  refine F.ok scName (fun vs H Q E h => ?_) (fun cdv A outer s H vs Q E hr h => ?_)
  · obtain ⟨v, t, rfl, _⟩ := h
    rfl
  · obtain ⟨v, t, rfl, ty, hl, k⟩ := h
    refine ⟨_, pss_cons (ps_if (PW.pt (pw_or (pt_not (pt_val (pe_callB call_isi (by rfl) T.isi boot_isinstance (pa_cons (pv 0) (pa_cons (pe_bltn (v := .ty "str") (by rfl) T.str boot_str rfl) pa_nil))))) (pw_or (pt_cmpR op_eq (pv 0) pe_str (nomark _))
        (pw_or1 (pt_cmpR op_gt (pe_callB call_len_str (by rfl) T.len PySem.boot_len (pa_cons (pv 0) pa_nil)) (pe_glob (v := .int 12) (by rfl) m3 ⟨_, rfl⟩) (nomark _)))))) (pss_one (ps_ret pe_bl)) pss_nil)
      (pss_one (ps_ret (pe_and (pe_cmpR op_in_sign (pe_ix ix_str (pv 0) pe_int (fun _ _ => rfl)) (pe_glob (v := .str letters) (by rfl) m1 ⟨_, rfl⟩) (by rfl))
        (pe_one (pe_callB (cr_all rfl) (by rfl) T.all (by decide +kernel) (pa_cons (pe_lc (own := [("sign", 1)]) (g := gName 1) (tt := tYes) (te := tOp rInS (tVar 1) (tC (.str signs))) (by rfl) scName.nd (pi_str (pv 0)) (blkOk_by (own := [("sign", 1)]) (N := ["value", "sign"]) (sc := defScope sName) (by decide +kernel))
          (fun _ _ _ _ _ => pg_name (i := 1) scName.nd rfl (Or.inl rfl)) (fun _ _ _ _ _ => pts_nil) (fun _ _ _ _ _ => pe_cmpR op_in_sign (pv 1) (pe_glob (v := .str signs) (by rfl) m2 ⟨_, rfl⟩) (by rfl))) pa_nil)))))), ?_⟩
    refine ⟨_, rfl, v, .ty "str", _, _, _, rfl, .ty "str", ty.x, kit_str ty.mem, _, rfl, ?_⟩
    by_cases ts : t = "str"
    · obtain ⟨x, rfl⟩ := ty.isStr ts
      subst ts
      have hx := hl x rfl
      refine iteF ⟨_, rfl, rfl, _, rfl, ?_⟩
      rw [dec_empty]
      cases e : x.cps.toList with
      | nil =>
        rw [decide_eq_true rfl]
        have k0 := k H (Same.refl H)
        rw [name_nil e] at k0
        exact iteT (iteT k0)
      | cons c r =>
        rw [decide_eq_false (by simp)]
        refine iteF ⟨_, rfl, x, rfl, hx, _, _, rfl, rfl, _, rfl, ?_⟩
        rw [lenL x]
        by_cases l12 : x.cps.toList.length ≤ 12
        · rw [decide_eq_false (by omega)]
          refine iteF ?_
          have ni := name_is e l12
          refine ⟨_, rfl, x, 0, c, rfl, rfl, hx, (show atI x.cps.toList ((0 : Nat) : Int) = some c from atI_nat (by rw [e]; rfl)), c, letters, rfl, rfl, _, rfl, ?_⟩
          show if inL c = true then _ else _
          refine ite2 (fun z => ?_) (fun z => ?_)
          · refine ⟨_, rfl, x, rfl, fun D hD => lc_it walk_str (fun i H' => H' = upd H D (.lst ((x.cps.toList.take i).map fun c => .bl (inS c)))) rfl (fun _ _ _ _ => True.intro) ?_ ?_⟩
            · rintro i y H' H'' hi rfl ⟨rfl, c', hc', rfl⟩
              refine ⟨rfl, ?_⟩
              change tOp rInS (tVar 1) (tC (.str signs)) _ _ _
              refine ⟨_, rfl, c', signs, rfl, rfl, _, upd_same, ?_, ?_⟩
              · rw [List.length_map, List.length_take]
                exact Nat.lt_of_le_of_lt (Nat.min_le_right _ _) (Nat.lt_of_le_of_lt l12 (by decide))
              · rw [upd_upd]
                exact congrArg (fun z => upd H D (.lst z)) (grow hc' inS)
            · rintro H' rfl
              have ez : x.cps.size = x.cps.toList.length := by simp
              refine ⟨D, x.cps.toList.map inS, rfl, SqL.of (by rw [upd_same, ez, List.take_length, List.map_map]; rfl), ?_⟩
              have k1 := k _ (Same.upd (o := .lst ((x.cps.toList.take x.cps.size).map fun c => .bl (inS c))) hD)
              rw [ni, z, ← e] at k1
              rw [List.all_map]
              exact k1
          · have k0 := k H (Same.refl H)
            rw [ni, show inL c = false by simpa using z] at k0
            exact k0
        · rw [decide_eq_true (by omega)]
          have k0 := k H (Same.refl H)
          rw [name_long l12] at k0
          exact iteT k0
    · have z : (t == "str") = false := by simpa using ts
      rw [z]
      have k0 := k H (Same.refl H)
      have nb : nameB v = false := by cases ty <;> first | rfl | exact absurd rfl ts
      rw [nb] at k0
      exact iteT (iteT k0)
end
end K78
set_option Elab.async false
set_option linter.all false
set_option maxRecDepth 100000
set_option maxHeartbeats 8000000
namespace K78
open PySem PySem.Spec PyProof.Rows L2 Lc He
/-! ## the head -/
def dOf (x : Str) (st : Stmt) : DefD := ⟨(x, none), x, x, defArgs st, defBody st, defScope st, [], []⟩
def dMt (c m q : Str) (st : Stmt) : DefD := ⟨(c, some m), m, q, defArgs st, defBody st, defScope st, [], []⟩
def dKw (x : Str) (st : Stmt) (kw : List (Str × Dv)) : DefD := ⟨(x, none), x, x, defArgs st, defBody st, defScope st, [], kw⟩
def dDf (x : Str) (st : Stmt) (df : List Dv) : DefD := ⟨(x, none), x, x, defArgs st, defBody st, defScope st, df, []⟩
def dMd (c m q : Str) (st : Stmt) (df : List Dv) : DefD := ⟨(c, some m), m, q, defArgs st, defBody st, defScope st, df, []⟩
def fn : List DefD := [dOf "show_rational" (top 1), dOf "show_value" (top 2), dOf "show_expression" (top 3), dOf "show_group" (top 4), dOf "show_choose" (top 5), dOf "show_step" (top 6), dOf "show_pipeline" (top 7), dMt "BadText" "__init__" "BadText.__init__" (inClass (top 9) 0), dOf "is_whole" (top 11), dOf "common_divisor" (top 12), dOf "is_rational" (top 13), dOf "is_name" (top 20), dOf "within_limit" (top 21), dOf "read_whole" (top 28), dOf "read_rational" (top 29), dOf "read_value" (top 30), dOf "read_leaf" (top 31), dOf "pieces_of" (top 32), dOf "check_piece" (top 33), dOf "read_form" (top 34), dOf "read_operation" (top 35), dOf "read_expression" (top 36), dOf "are_unlike_names" (top 52), dOf "whole_or_none" (top 54), dOf "form_or_none" (top 53), dOf "read_keep" (top 55), dOf "read_set" (top 56), dOf "read_select" (top 57), dOf "read_rename" (top 58), dOf "read_sort" (top 59), dOf "read_first" (top 60), dOf "read_sample" (top 61), dOf "read_join" (top 62), dOf "read_union" (top 63), dOf "read_distinct" (top 64), dOf "read_total" (top 66), dOf "read_group" (top 67), dOf "read_step" (top 68), dOf "read_alternative" (top 69), dOf "read_choose" (top 70), dOf "read_source" (top 71), dOf "read_pipeline" (top 72), dOf "_law_tape" (top 74), dOf "_law_draw" (top 75), dOf "_law_lowest" (top 76), dOf "_law_rational" (top 77), dOf "_law_name" (top 78), dOf "_law_fresh" (top 79), dOf "_law_columns" (top 80), dOf "_law_leaf" (top 81), dOf "_law_expression" (top 82), dOf "_law_pick" (top 83), dOf "_law_set_step" (top 84), dOf "_law_sort_step" (top 85), dOf "_law_sample_step" (top 86), dOf "_law_keeping_step" (top 87), dOf "_law_meeting_step" (top 88), dOf "_law_group_step" (top 89), dOf "_law_same_step" (top 90), dOf "_law_choose_step" (top 91), dOf "_law_steps" (top 92), dOf "_law_value_words" (top 93), dOf "_law_form" (top 94), dOf "_law_lines" (top 95), dOf "_law_text" (top 96), dOf "law" (top 97)]
def gl : List Str := (["BadText", "OPERANDS", "READERS", "ORDERS", "FUNCTIONS", "show_rational", "show_value", "show_expression", "show_group", "show_choose", "show_step", "show_pipeline", "is_whole", "common_divisor", "is_rational", "is_name", "within_limit", "read_whole", "read_rational", "read_value"] : List Str) ++ (["read_leaf", "pieces_of", "check_piece", "read_form", "read_operation", "read_expression", "are_unlike_names", "whole_or_none", "form_or_none", "read_keep", "read_set", "read_select", "read_rename", "read_sort", "read_first", "read_sample", "read_join", "read_union", "read_distinct", "read_total"] : List Str) ++ (["read_group", "read_step", "read_alternative", "read_choose", "read_source", "read_pipeline", "_law_tape", "_law_draw", "_law_lowest", "_law_rational", "_law_name", "_law_fresh", "_law_columns", "_law_leaf", "_law_expression", "_law_pick", "_law_set_step", "_law_sort_step", "_law_sample_step", "_law_keeping_step"] : List Str) ++ (["_law_meeting_step", "_law_group_step", "_law_same_step", "_law_choose_step", "_law_steps", "_law_value_words", "_law_form", "_law_lines", "_law_text"] : List Str)
def loose : List Str := gl ++ (["LETTERS", "NAME_SIGNS", "LONGEST_NAME", "LIMIT", "MOST_COLUMNS", "DEEPEST", "DIGITS", "MOST_DIGITS", "SINGLE_SIGNS", "MOST_STEPS", "MOST_COUNT", "MOST_WHOLE", "MOST_SEED", "MOST_KEYS", "MOST_TOTALS", "LEAST_ALTERNATIVES", "MOST_ALTERNATIVES", "MOST_INNER_STEPS", "OR_LINE", "INNER_BLANKS"] : List Str) ++ (["TOTAL_BLANKS"] : List Str)
def fa : List Fa := (.glo "law") :: gl.map Fa.glo ++ (btNames ++ (["set", "sorted"] : List Str)).map Fa.free ++ [.str "LETTERS" letters, .str "NAME_SIGNS" signs, .int "LONGEST_NAME" 12, .int "LIMIT" lim, .int "DEEPEST" 8, .str "DIGITS" ten10, .int "MOST_DIGITS" 41, .str "SINGLE_SIGNS" "() ", .int "MOST_COLUMNS" 8, .int "MOST_STEPS" 10, .int "MOST_COUNT" 1000, .int "MOST_WHOLE" 1000, .int "MOST_SEED" 1000000000, .int "MOST_KEYS" 3, .int "MOST_TOTALS" 6, .int "LEAST_ALTERNATIVES" 2, .int "MOST_ALTERNATIVES" 4, .int "MOST_INNER_STEPS" 4, .str "OR_LINE" "  or", .str "INNER_BLANKS" ⟨#[32, 32, 32, 32]⟩, .str "TOTAL_BLANKS" ⟨#[32, 32]⟩]
def exL (K : PySem.W.Frag) : List Bool := [oexB K (ga K "BadText"), eqO (PySem.W.findIn K (.ref (ga K "BadText")) "__init__") (some (some (.ref (ma K (ga K "BadText") "__init__")))), Lc.optV (PySem.W.typeIn K (.ref (ma K (ga K "BadText") "__init__"))) (some (.type "function")), eqO (PySem.W.findIn K (.ref (ga K "BadText")) "position") (some none), xfB K (ga K "BadText"), xisB K (ga K "BadText"), optB (PySem.W.exmOne K (.ref (ga K "BadText")) (.ref (ga K "BadText"))) (some true), optB (PySem.W.kitOne K (.ref (ga K "BadText")) (.type "ValueError")) (some true), keysB K (ga K "OPERANDS") ["plus", "minus", "times", "over", "less", "same", "both", "either", "not", "missing", "if"], dtB K (ga K "OPERANDS") "plus" [.str "number", .str "number"], dtB K (ga K "OPERANDS") "minus" [.str "number", .str "number"], dtB K (ga K "OPERANDS") "times" [.str "number", .str "number"], dtB K (ga K "OPERANDS") "over" [.str "number", .str "number"], dtB K (ga K "OPERANDS") "less" [.str "number", .str "number"], dtB K (ga K "OPERANDS") "same" [.non, .non], dtB K (ga K "OPERANDS") "both" [.str "flag", .str "flag"], dtB K (ga K "OPERANDS") "either" [.str "flag", .str "flag"], dtB K (ga K "OPERANDS") "not" [.str "flag"], dtB K (ga K "OPERANDS") "missing" [.non], dtB K (ga K "OPERANDS") "if" [.str "flag", .non, .non], tupB K "ORDERS" [.str "up", .str "down"], tupB K "FUNCTIONS" [.str "count", .str "sum", .str "mean", .str "median", .str "least", .str "greatest"], keysB K (ga K "READERS") ["keep", "set", "select", "rename", "sort", "first", "sample", "join", "union", "distinct"], dfB K (ga K "READERS") "keep" "read_keep", dfB K (ga K "READERS") "set" "read_set", dfB K (ga K "READERS") "select" "read_select", dfB K (ga K "READERS") "rename" "read_rename", dfB K (ga K "READERS") "sort" "read_sort", dfB K (ga K "READERS") "first" "read_first", dfB K (ga K "READERS") "sample" "read_sample", dfB K (ga K "READERS") "join" "read_join", dfB K (ga K "READERS") "union" "read_union", dfB K (ga K "READERS") "distinct" "read_distinct"]
def ex (K : PySem.W.Frag) : Bool := (exL K).all id
def ts : List Tab := [((fun K => ga K "OPERANDS"), ["plus", "minus", "times", "over", "less", "same", "both", "either", "not", "missing", "if"]), ((fun K => ga K "READERS"), ["keep", "set", "select", "rename", "sort", "first", "sample", "join", "union", "distinct"])]
abbrev R : PySem.W.OpenRow := PySem.W.OpenLaw.row PySem.Challenge.rw_liveclaims_k78_pipelines_written_and_rea
abbrev hk : PySem.W.Hook := hookN false ("law" :: gl) 4 fa fn ex ts
def ob (s : PySem.W.SharedT) : AlF := obsN false ("law" :: gl) 4 fa fn ex ts (HandSHeadRun.getT s)
theorem ob_eq (s : PySem.W.SharedT) : ob s = hk.obs s.abs := obsN_eq (HandSHeadRun.getT_eq s)
theorem run_false (w : World) : HandSHeadRun.RunEq R (PySem.W.view R.prog [97]) hk ob 20000 loose (w.withFollow "special-get-raises" false) := by
  intro os
  kernel_rfl
theorem run_true (w : World) : HandSHeadRun.RunEq R (PySem.W.view R.prog [97]) hk ob 20000 loose (w.withFollow "special-get-raises" true) := by
  intro os
  kernel_rfl
theorem run (w : World) : HandSHeadRun.RunEq R (PySem.W.view R.prog [97]) hk ob 20000 loose w := PySem.W.byRow2 "special-get-raises" (P := fun w => HandSHeadRun.RunEq R (PySem.W.view R.prog [97]) hk ob 20000 loose w) run_false run_true w
end K78
set_option Elab.async false
set_option linter.all false
set_option maxRecDepth 100000
set_option maxHeartbeats 4000000
namespace K78
open PySem PySem.Spec PyProof.Rows L2 Lc
def spLNm : Sp := fun vs H Q _ => ∃ (t l : Addr), vs = [.ref t] ∧ TapeL l H t ∧ ∀ (x : Str) (H' : Hp), Sh 12 x → nameB (.str x) = true → TapeL l H' t → SameB t H H' → Q (.str x) H'
abbrev sLnm : Stmt := top 78
section
variable {P : Program} {w : World} {K : PySem.W.Frag} {mg : Str → Option Value} {base : Heap} {f fD : Addr} {fd fdD : FuncData}
theorem scLnm : FnScope ["_law_tape_here", "_law_letters", "_law_size", "_law_place", "_law_sign", "_law_k"] ["_law_tape_here"] (defScope sLnm) := ⟨rfl, rfl, rfl, by decide +kernel, rfl, by decide +kernel, by decide +kernel⟩
theorem ok_lnm (F : Fun K "_law_name" "_law_name" sLnm f fd) (T : Bt mg) (GD : FnOk P w K mg base CX0 1 fD fdD ["_law_tape_here", "_law_many"] spDrawL) (mD : mg "_law_draw" = some (.ref fD)) (kD : PySem.W.keepIn K (.ref fD) = true) (bD : Binds K fdD ["_law_tape_here", "_law_many"] []) :
    FnOk P w K mg base CX0 2 f fd ["_law_tape_here"] spLNm := by
  refine F.ok scLnm (fun vs H Q E h => ?_) (fun cdv A outer s H vs Q E hr h => ?_)
  · obtain ⟨t, l, rfl, _⟩ := h
    rfl
  · obtain ⟨t, l, rfl, hT, k⟩ := h
    replace hT : TapeL l H t := hT
    refine ⟨_, pss_cons (ps_set (i := 1) scLnm.nd rfl (Or.inr rfl) pe_str)
      (pss_cons (ps_set (i := 2) scLnm.nd rfl (Or.inl rfl) (pe_op op_add pe_int (pe_call GD hr (by rfl) mD kD bD .nil pass0 (pa_cons (pv 0) (pa_cons pe_int pa_nil)))))
      (pss_cons (ps_if (pt_cmpR op_eq (pe_call GD hr (by rfl) mD kD bD .nil pass0 (pa_cons (pv 0) (pa_cons pe_int pa_nil))) pe_int (nomark _))
        (pss_cons (ps_set (i := 3) scLnm.nd rfl (Or.inl rfl) (pe_call GD hr (by rfl) mD kD bD .nil pass0 (pa_cons (pv 0) (pa_cons (pv 2) pa_nil))))
        (pss_cons (ps_set (i := 4) scLnm.nd rfl (Or.inl rfl) (pe_ix ix_str (pv 1) (pe_call GD hr (by rfl) mD kD bD .nil pass0 (pa_cons (pv 0) (pa_cons (pe_op op_add pe_int (pe_op op_mul pe_int (pe_callTy call_int1 (by rfl) T.int boot_int (pa_cons (pe_cmpR op_gt (pv 3) pe_int (nomark _)) pa_nil)))) pa_nil))) (fun _ _ => rfl)))
        (pss_one (ps_ret (pe_op op_add_str (pe_op op_add_str (pe_op op_mulS pe_str (pv 3)) (pv 4)) (pe_op op_mulS pe_str (pe_op op_sub (pe_op op_sub (pv 2) pe_int) (pv 3)))))))) pss_nil)
      (pss_one (ps_ret (pe_join pe_str (pe_lc (own := [("_law_k", 5)]) (g := gName 5) (tt := tYes) (te := tOp rIxS (tVar 1) (tCall spDrawL [] E0 (tCons (tVar 0) (tCons (tOp (rI0 fun i j => .int (i + j)) (tC (.int 26)) (tOp (rI CMul fun i j => .int (i * j)) (tC (.int 10)) (tCB (fun xs H Q => (∃ i, xs = [.int i] ∧ Q (.int i) H) ∨ ∃ k, xs = [.bl k] ∧ Q (.int (if k then 1 else 0)) H) (tCons (tOp (rI0 fun i j => .bl (decide (j < i))) (tVar 5) (tC (.int 0))) tNil)))) tNil)))) (by rfl) scLnm.nd (pi_range1 (by rfl) T.range (pa_cons (pv 2) pa_nil))
        (blkOk_by (own := [("_law_k", 5)]) (N := ["_law_tape_here", "_law_letters", "_law_size", "_law_place", "_law_sign", "_law_k"]) (sc := defScope sLnm) (by decide +kernel)) (fun _ _ _ _ _ => pg_name (i := 5) scLnm.nd rfl (Or.inl rfl)) (fun _ _ _ _ _ => pts_nil)
        (fun _ _ _ _ _ => pe_ix ix_str (pv 1) (pe_call GD hr (by rfl) mD kD bD .nil pass0 (pa_cons (pv 0) (pa_cons (pe_op op_add pe_int (pe_op op_mul pe_int (pe_callTy call_int1 (by rfl) T.int boot_int (pa_cons (pe_cmpR op_gt (pv 5) pe_int (nomark _)) pa_nil)))) pa_nil))) (fun _ _ => rfl)))))))), ?_⟩
    have big : ∀ z : Int, 0 ≤ z → z ≤ 1000 → z.natAbs < 2 ^ 4000 := fun z h1 h2 => big1000 h1 h2
    have sl : (signs.cps.toList.length : Int) = 36 := by rw [signs_len]; rfl
    have sz : signs.length ≤ sizeLine := by rw [lenL, signs_len]; decide
    refine ⟨_, rfl, t, l, _, rfl, hT, by decide, big _ (by decide) (by decide), fun k1 H1 u1 v1 T1 S1 => ⟨_, _, rfl, rfl, ?_⟩⟩
    refine ⟨_, rfl, t, l, _, rfl, T1, by decide, big _ (by decide) (by decide), fun k2 H2 u2 v2 T2 S2 => ⟨rfl, _, rfl, ?_⟩⟩
    refine ite2 (fun _ => ?_) (fun _ => ?_)
    · refine ⟨_, rfl, _, rfl, t, l, _, rfl, T2, by omega, big _ (by omega) (by omega), fun k3 H3 u3 v3 T3 S3 => ?_⟩
      refine ⟨_, rfl, _, rfl, _, rfl, _, _, rfl, rfl, .inr ⟨_, rfl, _, _, rfl, rfl, .inl ⟨by decide, by decide⟩, _, _, rfl, rfl, t, l, _, rfl, T3, by split <;> decide, big _ (by split <;> decide) (by split <;> decide), fun k4 H4 u4 v4 T4 S4 => ?_⟩⟩
      obtain ⟨c, hc, mc, isc, ilc⟩ := sgn_at (i := k4) u4 (by split at v4 <;> omega)
      refine ⟨signs, k4, c, rfl, rfl, sz, hc, ?_⟩
      have m1 : Sh k3.toNat (Txt.mul (PySem.Str.ofString "a") k3) := sh_mul sh_a (Nat.le_refl _) (Nat.le_refl _)
      have m2 : Sh 1 (⟨#[c]⟩ : Str) := sh_one (signs_ok c mc)
      have m3 : Sh (1 + k1 - 1 - k3).toNat (Txt.mul (PySem.Str.ofString "a") (1 + k1 - 1 - k3)) := sh_mul sh_a (Nat.le_refl _) (Nat.le_refl _)
      have ss : (100 : Nat) ≤ sizeLine := by decide
      refine ⟨_, rfl, _, _, rfl, rfl, mul_ok a_size (by omega) (by omega), _, rfl, _, _, rfl, rfl, ?_, _, rfl, _, _, rfl, rfl, _, rfl, _, _, rfl, rfl, _, _, rfl, rfl, mul_ok a_size (by omega) (by omega), _, _, rfl, rfl, ?_, ?_⟩
      · have := sh_len m1
        have := sh_len m2
        omega
      · have := sh_len (sh_app m1 m2)
        have := sh_len m3
        omega
      · exact k _ _ ((sh_app (sh_app m1 m2) m3).mono (by omega)) (name_one u3 (by omega) (by omega) isc (fun z => ilc (by rw [z] at v4; simpa using v4))) T4 (((S1.trans S2).trans S3).trans S4)
    · refine ⟨⟨_, rfl⟩, _, rfl, _, rfl, by omega, by omega, fun D hD => ?_⟩
      have nD : D ≠ t := T2.tape.ne hD
      have nL : D ≠ l := by
        obtain ⟨xs, z⟩ := T2.list
        exact Ne.symm (ne_of_none z hD)
      let one : Nat → Str := fun c => ⟨#[c]⟩
      refine lc_it walk_range (fun i H' => ∃ cs : List Nat, H' D = some (.lst ((cs.map one).map V.str)) ∧ cs.length = i ∧ (∀ c ∈ cs, c ∈ signs.cps.toList ∧ inS c = true) ∧ (∀ c r, cs = c :: r → inL c = true) ∧ TapeL l H' t ∧ SameB t H2 H') ⟨[], upd_same, rfl, by simp, nofun, T2.same (Same.upd hD), Same.b t (Same.upd hD)⟩ (fun _ _ _ _ => True.intro) ?_ ?_
      · rintro i y H' H'' hi ⟨cs, h1, h2, h3, h3b, h4, h5⟩ ⟨rfl, rfl⟩
        refine ⟨rfl, ?_⟩
        change tOp rIxS (tVar 1) _ _ _ _
        refine ⟨_, rfl, _, rfl, _, rfl, _, _, rfl, rfl, .inr ⟨_, rfl, _, _, rfl, rfl, .inl ⟨by decide, by decide⟩, _, _, rfl, rfl, t, l, _, rfl, h4, by split <;> decide, big _ (by split <;> decide) (by split <;> decide), fun k4 H4 u4 v4 T4 S4 => ?_⟩⟩
        obtain ⟨c, hc, mc, isc, ilc⟩ := sgn_at (i := k4) u4 (by split at v4 <;> omega)
        refine ⟨signs, k4, c, rfl, rfl, sz, hc, _, S4 _ _ nD h1, by rw [List.length_map, List.length_map, h2]; exact Nat.lt_trans hi (Nat.lt_of_le_of_lt (show (1 + k1).toNat ≤ 12 by omega) (by decide)), ?_⟩
        refine ⟨cs ++ [c], by rw [upd_same, List.map_append, List.map_append]; rfl, by rw [List.length_append, h2]; rfl, fun y hy => ?_, fun c' r' e => ?_, T4.upd nD nL, fun b o n e => ?_⟩
        · rcases List.mem_append.mp hy with hy | hy
          · exact h3 y hy
          · rw [List.mem_singleton.mp hy]
            exact ⟨mc, isc⟩
        · cases cs with
          | nil =>
            have e : c = c' := by injection e
            rw [← e]
            have i0 : i = 0 := by rw [← h2]; rfl
            subst i0
            exact ilc (by simpa using v4)
          | cons d r =>
            injection e with e _
            rw [← e]
            exact h3b d r rfl
        · rw [upd_ne (ne_of_none e hD)]
          exact (h5.trans S4) b o n e
      · rintro H' ⟨cs, h1, h2, h3, h3b, h4, h5⟩
        have e12 : cs.length ≤ 12 := by omega
        have s1 : ∀ y ∈ cs.map one, Sh 1 y := fun y hy => by
          obtain ⟨c, hc, rfl⟩ := List.mem_map.mp hy
          exact sh_one (signs_ok c (h3 c hc).1)
        have sum : ∀ l : List Str, (∀ y ∈ l, Sh 1 y) → (l.map (·.length)).sum ≤ l.length := by
          intro l
          induction l with
          | nil => intro _; simp
          | cons y l ih =>
            intro h
            have := ih fun z hz => h z (List.mem_cons_of_mem _ hz)
            have := sh_len (h y List.mem_cons_self)
            simp only [List.map_cons, List.sum_cons, List.length_cons]
            omega
        have lm : (cs.map one).length = cs.length := List.length_map ..
        refine ⟨_, D, cs.map one, rfl, rfl, .inl (SqL.of h1), by have := sum _ s1; show _ + (cs.map one).length * 0 ≤ _; omega, ?_⟩
        exact k _ _ ((join_sh _ s1).mono (by omega)) (name_join (fun z => by rw [z] at h2; have : (0 : Nat) = (1 + k1).toNat := h2; omega) e12 h3b (fun c hc => (h3 c hc).2)) h4 ((S1.trans S2).trans h5)
end
end K78
set_option Elab.async false
set_option linter.all false
set_option maxRecDepth 100000
set_option maxHeartbeats 4000000
namespace K78
open PySem PySem.Spec PyProof.Rows L2 Lc
abbrev sFr : Stmt := top 79
def spFr : Sp := fun vs H Q _ => ∃ (t c l : Addr) (ss : List Str), vs = [.ref t, .ref l] ∧ TapeL c H t ∧ H l = some (.lst (ss.map V.str)) ∧ ss.length < 36 ∧ ∀ (x : Str) (H' : Hp), Sh 12 x → nameB (.str x) = true → x ∉ ss → TapeL c H' t → SameB t H H' → Q (.str x) H'
theorem ne_tape {H : Hp} {t l : Addr} {ss : List Str} (T : Tape H t) (h : H l = some (.lst (ss.map V.str))) : l ≠ t := fun z => by
  obtain ⟨a, _, _, _, _, ht, _⟩ := T
  rw [z, ht] at h
  cases ss with
  | nil => cases h
  | cons x r =>
    injection h with h
    injection h with h
    injection h with h1 _
    cases h1
section
variable {P : Program} {w : World} {K : PySem.W.Frag} {mg : Str → Option Value} {base : Heap} {f fN : Addr} {fd fdN : FuncData}
theorem scFr : FnScope ["_law_tape_here", "_law_taken", "_law_name_here", "_law_letter"] ["_law_tape_here", "_law_taken"] (defScope sFr) := ⟨rfl, rfl, rfl, by decide +kernel, rfl, by decide +kernel, by decide +kernel⟩
theorem ok_fr (F : Fun K "_law_fresh" "_law_fresh" sFr f fd) (GN : FnOk P w K mg base CX0 2 fN fdN ["_law_tape_here"] spLNm) (mN : mg "_law_name" = some (.ref fN)) (kN : PySem.W.keepIn K (.ref fN) = true) (bN : Binds K fdN ["_law_tape_here"] []) :
    FnOk P w K mg base CX0 3 f fd ["_law_tape_here", "_law_taken"] spFr := by
  refine F.ok scFr (fun vs H Q E h => ?_) (fun cdv A outer s H vs Q E hr h => ?_)
  · obtain ⟨t, c, l, ss, rfl, _⟩ := h
    rfl
  · obtain ⟨t, tl, l, ss, rfl, hT, hl, l36, k⟩ := h
    refine ⟨_, pss_cons (ps_set (i := 2) scFr.nd rfl (Or.inl rfl) (pe_call GN hr (by rfl) mN kN bN .nil pass0 (pa_cons (pv 0) pa_nil)))
      (pss_cons (ps_if (pt_cmpR op_notIn_seq (pv 2) (pv 1) (by rfl)) (pss_one (ps_ret (pv 2))) pss_nil)
      (pss_cons (ps_for PassesOwn.never rfl (pi_str pe_str) (pg_name (i := 3) scFr.nd rfl (Or.inl rfl))
        (pss_one (ps_if (pt_cmpR op_notIn_seq (pe_op op_add_str (pe_slice sl_str (pv 2) po_none (po_some pe_int)) (pv 3)) (pv 1) (by rfl)) (pss_one (ps_ret (pe_op op_add_str (pe_slice sl_str (pv 2) po_none (po_some pe_int)) (pv 3)))) pss_nil)))
      (pss_one (ps_ret (pv 2))))), ?_⟩
    refine ⟨_, rfl, t, tl, rfl, hT, fun x H1 hx nx T1 S1 => ?_⟩
    have hl1 := S1 _ _ (ne_tape hT.tape hl) hl
    have fl : (ss.map V.str).all flatV = true := by simp [flatV]
    have ln := hx.line (by decide)
    refine ⟨_, rfl, _, rfl, l, _, rfl, .inl (SqL.of hl1), rfl, fl, _, rfl, ite2 (fun y => ?_) (fun y => ?_)⟩
    · refine ⟨_, rfl, k x H1 hx nx (fun m => ?_) T1 S1⟩
      rw [if_pos rfl, in_strs, decide_eq_true m] at y
      cases y
    · refine ⟨_, rfl, for_it walk_str (fun i σ H' => (∃ x3 : Option V, σ = [some (.ref t), some (.ref l), some (.str x), x3]) ∧ H' = H1 ∧ ∀ (j : Nat) (c : Nat), j < i → signs.cps[j]? = some c → cutS x none (some 11) ++ (⟨#[c]⟩ : Str) ∈ ss) ⟨⟨_, rfl⟩, rfl, fun j c h => absurd h (Nat.not_lt_zero _)⟩ (fun _ _ _ _ _ => trivial) ?_ ?_⟩
      · rintro i v σ Ha Hb hi ⟨⟨x3, rfl⟩, rfl, all⟩ ⟨rfl, c, hc, rfl⟩
        have hc : signs.cps[i]? = some c := hc
        have mc : c ∈ signs.cps.toList := Array.mem_toList_iff.mpr (Array.mem_of_getElem? hc)
        have isc : inS c = true := decide_eq_true mc
        have cs : c < 1114112 := signs_ok c mc
        have sc : Sh 11 (cutS x none (some 11)) := ⟨by rw [cut_list, List.length_take]; omega, (sh_cut none (some 11) hx).ok⟩
        have so : Sh 1 (⟨#[c]⟩ : Str) := sh_one cs
        have lt : (cutS x none (some 11)).length + (⟨#[c]⟩ : Str).length ≤ sizeLine := Nat.le_trans (Nat.add_le_add (sh_len sc) (sh_len so)) (by decide)
        refine ⟨_, rfl, 11, rfl, x, rfl, ln, _, rfl, _, _, rfl, rfl, lt, _, rfl, l, _, rfl, .inl (SqL.of hl1), rfl, fl, _, rfl, ite2 (fun y => ?_) (fun y => ?_)⟩
        · refine ⟨_, rfl, 11, rfl, x, rfl, ln, _, rfl, _, _, rfl, rfl, lt, k _ _ (sh_app sc so) (name_cut nx isc) (fun m => ?_) T1 S1⟩
          rw [if_pos rfl, in_strs, decide_eq_true m] at y
          cases y
        · refine ⟨⟨_, rfl⟩, rfl, fun j c' hj hc' => ?_⟩
          by_cases e : j = i
          · subst e
            rw [hc] at hc'
            cases hc'
            rw [if_pos rfl, in_strs] at y
            exact of_decide_eq_true (by simpa using y)
          · exact all j c' (by omega) hc'
      · rintro σ H' ⟨⟨x3, rfl⟩, rfl, all⟩
        refine (free_letter (x := x) l36 fun c mc => ?_).elim
        obtain ⟨j, hj⟩ := List.mem_iff_getElem?.mp mc
        rw [Array.getElem?_toList] at hj
        exact all j c (Array.getElem?_eq_some_iff.mp hj).1 hj
end
theorem Same.gone {H H' : Hp} {p : Addr} (s : Same H H') (e : H' p = none) : H p = none := by
  cases q : H p with
  | none => rfl
  | some o => rw [s p o q] at e; cases e
abbrev sCls : Stmt := top 80
/-! ## columns: pairs of texts -/
inductive Cols (H : Hp) : List V → List (Str × Str) → Prop
  | nil : Cols H [] []
  | cons {a : Addr} {z k : Str} {xs : List V} {ps : List (Str × Str)} (e : H a = some (.tup [.str z, .str k])) (r : Cols H xs ps) : Cols H (.ref a :: xs) ((z, k) :: ps)
theorem Cols.t {H H' : Hp} (s : SameT H H') : ∀ {xs : List V} {ps : List (Str × Str)}, Cols H xs ps → Cols H' xs ps
  | _, _, .nil => .nil
  | _, _, .cons e r => .cons (s _ _ e) (Cols.t s r)
theorem Cols.app {H : Hp} : ∀ {xs ys : List V} {ps qs : List (Str × Str)}, Cols H xs ps → Cols H ys qs → Cols H (xs ++ ys) (ps ++ qs)
  | _, _, _, _, .nil, r => r
  | _, _, _, _, .cons e h, r => .cons e (Cols.app h r)
theorem Cols.len {H : Hp} : ∀ {xs : List V} {ps : List (Str × Str)}, Cols H xs ps → xs.length = ps.length
  | _, _, .nil => rfl
  | _, _, .cons _ r => by rw [List.length_cons, List.length_cons, Cols.len r]
def colP (p : Str × Str) : PyData := .tuple [.str p.1, .str p.2]
theorem Cols.dh {H : Hp} : ∀ {xs : List V} {ps : List (Str × Str)}, Cols H xs ps → DhAll H xs (ps.map colP)
  | _, _, .nil => .nil
  | _, _, .cons e r => .cons (.tup e (.cons (.str _) (.cons (.str _) .nil))) (Cols.dh r)
def KindS (k : Str) : Prop := k = "number" ∨ k = "word" ∨ k = "flag"
theorem KindS.sh {k : Str} (h : KindS k) : Sh 100 k := by
  rcases h with rfl | rfl | rfl <;> exact ⟨by decide +kernel, by decide +kernel⟩
def spCls : Sp := fun vs H Q _ => ∃ (t c l n : Addr) (m : Int) (lead tk : List Str), vs = [.ref t, .ref l, .int m, .ref n] ∧ TapeL c H t ∧ LT H l (lead.map V.str) ∧ LT H n (tk.map V.str) ∧ tk.length ≤ 8 ∧ 0 ≤ m ∧ m ≤ 7 ∧ lead.length + m.toNat ≤ 8 ∧ (∀ k ∈ lead, KindS k) ∧
  ∀ (r : Addr) (xs : List V) (ps : List (Str × Str)) (H' : Hp), ZT H' r xs → Cols H' xs ps → (∀ p ∈ ps, Sh 12 p.1 ∧ nameB (.str p.1) = true ∧ KindS p.2) → (ps.map (·.1)).Nodup → (∀ p ∈ ps, p.1 ∉ tk) → lead.length ≤ ps.length → ps.length ≤ lead.length + m.toNat → TapeL c H' t → SameB t H H' → Q (.ref r) H'
section
variable {P : Program} {w : World} {K : PySem.W.Frag} {mg : Str → Option Value} {base : Heap} {f fD fF : Addr} {fd fdD fdF : FuncData}
theorem scCls : FnScope ["_law_tape_here", "_law_lead", "_law_many", "_law_taken", "_law_names", "_law_columns_here", "_law_kinds", "_law_k", "_law_kind"] ["_law_tape_here", "_law_lead", "_law_many", "_law_taken"] (defScope sCls) := ⟨rfl, rfl, rfl, by decide +kernel, rfl, by decide +kernel, by decide +kernel⟩
theorem ok_cls (F : Fun K "_law_columns" "_law_columns" sCls f fd) (T : Bt mg) (GD : FnOk P w K mg base CX0 1 fD fdD ["_law_tape_here", "_law_many"] spDrawL) (mD : mg "_law_draw" = some (.ref fD)) (kD : PySem.W.keepIn K (.ref fD) = true) (bD : Binds K fdD ["_law_tape_here", "_law_many"] [])
    (GF : FnOk P w K mg base CX0 3 fF fdF ["_law_tape_here", "_law_taken"] spFr) (mF : mg "_law_fresh" = some (.ref fF)) (kF : PySem.W.keepIn K (.ref fF) = true) (bF : Binds K fdF ["_law_tape_here", "_law_taken"] []) :
    FnOk P w K mg base CX0 4 f fd ["_law_tape_here", "_law_lead", "_law_many", "_law_taken"] spCls := by
  refine F.ok scCls (fun vs H Q E h => ?_) (fun cdv A outer s H vs Q E hr h => ?_)
  · obtain ⟨t, c, l, n, m, lead, tk, rfl, _⟩ := h
    rfl
  · obtain ⟨t, c, l, n, m, lead, tk, rfl, hT, hl, hn, tk8, m0, m7, ld8, hkl, k⟩ := h
    have hr1 : Room 1 _ := hr.mono (by decide)
    refine ⟨_, pss_cons (ps_set (i := 4) scCls.nd rfl (Or.inl rfl) (pe_callTy call_list_of (by rfl) T.list boot_list (pa_cons (pv 3) pa_nil)))
      (pss_cons (ps_set (i := 5) scCls.nd rfl (Or.inl rfl) (pe_lst pa_nil))
      (pss_cons (ps_set (i := 6) scCls.nd rfl (Or.inl rfl) (pe_callTy call_list_of (by rfl) T.list boot_list (pa_cons (pv 1) pa_nil)))
      (Evl.pss_cut (ps_for PassesOwn.never rfl (pi_range1 (by rfl) T.range (pa_cons (pe_call GD hr1 (by rfl) mD kD bD .nil pass0 (pa_cons (pv 0) (pa_cons (pe_op op_add (pv 2) pe_int) pa_nil))) pa_nil)) (pg_name (i := 7) scCls.nd rfl (Or.inl rfl))
        (pss_one (ps_expr (pe_bm PySem.F.plainAttrs_list PySem.F.slot_list_append PySem.F.type_list_append mt_append (pv 6) (pa_cons (pe_ix ix_list (pe_lst (pa_cons pe_str (pa_cons pe_str (pa_cons pe_str pa_nil)))) (pe_call GD hr1 (by rfl) mD kD bD .nil pass0 (pa_cons (pv 0) (pa_cons pe_int pa_nil))) (fun _ _ => rfl)) pa_nil)))))
      (pss_cons (ps_for PassesOwn.never rfl (pi_list (pv 6)) (pg_name (i := 8) scCls.nd rfl (Or.inl rfl))
        (pss_cons (ps_expr (pe_bm PySem.F.plainAttrs_list PySem.F.slot_list_append PySem.F.type_list_append mt_append (pv 4) (pa_cons (pe_call GF hr (by rfl) mF kF bF .nil pass0 (pa_cons (pv 0) (pa_cons (pv 4) pa_nil))) pa_nil)))
        (pss_one (ps_expr (pe_bm PySem.F.plainAttrs_list PySem.F.slot_list_append PySem.F.type_list_append mt_append (pv 5) (pa_cons (pe_tup (pa_cons (pe_ix ix_list (pv 4) (pe_un un_neg pe_int) (fun _ _ => rfl)) (pa_cons (pv 8) pa_nil))) pa_nil))))))
      (pss_one (ps_ret (pe_callTy call_tupleZ (by rfl) T.tuple boot_tuple (pa_cons (pv 5) pa_nil)))))))), ?_⟩
    refine ⟨_, rfl, n, _, rfl, hn.sq, fun L hL => ⟨by show 0 ≤ sizeLine; decide, fun M hM => ?_⟩⟩
    have yL := Same.upd (o := .lst (tk.map V.str)) hL
    have yM := Same.upd (o := .lst []) hM
    refine ⟨_, rfl, l, _, rfl, (hl.same (yL.trans yM)).sq, fun N hN => ?_⟩
    have yN := Same.upd (o := .lst (lead.map V.str)) hN
    have nLt := hT.tape.ne hL
    have nMt := (hT.same yL).tape.ne hM
    have nNt := (hT.same (yL.trans yM)).tape.ne hN
    obtain ⟨ys, hc⟩ := hT.list
    have nLc : L ≠ c := Ne.symm (ne_of_none hc hL)
    have nMc : M ≠ c := Ne.symm (ne_of_none (yL _ _ hc) hM)
    have nNc : N ≠ c := Ne.symm (ne_of_none ((yL.trans yM) _ _ hc) hN)
    have eL : upd H L (.lst (tk.map V.str)) L = some (.lst (tk.map V.str)) := upd_same
    have nML : L ≠ M := ne_of_none eL hM
    have nNL : L ≠ N := ne_of_none (yM _ _ eL) hN
    have nNM : M ≠ N := ne_of_none (show upd (upd H L (.lst (tk.map V.str))) M (.lst []) M = some (.lst []) from upd_same) hN
    have hL3 := (yM.trans yN) _ _ eL
    have hM3 := yN _ _ (show upd (upd H L (.lst (tk.map V.str))) M (.lst []) M = some (.lst []) from upd_same)
    have hN3 : upd (upd (upd H L (.lst (tk.map V.str))) M (.lst [])) N (.lst (lead.map V.str)) N = some (.lst (lead.map V.str)) := upd_same
    have s3 := yL.trans (yM.trans yN)
    have gM := Same.gone yL hM
    have gN := Same.gone (yL.trans yM) hN
    have hT3 := hT.same s3
    generalize upd (upd (upd H L (.lst (tk.map V.str))) M (.lst [])) N (.lst (lead.map V.str)) = H3 at hL3 hM3 hN3 s3 hT3 yN ⊢
    clear yN yM yL eL
    have o3 : 3 ≤ sizeLine := by decide
    let Md : Option V → Option V → List Str → L2.St → Hp → Prop := fun x7 x8 ks σ H' => σ = [some (.ref t), some (.ref l), some (.int m), some (.ref n), some (.ref L), some (.ref M), some (.ref N), x7, x8] ∧ H' N = some (.lst (ks.map V.str)) ∧ (∀ k ∈ ks, KindS k) ∧ TapeL c H' t ∧ SameB t H H'
    refine ⟨fun σ H' => ∃ x7 ks, Md x7 none ks σ H' ∧ H' L = some (.lst (tk.map V.str)) ∧ H' M = some (.lst []) ∧ lead.length ≤ ks.length ∧ ks.length ≤ lead.length + m.toNat, ?_, ?_⟩
    · refine ⟨_, rfl, _, rfl, _, _, rfl, rfl, t, c, _, rfl, hT3, by omega, big1000 (by omega) (by omega), fun k2 H4 u2 w2 T4 S4 => ⟨k2, rfl, by omega, by omega, for_range (n := k2.toNat) (fun i σ H' => ∃ x7 ks, Md x7 none ks σ H' ∧ H' L = some (.lst (tk.map V.str)) ∧ H' M = some (.lst []) ∧ ks.length = i + lead.length)
        ⟨_, lead, ⟨rfl, S4 _ _ nNt hN3, hkl, T4, (Same.b t s3).trans S4⟩, S4 _ _ nLt hL3, S4 _ _ nMt hM3, (Nat.zero_add _).symm⟩ ?_ ?_⟩⟩
      · rintro i σ H5 hi ⟨x7, ks, ⟨rfl, hN5, hk5, T5, S5⟩, hL5, hM5, e5⟩
        refine ⟨_, rfl, .inl ⟨rfl, _, SqL.of hN5⟩, o3, fun q hq => ?_⟩
        have zq := Same.upd (o := .lst [.str "number", .str "word", .str "flag"]) hq
        have nq := T5.tape.ne hq
        refine ⟨_, rfl, t, c, _, rfl, T5.same zq, by decide, big1000 (by decide) (by decide), fun k3 H6 u3 w3 T6 S6 => ?_⟩
        obtain ⟨kk, hkk, skk⟩ : ∃ kk : Str, ([.str "number", .str "word", .str "flag"] : List V)[k3.toNat]? = some (.str kk) ∧ KindS kk := by
          have : k3.toNat = 0 ∨ k3.toNat = 1 ∨ k3.toNat = 2 := by omega
          rcases this with e | e | e <;> rw [e]
          · exact ⟨_, rfl, .inl rfl⟩
          · exact ⟨_, rfl, .inr (.inl rfl)⟩
          · exact ⟨_, rfl, .inr (.inr rfl)⟩
        have S7 : SameB t H5 H6 := (Same.b t zq).trans S6
        have hN6 := S7 _ _ nNt hN5
        refine ⟨q, _, _, _, rfl, rfl, SqL.of (S6 _ _ nq upd_same), at_of (j := k3.toNat) (by omega) hkk, N, _, _, rfl, rfl, hN6, ?_, ?_⟩
        · rw [List.length_map, e5]
          exact Nat.lt_of_le_of_lt (show i + lead.length ≤ 8 by omega) (by decide)
        · refine ⟨_, ks ++ [kk], ⟨rfl, by rw [upd_same, List.map_append]; rfl, fun k hk => ?_, T6.upd nNt nNc, fun b o n e => ?_⟩, by rw [upd_ne nNL]; exact S7 _ _ nLt hL5, by rw [upd_ne nNM]; exact S7 _ _ nMt hM5, by rw [List.length_append, e5, List.length_singleton]; omega⟩
          · rcases List.mem_append.mp hk with hk | hk
            · exact hk5 k hk
            · rw [List.mem_singleton.mp hk]; exact skk
          · rw [upd_ne (fun z => by rw [z, gN] at e; cases e)]
            exact (S5.trans S7) b o n e
      · rintro σ H5 ⟨x7, ks, h5, hL5, hM5, e5⟩
        exact ⟨x7, ks, h5, hL5, hM5, by omega, by omega⟩
    · rintro σ H5 ⟨x7, ks, ⟨rfl, hN5, hk5, T5, S5⟩, hL5, hM5, e5, e6⟩
      refine ⟨_, rfl, N, rfl, ⟨_, SqL.of hN5⟩, for_list (K := K) (a := N) (xs := ks.map V.str) (fun i σ H' => ∃ (x8 : Option V) (ns : List Str) (xs : List V) (ps : List (Str × Str)), Md x7 x8 ks σ H' ∧ H' L = some (.lst ((tk ++ ns).map V.str)) ∧ H' M = some (.lst xs) ∧ Cols H' xs ps ∧ (∀ p ∈ ps, Sh 12 p.1 ∧ nameB (.str p.1) = true ∧ KindS p.2) ∧ ns.length = i ∧ ps.length = i ∧ ps.map (·.1) = ns ∧ ns.Nodup ∧ ∀ x ∈ ns, x ∉ tk)
        ⟨_, [], [], [], ⟨rfl, hN5, hk5, T5, S5⟩, by rw [List.append_nil]; exact hL5, hM5, .nil, nofun, rfl, rfl, rfl, List.nodup_nil, nofun⟩ (fun i σ H' _ p => by obtain ⟨_, _, _, _, ⟨_, z, _⟩, _⟩ := p; exact SqL.of z) ?_ ?_⟩
      · rintro i x σ H6 hx ⟨x8, ns, xs, ps, ⟨rfl, hN6, _, T6, S6⟩, hL6, hM6, hc6, hp6, e7, e8, en, nd, ntk⟩
        obtain ⟨kk, hkk, rfl⟩ : ∃ kk, ks[i]? = some kk ∧ V.str kk = x := by
          rw [List.getElem?_map] at hx
          cases q : ks[i]? with
          | none => rw [q] at hx; cases hx
          | some kk => rw [q] at hx; exact ⟨kk, rfl, Option.some.inj hx⟩
        have hi8 : i < 8 := Nat.lt_of_lt_of_le (List.getElem?_eq_some_iff.mp hkk).1 (show ks.length ≤ 8 by omega)
        have skk := hk5 kk (List.mem_of_getElem? hkk)
        have lim : ∀ {m : Nat}, m ≤ 8 → m < sizeLine := fun h => Nat.lt_of_le_of_lt h (by decide)
        refine ⟨_, rfl, .inl ⟨rfl, _, SqL.of hL6⟩, _, rfl, _, rfl, t, c, L, tk ++ ns, rfl, T6, hL6, by rw [List.length_append]; omega, fun z H7 hz nz fz T7 S7 => ?_⟩
        have hL7 := S7 _ _ nLt hL6
        have hM7 := S7 _ _ nMt hM6
        have hN7 := S7 _ _ nNt hN6
        have hc7 := hc6.t (SameT.b T6.tape S7)
        refine ⟨L, _, _, rfl, rfl, hL7, by rw [List.length_map, List.length_append, e7]; exact Nat.lt_of_le_of_lt (show _ ≤ 16 by omega) (by decide), ?_⟩
        have hc8 := hc7.t (SameT.lst (o := .lst ((tk ++ ns).map V.str ++ [.str z])) hL7)
        have T8 := T7.upd (o := .lst ((tk ++ ns).map V.str ++ [.str z])) nLt nLc
        have hL8 : upd H7 L (.lst ((tk ++ ns).map V.str ++ [.str z])) L = some (.lst ((tk ++ ns).map V.str ++ [.str z])) := upd_same
        have hM8 : upd H7 L (.lst ((tk ++ ns).map V.str ++ [.str z])) M = some (.lst xs) := by rw [upd_ne (Ne.symm nML)]; exact hM7
        have hN8 : upd H7 L (.lst ((tk ++ ns).map V.str ++ [.str z])) N = some (.lst (ks.map V.str)) := by rw [upd_ne (Ne.symm nNL)]; exact hN7
        have S8 : SameB t H (upd H7 L (.lst ((tk ++ ns).map V.str ++ [.str z]))) := fun b o n e => by
          rw [upd_ne (fun z => by rw [z, hL] at e; cases e)]
          exact (S6.trans S7) b o n e
        generalize upd H7 L (.lst ((tk ++ ns).map V.str ++ [.str z])) = H8 at hc8 T8 hL8 hM8 hN8 S8 ⊢
        refine ⟨_, rfl, .inl ⟨rfl, _, SqL.of hM8⟩, _, rfl, _, rfl, L, _, _, _, rfl, rfl, SqL.of hL8, (show atI ((tk ++ ns).map V.str ++ [.str z]) (-1) = some (.str z) from ?_), _, rfl, by show 2 ≤ sizeLine; decide, fun q hq => ?_⟩
        · unfold atI
          rw [show ixN ((tk ++ ns).map V.str ++ [V.str z]).length (-1) = some (tk ++ ns).length from ?_]
          · simp
          · have hl : ((tk ++ ns).map V.str ++ [V.str z]).length = (tk ++ ns).length + 1 := by rw [List.length_append, List.length_map]; rfl
            unfold ixN
            rw [hl, if_neg (by decide), if_pos (by omega)]
            exact congrArg some (by omega)
        have zq := Same.upd (o := .tup [.str z, .str kk]) hq
        have hM9 := zq _ _ hM8
        have lx := hc6.len
        refine ⟨M, _, _, rfl, rfl, hM9, lim (by omega), ?_⟩
        refine ⟨_, ns ++ [z], xs ++ [.ref q], ps ++ [(z, kk)], ⟨rfl, by rw [upd_ne (Ne.symm nNM)]; exact zq _ _ hN8, hk5, (T8.same zq).upd nMt nMc, fun b o n e => ?_⟩, by rw [upd_ne nML, zq _ _ hL8, ← List.append_assoc, List.map_append (l₁ := tk ++ ns)]; rfl, upd_same, ?_, ?_, by rw [List.length_append, e7]; rfl, by rw [List.length_append, e8]; rfl, by rw [List.map_append, en]; rfl, List.nodup_append.mpr ⟨nd, List.nodup_cons.mpr ⟨nofun, List.nodup_nil⟩, fun a ha b hb => by rw [List.mem_singleton.mp hb]; exact fun e => fz (List.mem_append_right _ (by rw [← e]; exact ha))⟩, fun x hx => ?_⟩
        · rw [upd_ne (fun z => by rw [z, gM] at e; cases e)]
          exact (S8.trans (Same.b t zq)) b o n e
        · have eq : upd H8 q (.tup [.str z, .str kk]) q = some (.tup [.str z, .str kk]) := upd_same
          have hc9 := (hc8.t (SameT.of zq)).app (.cons eq .nil)
          exact hc9.t (SameT.lst hM9)
        · intro p hp
          rcases List.mem_append.mp hp with hp | hp
          · exact hp6 p hp
          · rw [List.mem_singleton.mp hp]; exact ⟨hz, nz, skk⟩
        · rcases List.mem_append.mp hx with hx | hx
          · exact ntk x hx
          · rw [List.mem_singleton.mp hx]; exact fun q => fz (List.mem_append_left _ q)
      · rintro σ H6 ⟨x8, ns, xs, ps, ⟨rfl, hN6, _, T6, S6⟩, hL6, hM6, hc6, hp6, e7, e8, en, nd, ntk⟩
        rw [List.length_map] at e8
        refine ⟨_, rfl, M, xs, rfl, SqL.of hM6, fun r ob hr c1 c2 => ?_⟩
        have zr := Same.upd (o := .frz ob (.tup xs)) hr
        exact k r xs ps _ ⟨ob, c1, c2, upd_same⟩ (hc6.t (SameT.of zr)) hp6 (by rw [en]; exact nd) (fun p hp => ntk p.1 (by rw [← en]; exact List.mem_map_of_mem hp)) (by omega) (by omega) (T6.same zr) (S6.trans (Same.b t zr))
end
end K78
set_option Elab.async false
set_option linter.all false
set_option maxRecDepth 100000
set_option maxHeartbeats 4000000
namespace K78
open PySem PySem.Spec PyProof.Rows L2 Lc
def spRatL : Sp := fun vs H Q _ => ∃ (t c : Addr) (b : Bool), vs = [.ref t, .bl b] ∧ TapeL c H t ∧ ∀ (p : Addr) (n d : Int) (H' : Hp), Rt n d → n.natAbs ≤ 10000000000000000000000000000000000000000 → d.natAbs ≤ 10000000000000000000000000000000000000000 → H' p = some (.tup [.int n, .int d]) → H p = none → TapeL c H' t → SameB t H H' → Q (.ref p) H'
abbrev sRat : Stmt := top 77
section
variable {P : Program} {w : World} {K : PySem.W.Frag} {mg : Str → Option Value} {base : Heap} {f : Addr} {fd : FuncData}
theorem scRat : FnScope ["_law_tape_here", "_law_wide", "_law_size", "_law_number", "_law_edge"] ["_law_tape_here", "_law_wide"] (defScope sRat) := ⟨rfl, rfl, rfl, by decide +kernel, rfl, by decide +kernel, by decide +kernel⟩
theorem ok_rat {fD fL : Addr} {fdD fdL : FuncData} (F : Fun K "_law_rational" "_law_rational" sRat f fd) (T : Bt mg) (GD : FnOk P w K mg base CX0 1 fD fdD ["_law_tape_here", "_law_many"] spDrawL) (mD : mg "_law_draw" = some (.ref fD)) (kD : PySem.W.keepIn K (.ref fD) = true) (bD : Binds K fdD ["_law_tape_here", "_law_many"] [])
    (GL : FnOk P w K mg base CX0 1 fL fdL ["_law_n", "_law_d"] spLowest) (mL : mg "_law_lowest" = some (.ref fL)) (kL : PySem.W.keepIn K (.ref fL) = true) (bL : Binds K fdL ["_law_n", "_law_d"] []) : FnOk P w K mg base CX0 2 f fd ["_law_tape_here", "_law_wide"] spRatL := by
  refine F.ok scRat (fun vs H Q E h => ?_) (fun cdv A outer s H vs Q E hr h => ?_)
  · obtain ⟨t, c, b, rfl, _⟩ := h
    rfl
  · obtain ⟨t, c, b, rfl, hT, k⟩ := h
    refine ⟨_, pss_cons (ps_set (i := 2) scRat.nd rfl (Or.inl rfl) (pe_call GD hr (by rfl) mD kD bD .nil pass0 (pa_cons (pv 0) (pa_cons (pe_op op_add pe_int (pe_op op_mul pe_int (pe_callTy call_int1 (by rfl) T.int boot_int (pa_cons (pv 1) pa_nil)))) pa_nil))))
      (pss_cons (ps_if (pt_cmpR op_lt (pv 2) pe_int (nomark _)) (pss_one (ps_ret (pe_tup (pa_cons (pe_op op_sub (pe_call GD hr (by rfl) mD kD bD .nil pass0 (pa_cons (pv 0) (pa_cons pe_int pa_nil))) pe_int) (pa_cons pe_int pa_nil))))) pss_nil)
      (pss_cons (ps_if (pt_cmpR op_lt (pv 2) pe_int (nomark _)) (pss_one (ps_ret (pe_call GL hr (by rfl) mL kL bL .nil pass0 (pa_cons (pe_op op_sub (pe_call GD hr (by rfl) mD kD bD .nil pass0 (pa_cons (pv 0) (pa_cons pe_int pa_nil))) pe_int) (pa_cons (pe_op op_add pe_int (pe_call GD hr (by rfl) mD kD bD .nil pass0 (pa_cons (pv 0) (pa_cons pe_int pa_nil)))) pa_nil))))) pss_nil)
      (pss_cons (ps_if (pt_cmpR op_eq (pv 2) pe_int (nomark _)) (pss_cons (ps_set (i := 3) scRat.nd rfl (Or.inl rfl) (pe_op op_sub (pe_call GD hr (by rfl) mD kD bD .nil pass0 (pa_cons (pv 0) (pa_cons (pe_op op_add (pe_op op_mul pe_int (pe_op op_pow pe_int pe_int)) pe_int) pa_nil))) (pe_op op_pow pe_int pe_int)))
          (pss_one (ps_ret (pe_call GL hr (by rfl) mL kL bL .nil pass0 (pa_cons (pv 3) (pa_cons (pe_op op_add pe_int (pe_call GD hr (by rfl) mD kD bD .nil pass0 (pa_cons (pv 0) (pa_cons (pe_op op_pow pe_int pe_int) pa_nil)))) pa_nil)))))) pss_nil)
      (pss_cons (ps_set (i := 4) scRat.nd rfl (Or.inl rfl) (pe_op op_sub (pe_op op_pow pe_int pe_int) (pe_call GD hr (by rfl) mD kD bD .nil pass0 (pa_cons (pv 0) (pa_cons pe_int pa_nil)))))
      (pss_one (ps_ret (pe_ix ix_list (pe_lst (pa_cons (pe_tup (pa_cons (pv 4) (pa_cons pe_int pa_nil))) (pa_cons (pe_tup (pa_cons (pe_op op_sub pe_int (pv 4)) (pa_cons pe_int pa_nil))) (pa_cons (pe_tup (pa_cons pe_int (pa_cons (pv 4) pa_nil))) (pa_cons (pe_tup (pa_cons (pe_un un_neg pe_int) (pa_cons (pv 4) pa_nil))) pa_nil)))))
        (pe_call GD hr (by rfl) mD kD bD .nil pass0 (pa_cons (pv 0) (pa_cons pe_int pa_nil))) (fun _ _ => rfl)))))))), ?_⟩
    have two : 2 ≤ sizeLine := by decide
    have pw18 : CPow 10 18 := ⟨by decide, by decide, by decide⟩
    have pw40 : CPow 10 40 := ⟨by decide, by decide, by decide⟩
    have b140 : ∀ z : Int, -100000000000000000000000000000000000000000 ≤ z → z ≤ 100000000000000000000000000000000000000000 → z.natAbs < 2 ^ 140 := by
      intro z h1 h2
      have : (2 : Nat) ^ 140 = 1393796574908163946345982392040522594123776 := by decide
      omega
    have big : ∀ z : Int, -100000000000000000000000000000000000000000 ≤ z → z ≤ 100000000000000000000000000000000000000000 → z.natAbs < 2 ^ 4000 := fun z h1 h2 => Nat.lt_of_lt_of_le (b140 z h1 h2) (Nat.pow_le_pow_right (by decide) (by decide))
    have b40 : ∀ z : Int, -10000000000000000000000000000000000000000 ≤ z → z ≤ 10000000000000000000000000000000000000000 → z.natAbs ≤ 10000000000000000000000000000000000000000 := by
      intro z h1 h2
      omega
    refine ⟨_, rfl, _, rfl, .inr ⟨b, rfl, _, _, rfl, rfl, .inl ⟨by decide, by decide⟩, _, _, rfl, rfl, t, c, _, rfl, hT, by cases b <;> decide, by cases b <;> exact big _ (by decide) (by decide), fun k1 H1 u1 v1 T1 S1 => ?_⟩⟩
    refine ⟨_, rfl, _, _, rfl, rfl, _, rfl, ?_⟩
    refine ite2 (fun _ => ?_) (fun _ => ?_)
    · refine ⟨_, rfl, t, c, _, rfl, T1, by decide, big _ (by decide) (by decide), fun k2 H2 u2 v2 T2 S2 => ?_⟩
      refine ⟨_, _, rfl, rfl, two, fun p hp => ?_⟩
      exact k p (k2 - 7) 1 _ (rt_one _) (b40 _ (by omega) (by omega)) (b40 _ (by decide) (by decide)) upd_same ((S1.trans S2).free T2.tape hp) (T2.same (Same.upd hp)) ((S1.trans S2).trans (Same.b t (Same.upd hp)))
    · refine ⟨_, rfl, _, _, rfl, rfl, _, rfl, ?_⟩
      refine ite2 (fun _ => ?_) (fun _ => ?_)
      · refine ⟨_, rfl, t, c, _, rfl, T1, by decide, big _ (by decide) (by decide), fun k2 H2 u2 v2 T2 S2 => ?_⟩
        refine ⟨_, _, rfl, rfl, _, rfl, t, c, _, rfl, T2, by decide, big _ (by decide) (by decide), fun k3 H3 u3 v3 T3 S3 => ?_⟩
        refine ⟨_, _, rfl, rfl, _, _, rfl, by omega, big _ (by omega) (by omega), fun p hp => ?_⟩
        have le := low_le (n := k2 - 200) (d := 1 + k3) (by omega)
        exact k p _ _ _ (low_rt (by omega)) (Nat.le_trans le.1 (b40 _ (by omega) (by omega))) (Nat.le_trans le.2 (b40 _ (by omega) (by omega))) upd_same (((S1.trans S2).trans S3).free T3.tape hp) (T3.same (Same.upd hp)) (((S1.trans S2).trans S3).trans (Same.b t (Same.upd hp)))
      · refine ⟨_, rfl, rfl, _, rfl, ?_⟩
        refine ite2 (fun _ => ?_) (fun _ => ?_)
        · refine ⟨_, rfl, _, _, rfl, rfl, pw18, _, _, rfl, rfl, .inl ⟨by decide, by decide⟩, _, _, rfl, rfl, t, c, _, rfl, T1, ?_, ?_, fun k2 H2 u2 v2 T2 S2 => ?_⟩
          · rw [p18]
            decide
          · rw [p18]
            exact big _ (by decide) (by decide)
          rw [p18] at v2
          refine ⟨_, _, rfl, rfl, pw18, _, _, rfl, rfl, _, rfl, _, rfl, _, _, rfl, rfl, pw18, t, c, _, rfl, T2, ?_, ?_, fun k3 H3 u3 v3 T3 S3 => ?_⟩
          · rw [p18]
            decide
          · rw [p18]
            exact big _ (by decide) (by decide)
          rw [p18] at v3
          refine ⟨_, _, rfl, rfl, _, _, rfl, by omega, big _ (by omega) (by omega), fun p hp => ?_⟩
          have le := low_le (n := k2 - 10 ^ (18 : Int).toNat) (d := 1 + k3) (by omega)
          rw [p18] at le
          refine k p _ _ _ (low_rt (by omega)) ?_ (Nat.le_trans le.2 (b40 _ (by omega) (by omega))) upd_same (((S1.trans S2).trans S3).free T3.tape hp) (T3.same (Same.upd hp)) (((S1.trans S2).trans S3).trans (Same.b t (Same.upd hp)))
          exact Nat.le_trans le.1 (b40 _ (by omega) (by omega))
        · refine ⟨_, _, rfl, rfl, pw40, _, rfl, t, c, _, rfl, T1, by decide, big _ (by decide) (by decide), fun k2 H2 u2 v2 T2 S2 => ?_⟩
          refine ⟨_, _, rfl, rfl, ?_⟩
          rw [p40]
          obtain ⟨ed, he⟩ : ∃ ed : Int, ed = 10000000000000000000000000000000000000000 - k2 := ⟨_, rfl⟩
          rw [show (fun i j : Int => V.int (i - j)) 10000000000000000000000000000000000000000 k2 = V.int ed by rw [he]]
          refine ⟨_, rfl, two, fun a1 ha1 => ⟨_, rfl, _, _, rfl, rfl, two, fun a2 ha2 => ⟨_, rfl, two, fun a3 ha3 => ⟨_, rfl, _, rfl, two, fun a4 ha4 => ⟨by show 4 ≤ sizeLine; decide, fun a5 ha5 => ?_⟩⟩⟩⟩⟩
          have z1 := Same.upd (o := .tup [.int ed, .int 1]) ha1
          have z2 := Same.upd (o := .tup [.int (0 - ed), .int 1]) ha2
          have z3 := Same.upd (o := .tup [.int 1, .int ed]) ha3
          have z4 := Same.upd (o := .tup [.int (-1), .int ed]) ha4
          have z5 := Same.upd (o := .lst [.ref a1, .ref a2, .ref a3, .ref a4]) ha5
          have zz := z1.trans (z2.trans (z3.trans (z4.trans z5)))
          have T5 := T2.same zz
          refine ⟨_, rfl, t, c, _, rfl, T5, by decide, big _ (by decide) (by decide), fun k3 H3 u3 v3 T3 S3 => ?_⟩
          have n5 : a5 ≠ t := (T2.same (z1.trans (z2.trans (z3.trans z4)))).tape.ne ha5
          have n1 : a1 ≠ t := T2.tape.ne ha1
          have n2 : a2 ≠ t := (T2.same z1).tape.ne ha2
          have n3 : a3 ≠ t := (T2.same (z1.trans z2)).tape.ne ha3
          have n4 : a4 ≠ t := (T2.same (z1.trans (z2.trans z3))).tape.ne ha4
          have f0 := S1.trans S2
          have g1 : H a1 = none := f0.free T2.tape ha1
          have g2 : H a2 = none := f0.free T2.tape (z1.free ha2)
          have g3 : H a3 = none := f0.free T2.tape ((z1.trans z2).free ha3)
          have g4 : H a4 = none := f0.free T2.tape ((z1.trans (z2.trans z3)).free ha4)
          have sb := (f0.trans (Same.b t zz)).trans S3
          have e1 := S3 _ _ n1 ((z2.trans (z3.trans (z4.trans z5))) _ _ upd_same)
          have e2 := S3 _ _ n2 ((z3.trans (z4.trans z5)) _ _ upd_same)
          have e3 := S3 _ _ n3 ((z4.trans z5) _ _ upd_same)
          have e4 := S3 _ _ n4 (z5 _ _ upd_same)
          have hL := S3 _ _ n5 (upd_same)
          rcases (by omega : k3 = 0 ∨ k3 = 1 ∨ k3 = 2 ∨ k3 = 3) with rfl | rfl | rfl | rfl
          · exact ⟨a5, _, _, _, rfl, rfl, SqL.of hL, rfl, k a1 _ _ _ (rt_one _) (b40 _ (by omega) (by omega)) (b40 _ (by omega) (by omega)) e1 g1 T3 sb⟩
          · exact ⟨a5, _, _, _, rfl, rfl, SqL.of hL, rfl, k a2 _ _ _ (rt_one _) (b40 _ (by omega) (by omega)) (b40 _ (by omega) (by omega)) e2 g2 T3 sb⟩
          · exact ⟨a5, _, _, _, rfl, rfl, SqL.of hL, rfl, k a3 _ _ _ (rt_inv (by omega)) (b40 _ (by omega) (by omega)) (b40 _ (by omega) (by omega)) e3 g3 T3 sb⟩
          · exact ⟨a5, _, _, _, rfl, rfl, SqL.of hL, rfl, k a4 _ _ _ (rt_ninv (by omega)) (b40 _ (by omega) (by omega)) (b40 _ (by omega) (by omega)) e4 g4 T3 sb⟩
end
end K78
set_option Elab.async false
set_option linter.all false
set_option maxRecDepth 100000
set_option maxHeartbeats 4000000
namespace K78
open PySem PySem.Spec PyProof.Rows L2 Lc
inductive Vk : Str → PyData → Prop
  | non (k : Str) : Vk k .none
  | num {n d : Int} (h : Rt n d) (h1 : n.natAbs ≤ 10000000000000000000000000000000000000000) (h2 : d.natAbs ≤ 10000000000000000000000000000000000000000) : Vk "number" (.tuple [.int n, .int d])
  | flag (b : Bool) : Vk "flag" (.bool b)
  | word {x : Str} (h : Sh 12 x) (hn : nameB (.str x) = true) : Vk "word" (.str x)
inductive Vks : List Str → List PyData → Prop
  | nil : Vks [] []
  | cons {k : Str} {d : PyData} {ks : List Str} {ds : List PyData} (h : Vk k d) (r : Vks ks ds) : Vks (k :: ks) (d :: ds)
theorem Vks.app {k : Str} {d : PyData} (h : Vk k d) : ∀ {ks : List Str} {ds : List PyData}, Vks ks ds → Vks (ks ++ [k]) (ds ++ [d])
  | _, _, .nil => .cons h .nil
  | _, _, .cons a r => .cons a (Vks.app h r)
theorem Vks.len : ∀ {ks : List Str} {ds : List PyData}, Vks ks ds → ks.length = ds.length
  | _, _, .nil => rfl
  | _, _, .cons _ r => by rw [List.length_cons, List.length_cons, Vks.len r]
/-- v is d, all its parts are new since H -/
def DhF (H H' : Hp) (v : V) (d : PyData) : Prop := ∀ H2 : Hp, (∀ b o, H b = none → H' b = some o → H2 b = some o) → Dh H2 v d
theorem DhF.now {H H' : Hp} {v : V} {d : PyData} (h : DhF H H' v d) : Dh H' v d := h H' fun _ _ _ e => e
theorem Cols.get {H : Hp} : ∀ {xs : List V} {ps : List (Str × Str)}, Cols H xs ps → ∀ (i : Nat) (x : V), xs[i]? = some x → ∃ a z kk, x = .ref a ∧ H a = some (.tup [.str z, .str kk]) ∧ ps[i]? = some (z, kk)
  | _, _, .nil, i, x, e => by simp at e
  | _, _, .cons h r, 0, x, e => by
    obtain rfl := Option.some.inj e
    exact ⟨_, _, _, rfl, h, rfl⟩
  | _, _, .cons h r, i + 1, x, e => by
    obtain ⟨a, z, kk, h1, h2, h3⟩ := Cols.get r i x (by simpa using e)
    exact ⟨a, z, kk, h1, h2, by simpa using h3⟩
end K78
set_option Elab.async false
set_option linter.all false
set_option maxRecDepth 100000
set_option maxHeartbeats 4000000
namespace K78
open PySem PySem.Spec PyProof.Rows L2 Lc
abbrev sLf : Stmt := top 81
abbrev sXp : Stmt := top 82
/-- words over one and over two operands: the operands' kind, the result's -/
def OneW (w k r : Str) : Prop := (w = "not" ∧ k = "flag" ∧ r = "flag") ∨ (w = "missing" ∧ KindS k ∧ r = "flag")
def TwoW (w k r : Str) : Prop := ((w = "plus" ∨ w = "minus" ∨ w = "times" ∨ w = "over") ∧ k = "number" ∧ r = "number") ∨ (w = "less" ∧ k = "number" ∧ r = "flag") ∨ (w = "same" ∧ KindS k ∧ r = "flag") ∨ ((w = "both" ∨ w = "either") ∧ k = "flag" ∧ r = "flag")
/-- valid expressions of a kind over the columns ps, at most n deep -/
inductive Xp (ps : List (Str × Str)) : Nat → Str → PyData → Prop
  | col {n : Nat} {z k : Str} (h : (z, k) ∈ ps) : Xp ps (n + 1) k (.tuple [.str "column", .str z])
  | val {n : Nat} {k : Str} {d : PyData} (h : Vk k d) (nn : d ≠ .none) : Xp ps (n + 1) k (.tuple [.str "value", d])
  | one {n : Nat} {w k r : Str} {a : PyData} (hw : OneW w k r) (ha : Xp ps n k a) : Xp ps (n + 1) r (.tuple [.str w, a])
  | two {n : Nat} {w k r : Str} {a b : PyData} (hw : TwoW w k r) (ha : Xp ps n k a) (hb : Xp ps n k b) : Xp ps (n + 1) r (.tuple [.str w, a, b])
  | iff {n : Nat} {k : Str} {a b c : PyData} (ha : Xp ps n "flag" a) (hb : Xp ps n k b) (hc : Xp ps n k c) : Xp ps (n + 1) k (.tuple [.str "if", a, b, c])
theorem Xp.mono {ps : List (Str × Str)} {n : Nat} {k : Str} {d : PyData} (h : Xp ps n k d) : ∀ {m : Nat}, n ≤ m → Xp ps m k d := by
  induction h with
  | col h => intro m l; obtain ⟨j, rfl⟩ : ∃ j, m = j + 1 := ⟨m - 1, by omega⟩; exact .col h
  | val h nn => intro m l; obtain ⟨j, rfl⟩ : ∃ j, m = j + 1 := ⟨m - 1, by omega⟩; exact .val h nn
  | one hw _ ia => intro m l; obtain ⟨j, rfl⟩ : ∃ j, m = j + 1 := ⟨m - 1, by omega⟩; exact .one hw (ia (by omega))
  | two hw _ _ ia ib => intro m l; obtain ⟨j, rfl⟩ : ∃ j, m = j + 1 := ⟨m - 1, by omega⟩; exact .two hw (ia (by omega)) (ib (by omega))
  | iff _ _ _ ia ib ic => intro m l; obtain ⟨j, rfl⟩ : ∃ j, m = j + 1 := ⟨m - 1, by omega⟩; exact .iff (ia (by omega)) (ib (by omega)) (ic (by omega))
theorem DhF.wide {t : Addr} {H Ha Hb : Hp} {v : V} {d : PyData} (h : DhF Ha Hb v d) (s : SameB t H Ha) (T : Tape Ha t) : DhF H Hb v d := fun H2 h2 => h H2 fun b o n e => h2 b o (s.free T n) e
theorem DhF.later {t : Addr} {H Hb Hc : Hp} {v : V} {d : PyData} (h : DhF H Hb v d) (T : Tape H t) (s : SameB t Hb Hc) : DhF H Hc v d := fun H2 h2 => h H2 fun b o e e' => h2 b o e (s b o (T.ne e) e')
theorem Cols.b {t : Addr} {H H' : Hp} {xs : List V} {ps : List (Str × Str)} (h : Cols H xs ps) (T : Tape H t) (s : SameB t H H') : Cols H' xs ps := h.t (SameT.b T s)
/-- what a drawn expression is -/
def NewX (H : Hp) (t c : Addr) (ps : List (Str × Str)) (n : Nat) (k : Str) (Q : VK) : Prop := ∀ (v : V) (d : PyData) (H' : Hp), DhF H H' v d → Xp ps n k d → TapeL c H' t → SameB t H H' → Q v H'
def spLf : Sp := fun vs H Q _ => ∃ (t c L : Addr) (kind : Str) (xs : List V) (ps : List (Str × Str)), vs = [.ref t, .ref L, .str kind] ∧ KindS kind ∧ TapeL c H t ∧ Rd H L (.tup xs) ∧ Cols H xs ps ∧ ps.length ≤ 8 ∧ NewX H t c ps 1 kind Q
def spXp : Nat → Sp
  | 0 => fun _ _ _ _ => False
  | n + 1 => fun vs H Q _ => ∃ (t c L : Addr) (kind : Str) (xs : List V) (ps : List (Str × Str)), vs = [.ref t, .ref L, .str kind, .int ((n : Int) + 1)] ∧ KindS kind ∧ TapeL c H t ∧ Rd H L (.tup xs) ∧ Cols H xs ps ∧ ps.length ≤ 8 ∧ NewX H t c ps (n + 1) kind Q
abbrev ttLf : TT := tTest (tOp rEq (tVar 5) (tVar 2))
section
variable {P : Program} {w : World} {K : PySem.W.Frag} {mg : Str → Option Value} {base : Heap} {f fD fR fL : Addr} {fd fdD fdR fdL : FuncData}
abbrev nLf : List Str := ["_law_tape_here", "_law_columns_here", "_law_kind", "_law_same", "_law_name_here", "_law_other"]
theorem scLf : FnScope nLf ["_law_tape_here", "_law_columns_here", "_law_kind"] (defScope sLf) := ⟨rfl, rfl, rfl, by decide +kernel, rfl, by decide +kernel, by decide +kernel⟩
theorem ok_lf (F : Fun K "_law_leaf" "_law_leaf" sLf f fd) (T : Bt mg) (GD : FnOk P w K mg base CX0 1 fD fdD ["_law_tape_here", "_law_many"] spDrawL) (mD : mg "_law_draw" = some (.ref fD)) (kD : PySem.W.keepIn K (.ref fD) = true) (bD : Binds K fdD ["_law_tape_here", "_law_many"] [])
    (GR : FnOk P w K mg base CX0 2 fR fdR ["_law_tape_here", "_law_wide"] spRatL) (mR : mg "_law_rational" = some (.ref fR)) (kR : PySem.W.keepIn K (.ref fR) = true) (bR : Binds K fdR ["_law_tape_here", "_law_wide"] []) : FnOk P w K mg base CX0 3 f fd ["_law_tape_here", "_law_columns_here", "_law_kind"] spLf := by
  refine F.ok scLf (fun vs H Q E h => ?_) (fun cdv A outer s H vs Q E hr h => ?_)
  · obtain ⟨t, c, L, kind, xs, ps, rfl, _⟩ := h
    rfl
  · obtain ⟨t, c, L, kind, xs, ps, rfl, hk, hT, hL, hc, l8, k⟩ := h
    have hr1 : Room 1 _ := hr.mono (by decide)
    refine ⟨_, Evl.pss_cut (ps_setLc (i := 3) (own := [("_law_name_here", 4), ("_law_other", 5)]) (g := gTup K 2 (gCons (gName 4) (gCons (gName 5) gNil))) (tt := ttLf) (te := tVar 4) (by rfl) scLf.nd rfl rfl (sw_true rfl rfl rfl (by decide +kernel)) (pi_tup (pv 1)) (blkOk_by (own := [("_law_name_here", 4), ("_law_other", 5)]) (N := nLf) (sc := defScope sLf) (by decide +kernel))
          (fun _ _ _ _ _ => pg_tup rfl (pgs_cons (pg_name (i := 4) scLf.nd rfl (.inl rfl)) (pgs_cons (pg_name (i := 5) scLf.nd rfl (.inl rfl)) pgs_nil))) (fun _ _ _ _ _ => pts_one (pt_cmpR op_eq (pv 5) (pv 2) (nomark _))) (fun _ _ _ _ _ => pv 4))
      (Evl.pss_cut (ps_if (PW.pt (pw_and (pt_truth (pv 3) (fun _ => rfl)) (pw_and1 (pt_cmpR op_gt (pe_call GD hr1 (by rfl) mD kD bD .nil pass0 (pa_cons (pv 0) (pa_cons pe_int pa_nil))) pe_int (nomark _)))))
        (pss_one (ps_ret (pe_tup (pa_cons pe_str (pa_cons (pe_ix ix_list (pv 3) (pe_call GD hr1 (by rfl) mD kD bD .nil pass0 (pa_cons (pv 0) (pa_cons (pe_callB call_len_seq (by rfl) T.len PySem.boot_len (pa_cons (pv 3) pa_nil)) pa_nil))) (fun _ _ => rfl)) pa_nil))))) pss_nil)
      (pss_cons (ps_if (pt_cmpR op_eq (pv 2) pe_str (nomark _)) (pss_one (ps_ret (pe_tup (pa_cons pe_str (pa_cons (pe_call GR hr (by rfl) mR kR bR .nil pass0 (pa_cons (pv 0) (pa_cons pe_bl pa_nil))) pa_nil))))) pss_nil)
      (pss_cons (ps_if (pt_cmpR op_eq (pv 2) pe_str (nomark _)) (pss_one (ps_ret (pe_tup (pa_cons pe_str (pa_cons (pe_cmpR op_eq (pe_call GD hr1 (by rfl) mD kD bD .nil pass0 (pa_cons (pv 0) (pa_cons pe_int pa_nil))) pe_int (nomark _)) pa_nil))))) pss_nil)
      (pss_one (ps_ret (pe_tup (pa_cons pe_str (pa_cons (pe_ix ix_list (pe_lst (pa_cons pe_str (pa_cons pe_str (pa_cons pe_str (pa_cons pe_str pa_nil))))) (pe_call GD hr1 (by rfl) mD kD bD .nil pass0 (pa_cons (pv 0) (pa_cons pe_int pa_nil))) (fun _ _ => rfl)) pa_nil)))))))), ?_⟩
    have two : 2 ≤ sizeLine := by decide
    have four : 4 ≤ sizeLine := by decide
    have lx := hc.len
    -- the columns of the kind
    refine ⟨fun σ H' => ∃ (W : Addr) (ns : List Str) (x4 x5 : Option V), σ = [some (.ref t), some (.ref L), some (.str kind), some (.ref W), x4, x5] ∧ H' W = some (.lst (ns.map V.str)) ∧ H W = none ∧ ns.length ≤ 8 ∧ (∀ z ∈ ns, (z, kind) ∈ ps) ∧ Same H H', ?_, ?_⟩
    · refine ⟨_, rfl, L, rfl, ⟨_, hL.sq⟩, fun D hD => lc_tup (K := K) (a := L) (xs := xs) (fun i H' => ∃ ns : List Str, H' D = some (.lst (ns.map V.str)) ∧ ns.length ≤ i ∧ (∀ z ∈ ns, (z, kind) ∈ ps) ∧ Same H H') ⟨[], upd_same, Nat.le_refl _, nofun, Same.upd hD⟩ (fun i H' _ p => by obtain ⟨_, _, _, _, s'⟩ := p; exact (hL.same s').sq) ?_ ?_⟩
      · rintro i x H1 hx ⟨ns, hD1, ln, hn, s1⟩
        obtain ⟨a, z, kk, rfl, ea, ep⟩ := hc.get _ _ hx
        have hi : i < xs.length := (List.getElem?_eq_some_iff.mp hx).1
        refine ⟨a, _, rfl, SqT.of (s1 _ _ ea), rfl, _, _, rfl, _, _, rfl, rfl, rfl, ?_⟩
        change ttLf _ _ _
        refine ⟨_, rfl, _, rfl, rfl, _, rfl, ite2 (fun q => ?_) (fun q => ?_)⟩
        · have ek : kk = kind := by have := of_decide_eq_true q; injection this
          subst ek
          refine ⟨_, rfl, _, hD1, ?_, ns ++ [z], by rw [upd_same, List.map_append]; rfl, by rw [List.length_append]; show ns.length + 1 ≤ _; omega, fun y hy => ?_, fun b o e => by rw [upd_ne (ne_of_none e hD)]; exact s1 b o e⟩
          · rw [List.length_map]
            exact Nat.lt_of_le_of_lt (show _ ≤ 8 by omega) (by decide)
          · rcases List.mem_append.mp hy with hy | hy
            · exact hn y hy
            · rw [List.mem_singleton.mp hy]
              exact List.mem_of_getElem? ep
        · exact ⟨ns, hD1, by omega, hn, s1⟩
      · rintro H1 ⟨ns, hD1, ln, hn, s1⟩
        exact ⟨D, ns, _, _, rfl, hD1, hD, by omega, hn, s1⟩
    rintro σ H1 ⟨W, ns, x4, x5, rfl, hW, gW, ln, hn, s1⟩
    have T1 := hT.same s1
    have nW := hT.tape.ne gW
    have S1 := Same.b t s1
    -- a column
    refine ⟨fun σ H' => σ = [some (.ref t), some (.ref L), some (.str kind), some (.ref W), x4, x5] ∧ TapeL c H' t ∧ SameB t H H', ?_, ?_⟩
    · refine ⟨_, rfl, _, .inl ⟨_, SqL.of hW, rfl⟩, ite2 (fun ne => ?_) (fun _ => iteF ⟨rfl, T1, S1⟩)⟩
      have pos : 0 < ns.length := by
        cases ns with
        | nil => simp at ne
        | cons a r => exact Nat.succ_pos _
      refine ⟨_, rfl, t, c, _, rfl, T1, by decide, big1000 (by decide) (by decide), fun j H2 _ _ T2 S2 => ⟨_, _, rfl, rfl, _, rfl, ite2 (fun _ => ?_) (fun _ => ⟨rfl, T2, S1.trans S2⟩)⟩⟩
      have hW2 := S2 _ _ nW hW
      refine ⟨_, rfl, _, rfl, _, rfl, W, _, rfl, .inl (SqL.of hW2), t, c, _, rfl, T2, by rw [List.length_map]; omega, big1000 (by omega) (by rw [List.length_map]; omega), fun j H3 j0 j1 T3 S3 => ?_⟩
      rw [List.length_map] at j1
      have hj : j.toNat < ns.length := by omega
      have hm : (ns.map V.str)[j.toNat]? = some (.str ns[j.toNat]) := by rw [List.getElem?_map, List.getElem?_eq_getElem hj]; rfl
      refine ⟨W, _, _, _, rfl, rfl, SqL.of (S3 _ _ nW hW2), at_of (j := j.toNat) (by omega) hm, two, fun r hr' => ?_⟩
      have S13 := (S1.trans S2).trans S3
      have zr := Same.upd (o := .tup [.str "column", .str ns[j.toNat]]) hr'
      exact k _ _ _ (fun H5 h5 => .tup (h5 _ _ (S13.free T3.tape hr') upd_same) (.cons (.str _) (.cons (.str _) .nil))) (.col (n := 0) (hn _ (List.getElem_mem hj))) (T3.same zr) (S13.trans (Same.b t zr))
    clear hW gW hn s1 T1 nW S1
    rintro σ H1 ⟨rfl, T1, S1⟩
    have fin : ∀ {H3 : Hp} {v : V} {d : PyData}, DhF H H3 v d → Vk kind d → d ≠ .none → TapeL c H3 t → SameB t H H3 → ∀ r, H3 r = none → Q (.ref r) (upd H3 r (.tup [.str "value", v])) := fun {H3 v d} df vk nn T3 S3 r hr' => by
      have zr := Same.upd (o := .tup [.str "value", v]) hr'
      exact k _ _ _ (fun H5 h5 => .tup (h5 _ _ (S3.free T3.tape hr') upd_same) (.cons (.str _) (.cons ((df.later hT.tape (Same.b t zr)) H5 h5) .nil))) (.val (n := 0) vk nn) (T3.same zr) (S3.trans (Same.b t zr))
    refine ⟨_, rfl, rfl, _, rfl, ?_⟩
    rw [decide_eq_decide.mpr (show V.str kind = V.str "number" ↔ kind = "number" from ⟨fun e => by injection e, fun e => by rw [e]⟩)]
    by_cases k1 : kind = "number"
    · rw [decide_eq_true k1]
      subst k1
      refine iteT ⟨_, rfl, t, c, false, rfl, T1, fun p n d H2 rt h1 h2 e g T2 S2 => ⟨two, ?_⟩⟩
      have g0 := S1.free T1.tape g
      exact fin (fun H5 h5 => .tup (h5 _ _ g0 e) (.cons (.int n) (.cons (.int d) .nil))) (.num rt h1 h2) nofun T2 (S1.trans S2)
    rw [decide_eq_false k1]
    refine iteF ⟨_, rfl, rfl, _, rfl, ?_⟩
    rw [decide_eq_decide.mpr (show V.str kind = V.str "flag" ↔ kind = "flag" from ⟨fun e => by injection e, fun e => by rw [e]⟩)]
    by_cases k2 : kind = "flag"
    · rw [decide_eq_true k2]
      subst k2
      exact iteT ⟨_, rfl, t, c, _, rfl, T1, by decide, big1000 (by decide) (by decide), fun j H2 _ _ T2 S2 => ⟨rfl, two, fin (fun _ _ => .bl _) (.flag _) nofun T2 (S1.trans S2)⟩⟩
    rw [decide_eq_false k2]
    have k3 : kind = "word" := by rcases hk with z | z | z; exact absurd z k1; exact z; exact absurd z k2
    subst k3
    refine iteF ⟨four, fun Y hY => ?_⟩
    have zY := Same.upd (o := .lst [.str "a", .str "b", .str "ab", .str "b0"]) hY
    have nY := T1.tape.ne hY
    refine ⟨_, rfl, t, c, _, rfl, T1.same zY, by decide, big1000 (by decide) (by decide), fun j H2 j0 j4 T2 S2 => ?_⟩
    have S12 := S1.trans ((Same.b t zY).trans S2)
    have all : ∀ v ∈ ([.str "a", .str "b", .str "ab", .str "b0"] : List V), ∃ z : Str, v = .str z ∧ Sh 12 z ∧ nameB (.str z) = true := by
      intro v hv
      simp only [List.mem_cons, List.not_mem_nil, or_false] at hv
      rcases hv with rfl | rfl | rfl | rfl <;> exact ⟨_, rfl, ⟨by decide +kernel, by decide +kernel⟩, by decide +kernel⟩
    have hj : j.toNat < ([.str "a", .str "b", .str "ab", .str "b0"] : List V).length := by show j.toNat < 4; omega
    obtain ⟨z, ez, sz, nz⟩ := all _ (List.getElem_mem hj)
    refine ⟨Y, _, _, _, rfl, rfl, SqL.of (S2 _ _ nY upd_same), at_of (j := j.toNat) (by omega) ((List.getElem?_eq_getElem hj).trans (congrArg some ez)), two, ?_⟩
    exact fin (fun _ _ => .str z) (.word sz nz) nofun T2 S12
end
end K78
set_option Elab.async false
set_option linter.all false
set_option maxRecDepth 100000
set_option maxHeartbeats 4000000
namespace K78
open PySem PySem.Spec PyProof.Rows L2 Lc
section
variable {P : Program} {w : World} {K : PySem.W.Frag} {mg : Str → Option Value} {base : Heap} {f fD fL : Addr} {fd fdD fdL : FuncData}
abbrev nXp : List Str := ["_law_tape_here", "_law_columns_here", "_law_kind", "_law_depth", "_law_turn", "_law_low", "_law_test", "_law_left", "_law_word", "_law_some"]
abbrev pXp : List Str := ["_law_tape_here", "_law_columns_here", "_law_kind", "_law_depth"]
theorem scXp : FnScope nXp pXp (defScope sXp) := ⟨rfl, rfl, rfl, by decide +kernel, rfl, by decide +kernel, by decide +kernel⟩
theorem fn_none {f : Addr} {fd : FuncData} {ps : List Str} {k : Nat} : FnOk P w K mg base CX0 k f fd ps (fun _ _ _ _ => False) := ⟨fun _ _ _ _ h => h.elim, fun _ _ _ _ _ _ _ _ _ _ _ _ _ h => h.elim⟩
theorem ok_xp1 (n : Nat) (F : Fun K "_law_expression" "_law_expression" sXp f fd) (GD : FnOk P w K mg base CX0 1 fD fdD ["_law_tape_here", "_law_many"] spDrawL) (mD : mg "_law_draw" = some (.ref fD)) (kD : PySem.W.keepIn K (.ref fD) = true) (bD : Binds K fdD ["_law_tape_here", "_law_many"] [])
    (GL : FnOk P w K mg base CX0 3 fL fdL ["_law_tape_here", "_law_columns_here", "_law_kind"] spLf) (mL : mg "_law_leaf" = some (.ref fL)) (kL : PySem.W.keepIn K (.ref fL) = true) (bL : Binds K fdL ["_law_tape_here", "_law_columns_here", "_law_kind"] [])
    (GX : FnOk P w K mg base CX0 (3 + n) f fd pXp (spXp n)) (mX : mg "_law_expression" = some (.ref f)) (kX : PySem.W.keepIn K (.ref f) = true) (bX : Binds K fd pXp []) : FnOk P w K mg base CX0 (3 + n + 1) f fd pXp (spXp (n + 1)) := by
  refine F.ok scXp (fun vs H Q E h => ?_) (fun cdv A outer s H vs Q E hr h => ?_)
  · obtain ⟨t, c, L, kind, xs, ps, rfl, _⟩ := h
    rfl
  · obtain ⟨t, c, L, kind, xs, ps, rfl, hk, hT, hL, hc, l8, k⟩ := h
    have hr1 : Room 1 _ := hr.mono (by omega)
    have hr3 : Room 3 _ := hr.mono (by omega)
    refine ⟨_, pss_cons (ps_set (i := 4) scXp.nd rfl (Or.inl rfl) (pe_call GD hr1 (by rfl) mD kD bD .nil pass0 (pa_cons (pv 0) (pa_cons pe_int pa_nil))))
      (pss_cons (ps_set (i := 5) scXp.nd rfl (Or.inl rfl) (pe_op op_sub (pv 3) pe_int))
      (pss_cons (ps_if (PW.pt (pw_or (pt_cmpR op_le (pv 3) pe_int (nomark _)) (pw_or1 (pt_cmpR op_lt (pv 4) pe_int (nomark _))))) (pss_one (ps_ret (pe_call GL hr3 (by rfl) mL kL bL .nil pass0 (pa_cons (pv 0) (pa_cons (pv 1) (pa_cons (pv 2) pa_nil)))))) pss_nil)
      (pss_cons (ps_if (pt_cmpR op_eq (pv 4) pe_int (nomark _)) (pss_cons (ps_set (i := 6) scXp.nd rfl (Or.inl rfl) (pe_call GX hr (by rfl) mX kX bX .nil pass0 (pa_cons (pv 0) (pa_cons (pv 1) (pa_cons pe_str (pa_cons (pv 5) pa_nil))))))
          (pss_cons (ps_set (i := 7) scXp.nd rfl (Or.inl rfl) (pe_call GX hr (by rfl) mX kX bX .nil pass0 (pa_cons (pv 0) (pa_cons (pv 1) (pa_cons (pv 2) (pa_cons (pv 5) pa_nil))))))
          (pss_one (ps_ret (pe_tup (pa_cons pe_str (pa_cons (pv 6) (pa_cons (pv 7) (pa_cons (pe_call GX hr (by rfl) mX kX bX .nil pass0 (pa_cons (pv 0) (pa_cons (pv 1) (pa_cons (pv 2) (pa_cons (pv 5) pa_nil))))) pa_nil))))))))) pss_nil)
      (pss_cons (ps_if (pt_cmpR op_eq (pv 2) pe_str (nomark _)) (pss_one (ps_ret (pe_call GL hr3 (by rfl) mL kL bL .nil pass0 (pa_cons (pv 0) (pa_cons (pv 1) (pa_cons (pv 2) pa_nil)))))) pss_nil)
      (pss_cons (ps_if (pt_cmpR op_eq (pv 2) pe_str (nomark _)) (pss_cons (ps_set (i := 8) scXp.nd rfl (Or.inl rfl) (pe_ix ix_list (pe_lst (pa_cons pe_str (pa_cons pe_str (pa_cons pe_str (pa_cons pe_str pa_nil))))) (pe_call GD hr1 (by rfl) mD kD bD .nil pass0 (pa_cons (pv 0) (pa_cons pe_int pa_nil))) (fun _ _ => rfl)))
          (pss_cons (ps_set (i := 7) scXp.nd rfl (Or.inl rfl) (pe_call GX hr (by rfl) mX kX bX .nil pass0 (pa_cons (pv 0) (pa_cons (pv 1) (pa_cons pe_str (pa_cons (pv 5) pa_nil))))))
          (pss_one (ps_ret (pe_tup (pa_cons (pv 8) (pa_cons (pv 7) (pa_cons (pe_call GX hr (by rfl) mX kX bX .nil pass0 (pa_cons (pv 0) (pa_cons (pv 1) (pa_cons pe_str (pa_cons (pv 5) pa_nil))))) pa_nil)))))))) pss_nil)
      (pss_cons (ps_if (pt_cmpR op_eq (pv 4) pe_int (nomark _)) (pss_one (ps_ret (pe_tup (pa_cons pe_str (pa_cons (pe_call GX hr (by rfl) mX kX bX .nil pass0 (pa_cons (pv 0) (pa_cons (pv 1) (pa_cons pe_str (pa_cons (pv 5) pa_nil))))) pa_nil))))) pss_nil)
      (Evl.pss_cut (ps_set (i := 9) scXp.nd rfl (Or.inl rfl) (pe_ix ix_list (pe_lst (pa_cons pe_str (pa_cons pe_str (pa_cons pe_str pa_nil)))) (pe_call GD hr1 (by rfl) mD kD bD .nil pass0 (pa_cons (pv 0) (pa_cons pe_int pa_nil))) (fun _ _ => rfl)))
      (pss_cons (ps_if (pt_cmpR op_eq (pv 4) pe_int (nomark _)) (pss_one (ps_ret (pe_tup (pa_cons pe_str (pa_cons (pe_call GX hr (by rfl) mX kX bX .nil pass0 (pa_cons (pv 0) (pa_cons (pv 1) (pa_cons (pv 9) (pa_cons (pv 5) pa_nil))))) pa_nil))))) pss_nil)
      (pss_cons (ps_if (pt_cmpR op_eq (pv 4) pe_int (nomark _)) (pss_cons (ps_set (i := 7) scXp.nd rfl (Or.inl rfl) (pe_call GX hr (by rfl) mX kX bX .nil pass0 (pa_cons (pv 0) (pa_cons (pv 1) (pa_cons (pv 9) (pa_cons (pv 5) pa_nil))))))
          (pss_one (ps_ret (pe_tup (pa_cons pe_str (pa_cons (pv 7) (pa_cons (pe_call GX hr (by rfl) mX kX bX .nil pass0 (pa_cons (pv 0) (pa_cons (pv 1) (pa_cons (pv 9) (pa_cons (pv 5) pa_nil))))) pa_nil))))))) pss_nil)
      (pss_cons (ps_if (pt_cmpR op_lt (pv 4) pe_int (nomark _)) (pss_cons (ps_set (i := 7) scXp.nd rfl (Or.inl rfl) (pe_call GX hr (by rfl) mX kX bX .nil pass0 (pa_cons (pv 0) (pa_cons (pv 1) (pa_cons pe_str (pa_cons (pv 5) pa_nil))))))
          (pss_one (ps_ret (pe_tup (pa_cons pe_str (pa_cons (pv 7) (pa_cons (pe_call GX hr (by rfl) mX kX bX .nil pass0 (pa_cons (pv 0) (pa_cons (pv 1) (pa_cons pe_str (pa_cons (pv 5) pa_nil))))) pa_nil))))))) pss_nil)
      (pss_cons (ps_set (i := 8) scXp.nd rfl (Or.inl rfl) (pe_ix ix_list (pe_lst (pa_cons pe_str (pa_cons pe_str pa_nil))) (pe_call GD hr1 (by rfl) mD kD bD .nil pass0 (pa_cons (pv 0) (pa_cons pe_int pa_nil))) (fun _ _ => rfl)))
      (pss_cons (ps_set (i := 7) scXp.nd rfl (Or.inl rfl) (pe_call GX hr (by rfl) mX kX bX .nil pass0 (pa_cons (pv 0) (pa_cons (pv 1) (pa_cons pe_str (pa_cons (pv 5) pa_nil))))))
      (pss_one (ps_ret (pe_tup (pa_cons (pv 8) (pa_cons (pv 7) (pa_cons (pe_call GX hr (by rfl) mX kX bX .nil pass0 (pa_cons (pv 0) (pa_cons (pv 1) (pa_cons pe_str (pa_cons (pv 5) pa_nil))))) pa_nil)))))))))))))))))), ?_⟩
    have two : 2 ≤ sizeLine := by decide
    have three : 3 ≤ sizeLine := by decide
    have four : 4 ≤ sizeLine := by decide
    have kF : KindS "flag" := .inr (.inr rfl)
    have kN : KindS "number" := .inl rfl
    refine ⟨_, rfl, t, c, _, rfl, hT, by decide, big1000 (by decide) (by decide), fun u H1 u0 u9 T1 S1 => ⟨_, rfl, _, _, rfl, rfl, ?_⟩⟩
    show gName 5 (.int ((n : Int) + 1 - 1)) _ _ _
    rw [show (n : Int) + 1 - 1 = n by omega]
    have leaf : spLf [.ref t, .ref L, .str kind] H1 Q E0 := ⟨t, c, L, kind, xs, ps, rfl, hk, T1, hL.b hT.tape S1, hc.b hT.tape S1, l8, fun v d H2 df xp T2 S2 => k v d H2 (df.wide S1 T1.tape) (xp.mono (by omega)) T2 (S1.trans S2)⟩
    refine ⟨_, rfl, _, _, rfl, rfl, _, rfl, ite2 (fun _ => iteT ⟨_, rfl, _, rfl, _, rfl, leaf⟩) (fun nd => ⟨_, rfl, _, _, rfl, rfl, _, rfl, ite2 (fun _ => ⟨_, rfl, _, rfl, _, rfl, leaf⟩) (fun _ => ?_)⟩)⟩
    obtain ⟨m, rfl⟩ : ∃ m, n = m + 1 := by
      have : ¬ ((n : Int) + 1 ≤ 1) := fun z => nd (decide_eq_true z)
      exact ⟨n - 1, by omega⟩
    rw [show ((m + 1 : Nat) : Int) = (m : Int) + 1 by omega]
    have again : ∀ {H1 : Hp} {kd : Str} {Q' : VK}, KindS kd → TapeL c H1 t → SameB t H H1 → (∀ v d H2, DhF H H2 v d → Xp ps (m + 1) kd d → TapeL c H2 t → SameB t H1 H2 → SameB t H H2 → Q' v H2) → spXp (m + 1) [.ref t, .ref L, .str kd, .int ((m : Int) + 1)] H1 Q' E0 :=
      fun {H1 kd Q'} hk T1 S1 kq => ⟨t, c, L, kd, xs, ps, rfl, hk, T1, hL.b hT.tape S1, hc.b hT.tape S1, l8, fun v d H2 df xp T2 S2 => kq v d H2 (df.wide S1 T1.tape) xp T2 S2 (S1.trans S2)⟩
    have fin1 : ∀ {H3 : Hp} {wd kd kr : Str} {va : V} {da : PyData}, kr = kind → OneW wd kd kr → DhF H H3 va da → Xp ps (m + 1) kd da → TapeL c H3 t → SameB t H H3 → ∀ r, H3 r = none → Q (.ref r) (upd H3 r (.tup [.str wd, va])) := fun {H3 wd kd kr va da} ek hw dva xa T3 S3 r hr' => by
      subst ek
      have zr := Same.upd (o := .tup [.str wd, va]) hr'
      exact k _ _ _ (fun H5 h5 => .tup (h5 _ _ (S3.free T3.tape hr') upd_same) (.cons (.str _) (.cons (dva.later hT.tape (Same.b t zr) H5 h5) .nil))) (.one hw xa) (T3.same zr) (S3.trans (Same.b t zr))
    have fin2 : ∀ {H3 : Hp} {wd kd kr : Str} {va vb : V} {da db : PyData}, kr = kind → TwoW wd kd kr → DhF H H3 va da → DhF H H3 vb db → Xp ps (m + 1) kd da → Xp ps (m + 1) kd db → TapeL c H3 t → SameB t H H3 → ∀ r, H3 r = none → Q (.ref r) (upd H3 r (.tup [.str wd, va, vb])) := fun {H3 wd kd kr va vb da db} ek hw dva dvb xa xb T3 S3 r hr' => by
      subst ek
      have zr := Same.upd (o := .tup [.str wd, va, vb]) hr'
      exact k _ _ _ (fun H5 h5 => .tup (h5 _ _ (S3.free T3.tape hr') upd_same) (.cons (.str _) (.cons (dva.later hT.tape (Same.b t zr) H5 h5) (.cons (dvb.later hT.tape (Same.b t zr) H5 h5) .nil)))) (.two hw xa xb) (T3.same zr) (S3.trans (Same.b t zr))
    have sE : ∀ (a b : Str), decide (V.str a = V.str b) = decide (a = b) := fun a b => decide_eq_decide.mpr ⟨fun e => by injection e, fun e => by rw [e]⟩
    -- if
    refine ⟨_, rfl, rfl, _, rfl, ite2 (fun _ => ?_) (fun _ => ?_)⟩
    · refine ⟨_, rfl, _, rfl, _, rfl, again kF T1 S1 (fun va da H2 dva xa T2 _ S2 => ?_)⟩
      refine ⟨_, rfl, _, rfl, _, rfl, _, rfl, again hk T2 S2 (fun vb db H3 dvb xb T3 s23 S3 => ?_)⟩
      refine ⟨_, rfl, _, rfl, _, rfl, _, rfl, _, rfl, _, rfl, again hk T3 S3 (fun vc dc H4 dvc xc T4 s34 S4 => ⟨four, fun r hr' => ?_⟩)⟩
      have zr := Same.upd (o := .tup [.str "if", va, vb, vc]) hr'
      have z4 := s34.trans (Same.b t zr)
      exact k _ _ _ (fun H5 h5 => .tup (h5 _ _ (S4.free T4.tape hr') upd_same) (.cons (.str _) (.cons (dva.later hT.tape (s23.trans z4) H5 h5) (.cons (dvb.later hT.tape z4 H5 h5) (.cons (dvc.later hT.tape (Same.b t zr) H5 h5) .nil))))) (.iff xa xb xc) (T4.same zr) (S4.trans (Same.b t zr))
    -- a word
    refine ⟨_, rfl, rfl, _, rfl, ?_⟩
    rw [sE]
    by_cases k1 : kind = "word"
    · rw [decide_eq_true k1]
      exact iteT ⟨_, rfl, _, rfl, _, rfl, leaf⟩
    rw [decide_eq_false k1]
    refine iteF ⟨_, rfl, rfl, _, rfl, ?_⟩
    rw [sE]
    by_cases k2 : kind = "number"
    · rw [decide_eq_true k2]
      refine iteT ⟨four, fun Y hY => ?_⟩
      have zY := Same.upd (o := .lst [.str "plus", .str "minus", .str "times", .str "over"]) hY
      have nY := T1.tape.ne hY
      refine ⟨_, rfl, t, c, _, rfl, T1.same zY, by decide, big1000 (by decide) (by decide), fun j H2 j0 j4 T2 S2 => ?_⟩
      have S12 := S1.trans ((Same.b t zY).trans S2)
      have all : ∀ v ∈ ([.str "plus", .str "minus", .str "times", .str "over"] : List V), ∃ z : Str, v = .str z ∧ (z = "plus" ∨ z = "minus" ∨ z = "times" ∨ z = "over") := by
        intro v hv
        simp only [List.mem_cons, List.not_mem_nil, or_false] at hv
        rcases hv with rfl | rfl | rfl | rfl
        · exact ⟨_, rfl, .inl rfl⟩
        · exact ⟨_, rfl, .inr (.inl rfl)⟩
        · exact ⟨_, rfl, .inr (.inr (.inl rfl))⟩
        · exact ⟨_, rfl, .inr (.inr (.inr rfl))⟩
      have hj : j.toNat < ([.str "plus", .str "minus", .str "times", .str "over"] : List V).length := by show j.toNat < 4; omega
      obtain ⟨z, ez, hz⟩ := all _ (List.getElem_mem hj)
      refine ⟨Y, _, _, _, rfl, rfl, SqL.of (S2 _ _ nY upd_same), at_of (j := j.toNat) (by omega) ((List.getElem?_eq_getElem hj).trans (congrArg some ez)), ?_⟩
      refine ⟨_, rfl, _, rfl, _, rfl, again kN T2 S12 (fun va da H3 dva xa T3 _ S3 => ?_)⟩
      refine ⟨_, rfl, _, rfl, _, rfl, _, rfl, _, rfl, again kN T3 S3 (fun vb db H4 dvb xb T4 s34 S4 => ⟨three, ?_⟩)⟩
      exact fin2 k2.symm (.inl ⟨hz, rfl, rfl⟩) (dva.later hT.tape s34) dvb xa xb T4 S4
    rw [decide_eq_false k2]
    have k3 : "flag" = kind := by rcases hk with z | z | z; exact absurd z k2; exact absurd z k1; exact z.symm
    -- not
    refine iteF ⟨_, rfl, rfl, _, rfl, ite2 (fun _ => ?_) (fun _ => ?_)⟩
    · exact ⟨_, rfl, _, rfl, _, rfl, again kF T1 S1 (fun va da H2 dva xa T2 _ S2 => ⟨two, fin1 k3 (.inl ⟨rfl, rfl, rfl⟩) dva xa T2 S2⟩)⟩
    -- some kind
    refine ⟨fun σ H' => ∃ kd : Str, KindS kd ∧ σ = [some (.ref t), some (.ref L), some (.str kind), some (.int ((m : Int) + 1 + 1)), some (.int u), some (.int ((m : Int) + 1)), none, none, none, some (.str kd)] ∧ TapeL c H' t ∧ SameB t H H', ?_, ?_⟩
    · refine ⟨three, fun Y hY => ?_⟩
      have zY := Same.upd (o := .lst [.str "number", .str "word", .str "flag"]) hY
      have nY := T1.tape.ne hY
      refine ⟨_, rfl, t, c, _, rfl, T1.same zY, by decide, big1000 (by decide) (by decide), fun j H2 j0 j4 T2 S2 => ?_⟩
      have S12 := S1.trans ((Same.b t zY).trans S2)
      have all : ∀ v ∈ ([.str "number", .str "word", .str "flag"] : List V), ∃ z : Str, v = .str z ∧ KindS z := by
        intro v hv
        simp only [List.mem_cons, List.not_mem_nil, or_false] at hv
        rcases hv with rfl | rfl | rfl
        · exact ⟨_, rfl, .inl rfl⟩
        · exact ⟨_, rfl, .inr (.inl rfl)⟩
        · exact ⟨_, rfl, .inr (.inr rfl)⟩
      have hj : j.toNat < ([.str "number", .str "word", .str "flag"] : List V).length := by show j.toNat < 3; omega
      obtain ⟨z, ez, hz⟩ := all _ (List.getElem_mem hj)
      exact ⟨Y, _, _, _, rfl, rfl, SqL.of (S2 _ _ nY upd_same), at_of (j := j.toNat) (by omega) ((List.getElem?_eq_getElem hj).trans (congrArg some ez)), z, hz, rfl, T2, S12⟩
    clear T1 S1 leaf
    rintro σ H1 ⟨kd, hkd, rfl, T1, S1⟩
    refine ⟨_, rfl, rfl, _, rfl, ite2 (fun _ => ?_) (fun _ => ?_)⟩
    · exact ⟨_, rfl, _, rfl, _, rfl, _, rfl, again hkd T1 S1 (fun va da H2 dva xa T2 _ S2 => ⟨two, fin1 k3 (.inr ⟨rfl, hkd, rfl⟩) dva xa T2 S2⟩)⟩
    refine ⟨_, rfl, rfl, _, rfl, ite2 (fun _ => ?_) (fun _ => ?_)⟩
    · refine ⟨_, rfl, _, rfl, _, rfl, _, rfl, again hkd T1 S1 (fun va da H2 dva xa T2 _ S2 => ?_)⟩
      refine ⟨_, rfl, _, rfl, _, rfl, _, rfl, _, rfl, again hkd T2 S2 (fun vb db H3 dvb xb T3 s23 S3 => ⟨three, ?_⟩)⟩
      exact fin2 k3 (.inr (.inr (.inl ⟨rfl, hkd, rfl⟩))) (dva.later hT.tape s23) dvb xa xb T3 S3
    refine ⟨_, rfl, _, _, rfl, rfl, _, rfl, ite2 (fun _ => ?_) (fun _ => ?_)⟩
    · refine ⟨_, rfl, _, rfl, _, rfl, again kN T1 S1 (fun va da H2 dva xa T2 _ S2 => ?_)⟩
      refine ⟨_, rfl, _, rfl, _, rfl, _, rfl, again kN T2 S2 (fun vb db H3 dvb xb T3 s23 S3 => ⟨three, ?_⟩)⟩
      exact fin2 k3 (.inr (.inl ⟨rfl, rfl, rfl⟩)) (dva.later hT.tape s23) dvb xa xb T3 S3
    refine ⟨two, fun Y hY => ?_⟩
    have zY := Same.upd (o := .lst [.str "both", .str "either"]) hY
    have nY := T1.tape.ne hY
    refine ⟨_, rfl, t, c, _, rfl, T1.same zY, by decide, big1000 (by decide) (by decide), fun j H2 j0 j4 T2 S2 => ?_⟩
    have S12 := S1.trans ((Same.b t zY).trans S2)
    have all : ∀ v ∈ ([.str "both", .str "either"] : List V), ∃ z : Str, v = .str z ∧ (z = "both" ∨ z = "either") := by
      intro v hv
      simp only [List.mem_cons, List.not_mem_nil, or_false] at hv
      rcases hv with rfl | rfl
      · exact ⟨_, rfl, .inl rfl⟩
      · exact ⟨_, rfl, .inr rfl⟩
    have hj : j.toNat < ([.str "both", .str "either"] : List V).length := by show j.toNat < 2; omega
    obtain ⟨z, ez, hz⟩ := all _ (List.getElem_mem hj)
    refine ⟨Y, _, _, _, rfl, rfl, SqL.of (S2 _ _ nY upd_same), at_of (j := j.toNat) (by omega) ((List.getElem?_eq_getElem hj).trans (congrArg some ez)), ?_⟩
    refine ⟨_, rfl, _, rfl, _, rfl, again kF T2 S12 (fun va da H3 dva xa T3 _ S3 => ?_)⟩
    refine ⟨_, rfl, _, rfl, _, rfl, _, rfl, _, rfl, again kF T3 S3 (fun vb db H4 dvb xb T4 s34 S4 => ⟨three, ?_⟩)⟩
    exact fin2 k3 (.inr (.inr (.inr ⟨hz, rfl, rfl⟩))) (dva.later hT.tape s34) dvb xa xb T4 S4
theorem ok_xp (F : Fun K "_law_expression" "_law_expression" sXp f fd) (GD : FnOk P w K mg base CX0 1 fD fdD ["_law_tape_here", "_law_many"] spDrawL) (mD : mg "_law_draw" = some (.ref fD)) (kD : PySem.W.keepIn K (.ref fD) = true) (bD : Binds K fdD ["_law_tape_here", "_law_many"] [])
    (GL : FnOk P w K mg base CX0 3 fL fdL ["_law_tape_here", "_law_columns_here", "_law_kind"] spLf) (mL : mg "_law_leaf" = some (.ref fL)) (kL : PySem.W.keepIn K (.ref fL) = true) (bL : Binds K fdL ["_law_tape_here", "_law_columns_here", "_law_kind"] [])
    (mX : mg "_law_expression" = some (.ref f)) (kX : PySem.W.keepIn K (.ref f) = true) (bX : Binds K fd pXp []) : ∀ n : Nat, FnOk P w K mg base CX0 (3 + n) f fd pXp (spXp n)
  | 0 => fn_none
  | n + 1 => ok_xp1 n F GD mD kD bD GL mL kL bL (ok_xp F GD mD kD bD GL mL kL bL mX kX bX n) mX kX bX
end
end K78
set_option Elab.async false
set_option linter.all false
set_option maxRecDepth 100000
set_option maxHeartbeats 4000000
namespace K78
open PySem PySem.Spec PyProof.Rows L2 Lc
mutual
def dpt : PyData → Nat
  | .tuple ds => dpw ds
  | _ => 0
def dpw : List PyData → Nat
  | .str w :: r => if w = ("column" : Str) ∨ w = ("value" : Str) then 1 else 1 + dpts r
  | _ => 0
def dpts : List PyData → Nat
  | [] => 0
  | d :: r => max (dpt d) (dpts r)
end
theorem dpt_leaf {w : Str} {r : List PyData} (h : w = "column" ∨ w = "value") : dpt (.tuple (.str w :: r)) = 1 := by rw [dpt, dpw, if_pos h]
theorem dpt_op {w : Str} {r : List PyData} (h : ¬ (w = "column" ∨ w = "value")) : dpt (.tuple (.str w :: r)) = 1 + dpts r := by rw [dpt, dpw, if_neg h]
theorem dpts_max : ∀ {ds : List PyData} {m : Nat}, 0 < ds.length → (∃ d ∈ ds, dpt d = m) → (∀ d ∈ ds, dpt d ≤ m) → dpts ds = m
  | [], _, h, _, _ => absurd h (by decide)
  | [d], m, _, ⟨x, hx, e⟩, _ => by
    rw [List.mem_singleton.mp hx] at e
    rw [dpts, dpts, e]
    omega
  | d :: a :: r, m, _, ⟨x, hx, e⟩, hm => by
    have up : dpts (a :: r) ≤ m := by
      have key : ∀ l : List PyData, (∀ d ∈ l, dpt d ≤ m) → dpts l ≤ m := fun l => by
        induction l with
        | nil => intro _; rw [dpts]; omega
        | cons y l ih => intro h; rw [dpts]; have := h y List.mem_cons_self; have := ih (fun d hd => h d (List.mem_cons_of_mem _ hd)); omega
      exact key _ fun d hd => hm d (List.mem_cons_of_mem _ hd)
    have d0 := hm d List.mem_cons_self
    rw [dpts]
    rcases List.mem_cons.mp hx with rfl | hx
    · omega
    · have low : ∀ l : List PyData, x ∈ l → dpt x ≤ dpts l := fun l => by
        induction l with
        | nil => intro h; cases h
        | cons y l ih =>
          intro h
          rw [dpts]
          rcases List.mem_cons.mp h with rfl | h
          · omega
          · have := ih h; omega
      have := low _ hx
      omega
theorem w_leaf {w : Str} (h : w = "not" ∨ w = "missing" ∨ w = "plus" ∨ w = "minus" ∨ w = "times" ∨ w = "over" ∨ w = "less" ∨ w = "same" ∨ w = "both" ∨ w = "either" ∨ w = "if") : ¬ (w = "column" ∨ w = "value") := by
  rcases h with rfl | rfl | rfl | rfl | rfl | rfl | rfl | rfl | rfl | rfl | rfl <;> decide +kernel
theorem OneW.no {w k r : Str} (h : OneW w k r) : ¬ (w = "column" ∨ w = "value") := by
  rcases h with ⟨rfl, _⟩ | ⟨rfl, _⟩ <;> decide +kernel
theorem TwoW.no {w k r : Str} (h : TwoW w k r) : ¬ (w = "column" ∨ w = "value") := by
  rcases h with ⟨rfl | rfl | rfl | rfl, _⟩ | ⟨rfl, _⟩ | ⟨rfl, _⟩ | ⟨rfl | rfl, _⟩ <;> decide +kernel
/-- an expression: a leaf, or a word and its operands -/
theorem Xp.ops {ps : List (Str × Str)} {n : Nat} {k : Str} {d : PyData} (h : Xp ps (n + 1) k d) : (∃ (w : Str) (x : PyData), (w = "column" ∨ w = "value") ∧ d = .tuple [.str w, x]) ∨ ∃ (w : Str) (os : List PyData), ¬ (w = ("column" : Str) ∨ w = ("value" : Str)) ∧ d = .tuple (.str w :: os) ∧ 0 < os.length ∧ os.length ≤ 3 ∧ ∀ o ∈ os, ∃ k', Xp ps n k' o := by
  cases h with
  | col h => exact .inl ⟨_, _, .inl rfl, rfl⟩
  | val h _ => exact .inl ⟨_, _, .inr rfl, rfl⟩
  | one hw ha => exact .inr ⟨_, _, hw.no, rfl, by simp, by simp, fun o ho => by rw [List.mem_singleton.mp ho]; exact ⟨_, ha⟩⟩
  | two hw ha hb => exact .inr ⟨_, _, hw.no, rfl, by simp, by simp, fun o ho => by simp only [List.mem_cons, List.not_mem_nil, or_false] at ho; rcases ho with rfl | rfl; exact ⟨_, ha⟩; exact ⟨_, hb⟩⟩
  | iff ha hb hc => exact .inr ⟨_, _, by decide +kernel, rfl, by simp, by simp, fun o ho => by simp only [List.mem_cons, List.not_mem_nil, or_false] at ho; rcases ho with rfl | rfl | rfl; exact ⟨_, ha⟩; exact ⟨_, hb⟩; exact ⟨_, hc⟩⟩
theorem Xp.zero {ps : List (Str × Str)} {k : Str} {d : PyData} (h : Xp ps 0 k d) : False := nomatch h
theorem cut_tail {x : V} {ys : List V} : cutV (x :: ys) (some 1) none = ys := by
  unfold cutV
  simp [HT.sIx]
theorem tail_not {x : V} {ys : List V} : ¬ (HT.sIx (x :: ys).length 0 (some 1) = 0 ∧ HT.sIx (x :: ys).length (x :: ys).length none = (x :: ys).length) := by
  rintro ⟨z, _⟩
  have : HT.sIx (x :: ys).length 0 (some ((1 : Nat) : Int)) = min 1 (x :: ys).length := HT.sIx_nat _ _ _
  have z' : HT.sIx (x :: ys).length 0 (some ((1 : Nat) : Int)) = 0 := z
  rw [List.length_cons] at *
  omega
theorem at_zero {x : V} {ys : List V} : atI (x :: ys) (0 : Int) = some x := (show atI (x :: ys) ((0 : Nat) : Int) = some x from atI_nat rfl)
def KdP (kvs : List (Key × V)) (ps : List (Str × Str)) : Prop := ∀ z k, (z, k) ∈ ps → valV kvs (Sum.inr z : Key) = some (.str k)
def LeafD (ps : List (Str × Str)) (w : Str) (dx : PyData) (k : Str) : Prop := (w = "column" ∧ ∃ z, dx = .str z ∧ (z, k) ∈ ps) ∨ (w = "value" ∧ Vk k dx ∧ dx ≠ .none ∧ KindS k)
/-- the operands' kinds that a word wants -/
def opsV (w : Str) : Option (List V) :=
  if w = "plus" ∨ w = "minus" ∨ w = "times" ∨ w = "over" ∨ w = "less" then some [.str "number", .str "number"] else if w = "same" then some [.non, .non] else if w = "both" ∨ w = "either" then some [.str "flag", .str "flag"] else if w = "not" then some [.str "flag"] else if w = "missing" then some [.non] else if w = "if" then some [.str "flag", .non, .non] else none
/-- a word, its operands' kinds, the kind of the whole -/
inductive OpK : Str → List Str → Str → Prop
  | one {w k r : Str} (h : OneW w k r) : OpK w [k] r
  | two {w k r : Str} (h : TwoW w k r) : OpK w [k, k] r
  | iff (k : Str) : OpK "if" ["flag", k, k] k
theorem OpK.ops {w r : Str} {ks : List Str} (h : OpK w ks r) : ∃ os, opsV w = some os ∧ os.length = ks.length ∧ ∀ (i : Nat) (o : V), os[i]? = some o → o = .non ∨ ∃ k, ks[i]? = some k ∧ o = .str k := by
  have fin1 : ∀ {o : V} {k : Str}, (o = .non ∨ o = .str k) → ∀ (i : Nat) (x : V), [o][i]? = some x → x = .non ∨ ∃ k', [k][i]? = some k' ∧ x = .str k' := fun {o k} h i x e => by
    match i, e with
    | 0, e => injection e with e; subst e; rcases h with rfl | rfl; exact .inl rfl; exact .inr ⟨_, rfl, rfl⟩
    | i + 1, e => simp at e
  have fin2 : ∀ {o p : V} {k l : Str}, (o = .non ∨ o = .str k) → (p = .non ∨ p = .str l) → ∀ (i : Nat) (x : V), [o, p][i]? = some x → x = .non ∨ ∃ k', [k, l][i]? = some k' ∧ x = .str k' := fun {o p k l} h g i x e => by
    match i, e with
    | 0, e => injection e with e; subst e; rcases h with rfl | rfl; exact .inl rfl; exact .inr ⟨_, rfl, rfl⟩
    | 1, e => injection e with e; subst e; rcases g with rfl | rfl; exact .inl rfl; exact .inr ⟨_, rfl, rfl⟩
    | i + 2, e => simp at e
  cases h with
  | one h =>
    rcases h with ⟨rfl, rfl, _⟩ | ⟨rfl, _, _⟩
    · exact ⟨[.str "flag"], by decide +kernel, rfl, fin1 (.inr rfl)⟩
    · exact ⟨[.non], by decide +kernel, rfl, fin1 (.inl rfl)⟩
  | two h =>
    rcases h with ⟨rfl | rfl | rfl | rfl, rfl, _⟩ | ⟨rfl, rfl, _⟩ | ⟨rfl, _, _⟩ | ⟨rfl | rfl, rfl, _⟩
    · exact ⟨[.str "number", .str "number"], by decide +kernel, rfl, fin2 (.inr rfl) (.inr rfl)⟩
    · exact ⟨[.str "number", .str "number"], by decide +kernel, rfl, fin2 (.inr rfl) (.inr rfl)⟩
    · exact ⟨[.str "number", .str "number"], by decide +kernel, rfl, fin2 (.inr rfl) (.inr rfl)⟩
    · exact ⟨[.str "number", .str "number"], by decide +kernel, rfl, fin2 (.inr rfl) (.inr rfl)⟩
    · exact ⟨[.str "number", .str "number"], by decide +kernel, rfl, fin2 (.inr rfl) (.inr rfl)⟩
    · exact ⟨[.non, .non], by decide +kernel, rfl, fin2 (.inl rfl) (.inl rfl)⟩
    · exact ⟨[.str "flag", .str "flag"], by decide +kernel, rfl, fin2 (.inr rfl) (.inr rfl)⟩
    · exact ⟨[.str "flag", .str "flag"], by decide +kernel, rfl, fin2 (.inr rfl) (.inr rfl)⟩
  | iff k =>
    refine ⟨[.str "flag", .non, .non], by decide +kernel, rfl, fun i x e => ?_⟩
    match i, e with
    | 0, e => injection e with e; subst e; exact .inr ⟨_, rfl, rfl⟩
    | 1, e => injection e with e; exact .inl e.symm
    | 2, e => injection e with e; exact .inl e.symm
    | i + 3, e => simp at e
inductive Xps (ps : List (Str × Str)) (n : Nat) : List Str → List PyData → Prop
  | nil : Xps ps n [] []
  | cons {k : Str} {ks : List Str} {o : PyData} {os : List PyData} (h : Xp ps n k o) (r : Xps ps n ks os) : Xps ps n (k :: ks) (o :: os)
theorem Xps.len {ps : List (Str × Str)} {n : Nat} : ∀ {ks : List Str} {os : List PyData}, Xps ps n ks os → ks.length = os.length
  | _, _, .nil => rfl
  | _, _, .cons _ r => by rw [List.length_cons, List.length_cons, r.len]
theorem Xps.get {ps : List (Str × Str)} {n : Nat} : ∀ {ks : List Str} {os : List PyData}, Xps ps n ks os → ∀ (i : Nat) (o : PyData), os[i]? = some o → ∃ k, ks[i]? = some k ∧ Xp ps n k o
  | _, _, .nil, i, o, e => by simp at e
  | _, _, .cons h r, 0, o, e => by injection e with e; subst e; exact ⟨_, rfl, h⟩
  | _, _, .cons h r, i + 1, o, e => r.get i o (by simpa using e)
theorem Vk.kind {k : Str} {d : PyData} (h : Vk k d) (nn : d ≠ .none) : KindS k := by
  cases h with
  | non => exact absurd rfl nn
  | num => exact .inl rfl
  | flag => exact .inr (.inr rfl)
  | word => exact .inr (.inl rfl)
theorem Xp.ops2 {ps : List (Str × Str)} {n : Nat} {k : Str} {d : PyData} (h : Xp ps (n + 1) k d) : (∃ (w : Str) (x : PyData), (w = "column" ∨ w = "value") ∧ d = .tuple [.str w, x] ∧ LeafD ps w x k) ∨ ∃ (w : Str) (os : List PyData) (ks : List Str), ¬ (w = "column" ∨ w = "value") ∧ d = .tuple (.str w :: os) ∧ OpK w ks k ∧ Xps ps n ks os := by
  cases h with
  | col h => exact .inl ⟨_, _, .inl rfl, rfl, .inl ⟨rfl, _, rfl, h⟩⟩
  | val h nn => exact .inl ⟨_, _, .inr rfl, rfl, .inr ⟨rfl, h, nn, h.kind nn⟩⟩
  | one hw ha => exact .inr ⟨_, _, _, hw.no, rfl, .one hw, .cons ha .nil⟩
  | two hw ha hb => exact .inr ⟨_, _, _, hw.no, rfl, .two hw, .cons ha (.cons hb .nil)⟩
  | iff ha hb hc => exact .inr ⟨_, _, _, by decide +kernel, rfl, .iff _, .cons ha (.cons hb (.cons hc .nil))⟩
theorem OpK.ne {w r : Str} {ks : List Str} (h : OpK w ks r) : ∃ l k0, ks = l ++ [k0] ∧ ks.length ≤ 3 := by
  cases h with
  | one _ => exact ⟨[], _, rfl, by simp⟩
  | two _ => exact ⟨[_], _, rfl, by simp⟩
  | iff => exact ⟨[_, _], _, rfl, by simp⟩
abbrev sWithin : Stmt := top 21
def spWithin : Sp := fun vs H Q _ => ∃ (a : Addr) (n d : Int), vs = [.ref a] ∧ H a = some (.tup [.int n, .int d]) ∧ Q (.bl (limB (.int n) (.int d))) H
section
variable {P : Program} {w : World} {K : PySem.W.Frag} {mg : Str → Option Value} {base : Heap} {f : Addr} {fd : FuncData} {u1 : Tok} {fR fW fN fD fL fA fQ fX fY : Addr} {fdR fdW fdN fdD fdL fdA fdQ fdX fdY : FuncData}
theorem scWithin : FnScope ["number"] ["number"] (defScope sWithin) := ⟨rfl, rfl, rfl, by decide +kernel, rfl, by decide +kernel, by decide +kernel⟩
theorem ok_within (F : Fun K "within_limit" "within_limit" sWithin f fd) (T : Bt mg) (m1 : mg "LIMIT" = some (.int lim u1)) : FnOk P w K mg base CX0 1 f fd ["number"] spWithin := by
  refine F.ok scWithin (fun vs H Q E h => ?_) (fun cdv A outer s H vs Q E hr h => ?_)
  · obtain ⟨a, n, d, rfl, _⟩ := h
    rfl
  · obtain ⟨a, n, d, rfl, ha, k⟩ := h
    refine ⟨_, pss_one (ps_ret (pe_and (pe_cmpR op_le (pe_callB call_abs (by rfl) T.abs boot_abs (pa_cons (pe_ix ix_tup (pv 0) pe_int (fun _ _ => rfl)) pa_nil)) (pe_glob (v := .int lim) (by rfl) m1 ⟨_, rfl⟩) (nomark _))
      (pe_one (pe_cmpR op_le (pe_ix ix_tup (pv 0) pe_int (fun _ _ => rfl)) (pe_glob (v := .int lim) (by rfl) m1 ⟨_, rfl⟩) (nomark _))))), ?_⟩
    refine ⟨_, rfl, a, _, _, _, rfl, rfl, SqT.of ha, rfl, n, rfl, _, _, rfl, rfl, _, rfl, ?_⟩
    have e : limB (.int n) (.int d) = (decide ((if n < 0 then -n else n) ≤ lim) && decide (d ≤ lim)) := rfl
    rw [e] at k
    by_cases z : (if n < 0 then -n else n) ≤ lim
    · rw [decide_eq_true z] at k ⊢
      exact iteT ⟨_, rfl, a, _, _, _, rfl, rfl, SqT.of ha, rfl, _, _, rfl, rfl, k⟩
    · rw [decide_eq_false z] at k ⊢
      exact iteF k
end
end K78
set_option Elab.async false
set_option linter.all false
set_option maxRecDepth 100000
set_option maxHeartbeats 4000000
namespace K78
open PySem PySem.Spec PyProof.Rows L2 Lc
theorem opsV_all {p : Str → List V → Prop} (h1 : p "plus" [.str "number", .str "number"]) (h2 : p "minus" [.str "number", .str "number"]) (h3 : p "times" [.str "number", .str "number"]) (h4 : p "over" [.str "number", .str "number"]) (h5 : p "less" [.str "number", .str "number"]) (h6 : p "same" [.non, .non]) (h7 : p "both" [.str "flag", .str "flag"]) (h8 : p "either" [.str "flag", .str "flag"]) (h9 : p "not" [.str "flag"]) (h10 : p "missing" [.non]) (h11 : p "if" [.str "flag", .non, .non]) : ∀ x os, opsV x = some os → p x os := by
  intro x os h
  unfold opsV at h
  split at h
  · obtain rfl := Option.some.inj h
    rename_i z
    rcases z with rfl | rfl | rfl | rfl | rfl
    · exact h1
    · exact h2
    · exact h3
    · exact h4
    · exact h5
  split at h
  · obtain rfl := Option.some.inj h
    rename_i z
    subst z
    exact h6
  split at h
  · obtain rfl := Option.some.inj h
    rename_i z
    rcases z with rfl | rfl
    · exact h7
    · exact h8
  split at h
  · obtain rfl := Option.some.inj h
    rename_i z
    subst z
    exact h9
  split at h
  · obtain rfl := Option.some.inj h
    rename_i z
    subst z
    exact h10
  split at h
  · obtain rfl := Option.some.inj h
    rename_i z
    subst z
    exact h11
  cases h
/-! ## texts of numbers, values, expressions -/
abbrev CL (x : Str) : List Nat := x.cps.toList
def TS (l : List Nat) : Str := ⟨l.toArray⟩
theorem cl_ts (l : List Nat) : CL (TS l) = l := by simp [CL, TS]
theorem ts_cl (x : Str) : TS (CL x) = x := str_ext (cl_ts _)
theorem ts_of {x : Str} {l : List Nat} (h : CL x = l) : x = TS l := by rw [← h, ts_cl]
theorem ts_inj {a b : List Nat} (h : TS a = TS b) : a = b := by rw [← cl_ts a, h, cl_ts]
theorem ts_len (l : List Nat) : (TS l).length = l.length := by rw [lenL]; exact congrArg List.length (cl_ts l)
theorem ts_app (a b : List Nat) : TS a ++ TS b = TS (a ++ b) := str_ext (by rw [appL]; show CL (TS a) ++ CL (TS b) = CL (TS (a ++ b)); rw [cl_ts, cl_ts, cl_ts])
def intL (n : Int) : List Nat := (if n < 0 then [45] else []) ++ digs n.natAbs
theorem int_str (n : Int) : PySem.Str.ofString (toString n) = TS (intL n) := by
  refine ts_of ?_
  unfold intL
  cases n with
  | ofNat m =>
    rw [if_neg (show ¬ Int.ofNat m < 0 from Int.not_lt.mpr (Int.natCast_nonneg m))]
    exact numL m
  | negSucc m =>
    rw [if_pos (Int.negSucc_lt_zero m)]
    have e : toString (Int.negSucc m) = "-" ++ toString ((m + 1 : Nat) : Int) := rfl
    have e2 : PySem.Str.ofString ("-" ++ toString ((m + 1 : Nat) : Int)) = PySem.Str.ofString "-" ++ PySem.Str.ofString (toString ((m + 1 : Nat) : Int)) := by
      refine str_ext ?_
      rw [appL, PySem.Str.ofString_eq_toList, PySem.Str.ofString_eq_toList, PySem.Str.ofString_eq_toList, String.toList_append, List.map_append]
    rw [e, e2]
    show (PySem.Str.ofString "-" ++ PySem.Str.ofString (toString ((m + 1 : Nat) : Int))).cps.toList = _
    rw [appL, numL]
    rfl
def ratL (n d : Int) : List Nat := if d = 1 then intL n else intL n ++ 47 :: intL d
def valL : PyData → List Nat
  | .bool true => [35, 121, 101, 115]
  | .bool false => [35, 110, 111]
  | .str x => 39 :: CL x
  | .tuple [.int n, .int d] => ratL n d
  | _ => []
def colL : List PyData → List Nat
  | [.str z] => CL z
  | _ => []
def valsL : List PyData → List Nat
  | [d] => 61 :: valL d
  | _ => []
mutual
def shL : PyData → List Nat
  | .tuple ds => shW ds
  | _ => []
def shW : List PyData → List Nat
  | .str w :: r => if w = ("column" : Str) then colL r else if w = ("value" : Str) then valsL r else 40 :: CL w ++ shLs r ++ [41]
  | _ => []
def shLs : List PyData → List Nat
  | [] => []
  | d :: r => 32 :: shL d ++ shLs r
end
mutual
def tkL : PyData → List (List Nat)
  | .tuple ds => tkW ds
  | _ => []
def tkW : List PyData → List (List Nat)
  | .str w :: r => if w = ("column" : Str) then [colL r] else if w = ("value" : Str) then [valsL r] else [40] :: CL w :: tkLs r ++ [[41]]
  | _ => []
def tkLs : List PyData → List (List Nat)
  | [] => []
  | d :: r => [32] :: tkL d ++ tkLs r
end
/-- expressions by their form -/
inductive Xf : Nat → PyData → Prop
  | col {n : Nat} {z : Str} (h : Sh 12 z) (hn : nameB (.str z) = true) : Xf (n + 1) (.tuple [.str "column", .str z])
  | val {n : Nat} {k : Str} {d : PyData} (h : Vk k d) (nn : d ≠ .none) : Xf (n + 1) (.tuple [.str "value", d])
  | op {n : Nat} {w : Str} {os : List PyData} {ops : List V} (h : opsV w = some ops) (l : ops.length = os.length) (ho : ∀ o ∈ os, Xf n o) : Xf (n + 1) (.tuple (.str w :: os))
theorem Xf.mono {n : Nat} {d : PyData} (h : Xf n d) : ∀ {m : Nat}, n ≤ m → Xf m d := by
  induction h with
  | col h hn => intro m l; obtain ⟨j, rfl⟩ : ∃ j, m = j + 1 := ⟨m - 1, by omega⟩; exact .col h hn
  | val h nn => intro m l; obtain ⟨j, rfl⟩ : ∃ j, m = j + 1 := ⟨m - 1, by omega⟩; exact .val h nn
  | op h l _ ih => intro m lm; obtain ⟨j, rfl⟩ : ∃ j, m = j + 1 := ⟨m - 1, by omega⟩; exact .op h l fun o ho => ih o ho (by omega)
theorem Xps.mem {ps : List (Str × Str)} {n : Nat} : ∀ {ks : List Str} {os : List PyData}, Xps ps n ks os → ∀ o ∈ os, ∃ k, Xp ps n k o
  | _, _, .nil, o, h => by cases h
  | _, _, .cons h r, o, hm => by
    rcases List.mem_cons.mp hm with rfl | hm
    · exact ⟨_, h⟩
    · exact Xps.mem r o hm
theorem xp_xf {ps : List (Str × Str)} (hp : ∀ p ∈ ps, Sh 12 p.1 ∧ nameB (.str p.1) = true) : ∀ {n : Nat} {k : Str} {d : PyData}, Xp ps n k d → Xf n d := by
  intro n k d h
  induction h with
  | col h => exact .col (hp _ h).1 (hp _ h).2
  | val h nn => exact .val h nn
  | one hw _ ia =>
    obtain ⟨ops, e, l, _⟩ := (OpK.one hw).ops
    exact .op e l fun o ho => by rw [List.mem_singleton.mp ho]; exact ia
  | two hw _ _ ia ib =>
    obtain ⟨ops, e, l, _⟩ := (OpK.two hw).ops
    exact .op e l fun o ho => by simp only [List.mem_cons, List.not_mem_nil, or_false] at ho; rcases ho with rfl | rfl; exact ia; exact ib
  | @iff n k a b c _ _ _ ia ib ic =>
    obtain ⟨ops, e, l, _⟩ := (OpK.iff k).ops
    exact .op e l fun o ho => by simp only [List.mem_cons, List.not_mem_nil, or_false] at ho; rcases ho with rfl | rfl | rfl; exact ia; exact ib; exact ic
/-! ### signs -/
abbrev sgl (c : Nat) : Prop := c = 40 ∨ c = 41 ∨ c = 32
def Plain (t : List Nat) : Prop := t ≠ [] ∧ ∀ c ∈ t, ¬ sgl c
theorem opsV_words {w : Str} {ops : List V} (h : opsV w = some ops) : Plain (CL w) ∧ (CL w).length ≤ 7 ∧ 1 ≤ ops.length ∧ ops.length ≤ 3 ∧ ¬ (w = "column" ∨ w = "value") := by
  have key : ∀ x os, opsV x = some os → Plain (CL x) ∧ (CL x).length ≤ 7 ∧ 1 ≤ os.length ∧ os.length ≤ 3 ∧ ¬ (x = "column" ∨ x = "value") := by
    refine opsV_all ?_ ?_ ?_ ?_ ?_ ?_ ?_ ?_ ?_ ?_ ?_ <;> (unfold Plain sgl; decide +kernel)
  exact key w ops h
theorem name_signs {z : Str} (h : nameB (.str z) = true) : CL z ≠ [] ∧ (CL z).length ≤ 12 ∧ (∀ c ∈ CL z, 48 ≤ c ∧ c ≤ 122) ∧ ∀ c r, CL z = c :: r → 97 ≤ c := by
  have h : nameL z.cps.toList = true := h
  have all : ∀ c ∈ signs.cps.toList, 48 ≤ c ∧ c ≤ 122 := by decide +kernel
  have low : ∀ c ∈ letters.cps.toList, 97 ≤ c := by decide +kernel
  cases e : z.cps.toList with
  | nil => rw [e] at h; cases h
  | cons c r =>
    rw [e] at h
    have h : (decide ((c :: r).length ≤ 12) && (inL c && (c :: r).all inS)) = true := h
    obtain ⟨h1, h2⟩ := Bool.and_eq_true_iff.mp h
    obtain ⟨h3, h4⟩ := Bool.and_eq_true_iff.mp h2
    rw [show CL z = c :: r from e]
    refine ⟨nofun, of_decide_eq_true h1, fun x hx => all x (of_decide_eq_true (List.all_eq_true.mp h4 x hx)), fun x y e' => ?_⟩
    injection e' with e1 e2
    rw [← e1]
    exact low c (of_decide_eq_true h3)
theorem digs_signs (m : Nat) : digs m ≠ [] ∧ ∀ c ∈ digs m, 48 ≤ c ∧ c ≤ 57 := by
  refine ⟨?_, fun c hc => digs_all m c hc⟩
  obtain ⟨c, r, e, _⟩ := digs_head m
  rw [e]
  nofun
theorem int_signs (n : Int) : intL n ≠ [] ∧ ∀ c ∈ intL n, c = 45 ∨ (48 ≤ c ∧ c ≤ 57) := by
  obtain ⟨h1, h2⟩ := digs_signs n.natAbs
  unfold intL
  refine ⟨?_, fun c hc => ?_⟩
  · split
    · nofun
    · exact h1
  · rcases List.mem_append.mp hc with hc | hc
    · split at hc
      · exact .inl (by simpa using hc)
      · cases hc
    · exact .inr (h2 c hc)
theorem rat_signs (n d : Int) : ratL n d ≠ [] ∧ ∀ c ∈ ratL n d, 45 ≤ c ∧ c ≤ 57 := by
  obtain ⟨h1, h2⟩ := int_signs n
  obtain ⟨h3, h4⟩ := int_signs d
  have f : ∀ {l : List Nat}, (∀ c ∈ l, c = 45 ∨ (48 ≤ c ∧ c ≤ 57)) → ∀ c ∈ l, 45 ≤ c ∧ c ≤ 57 := fun h c hc => by
    rcases h c hc with rfl | h
    · decide
    · omega
  unfold ratL
  split
  · exact ⟨h1, f h2⟩
  · refine ⟨by intro z; simp at z, fun c hc => ?_⟩
    rcases List.mem_append.mp hc with hc | hc
    · exact f h2 c hc
    · rcases List.mem_cons.mp hc with rfl | hc
      · decide
      · exact f h4 c hc
theorem int_len {n : Int} (h : n.natAbs ≤ 10000000000000000000000000000000000000000) : (intL n).length ≤ 42 := by
  have := digs_len 41 n.natAbs (by decide) (Nat.lt_of_le_of_lt h (by decide))
  unfold intL
  rw [List.length_append]
  split <;> simp <;> omega
theorem val_text {k : Str} {d : PyData} (h : Vk k d) (nn : d ≠ .none) : Plain (61 :: valL d) ∧ (valL d).length ≤ 90 := by
  have pl : ∀ {l : List Nat}, (∀ c ∈ l, 42 ≤ c ∨ c = 39 ∨ c = 35) → Plain (61 :: l) := fun {l} hl => ⟨nofun, fun c hc => by
    rcases List.mem_cons.mp hc with rfl | hc
    · unfold sgl; decide
    · have := hl c hc
      unfold sgl
      omega⟩
  cases h with
  | non => exact absurd rfl nn
  | num rt h1 h2 =>
    refine ⟨pl fun c hc => .inl ?_, ?_⟩
    · have := (rat_signs _ _).2 c hc
      omega
    · show (ratL _ _).length ≤ 90
      have a := int_len h1
      have b := int_len h2
      unfold ratL
      split
      · omega
      · rw [List.length_append, List.length_cons]; omega
  | flag b => cases b <;> (refine ⟨pl ?_, ?_⟩ <;> decide)
  | @word x hx hn =>
    obtain ⟨_, h2, h3, _⟩ := name_signs hn
    refine ⟨pl fun c hc => ?_, ?_⟩
    · rcases List.mem_cons.mp hc with rfl | hc
      · exact .inr (.inl rfl)
      · have := h3 c hc
        omega
    · show (39 :: CL x).length ≤ 90
      rw [List.length_cons]
      omega
theorem col_plain {z : Str} (hn : nameB (.str z) = true) : Plain (CL z) := by
  obtain ⟨h1, _, h3, _⟩ := name_signs hn
  refine ⟨h1, fun c hc => ?_⟩
  have := h3 c hc
  unfold sgl
  omega
theorem tk_col {z : Str} : tkL (.tuple [.str "column", .str z]) = [CL z] := by rw [tkL, tkW, if_pos rfl, colL]
theorem tk_val {d : PyData} : tkL (.tuple [.str "value", d]) = [61 :: valL d] := by rw [tkL, tkW, if_neg (by decide +kernel), if_pos rfl, valsL]
theorem tk_op {w : Str} {os : List PyData} (h : ¬ (w = "column" ∨ w = "value")) : tkL (.tuple (.str w :: os)) = [40] :: CL w :: tkLs os ++ [[41]] := by rw [tkL, tkW, if_neg (fun e => h (.inl e)), if_neg (fun e => h (.inr e))]
theorem sh_col {z : Str} : shL (.tuple [.str "column", .str z]) = CL z := by rw [shL, shW, if_pos rfl, colL]
theorem sh_val {d : PyData} : shL (.tuple [.str "value", d]) = 61 :: valL d := by rw [shL, shW, if_neg (by decide +kernel), if_pos rfl, valsL]
theorem sh_op {w : Str} {os : List PyData} (h : ¬ (w = "column" ∨ w = "value")) : shL (.tuple (.str w :: os)) = 40 :: CL w ++ shLs os ++ [41] := by rw [shL, shW, if_neg (fun e => h (.inl e)), if_neg (fun e => h (.inr e))]
theorem xf_flat {n : Nat} {d : PyData} (h : Xf n d) : (tkL d).flatten = shL d := by
  induction h with
  | col => rw [tk_col, sh_col]; simp
  | val => rw [tk_val, sh_val]; simp
  | @op n w os ops h l ho ih =>
    have nw := (opsV_words h).2.2.2.2
    rw [tk_op nw, sh_op nw]
    have e : (tkLs os).flatten = shLs os := by
      clear h l
      induction os with
      | nil => rw [tkLs, shLs]; rfl
      | cons o r ih2 =>
        rw [tkLs, shLs, List.flatten_append, List.flatten_cons, ih o List.mem_cons_self, ih2 (fun x hx => ho x (List.mem_cons_of_mem _ hx)) fun x hx => ih x (List.mem_cons_of_mem _ hx)]
        rfl
    simp [e]
def szT : Nat → Nat
  | 0 => 0
  | n + 1 => 3 * szT n + 100
theorem xf_len {n : Nat} {d : PyData} (h : Xf n d) : (shL d).length ≤ szT n := by
  induction h with
  | @col n z h hn =>
    have := (name_signs hn).2.1
    rw [sh_col, szT]
    omega
  | @val n k d h nn =>
    have := (val_text h nn).2
    rw [sh_val, szT, List.length_cons]
    omega
  | @op n w os ops h l ho ih =>
    obtain ⟨_, h2, h3, h4, nw⟩ := opsV_words h
    have key : ∀ l : List PyData, (∀ o ∈ l, (shL o).length ≤ szT n) → (shLs l).length ≤ l.length * (szT n + 1) := fun l => by
      induction l with
      | nil => intro _; rw [shLs]; exact Nat.zero_le _
      | cons o r ih2 =>
        intro hl
        have a := hl o List.mem_cons_self
        have b := ih2 fun x hx => hl x (List.mem_cons_of_mem _ hx)
        rw [shLs, List.length_append, List.length_cons, List.length_cons, Nat.succ_mul]
        omega
    have := key os ih
    have l3 : os.length ≤ 3 := by omega
    have : os.length * (szT n + 1) ≤ 3 * (szT n + 1) := Nat.mul_le_mul_right _ l3
    rw [sh_op nw, szT]
    simp only [List.length_append, List.length_cons, List.length_nil]
    omega
/-! ### the text's pieces -/
inductive Sep : List (List Nat) → Prop
  | nil : Sep []
  | one {c : Nat} {r : List (List Nat)} (h : sgl c) (hr : Sep r) : Sep ([c] :: r)
  | pl {t : List Nat} {r : List (List Nat)} (h : Plain t) (hs : r = [] ∨ ∃ c r', r = [c] :: r' ∧ sgl c) (hr : Sep r) : Sep (t :: r)
theorem xf_sep {n : Nat} {d : PyData} (h : Xf n d) : ∀ {r : List (List Nat)}, (r = [] ∨ ∃ c r', r = [c] :: r' ∧ sgl c) → Sep r → Sep (tkL d ++ r) := by
  induction h with
  | col h hn => intro r hs hr; rw [tk_col]; exact .pl (col_plain hn) hs hr
  | val h nn => intro r hs hr; rw [tk_val]; exact .pl (val_text h nn).1 hs hr
  | @op n w os ops h l ho ih =>
    intro r hs hr
    obtain ⟨h1, _, h3, _, nw⟩ := opsV_words h
    rw [tk_op nw]
    have end_ : Sep ([41] :: r) := .one (.inr (.inl rfl)) hr
    have key : ∀ l : List PyData, (∀ o ∈ l, ∀ {r : List (List Nat)}, (r = [] ∨ ∃ c r', r = [c] :: r' ∧ sgl c) → Sep r → Sep (tkL o ++ r)) → Sep (tkLs l ++ ([41] :: r)) ∧ ∃ c r', tkLs l ++ ([41] :: r) = [c] :: r' ∧ sgl c := fun l => by
      induction l with
      | nil => intro _; rw [tkLs]; exact ⟨end_, 41, r, rfl, .inr (.inl rfl)⟩
      | cons o s ih2 =>
        intro hl
        obtain ⟨a, b⟩ := ih2 fun x hx => hl x (List.mem_cons_of_mem _ hx)
        rw [tkLs]
        refine ⟨?_, 32, tkL o ++ tkLs s ++ ([41] :: r), by simp, .inr (.inr rfl)⟩
        have := hl o List.mem_cons_self (r := tkLs s ++ ([41] :: r)) (.inr b) a
        show Sep ([32] :: tkL o ++ tkLs s ++ ([41] :: r))
        rw [List.cons_append, List.cons_append, List.append_assoc]
        exact .one (.inr (.inr rfl)) this
    obtain ⟨a, b⟩ := key os ih
    have e : ([40] :: CL w :: tkLs os ++ [[41]]) ++ r = [40] :: CL w :: (tkLs os ++ ([41] :: r)) := by simp
    rw [e]
    exact .one (.inl rfl) (.pl h1 (.inr b) a)
def pfold : List Nat → Nat → List Nat → List (Nat × List Nat)
  | [], at_, cur => if cur = [] then [] else [(at_ - cur.length, cur)]
  | c :: r, at_, cur => if c = 40 ∨ c = 41 ∨ c = 32 then (if cur = [] then [] else [(at_ - cur.length, cur)]) ++ (at_, [c]) :: pfold r (at_ + 1) [] else pfold r (at_ + 1) (cur ++ [c])
def ptok : Nat → List (List Nat) → List (Nat × List Nat)
  | _, [] => []
  | p, t :: r => (p, t) :: ptok (p + t.length) r
theorem pfold_run : ∀ {t : List Nat}, (∀ c ∈ t, ¬ sgl c) → ∀ (rest : List Nat) (p : Nat) (cur : List Nat), pfold (t ++ rest) p cur = pfold rest (p + t.length) (cur ++ t)
  | [], _, rest, p, cur => by simp
  | c :: t, h, rest, p, cur => by
    rw [List.cons_append, pfold, if_neg (h c List.mem_cons_self), pfold_run (fun x hx => h x (List.mem_cons_of_mem _ hx))]
    rw [List.length_cons, List.append_assoc]
    congr 1
    omega
theorem pfold_tok : ∀ {toks : List (List Nat)}, Sep toks → ∀ p, pfold toks.flatten p [] = ptok p toks := by
  intro toks h
  induction h with
  | nil => intro p; rfl
  | @one c r hc hr ih =>
    intro p
    show pfold (c :: r.flatten) p [] = (p, [c]) :: ptok (p + 1) r
    rw [pfold, if_pos hc, if_pos rfl, ih]
    rfl
  | @pl t r hp hs hr ih =>
    intro p
    rw [List.flatten_cons, pfold_run hp.2, List.nil_append, ptok]
    have e : p + t.length - t.length = p := by omega
    rcases hs with rfl | ⟨c, r', rfl, hc⟩
    · show pfold [] _ t = _
      rw [pfold, if_neg hp.1, e]
      rfl
    · have i2 := ih (p + t.length)
      have e2 : ([c] :: r').flatten = c :: r'.flatten := rfl
      rw [e2, pfold, if_pos hc, if_pos rfl] at i2
      rw [e2, pfold, if_pos hc, if_neg hp.1, e]
      have i3 : (p + t.length, [c]) :: pfold r'.flatten (p + t.length + 1) [] = ptok (p + t.length) ([c] :: r') := by rw [← i2]; rfl
      rw [← i3]
      rfl
theorem ptok_map : ∀ (toks : List (List Nat)) (p : Nat), (ptok p toks).map (·.2) = toks
  | [], _ => rfl
  | t :: r, p => by rw [ptok, List.map_cons, ptok_map r]
end K78
set_option Elab.async false
set_option linter.all false
set_option maxRecDepth 100000
set_option maxHeartbeats 4000000
namespace K78
open PySem PySem.Spec PyProof.Rows L2 Lc
theorem dh_pair {H : Hp} {x : V} {n d : Int} (h : Dh H x (.tuple [.int n, .int d])) : ∃ p, x = .ref p ∧ H p = some (.tup [.int n, .int d]) := by
  cases h with
  | tup e hs =>
    cases hs with
    | cons a r =>
      cases r with
      | cons b r =>
        cases r
        cases a
        cases b
        exact ⟨_, rfl, e⟩
def isTB : PyData → Bool
  | .bool true => true
  | _ => false
def isFB : PyData → Bool
  | .bool false => true
  | _ => false
def spShr : Sp := fun vs H Q _ => ∃ (p : Addr) (n d : Int), vs = [.ref p] ∧ H p = some (.tup [.int n, .int d]) ∧ n.natAbs ≤ 10000000000000000000000000000000000000000 ∧ d.natAbs ≤ 10000000000000000000000000000000000000000 ∧ Q (.str (TS (ratL n d))) H
def spShv : Sp := fun vs H Q _ => ∃ (v : V) (d : PyData) (kd : Str), vs = [v] ∧ Dh H v d ∧ Vk kd d ∧ d ≠ .none ∧ ∀ H', Same H H' → Q (.str (TS (valL d))) H'
def spSh (n : Nat) : Sp := fun vs H Q _ => ∃ (v : V) (d : PyData), vs = [v] ∧ Dh H v d ∧ Xf n d ∧ n ≤ 8 ∧ ∀ H', Same H H' → Q (.str (TS (shL d))) H'
theorem lg_lim {n : Int} (h : n.natAbs ≤ 10000000000000000000000000000000000000000) : n.natAbs.log2 < 1920 := by
  by_cases z : n.natAbs = 0
  · rw [z]; decide
  · exact Nat.lt_of_lt_of_le ((Nat.log2_lt z).mpr (Nat.lt_of_le_of_lt h (show 10000000000000000000000000000000000000000 < 2 ^ 140 by decide))) (by decide)
theorem sh_join (x : Str) (ys : List Str) : CL (Txt.join (PySem.Str.ofString " ") (x :: ys)) = CL x ++ (ys.map fun y => 32 :: CL y).flatten := by
  have e : ∀ zs, Txt.join (PySem.Str.ofString " ") zs = Str.join (PySem.Str.ofString " ") zs := fun zs => StrLaws.glued_eq_join (PySem.Str.ofString " ") zs
  rw [e]
  induction ys generalizing x with
  | nil => simp [Str.join]
  | cons y r ih =>
    have e : Str.join (PySem.Str.ofString " ") (x :: y :: r) = x ++ PySem.Str.ofString " " ++ Str.join (PySem.Str.ofString " ") (y :: r) := rfl
    have s : CL (PySem.Str.ofString " ") = [32] := by decide +kernel
    show (Str.join (PySem.Str.ofString " ") (x :: y :: r)).cps.toList = _
    rw [e, appL, appL]
    have := ih y
    show CL x ++ CL (PySem.Str.ofString " ") ++ CL (Str.join (PySem.Str.ofString " ") (y :: r)) = _
    rw [this, s]
    simp
theorem shLs_flat (os : List PyData) : (os.map fun o => 32 :: shL o).flatten = shLs os := by
  induction os with
  | nil => rw [shLs]; rfl
  | cons o r ih => rw [List.map_cons, List.flatten_cons, ih, shLs]
theorem shs_sum {n : Nat} {os : List PyData} (h : ∀ o ∈ os, Xf n o) : ((os.map fun o => TS (shL o)).map (·.length)).sum ≤ os.length * szT n := by
  induction os with
  | nil => exact Nat.zero_le _
  | cons o r ih =>
    have a := xf_len (h o List.mem_cons_self)
    have b := ih fun x hx => h x (List.mem_cons_of_mem _ hx)
    rw [List.map_cons, List.map_cons, List.sum_cons, List.length_cons, Nat.succ_mul, ts_len]
    omega
theorem szT_le {n : Nat} (h : n ≤ 8) : szT n ≤ 330000 := by
  have : n = 0 ∨ n = 1 ∨ n = 2 ∨ n = 3 ∨ n = 4 ∨ n = 5 ∨ n = 6 ∨ n = 7 ∨ n = 8 := by omega
  rcases this with rfl | rfl | rfl | rfl | rfl | rfl | rfl | rfl | rfl <;> decide +kernel
theorem xf_tup {n : Nat} {d : PyData} (h : Xf n d) : ∃ ds, d = .tuple ds := by cases h <;> exact ⟨_, rfl⟩
theorem Xf.zero {d : PyData} (h : Xf 0 d) : False := nomatch h
theorem Xf.noL {n : Nat} {d : PyData} (h : Xf n d) : Lc.noL d = true := by
  induction h with
  | col _ _ => rfl
  | val h _ => cases h <;> rfl
  | @op n w os ops h l ho ih =>
    rw [Lc.noL, noLs_all]
    intro x hx
    rcases List.mem_cons.mp hx with rfl | hx
    · rfl
    · exact ih x hx
abbrev teShe (n : Nat) : TE := tCall (spSh n) [] E0 (tCons (tVar 2) tNil)
section
variable {P : Program} {w : World} {K : PySem.W.Frag} {mg : Str → Option Value} {base : Heap} {f : Addr} {fd : FuncData}
abbrev sShr : Stmt := top 1
abbrev nShr : List Str := ["number", "n", "d"]
abbrev pShr : List Str := ["number"]
theorem scShr : FnScope nShr pShr (defScope sShr) := ⟨rfl, rfl, rfl, by decide +kernel, rfl, by decide +kernel, by decide +kernel⟩
section
theorem ok_Shr (F : Fun K "show_rational" "show_rational" sShr f fd) (T : Bt mg) : FnOk P w K mg base CX0 1 f fd pShr (spShr) := by
  refine F.ok scShr (fun vs H Q E h => ?_) (fun cdv A outer s H vs Q E hr h => ?_)
  · obtain ⟨p, n, d, rfl, _⟩ := h
    rfl
  · obtain ⟨p, n, d, rfl, hp, b1, b2, k⟩ := h
    refine ⟨_, (pss_cons (ps_asg (pv 0) (pg_tup rfl (pgs_cons (pg_name (i := 1) scShr.nd rfl (.inl rfl)) (pgs_cons (pg_name (i := 2) scShr.nd rfl (.inl rfl)) pgs_nil))))
      (pss_one (ps_ret (pe_ifExp (pt_cmpR op_eq (pv 2) pe_int (nomark _)) (pe_callTy call_str_int (by rfl) T.str boot_str (pa_cons (pv 1) pa_nil)) (pe_joined (.cons (pe_fmt (pv 1)) (.cons pe_str (.cons (pe_fmt (pv 2)) .nil)))))))), ?_⟩
    have line : ∀ {l : List Nat}, l.length ≤ 100 → (TS l).length ≤ sizeLine := fun {l} h => by rw [ts_len]; exact Nat.le_trans h (by decide)
    have a := int_len b1
    have b := int_len b2
    refine ⟨_, rfl, p, _, rfl, SqT.of hp, rfl, _, _, rfl, _, _, rfl, rfl, ?_⟩
    refine ⟨_, rfl, rfl, _, rfl, ?_⟩
    unfold ratL at k
    by_cases z : d = 1
    · rw [decide_eq_true (show V.int d = V.int 1 by rw [z])]
      rw [if_pos z, ← int_str] at k
      exact iteT ⟨_, rfl, n, rfl, lg_lim b1, k⟩
    · rw [decide_eq_false (show ¬ V.int d = V.int 1 from fun e => z (by injection e))]
      rw [if_neg z] at k
      refine iteF ?_
      have e0 : Str.empty ++ PySem.Str.ofString (toString n) = TS (intL n) := by rw [int_str]; exact str_ext (by rw [appL]; rfl)
      have e1 : TS (intL n) ++ ("/" : Str) = TS (intL n ++ [47]) := by rw [← ts_app]; rfl
      have e2 : TS (intL n ++ [47]) ++ PySem.Str.ofString (toString d) = TS (intL n ++ 47 :: intL d) := by rw [int_str, ts_app, List.append_assoc]; rfl
      refine ⟨_, rfl, .inr ⟨n, rfl, lg_lim b1, _, rfl, ?_, ?_⟩⟩
      · rw [e0]; exact line (by omega)
      rw [e0]
      refine ⟨_, rfl, ?_, ?_⟩
      · rw [e1]; exact line (by rw [List.length_append]; show _ + 1 ≤ _; omega)
      rw [e1]
      refine ⟨_, rfl, .inr ⟨d, rfl, lg_lim b2, _, rfl, ?_, ?_⟩⟩
      · rw [e2]; exact line (by rw [List.length_append, List.length_cons]; omega)
      rw [e2]
      exact k
end
abbrev sShv : Stmt := top 2
abbrev nShv : List Str := ["value"]
abbrev pShv : List Str := ["value"]
theorem scShv : FnScope nShv pShv (defScope sShv) := ⟨rfl, rfl, rfl, by decide +kernel, rfl, by decide +kernel, by decide +kernel⟩
section
variable {fA_ : Addr} {fdA_ : FuncData}
theorem ok_Shv (F : Fun K "show_value" "show_value" sShv f fd) (T : Bt mg)
    (GA_ : FnOk P w K mg base CX0 1 fA_ fdA_ ["number"] (spShr)) (mA_ : mg "show_rational" = some (.ref fA_)) (kA_ : PySem.W.keepIn K (.ref fA_) = true) (bA_ : Binds K fdA_ ["number"] []) : FnOk P w K mg base CX0 2 f fd pShv (spShv) := by
  refine F.ok scShv (fun vs H Q E h => ?_) (fun cdv A outer s H vs Q E hr h => ?_)
  · obtain ⟨v, d, kd, rfl, _⟩ := h
    rfl
  · obtain ⟨v, d, kd, rfl, hv, vk, nn, k⟩ := h
    have hrA_ : Room (1) _ := hr.mono (by first | decide | omega)
    refine ⟨_, (pss_cons (ps_if (PW.pt (pw_or (pt_cmpR op_isBA (pv 0) pe_bl (nomark _)) (pw_or1 (pt_cmpR op_isBA (pv 0) pe_bl (nomark _))))) (pss_one (ps_ret (pe_ifExp (pt_val (pv 0)) pe_str pe_str))) pss_nil)
      (pss_cons (ps_if (pt_val (pe_callB call_isi (by rfl) T.isi boot_isinstance (pa_cons (pv 0) (pa_cons (pe_bltn (v := .ty "str") (by rfl) T.str boot_str rfl) pa_nil)))) (pss_one (ps_ret (pe_op op_add_str pe_str (pv 0)))) pss_nil)
      (pss_one (ps_ret (pe_call GA_ hrA_ (by rfl) mA_ kA_ bA_ .nil pass0 (pa_cons (pv 0) pa_nil)))))), ?_⟩
    have k := k H (Same.refl H)
    have e1 : decide (v = V.bl true) = isTB d ∧ decide (v = V.bl false) = isFB d := by
      cases hv with
      | bl b => cases b <;> exact ⟨by decide +kernel, by decide +kernel⟩
      | _ => exact ⟨decide_eq_false nofun, decide_eq_false nofun⟩
    refine ⟨_, rfl, true, rfl, _, rfl, ?_⟩
    rw [e1.1]
    cases vk with
    | non => exact absurd rfl nn
    | flag b =>
      cases hv
      cases b with
      | true => exact iteT (iteT ⟨_, rfl, _, rfl, iteT k⟩)
      | false =>
        refine iteF ⟨_, rfl, false, rfl, _, rfl, ?_⟩
        rw [e1.2]
        exact iteT ⟨_, rfl, _, rfl, iteF k⟩
    | @word x hx hn =>
      cases hv
      have ts : TyN H (.str x) "str" := .str x
      refine iteF ⟨_, rfl, false, rfl, _, rfl, ?_⟩
      rw [e1.2]
      refine iteF ⟨_, rfl, .str x, .ty "str", _, _, _, rfl, .ty "str", ts.x, kit_str ts.mem, _, rfl, iteT ?_⟩
      have l12 : x.cps.toList.length ≤ 12 := (name_signs hn).2.1
      refine ⟨_, rfl, _, _, rfl, rfl, ?_, ?_⟩
      · rw [lenL x]
        exact Nat.le_trans (show 1 + _ ≤ 13 by omega) (by decide)
      · have e : ("'" : Str) ++ x = TS (39 :: CL x) := str_ext (by rw [appL]; show _ = CL (TS _); rw [cl_ts]; rfl)
        rw [e]
        exact k
    | @num n dd rt h1 h2 =>
      obtain ⟨p, rfl, hp⟩ := dh_pair hv
      have ts : TyN H (.ref p) "tuple" := .tup hp
      refine iteF ⟨_, rfl, false, rfl, _, rfl, ?_⟩
      rw [e1.2]
      exact iteF ⟨_, rfl, .ref p, .ty "str", _, _, _, rfl, .ty "str", ts.x, kit_str ts.mem, _, rfl, iteF ⟨_, rfl, p, n, dd, rfl, hp, h1, h2, k⟩⟩
end
abbrev sShe : Stmt := top 3
abbrev nShe : List Str := ["expression", "word", "operand"]
abbrev pShe : List Str := ["expression"]
theorem scShe : FnScope nShe pShe (defScope sShe) := ⟨rfl, rfl, rfl, by decide +kernel, rfl, by decide +kernel, by decide +kernel⟩
section
variable {fA_ fB_ : Addr} {fdA_ fdB_ : FuncData}
theorem ok_She (F : Fun K "show_expression" "show_expression" sShe f fd) (T : Bt mg) (n : Nat)
    (GA_ : FnOk P w K mg base CX0 (2 + n) fA_ fdA_ ["expression"] (spSh n)) (mA_ : mg "show_expression" = some (.ref fA_)) (kA_ : PySem.W.keepIn K (.ref fA_) = true) (bA_ : Binds K fdA_ ["expression"] [])
    (GB_ : FnOk P w K mg base CX0 2 fB_ fdB_ ["value"] (spShv)) (mB_ : mg "show_value" = some (.ref fB_)) (kB_ : PySem.W.keepIn K (.ref fB_) = true) (bB_ : Binds K fdB_ ["value"] []) : FnOk P w K mg base CX0 (2 + n + 1) f fd pShe (spSh (n + 1)) := by
  refine F.ok scShe (fun vs H Q E h => ?_) (fun cdv A outer s H vs Q E hr h => ?_)
  · obtain ⟨v, d, rfl, _⟩ := h
    rfl
  · obtain ⟨v, d, rfl, hv, xf, k⟩ := h
    have hrA_ : Room ((2 + n)) _ := hr.mono (by first | decide | omega)
    have hrB_ : Room (2) _ := hr.mono (by first | decide | omega)
    refine ⟨_, (pss_cons (ps_set (i := 1) scShe.nd rfl (Or.inl rfl) (pe_ix ix_tup (pv 0) pe_int (fun _ _ => rfl)))
      (pss_cons (ps_if (pt_cmpR op_eq (pv 1) pe_str (nomark _)) (pss_one (ps_ret (pe_ix ix_tup (pv 0) pe_int (fun _ _ => rfl)))) pss_nil)
      (pss_cons (ps_if (pt_cmpR op_eq (pv 1) pe_str (nomark _)) (pss_one (ps_ret (pe_op op_add_str pe_str (pe_call GB_ hrB_ (by rfl) mB_ kB_ bB_ .nil pass0 (pa_cons (pe_ix ix_tup (pv 0) pe_int (fun _ _ => rfl)) pa_nil))))) pss_nil)
      (pss_one (ps_ret (pe_op op_add_str (pe_op op_add_str pe_str (pe_m1 PySem.F.slot_str_join PySem.F.type_str_join mt_join pe_str (pe_op op_cat (pe_lst (pa_cons (pv 1) pa_nil)) (pe_lc (own := [("operand", 2)]) (g := (gName 2)) (tt := tYes) (te := teShe n) (by rfl) scShe.nd (pi_tup (pe_slice sl_tup (pv 0) (po_some pe_int) po_none)) (blkOk_by (own := [("operand", 2)]) (N := nShe) (sc := defScope sShe) (by decide +kernel)) (fun _ _ _ _ _ => (pg_name (i := 2) scShe.nd rfl (.inl rfl))) (fun _ _ _ _ _ => pts_nil) (fun _ _ _ _ _ => (pe_call GA_ hrA_ (by rfl) mA_ kA_ bA_ .nil pass0 (pa_cons (pv 2) pa_nil))))))) pe_str)))))), ?_⟩
    obtain ⟨xf, n8, k⟩ := (⟨xf, k⟩ : Xf (n + 1) d ∧ n + 1 ≤ 8 ∧ ∀ H', Same H H' → Q (.str (TS (shL d))) H')
    have sE : ∀ (a b : Str), decide (V.str a = V.str b) = decide (a = b) := fun a b => decide_eq_decide.mpr ⟨fun e => by injection e, fun e => by rw [e]⟩
    have sz := szT_le n8
    have sz1 := szT_le (show n ≤ 8 by omega)
    have ln := xf_len xf
    cases xf with
    | @col _ z hz hn =>
      cases hv with
      | @tup a ys0 _ ea hs0 =>
      cases hs0 with
      | cons h1 r1 =>
      cases h1
      cases r1 with
      | cons h2 r2 =>
      cases r2
      cases h2
      rw [sh_col, ts_cl] at k
      refine ⟨_, rfl, a, _, _, .str "column", rfl, rfl, SqT.of ea, rfl, ?_⟩
      refine ⟨_, rfl, rfl, _, rfl, ?_⟩
      rw [sE, decide_eq_true rfl]
      exact iteT ⟨_, rfl, a, _, _, .str z, rfl, rfl, SqT.of ea, rfl, k H (Same.refl H)⟩
    | @val _ kk dv vk nn =>
      cases hv with
      | @tup a ys0 _ ea hs0 =>
      cases hs0 with
      | cons h1 r1 =>
      cases h1
      cases r1 with
      | @cons v2 _ _ _ h2 r2 =>
      cases r2
      rw [sh_val] at k
      have lv := (val_text vk nn).2
      have ee : ("=" : Str) ++ TS (valL dv) = TS (61 :: valL dv) := str_ext (by rw [appL]; show _ ++ CL (TS _) = CL (TS _); rw [cl_ts, cl_ts]; rfl)
      refine ⟨_, rfl, a, _, _, .str "value", rfl, rfl, SqT.of ea, rfl, ?_⟩
      refine ⟨_, rfl, rfl, _, rfl, ?_⟩
      rw [sE, decide_eq_false (by decide +kernel)]
      refine iteF ⟨_, rfl, rfl, _, rfl, ?_⟩
      rw [sE, decide_eq_true rfl]
      refine iteT ⟨_, rfl, a, _, _, v2, rfl, rfl, SqT.of ea, rfl, v2, dv, kk, rfl, h2, vk, nn, fun H' s' => ⟨_, _, rfl, rfl, ?_, ?_⟩⟩
      · rw [ts_len]
        exact Nat.le_trans (show 1 + _ ≤ 100 by omega) (by decide)
      · rw [ee]
        exact k H' s'
    | @op _ w os ops ho l hos =>
      obtain ⟨_, w7, _, l3, nw⟩ := opsV_words ho
      rw [l] at l3
      cases hv with
      | @tup a ys0 _ ea hs0 =>
      cases hs0 with
      | @cons _ ys _ _ h1 r1 =>
      cases h1
      have ly := r1.len
      rw [sh_op nw] at k ln
      refine ⟨_, rfl, a, _, _, .str w, rfl, rfl, SqT.of ea, at_zero, ?_⟩
      refine ⟨_, rfl, rfl, _, rfl, ?_⟩
      rw [sE, decide_eq_false (fun e => nw (.inl e))]
      refine iteF ⟨_, rfl, rfl, _, rfl, ?_⟩
      rw [sE, decide_eq_false (fun e => nw (.inr e))]
      refine iteF ⟨⟨_, rfl⟩, _, rfl, by show 1 ≤ sizeLine; decide, fun p0 hp0 => ?_⟩
      have z0 := Same.upd (o := .lst [.str w]) hp0
      refine ⟨_, rfl, 1, rfl, a, _, rfl, SqT.of (z0 _ _ ea), tail_not, fun q hq => ?_⟩
      rw [cut_tail]
      have zq := Same.upd (o := .tup ys) hq
      have s2 := z0.trans zq
      have hp2 := zq _ _ (upd_same (H := H) (a := p0) (o := .lst [.str w]))
      have hq2 : upd (upd H p0 (.lst [.str w])) q (.tup ys) q = some (.tup ys) := upd_same
      generalize upd (upd H p0 (.lst [.str w])) q (.tup ys) = H2 at s2 hq2 hp2 ⊢
      refine ⟨q, rfl, ⟨_, SqT.of hq2⟩, fun D hD => lc_tup (K := K) (a := q) (xs := ys) (fun i H' => H' D = some (.lst (((os.take i).map fun o => TS (shL o)).map V.str)) ∧ Same H2 H') ⟨upd_same, Same.upd hD⟩ (fun i H' _ p => SqT.of (p.2 _ _ hq2)) ?_ ?_⟩
      · rintro i x H3 hx ⟨hD3, s3⟩
        obtain ⟨o, eo, dh⟩ := r1.get _ _ hx
        refine ⟨rfl, ?_⟩
        change teShe n _ _ _
        refine ⟨_, rfl, x, o, rfl, dh.same (s2.trans s3), hos o (List.mem_of_getElem? eo), by omega, fun H4 s4 => ⟨_, s4 _ _ hD3, ?_, ?_, fun b o' eb => by rw [upd_ne (ne_of_none eb hD)]; exact s4 b o' (s3 b o' eb)⟩⟩
        · rw [List.length_map, List.length_map, List.length_take]
          exact Nat.lt_of_le_of_lt (show _ ≤ 3 by omega) (by decide)
        · rw [upd_same, List.take_add_one, eo]
          simp
      · rintro H3 ⟨hD3, s3⟩
        rw [ly, List.take_length] at hD3
        refine ⟨p0, D, _, _, rfl, rfl, s3 _ _ hp2, hD3, ?_, fun u hu => ?_⟩
        · rw [List.length_map, List.length_map]
          exact Nat.le_trans (show 1 + _ ≤ 4 by omega) (by decide)
        have zu := Same.upd (o := .lst ([.str w] ++ (os.map fun o => TS (shL o)).map V.str)) hu
        have sm := shs_sum hos
        have sm3 : os.length * szT n ≤ 3 * szT n := Nat.mul_le_mul_right _ l3
        have lw : w.length = (CL w).length := lenL w
        have jn : Txt.join (PySem.Str.ofString " ") (w :: os.map fun o => TS (shL o)) = TS (CL w ++ shLs os) := by
          refine ts_of ?_
          rw [sh_join, List.map_map, ← shLs_flat]
          congr 2
        refine ⟨_, u, w :: os.map (fun o => TS (shL o)), rfl, rfl, .inl (SqL.of (by rw [upd_same]; rfl)), ?_, _, _, rfl, rfl, ?_, ?_⟩
        · rw [List.map_cons, List.sum_cons, List.length_cons, List.length_map]
          have : (PySem.Str.ofString " ").length = 1 := by decide +kernel
          rw [this]
          omega
        · rw [jn, ts_len]
          simp only [List.length_append, List.length_cons, List.length_nil] at ln
          have : (PySem.Str.ofString "(").length = 1 := by decide +kernel
          rw [this, List.length_append]
          exact Nat.le_trans (show _ ≤ 330010 by omega) (by decide)
        have e1 : ("(" : Str) ++ TS (CL w ++ shLs os) = TS (40 :: CL w ++ shLs os) := str_ext (by rw [appL]; show _ ++ CL (TS _) = CL (TS _); rw [cl_ts, cl_ts]; rfl)
        have e2 : TS (40 :: CL w ++ shLs os) ++ (")" : Str) = TS (40 :: CL w ++ shLs os ++ [41]) := (show TS (40 :: CL w ++ shLs os) ++ TS [41] = _ from ts_app _ _)
        rw [jn]
        refine ⟨_, _, rfl, rfl, ?_, ?_⟩
        · rw [e1, ts_len]
          simp only [List.length_append, List.length_cons, List.length_nil] at ln ⊢
          have : (PySem.Str.ofString ")").length = 1 := by decide +kernel
          rw [this]
          exact Nat.le_trans (show _ ≤ 330010 by omega) (by decide)
        rw [e1, e2]
        exact k _ ((s2.trans s3).trans zu)
theorem ok_SheN {fA : Addr} {fdA : FuncData} (F : Fun K "show_expression" "show_expression" sShe f fd) (T : Bt mg) (mX : mg "show_expression" = some (.ref f)) (kX : PySem.W.keepIn K (.ref f) = true) (bX : Binds K fd pShe [])
    (GA : FnOk P w K mg base CX0 2 fA fdA ["value"] spShv) (mA : mg "show_value" = some (.ref fA)) (kA : PySem.W.keepIn K (.ref fA) = true) (bA : Binds K fdA ["value"] []) : ∀ n : Nat, FnOk P w K mg base CX0 (2 + n) f fd pShe (spSh n)
  | 0 => fn_weak (sp' := fun _ _ _ _ => False) (fun _ _ _ _ ⟨_, _, _, _, xf, _⟩ => xf.zero.elim) fn_none
  | n + 1 => ok_She F T n (ok_SheN F T mX kX bX GA mA kA bA n) mX kX bX GA mA kA bA
end
end
end K78
set_option Elab.async false
set_option linter.all false
set_option maxRecDepth 100000
set_option maxHeartbeats 4000000
namespace K78
open PySem PySem.Spec PyProof.Rows L2 Lc
/-! ## reading texts -/
theorem sub_one {x : Str} {c : Nat} : Builtin.Str.subAt x ⟨#[c]⟩ 0 = decide ((CL x).head? = some c) := by
  rw [StrLaws.subAt_eq]
  show ((List.drop 0 x.cps.toList).take 1 == [c]) = _
  rw [List.drop_zero, Bool.eq_iff_iff, beq_iff_eq, decide_eq_true_iff]
  show x.cps.toList.take 1 = [c] ↔ x.cps.toList.head? = some c
  cases x.cps.toList with
  | nil => simp
  | cons a r => simp
theorem starts_one {x : Str} {c : Nat} : Txt.startswith x ⟨#[c]⟩ = decide ((CL x).head? = some c) := by
  unfold Txt.startswith
  rw [sub_one]
  show (decide (0 + 1 ≤ x.length) && _) = _
  by_cases h : (CL x).head? = some c
  · rw [decide_eq_true h, Bool.and_true]
    refine decide_eq_true ?_
    rw [lenL]
    have h : x.cps.toList.head? = some c := h
    cases e : x.cps.toList with
    | nil => rw [e] at h; cases h
    | cons a r => simp
  · rw [decide_eq_false h, Bool.and_false]
theorem prefix_one {x : Str} {c : Nat} : Txt.removeprefix x ⟨#[c]⟩ = TS (if (CL x).head? = some c then (CL x).drop 1 else CL x) := by
  rw [StrLaws.removeprefix_eq]
  have e : (decide (0 + (⟨#[c]⟩ : Str).length ≤ x.length) && Builtin.Str.subAt x ⟨#[c]⟩ 0) = decide ((CL x).head? = some c) := starts_one
  rw [e]
  by_cases h : (CL x).head? = some c
  · rw [if_pos (decide_eq_true h), if_pos h]
    show (⟨((x.cps.toList.drop 1).take (x.length - 1)).toArray⟩ : Str) = ⟨((CL x).drop 1).toArray⟩
    rw [List.take_of_length_le (by rw [List.length_drop, lenL]; exact Nat.le_refl _)]
  · rw [if_neg (by rw [decide_eq_false h]; decide), if_neg h, ts_cl]
theorem slash_eq : PySem.Str.ofString "/" = ⟨#[47]⟩ := by decide +kernel
theorem minus_eq : PySem.Str.ofString "-" = ⟨#[45]⟩ := by decide +kernel
theorem equal_eq : PySem.Str.ofString "=" = ⟨#[61]⟩ := by decide +kernel
theorem tick_eq : PySem.Str.ofString "'" = ⟨#[39]⟩ := by decide +kernel
theorem part_none {x : Str} (h : 47 ∉ CL x) : Txt.partition x ⟨#[47]⟩ = (x, Str.empty, Str.empty) := by
  have e := StrLaws.found_one x 47
  rw [decide_eq_false h] at e
  unfold Txt.partition
  cases q : Builtin.Str.occurrences x ⟨#[47]⟩ 0 x.length 1 with
  | nil => rfl
  | cons i r => rw [q] at e; cases e
theorem part_some {x : Str} {a b : List Nat} (e : CL x = a ++ 47 :: b) (ha : 47 ∉ a) (hb : 47 ∉ b) : Txt.partition x ⟨#[47]⟩ = (TS a, ⟨#[47]⟩, TS b) := by
  have f := StrLaws.found_one x 47
  rw [decide_eq_true (show 47 ∈ x.cps.toList by rw [show x.cps.toList = a ++ 47 :: b from e]; simp)] at f
  obtain ⟨fi, ch⟩ := StrLaws.occ_chain x ⟨#[47]⟩ 1
  unfold Txt.partition
  cases q : Builtin.Str.occurrences x ⟨#[47]⟩ 0 x.length 1 with
  | nil => rw [q] at f; cases f
  | cons i r =>
    rw [q] at ch
    obtain ⟨_, ⟨h1, h2⟩, _⟩ := ch
    rw [StrLaws.subAt_eq] at h2
    have h2 : (x.cps.toList.drop i).take 1 = [47] := eq_of_beq h2
    rw [show x.cps.toList = a ++ 47 :: b from e] at h2
    have hi : i = a.length := by
      have g : (a ++ 47 :: b)[i]? = some 47 := by
        have := congrArg (fun l : List Nat => l[0]?) h2
        simpa [List.getElem?_take, List.getElem?_drop] using this
      by_cases l1 : i < a.length
      · rw [List.getElem?_append_left l1] at g
        exact absurd (List.mem_of_getElem? g) ha
      · rw [List.getElem?_append_right (by omega)] at g
        by_cases l2 : i = a.length
        · exact l2
        · obtain ⟨j, hj⟩ : ∃ j, i - a.length = j + 1 := ⟨i - a.length - 1, by omega⟩
          rw [hj] at g
          exact absurd (List.mem_of_getElem? (show b[j]? = some 47 by simpa using g)) hb
    subst hi
    have xl : x.length = a.length + (b.length + 1) := by
      rw [lenL, show x.cps.toList = a ++ 47 :: b from e, List.length_append, List.length_cons]
    show (Builtin.Str.strSub x 0 a.length, (⟨#[47]⟩ : Str), Builtin.Str.strSub x (a.length + 1) x.length) = _
    refine Prod.ext ?_ (Prod.ext rfl ?_)
    · refine ts_of ?_
      show (Builtin.Str.strSub x 0 a.length).cps.toList = a
      rw [StrLaws.strSub_toList, show x.cps.toList = a ++ 47 :: b from e]
      simp
    · refine ts_of ?_
      show (Builtin.Str.strSub x (a.length + 1) x.length).cps.toList = b
      rw [StrLaws.strSub_toList, show x.cps.toList = a ++ 47 :: b from e, xl]
      have : a ++ 47 :: b = (a ++ [47]) ++ b := by simp
      rw [this, List.drop_append_of_le_length (by simp)]
      simp
      exact List.take_of_length_le (by omega)
theorem int_no47 (n : Int) : 47 ∉ intL n := fun h => by
  rcases (int_signs n).2 47 h with h | h
  · cases h
  · omega
theorem int_abs (n : Int) : (if (intL n).head? = some 45 then (intL n).drop 1 else intL n) = digs n.natAbs ∧ ((intL n).head? = some 45 ↔ n < 0) := by
  unfold intL
  obtain ⟨c, r, e, _⟩ := digs_head n.natAbs
  by_cases h : n < 0
  · rw [if_pos h]
    simp [h]
  · rw [if_neg h]
    have hc : 48 ≤ c ∧ c ≤ 57 := (digs_signs n.natAbs).2 c (by rw [e]; exact List.mem_cons_self)
    have ne : c ≠ 45 := by omega
    rw [List.nil_append, e]
    simp [ne, h]
end K78
set_option Elab.async false
set_option linter.all false
set_option maxRecDepth 100000
set_option maxHeartbeats 4000000
namespace K78
open PySem PySem.Spec PyProof.Rows L2 Lc
/-! ## what texts are read as -/
def rNIS : R2 := fun x y H Q => ∃ (c : Nat) (z : Str), x = .str ⟨#[c]⟩ ∧ y = .str z ∧ Q (.bl (!decide (c ∈ z.cps.toList))) H
structure Tx (l : List Nat) : Prop where
  len : l.length ≤ 400000
  ok : ∀ c ∈ l, c < 128
theorem Tx.sub {l m : List Nat} (h : Tx l) (s : m.Sublist l) : Tx m := ⟨Nat.le_trans s.length_le h.len, fun c hc => h.ok c (s.subset hc)⟩
theorem Tx.line {l : List Nat} (h : Tx l) : (TS l).length ≤ sizeLine := by rw [ts_len]; exact Nat.le_trans h.len (by decide)
theorem Tx.line2 {l : List Nat} (h : Tx l) : (TS l).length + 2 ≤ sizeLine := by rw [ts_len]; exact Nat.le_trans (Nat.add_le_add_right h.len 2) (by decide)
abbrev isD (c : Nat) : Bool := decide (c ∈ ten10.cps.toList)
theorem isD_is (c : Nat) : isD c = true ↔ 48 ≤ c ∧ c ≤ 57 := by
  refine ⟨fun h => ?_, fun h => in_ten h⟩
  have h : c ∈ ten10.cps.toList := of_decide_eq_true h
  have e : ten10.cps.toList = [48, 49, 50, 51, 52, 53, 54, 55, 56, 57] := by decide +kernel
  rw [e] at h
  simp only [List.mem_cons, List.not_mem_nil, or_false] at h
  omega
def digN (l : List Nat) : Option Nat := if l = [] then none else if 41 < l.length then none else if l.all isD = false then none else if l.head? = some 48 ∧ l ≠ [48] then none else some (NumText.digitsVal l)
def dgV (l : List Nat) : V := match digN l with
  | none => .non
  | some m => .int (m : Int)
theorem digN_digits {l : List Nat} {m : Nat} (h : digN l = some m) : l ≠ [] ∧ l.length ≤ 41 ∧ l.all isD = true := by
  unfold digN at h
  split at h
  · cases h
  split at h
  · cases h
  split at h
  · cases h
  exact ⟨by assumption, by omega, by simpa using (by assumption : ¬ l.all isD = false)⟩
def spDg : Sp := fun vs H Q _ => ∃ (l : List Nat), vs = [.str (TS l)] ∧ Tx l ∧ ∀ H', Same H H' → Q (dgV l) H'
theorem int_digits {l : List Nat} (h1 : l ≠ []) (h2 : l.length ≤ 41) (h3 : l.all isD = true) : PySem.intText? (TS l) = some (NumText.digitsVal l : Int) := by
  have hc : (TS l).cps.toList = l := cl_ts l
  have := intText_digits (x := TS l) (by rw [hc]; intro c hm; exact (isD_is c).mp (List.all_eq_true.mp h3 c hm)) (by rw [hc]; exact h1) (by rw [ts_len]; omega)
  rw [hc] at this
  exact this
theorem grow' {x : List Nat} {i c : Nat} (h : x[i]? = some c) (g : Nat → Bool) : (x.take i).map (fun c => V.bl (g c)) ++ [.bl (g c)] = (x.take (i + 1)).map fun c => V.bl (g c) := by
  rw [List.take_add_one, h]
  simp
theorem grow_f {x : List Nat} {i c : Nat} (h : x[i]? = some c) (g : Nat → Bool) : ((x.take (i + 1)).filter g).map (fun c => V.str ⟨#[c]⟩) = if g c = true then ((x.take i).filter g).map (fun c => V.str ⟨#[c]⟩) ++ [.str ⟨#[c]⟩] else ((x.take i).filter g).map fun c => V.str ⟨#[c]⟩ := by
  rw [List.take_add_one, h]
  by_cases z : g c = true <;> simp [z, List.filter_append]
theorem at_ts {l : List Nat} {i c : Nat} (h : (TS l).cps[i]? = some c) : l[i]? = some c := by
  have q : (TS l).cps.toList[i]? = some c := by simpa using h
  rw [show (TS l).cps.toList = l from cl_ts l] at q
  exact q
theorem ts_size (l : List Nat) : (TS l).cps.size = l.length := ts_len l
theorem dec_nil (l : List Nat) : decide (V.str (TS l) = V.str "") = decide (l = []) := decide_eq_decide.mpr ⟨fun q => by injection q with q; rw [← cl_ts l, q]; decide +kernel, fun q => by rw [q]; rfl⟩
theorem dec_ts {l m : List Nat} {z : Str} (e : CL z = m) : decide (V.str (TS l) = V.str z) = decide (l = m) := decide_eq_decide.mpr ⟨fun q => by injection q with q; rw [← e, ← q, cl_ts], fun q => by rw [q, ← e, ts_cl]⟩
theorem dec_one {c d : Nat} {z : Str} (e : CL z = [d]) : decide (V.str ⟨#[c]⟩ = V.str z) = decide (c = d) := by
  have : (⟨#[c]⟩ : Str) = TS [c] := rfl
  rw [this, dec_ts e]
  exact decide_eq_decide.mpr ⟨fun q => by injection q, fun q => by rw [q]⟩
theorem zero_cl : CL (PySem.Str.ofString "0") = [48] := by decide +kernel
/-- a list of signs against the empty list -/
theorem sgn_ok {c : Nat} (h : c < 128) : PyData.canLay0 (.str ⟨#[c]⟩) = true := by
  have key : ∀ c, c < 128 → PyData.canLay0 (.str ⟨#[c]⟩) = true := by decide +kernel
  exact key c h
theorem sgns_shaped {cs : List Nat} (h : ∀ c ∈ cs, c < 128) : SeqAt.shaped (.list (cs.map fun c => .str ⟨#[c]⟩)) = true := by
  have a : PyData.canLayAll0 (cs.map fun c => .str ⟨#[c]⟩) = true := by
    induction cs with
    | nil => rfl
    | cons c r ih =>
      show (PyData.canLay0 (.str ⟨#[c]⟩) && PyData.canLayAll0 (r.map fun c => .str ⟨#[c]⟩)) = true
      rw [sgn_ok (h c List.mem_cons_self), ih fun x hx => h x (List.mem_cons_of_mem _ hx)]
      rfl
  have d : PyData.depthAll (cs.map fun c => .str ⟨#[c]⟩) = 0 := by
    induction cs with
    | nil => rfl
    | cons c r ih =>
      show max 0 (PyData.depthAll (r.map fun c => .str ⟨#[c]⟩)) = 0
      rw [ih (fun x hx => h x (List.mem_cons_of_mem _ hx)) (by
        show PyData.canLayAll0 (r.map fun c => .str ⟨#[c]⟩) = true
        have : (PyData.canLay0 (.str ⟨#[c]⟩) && PyData.canLayAll0 (r.map fun c => .str ⟨#[c]⟩)) = true := a
        exact (Bool.and_eq_true_iff.mp this).2)]
      rfl
  show (PyData.canLay0 (.list (cs.map fun c => .str ⟨#[c]⟩)) && decide ((PyData.list (cs.map fun c => .str ⟨#[c]⟩)).depth ≤ 64)) = true
  rw [show PyData.canLay0 (.list (cs.map fun c => .str ⟨#[c]⟩)) = PyData.canLayAll0 (cs.map fun c => .str ⟨#[c]⟩) by rw [PyData.canLay0], a, show (PyData.list (cs.map fun c => .str ⟨#[c]⟩)).depth = PyData.depthAll (cs.map fun c => .str ⟨#[c]⟩) + 1 by rw [PyData.depth], d]
  rfl
theorem sgns_nil (cs : List Nat) : PyData.eqv (.list (cs.map fun c => .str ⟨#[c]⟩)) (.list []) = decide (cs = []) := by
  cases cs with
  | nil => rfl
  | cons c r => rw [decide_eq_false (by simp)]; rfl
theorem Dps.sgns {K : PySem.W.Frag} {H : Hp} (cs : List Nat) : DpAll K H (cs.map fun c => V.str ⟨#[c]⟩) (cs.map fun c => PyData.str ⟨#[c]⟩) := by
  induction cs with
  | nil => exact .nil
  | cons c r ih => exact .cons (.str _) ih
theorem filter_nil {l : List Nat} {g : Nat → Bool} : decide (l.filter (fun c => !g c) = []) = l.all g := by
  induction l with
  | nil => rfl
  | cons c r ih => cases e : g c <;> simp [e, ← ih]
section
variable {u1 u2 : Tok}
variable {P : Program} {w : World} {K : PySem.W.Frag} {mg : Str → Option Value} {base : Heap} {f : Addr} {fd : FuncData}
abbrev sRw : Stmt := top 28
abbrev nRw : List Str := ["text", "sign"]
abbrev pRw : List Str := ["text"]
theorem scRw : FnScope nRw pRw (defScope sRw) := ⟨rfl, rfl, rfl, by decide +kernel, rfl, by decide +kernel, by decide +kernel⟩
section
theorem ok_Rw (F : Fun K "read_whole" "read_whole" sRw f fd) (T : Bt mg) (mD : mg "DIGITS" = some (.str ten10 u1)) (mM : mg "MOST_DIGITS" = some (.int 41 u2)) : FnOk P w K mg base CX0 1 f fd pRw (spDg) := by
  refine F.ok scRw (fun vs H Q E h => ?_) (fun cdv A outer s H vs Q E hr h => ?_)
  · obtain ⟨l, rfl, _⟩ := h
    rfl
  · obtain ⟨l, rfl, tx, k⟩ := h
    refine ⟨_, (pss_cons (ps_if (PW.pt (pw_or (pt_cmpR op_eq (pv 0) pe_str (nomark _)) (pw_or (pt_cmpR op_gt (pe_callB call_len_str (by rfl) T.len PySem.boot_len (pa_cons (pv 0) pa_nil)) (pe_glob (v := .int 41) (by rfl) mM ⟨_, rfl⟩) (nomark _)) (pw_or1 (pt_not (pt_val (pe_callB (cr_all rfl) (by rfl) T.all (by decide +kernel) (pa_cons (pe_lc (own := [("sign", 1)]) (g := (gName 1)) (tt := tYes) (te := (tOp rInS (tVar 1) (tC (.str ten10)))) (by rfl) scRw.nd (pi_str (pv 0)) (blkOk_by (own := [("sign", 1)]) (N := nRw) (sc := defScope sRw) (by decide +kernel)) (fun _ _ _ _ _ => (pg_name (i := 1) scRw.nd rfl (.inl rfl))) (fun _ _ _ _ _ => pts_nil) (fun _ _ _ _ _ => (pe_cmpR op_in_sign (pv 1) (pe_glob (v := .str ten10) (by rfl) mD ⟨_, rfl⟩) (by rfl)))) pa_nil)))))))) (pss_one (ps_ret pe_non)) pss_nil)
      (pss_cons (ps_if (PW.pt (pw_and (pt_cmpR op_eq (pe_ix ix_str (pv 0) pe_int (fun _ _ => rfl)) pe_str (nomark _)) (pw_and1 (pt_cmpR op_ne (pv 0) pe_str (nomark _))))) (pss_one (ps_ret pe_non)) pss_nil)
      (pss_one (ps_ret (pe_callTy call_int_str (by rfl) T.int boot_int (pa_cons (pv 0) pa_nil)))))), ?_⟩
    have hc := cl_ts l
    unfold dgV at k
    refine ⟨_, rfl, rfl, _, rfl, ?_⟩
    rw [dec_nil]
    by_cases l0 : l = []
    · rw [decide_eq_true l0]
      have k0 := k H (Same.refl H)
      rw [show digN l = none by unfold digN; rw [if_pos l0]] at k0
      exact iteT (iteT k0)
    rw [decide_eq_false l0]
    refine iteF ⟨_, rfl, _, rfl, tx.line, _, _, rfl, rfl, _, rfl, ?_⟩
    rw [ts_len]
    by_cases l41 : 41 < l.length
    · rw [decide_eq_true (by omega)]
      have k0 := k H (Same.refl H)
      rw [show digN l = none by unfold digN; rw [if_neg l0, if_pos l41]] at k0
      exact iteT (iteT k0)
    rw [decide_eq_false (by omega)]
    refine iteF ⟨_, rfl, _, rfl, fun D hD => lc_it walk_str (fun i H' => H' = upd H D (.lst ((l.take i).map fun c => .bl (isD c)))) rfl (fun _ _ _ _ => True.intro) ?_ ?_⟩
    · rintro i y H' H'' hi rfl ⟨rfl, c', hc', rfl⟩
      have hc' := at_ts hc'
      refine ⟨rfl, ?_⟩
      change tOp rInS (tVar 1) (tC (.str ten10)) _ _ _
      refine ⟨_, rfl, c', ten10, rfl, rfl, _, upd_same, ?_, ?_⟩
      · rw [List.length_map, List.length_take]
        exact Nat.lt_of_le_of_lt (Nat.min_le_right _ _) (Nat.lt_of_le_of_lt (show _ ≤ 41 by omega) (by decide))
      · rw [upd_upd]
        exact congrArg (fun z => upd H D (.lst z)) (grow' hc' _)
    rintro H' rfl
    have zD := Same.upd (o := .lst ((l.take (TS l).cps.size).map fun c => .bl (isD c))) hD
    refine ⟨D, l.map isD, rfl, SqL.of (by rw [upd_same, ts_size, List.take_length, List.map_map]; rfl), _, rfl, ?_⟩
    dsimp only
    rw [List.all_map]
    have k1 := k _ zD
    generalize upd H D (.lst ((l.take (TS l).cps.size).map fun c => .bl (isD c))) = H2 at zD k1 ⊢
    show if (!l.all isD) = true then _ else _
    cases al : l.all isD with
    | false =>
      rw [show digN l = none by unfold digN; rw [if_neg l0, if_neg l41, if_pos al]] at k1
      exact iteT k1
    | true =>
      refine iteF ?_
      obtain ⟨c, r, e⟩ : ∃ c r, l = c :: r := by cases l with | nil => exact absurd rfl l0 | cons c r => exact ⟨c, r, rfl⟩
      refine ⟨_, rfl, _, 0, c, rfl, rfl, tx.line, (show atI (TS l).cps.toList ((0 : Nat) : Int) = some c from atI_nat (by rw [show (TS l).cps.toList = l from hc, e]; rfl)), rfl, _, rfl, ?_⟩
      rw [dec_one zero_cl]
      have g2 := int_digits l0 (by omega) al
      by_cases z : c = 48
      · rw [decide_eq_true z]
        refine iteT ⟨_, rfl, rfl, _, rfl, ?_⟩
        rw [dec_ts zero_cl]
        by_cases z2 : l = [48]
        · rw [decide_eq_true z2]
          rw [show digN l = some (NumText.digitsVal l) by unfold digN; rw [if_neg l0, if_neg l41, if_neg (by rw [al]; decide), if_neg (fun q => q.2 z2)]] at k1
          exact iteF ⟨_, rfl, _, _, rfl, g2, by rw [ts_len]; omega, k1⟩
        · rw [decide_eq_false z2]
          rw [show digN l = none by unfold digN; rw [if_neg l0, if_neg l41, if_neg (by rw [al]; decide), if_pos ⟨by rw [e, z]; rfl, z2⟩]] at k1
          exact iteT k1
      · rw [decide_eq_false z]
        rw [show digN l = some (NumText.digitsVal l) by unfold digN; rw [if_neg l0, if_neg l41, if_neg (by rw [al]; decide), if_neg (fun q => z (by have := q.1; rw [e] at this; injection this))]] at k1
        exact iteF (iteF ⟨_, rfl, _, _, rfl, g2, by rw [ts_len]; omega, k1⟩)
end
end
end K78
set_option Elab.async false
set_option linter.all false
set_option maxRecDepth 100000
set_option maxHeartbeats 4000000
namespace K78
open PySem PySem.Spec PyProof.Rows L2 Lc
/-! ## numbers -/
theorem part_gen {x : Str} (h : 47 ∈ CL x) : ∃ a b, CL x = a ++ 47 :: b ∧ Txt.partition x ⟨#[47]⟩ = (TS a, ⟨#[47]⟩, TS b) := by
  have f := StrLaws.found_one x 47
  rw [decide_eq_true (show 47 ∈ x.cps.toList from h)] at f
  obtain ⟨fi, ch⟩ := StrLaws.occ_chain x ⟨#[47]⟩ 1
  unfold Txt.partition
  cases q : Builtin.Str.occurrences x ⟨#[47]⟩ 0 x.length 1 with
  | nil => rw [q] at f; cases f
  | cons i r =>
    rw [q] at ch
    obtain ⟨_, ⟨h1, h2⟩, _⟩ := ch
    rw [StrLaws.subAt_eq] at h2
    have h2 : (x.cps.toList.drop i).take 1 = [47] := eq_of_beq h2
    have e : x.cps.toList = x.cps.toList.take i ++ 47 :: x.cps.toList.drop (i + 1) := by
      have d : x.cps.toList.drop i = 47 :: x.cps.toList.drop (i + 1) := by
        cases w : x.cps.toList.drop i with
        | nil => rw [w] at h2; cases h2
        | cons c r =>
          rw [w] at h2
          have h2 : [c] = [47] := h2
          injection h2 with h2 _
          rw [h2]
          congr 1
          have := congrArg (List.drop 1) w
          rw [List.drop_drop] at this
          exact this.symm
      rw [← d, List.take_append_drop]
    refine ⟨_, _, e, ?_⟩
    show (Builtin.Str.strSub x 0 i, (⟨#[47]⟩ : Str), Builtin.Str.strSub x (i + 1) x.length) = _
    refine Prod.ext ?_ (Prod.ext rfl ?_)
    · refine ts_of ?_
      show (Builtin.Str.strSub x 0 i).cps.toList = _
      rw [StrLaws.strSub_toList, List.drop_zero]
      rfl
    · refine ts_of ?_
      show (Builtin.Str.strSub x (i + 1) x.length).cps.toList = _
      rw [StrLaws.strSub_toList]
      exact List.take_of_length_le (by rw [List.length_drop, lenL]; exact Nat.le_refl _)
def negA (l : List Nat) : Bool := decide (l.head? = some 45)
def str45 (l : List Nat) : List Nat := if l.head? = some 45 then l.drop 1 else l
def obN : Option (List Nat) → Option Nat
  | none => some 1
  | some b => digN b
def sgI (ng : Bool) (s : Nat) : Int := if ng then -(s : Int) else s
def numF : Bool → Bool → Option Nat → Option Nat → PyData
  | ng, sl, some s, some d => if ((sl && decide (d = 1)) || (ng && decide (s = 0))) = true then .none else if numB (.int (sgI ng s)) (.int (d : Int)) = true then .tuple [.int (sgI ng s), .int (d : Int)] else .none
  | _, _, _, _ => .none
def numAB (a : List Nat) (ob : Option (List Nat)) : PyData := numF (negA a) ob.isSome (digN (str45 a)) (obN ob)
def cutL : List Nat → Option (List Nat × List Nat)
  | [] => none
  | c :: r => if c = 47 then some ([], r) else (cutL r).map fun p => (c :: p.1, p.2)
def numD (l : List Nat) : PyData := match cutL l with
  | none => numAB l none
  | some p => numAB p.1 (some p.2)
theorem numF_n1 {ng sl : Bool} {o : Option Nat} : numF ng sl none o = .none := by rw [numF]; nofun
theorem numF_n2 {ng sl : Bool} {o : Option Nat} : numF ng sl o none = .none := by rw [numF]; nofun
theorem cutL_none : ∀ {l : List Nat}, 47 ∉ l → cutL l = none
  | [], _ => rfl
  | c :: r, h => by
    rw [cutL, if_neg (fun e => h (by rw [e]; exact List.mem_cons_self)), cutL_none fun q => h (List.mem_cons_of_mem _ q)]
    rfl
theorem cutL_some : ∀ {l : List Nat}, 47 ∈ l → ∃ a b, cutL l = some (a, b) ∧ l = a ++ 47 :: b ∧ 47 ∉ a
  | [], h => by cases h
  | c :: r, h => by
    by_cases z : c = 47
    · exact ⟨[], r, by rw [cutL, if_pos z], by rw [z]; rfl, nofun⟩
    · have h : 47 ∈ r := by
        rcases List.mem_cons.mp h with q | q
        · exact absurd q.symm z
        · exact q
      obtain ⟨a, b, e1, e2, e3⟩ := cutL_some h
      exact ⟨c :: a, b, by rw [cutL, if_neg z, e1]; rfl, by rw [e2]; rfl, fun q => by rcases List.mem_cons.mp q with q | q; exact z q.symm; exact e3 q⟩
theorem cut_two : ∀ {a0 a b b0 : List Nat}, a ++ 47 :: b = a0 ++ 47 :: b0 → 47 ∉ a0 → (a = a0 ∧ b = b0) ∨ (47 ∈ a ∧ 47 ∈ b0)
  | [], [], _, _, e, _ => .inl ⟨rfl, (List.cons.inj e).2⟩
  | [], c :: r, b, b0, e, _ => by
    obtain ⟨e1, e2⟩ := List.cons.inj e
    exact .inr ⟨by rw [e1]; exact List.mem_cons_self, by rw [← e2]; simp⟩
  | c :: r, [], b, b0, e, h => absurd (List.cons.inj e).1 (fun z => h (by rw [z]; exact List.mem_cons_self))
  | c :: r, d :: s, b, b0, e, h => by
    obtain ⟨e1, e2⟩ := List.cons.inj e
    rcases cut_two e2 (fun z => h (List.mem_cons_of_mem _ z)) with ⟨h1, h2⟩ | ⟨h1, h2⟩
    · exact .inl ⟨by rw [e1, h1], h2⟩
    · exact .inr ⟨List.mem_cons_of_mem _ h1, h2⟩
theorem dig47 {l : List Nat} (h : 47 ∈ l) : digN l = none := by
  cases e : digN l with
  | none => rfl
  | some m =>
    have := List.all_eq_true.mp (digN_digits e).2.2 47 h
    have := (isD_is 47).mp this
    omega
theorem str47 {l : List Nat} : 47 ∈ str45 l ↔ 47 ∈ l := by
  unfold str45
  cases l with
  | nil => simp
  | cons c r =>
    by_cases z : c = 45
    · subst z
      simp
    · simp [z]
theorem num_any {l a b : List Nat} (e : l = a ++ 47 :: b) : numD l = numAB a (some b) := by
  obtain ⟨a0, b0, c1, c2, c3⟩ := cutL_some (l := l) (by rw [e]; simp)
  have : numD l = numAB a0 (some b0) := by unfold numD; rw [c1]
  rw [this]
  rcases cut_two (e.symm.trans c2) c3 with ⟨rfl, rfl⟩ | ⟨h1, h2⟩
  · rfl
  · unfold numAB
    rw [dig47 (str47.mpr h1), numF_n1, show obN (some b0) = none from dig47 h2, numF_n2]
theorem num_no {l : List Nat} (h : 47 ∉ l) : numD l = numAB l none := by unfold numD; rw [cutL_none h]
theorem str45_sub (l : List Nat) : (str45 l).Sublist l := by
  unfold str45
  split
  · exact List.drop_sublist _ _
  · exact List.Sublist.refl _
def optV : Option Nat → V
  | none => .non
  | some m => .int (m : Int)
theorem dgV_is (l : List Nat) : dgV l = optV (digN l) := by unfold dgV; cases digN l <;> rfl
def spNm : Sp := fun vs H Q _ => ∃ (l : List Nat), vs = [.str (TS l)] ∧ Tx l ∧ ∀ v H', Same H H' → Dh H' v (numD l) → Q v H'
section
variable {P : Program} {w : World} {K : PySem.W.Frag} {mg : Str → Option Value} {base : Heap} {f : Addr} {fd : FuncData}
abbrev sRr : Stmt := top 29
abbrev nRr : List Str := ["text", "above", "slash", "below", "size", "d", "negative", "number"]
abbrev pRr : List Str := ["text"]
theorem scRr : FnScope nRr pRr (defScope sRr) := ⟨rfl, rfl, rfl, by decide +kernel, rfl, by decide +kernel, by decide +kernel⟩
section
variable {fA_ fB_ fC_ : Addr} {fdA_ fdB_ fdC_ : FuncData}
theorem ok_Rr (F : Fun K "read_rational" "read_rational" sRr f fd) (T : Bt mg)
    (GA_ : FnOk P w K mg base CX0 1 fA_ fdA_ ["text"] (spDg)) (mA_ : mg "read_whole" = some (.ref fA_)) (kA_ : PySem.W.keepIn K (.ref fA_) = true) (bA_ : Binds K fdA_ ["text"] [])
    (GB_ : FnOk P w K mg base CX0 2 fB_ fdB_ ["value"] (spIsR)) (mB_ : mg "is_rational" = some (.ref fB_)) (kB_ : PySem.W.keepIn K (.ref fB_) = true) (bB_ : Binds K fdB_ ["value"] [])
    (GC_ : FnOk P w K mg base CX0 1 fC_ fdC_ ["number"] (spWithin)) (mC_ : mg "within_limit" = some (.ref fC_)) (kC_ : PySem.W.keepIn K (.ref fC_) = true) (bC_ : Binds K fdC_ ["number"] []) : FnOk P w K mg base CX0 3 f fd pRr (spNm) := by
  refine F.ok scRr (fun vs H Q E h => ?_) (fun cdv A outer s H vs Q E hr h => ?_)
  · obtain ⟨l, rfl, _⟩ := h
    rfl
  · obtain ⟨l, rfl, tx, k⟩ := h
    have hrA_ : Room (1) _ := hr.mono (by first | decide | omega)
    have hrB_ : Room (2) _ := hr.mono (by first | decide | omega)
    have hrC_ : Room (1) _ := hr.mono (by first | decide | omega)
    refine ⟨_, (pss_cons (ps_asg (pe_m1 PySem.F.slot_str_partition PySem.F.type_str_partition mt_partition (pv 0) pe_str) (pg_tup rfl (pgs_cons (pg_name (i := 1) scRr.nd rfl (.inl rfl)) (pgs_cons (pg_name (i := 2) scRr.nd rfl (.inl rfl)) (pgs_cons (pg_name (i := 3) scRr.nd rfl (.inl rfl)) pgs_nil)))))
      (pss_cons (ps_set (i := 4) scRr.nd rfl (Or.inl rfl) (pe_call GA_ hrA_ (by rfl) mA_ kA_ bA_ .nil pass0 (pa_cons (pe_m1 PySem.F.slot_str_removeprefix PySem.F.type_str_removeprefix mt_removeprefix (pv 1) pe_str) pa_nil)))
      (Evl.pss_cut (ps_set (i := 5) scRr.nd rfl (Or.inl rfl) (pe_ifExp (pt_cmpR op_eq (pv 2) pe_str (nomark _)) pe_int (pe_call GA_ hrA_ (by rfl) mA_ kA_ bA_ .nil pass0 (pa_cons (pv 3) pa_nil))))
      (Evl.pss_cut (ps_if (PW.pt (pw_or (pt_cmpR op_isN (pv 4) pe_non (nomark _)) (pw_or (pt_cmpR op_isN (pv 5) pe_non (nomark _)) (pw_or1 (PW.pt (pw_and (pt_cmpR op_ne (pv 2) pe_str (nomark _)) (pw_and1 (pt_cmpR op_eq (pv 5) pe_int (nomark _))))))))) (pss_one (ps_ret pe_non)) pss_nil)
      (pss_cons (ps_set (i := 6) scRr.nd rfl (Or.inl rfl) (pe_m1 PySem.F.slot_str_startswith PySem.F.type_str_startswith mt_startswith (pv 1) pe_str))
      (pss_cons (ps_if (PW.pt (pw_and (pt_val (pv 6)) (pw_and1 (pt_cmpR op_eq (pv 4) pe_int (nomark _))))) (pss_one (ps_ret pe_non)) pss_nil)
      (Evl.pss_cut (ps_set (i := 7) scRr.nd rfl (Or.inl rfl) (pe_tup (pa_cons (pe_ifExp (pt_val (pv 6)) (pe_un un_neg (pv 4)) (pv 4)) (pa_cons (pv 5) pa_nil))))
      (pss_one (ps_ret (pe_ifExp (PW.pt (pw_and (pt_val (pe_call GB_ hrB_ (by rfl) mB_ kB_ bB_ .nil pass0 (pa_cons (pv 7) pa_nil))) (pw_and1 (pt_val (pe_call GC_ hrC_ (by rfl) mC_ kC_ bC_ .nil pass0 (pa_cons (pv 7) pa_nil)))))) (pv 7) pe_non)))))))))), ?_⟩
    have two : 2 ≤ sizeLine := by decide
    obtain ⟨a, ob, sl, bl, pe, esl, ebl, en, ta, tb⟩ : ∃ (a : List Nat) (ob : Option (List Nat)) (sl : Str) (bl : List Nat), Txt.partition (TS l) (PySem.Str.ofString "/") = (TS a, sl, TS bl) ∧ decide (V.str sl = V.str "") = ob.isNone ∧ (∀ b, ob = some b → bl = b) ∧ numD l = numAB a ob ∧ Tx a ∧ Tx bl := by
      rw [slash_eq]
      by_cases h : 47 ∈ l
      · obtain ⟨a, b, e1, e2⟩ := part_gen (x := TS l) (by rw [cl_ts]; exact h)
        rw [cl_ts] at e1
        exact ⟨a, some b, _, b, e2, (show decide (V.str (⟨#[47]⟩ : Str) = V.str "") = false by decide +kernel), fun _ e => by injection e, num_any e1, tx.sub (by rw [e1]; exact List.sublist_append_left _ _), tx.sub (by rw [e1]; exact (List.sublist_cons_self _ _).trans (List.sublist_append_right _ _))⟩
      · exact ⟨l, none, _, [], part_none (by rw [cl_ts]; exact h), by decide +kernel, nofun, num_no h, tx, tx.sub (List.nil_sublist _)⟩
    have k0 : ∀ H', Same H H' → numD l = .none → Q .non H' := fun H' s e => k .non H' s (by rw [e]; exact .non)
    refine ⟨_, rfl, ⟨_, rfl⟩, _, _, rfl, rfl, by decide +kernel, tx.line, fun p hp => ?_⟩
    rw [pe]
    have zp := Same.upd (o := .tup [.str (TS a), .str sl, .str (TS bl)]) hp
    refine ⟨p, _, rfl, SqT.of upd_same, rfl, _, _, rfl, _, _, rfl, _, _, rfl, rfl, ?_⟩
    generalize upd H p (.tup [.str (TS a), .str sl, .str (TS bl)]) = H1 at zp ⊢
    refine ⟨_, rfl, ⟨_, rfl⟩, _, _, rfl, rfl, ta.line, ?_⟩
    rw [minus_eq, prefix_one, cl_ts]
    refine ⟨str45 a, rfl, ta.sub (str45_sub a), fun H2 s2 => ?_⟩
    rw [dgV_is]
    refine ⟨fun σ H' => ∃ w6 w7 : Option V, σ = [some (.str (TS l)), some (.str (TS a)), some (.str sl), some (.str (TS bl)), some (optV (digN (str45 a))), some (optV (obN ob)), w6, w7] ∧ Same H1 H', ?_, ?_⟩
    · refine ⟨_, rfl, rfl, _, rfl, ?_⟩
      rw [esl]
      cases ob with
      | none => exact iteT ⟨none, none, rfl, s2⟩
      | some b =>
        obtain rfl := ebl b rfl
        exact iteF ⟨_, rfl, bl, rfl, tb, fun H3 s3 => ⟨none, none, by rw [dgV_is]; rfl, s2.trans s3⟩⟩
    rintro σ H3 ⟨w6, w7, rfl, s3⟩
    have sH := zp.trans s3
    refine ⟨fun σ H' => ∃ (s d : Nat), σ = [some (.str (TS l)), some (.str (TS a)), some (.str sl), some (.str (TS bl)), some (.int (s : Int)), some (.int (d : Int)), w6, w7] ∧ H' = H3 ∧ digN (str45 a) = some s ∧ obN ob = some d ∧ (ob.isSome && decide (d = 1)) = false, ?_, ?_⟩
    · refine ⟨_, rfl, rfl, _, rfl, ?_⟩
      cases e1 : digN (str45 a) with
      | none => exact iteT (iteT (k0 _ sH (by rw [en, numAB, e1, numF_n1])))
      | some s =>
        refine iteF ⟨_, rfl, rfl, _, rfl, ?_⟩
        cases e2 : obN ob with
        | none => exact iteT (iteT (k0 _ sH (by rw [en, numAB, e2, numF_n2])))
        | some d =>
          refine iteF ⟨_, rfl, rfl, _, rfl, ?_⟩
          rw [esl]
          cases ob with
          | none => exact iteF (iteF ⟨s, d, rfl, rfl, rfl, rfl, rfl⟩)
          | some b =>
            refine iteT ⟨_, rfl, rfl, _, rfl, ?_⟩
            by_cases z : d = 1
            · rw [decide_eq_true (show optV (some d) = V.int 1 by rw [z]; rfl)]
              exact iteT (k0 _ sH (by rw [en, numAB, e1, e2, numF, if_pos (by rw [decide_eq_true z]; rfl)]))
            · rw [decide_eq_false (show ¬ optV (some d) = V.int 1 from fun q => z (by have q : V.int (d : Int) = V.int 1 := q; injection q with q; omega))]
              exact iteF ⟨s, d, rfl, rfl, rfl, rfl, by rw [decide_eq_false z]; rfl⟩
    rintro σ H4 ⟨s, d, rfl, rfl, e1, e2, e3⟩
    have en : numD l = numF (negA a) ob.isSome (some s) (some d) := by rw [en, numAB, e1, e2]
    rw [numF, e3, Bool.false_or] at en
    refine ⟨_, rfl, ⟨_, rfl⟩, _, _, rfl, rfl, ?_⟩
    rw [starts_one, cl_ts]
    have fin : ∀ (n : Int) (q : Addr) (H5 : Hp), n = sgI (negA a) s → (negA a && decide (s = 0)) = false → H5 q = some (.tup [.int n, .int (d : Int)]) → Same H H5 → numD l = if numB (.int n) (.int (d : Int)) = true then .tuple [.int n, .int (d : Int)] else .none := fun n q H5 hn hz _ _ => by rw [en, if_neg (by rw [hz]; decide), hn]
    by_cases ng : a.head? = some 45
    · have ngA : negA a = true := decide_eq_true ng
      rw [decide_eq_true ng]
      refine ⟨_, rfl, _, rfl, iteT ⟨_, rfl, rfl, _, rfl, ?_⟩⟩
      by_cases z : s = 0
      · rw [decide_eq_true (show V.int (s : Int) = V.int 0 by rw [z]; rfl)]
        exact iteT (k0 _ sH (by rw [en, ngA, decide_eq_true z]; rfl))
      rw [decide_eq_false (show ¬ V.int (s : Int) = V.int 0 from fun e => z (by injection e with e; omega))]
      refine iteF ⟨fun σ H' => ∃ (q : Addr) (w0 w1 w2 w3 w4 w5 w6 : Option V), σ = [w0, w1, w2, w3, w4, w5, w6, some (.ref q)] ∧ H' q = some (.tup [.int (-(s : Int)), .int (d : Int)]) ∧ Same H H', ?_, ?_⟩
      · exact ⟨_, rfl, _, rfl, iteT ⟨_, rfl, _, rfl, _, rfl, two, fun q hq => ⟨q, _, _, _, _, _, _, _, rfl, upd_same, sH.trans (Same.upd hq)⟩⟩⟩
      · rintro σ H5 ⟨q, w0, w1, w2, w3, w4, w5, w6, rfl, hq, s5⟩
        have f := fin _ q H5 (by rw [ngA]; rfl) (by rw [decide_eq_false z, Bool.and_false]) hq s5
        refine ⟨_, rfl, .ref q, _, rfl, .pair hq (.int _) (.int _), _, rfl, ?_⟩
        cases r1 : ratB (.int (-(s : Int))) (.int (d : Int)) with
        | false => exact iteF (k0 _ s5 (by rw [f, if_neg (by unfold numB; rw [r1, Bool.false_and]; decide)]))
        | true =>
          refine iteT ⟨_, rfl, q, _, _, rfl, hq, _, rfl, ?_⟩
          cases r2 : limB (.int (-(s : Int))) (.int (d : Int)) with
          | false => exact iteF (k0 _ s5 (by rw [f, if_neg (by unfold numB; rw [r1, r2]; decide)]))
          | true => exact iteT ⟨_, rfl, k _ H5 s5 (by rw [f, if_pos (by unfold numB; rw [r1, r2]; rfl)]; exact .tup hq (.cons (.int _) (.cons (.int _) .nil)))⟩
    · have ngA : negA a = false := decide_eq_false ng
      rw [decide_eq_false ng]
      refine ⟨_, rfl, _, rfl, iteF (iteF ⟨fun σ H' => ∃ (q : Addr) (w0 w1 w2 w3 w4 w5 w6 : Option V), σ = [w0, w1, w2, w3, w4, w5, w6, some (.ref q)] ∧ H' q = some (.tup [.int (s : Int), .int (d : Int)]) ∧ Same H H', ?_, ?_⟩)⟩
      · exact ⟨_, rfl, _, rfl, iteF ⟨_, rfl, _, rfl, two, fun q hq => ⟨q, _, _, _, _, _, _, _, rfl, upd_same, sH.trans (Same.upd hq)⟩⟩⟩
      · rintro σ H5 ⟨q, w0, w1, w2, w3, w4, w5, w6, rfl, hq, s5⟩
        have f := fin _ q H5 (by rw [ngA]; rfl) (by rw [ngA]; rfl) hq s5
        refine ⟨_, rfl, .ref q, _, rfl, .pair hq (.int _) (.int _), _, rfl, ?_⟩
        cases r1 : ratB (.int (s : Int)) (.int (d : Int)) with
        | false => exact iteF (k0 _ s5 (by rw [f, if_neg (by unfold numB; rw [r1, Bool.false_and]; decide)]))
        | true =>
          refine iteT ⟨_, rfl, q, _, _, rfl, hq, _, rfl, ?_⟩
          cases r2 : limB (.int (s : Int)) (.int (d : Int)) with
          | false => exact iteF (k0 _ s5 (by rw [f, if_neg (by unfold numB; rw [r1, r2]; decide)]))
          | true => exact iteT ⟨_, rfl, k _ H5 s5 (by rw [f, if_pos (by unfold numB; rw [r1, r2]; rfl)]; exact .tup hq (.cons (.int _) (.cons (.int _) .nil)))⟩
end
end
end K78
set_option Elab.async false
set_option linter.all false
set_option maxRecDepth 100000
set_option maxHeartbeats 4000000
namespace K78
open PySem PySem.Spec PyProof.Rows L2 Lc
/-! ## numbers as the law reads them -/
theorem cut1 (l : List Nat) : cutS (TS l) none (some 1) = TS (l.take 1) := ts_of (by show (cutS (TS l) none (some 1)).cps.toList = _; rw [cut_first, show (TS l).cps.toList = l from cl_ts l])
theorem cutR (l : List Nat) : cutS (TS l) (some 1) none = TS (l.drop 1) := ts_of (by show (cutS (TS l) (some 1) none).cps.toList = _; rw [cut_rest, show (TS l).cps.toList = l from cl_ts l])
theorem dec_take {l : List Nat} {c : Nat} {z : Str} (e : CL z = [c]) : decide (V.str (TS (l.take 1)) = V.str z) = decide (l.head? = some c) := by
  rw [dec_ts e]
  cases l with
  | nil => rfl
  | cons a r => exact decide_eq_decide.mpr (by simp)
theorem minus_cl : CL (PySem.Str.ofString "-") = [45] := by decide +kernel
def jl47 : List (List Nat) → List Nat
  | [] => []
  | [x] => x
  | x :: y :: r => x ++ 47 :: jl47 (y :: r)
theorem toL_join47 : ∀ ps : List Str, (Str.join ⟨#[47]⟩ ps).cps.toList = jl47 (ps.map fun p => p.cps.toList)
  | [] => rfl
  | [x] => rfl
  | x :: y :: r => by
    have ih := toL_join47 (y :: r)
    have e : Str.join ⟨#[47]⟩ (x :: y :: r) = x ++ ⟨#[47]⟩ ++ Str.join ⟨#[47]⟩ (y :: r) := rfl
    rw [e]
    show (x.cps ++ #[47] ++ (Str.join ⟨#[47]⟩ (y :: r)).cps).toList = _
    rw [Array.toList_append, Array.toList_append, ih]
    show x.cps.toList ++ [47] ++ jl47 (y.cps.toList :: r.map fun p => p.cps.toList) = x.cps.toList ++ 47 :: jl47 (y.cps.toList :: r.map fun p => p.cps.toList)
    rw [List.append_assoc]
    rfl
inductive Parts (m : List Nat) : List Str → Prop
  | one (h : 47 ∉ m) : Parts m [TS m]
  | two {p q : List Nat} (e : m = p ++ 47 :: q) (hp : 47 ∉ p) (hq : 47 ∉ q) : Parts m [TS p, TS q]
  | more {p q : List Nat} {y z : Str} {r : List Str} (e : m = p ++ 47 :: q) (hp : 47 ∉ p) (hq : 47 ∈ q) : Parts m (TS p :: y :: z :: r)
theorem parts_of (m : List Nat) : Parts m (Txt.split (TS m) ⟨#[47]⟩) := by
  have e : jl47 ((Txt.split (TS m) ⟨#[47]⟩).map fun p => p.cps.toList) = m := by
    rw [← toL_join47, StrLaws.join_split]
    exact cl_ts m
  have fr := StrLaws.split_free (TS m) 47
  by_cases m0 : m = []
  · subst m0
    rw [show Txt.split (TS []) ⟨#[47]⟩ = [TS []] by decide +kernel]
    exact .one nofun
  match q : Txt.split (TS m) ⟨#[47]⟩, e, fr with
  | [], e, _ => exact absurd e.symm m0
  | [x], e, fr =>
    have e : x.cps.toList = m := e
    have := ts_of (x := x) e
    rw [this]
    exact .one (by rw [← e]; exact fr x List.mem_cons_self)
  | [x, y], e, fr =>
    have e : x.cps.toList ++ 47 :: y.cps.toList = m := e
    have h := Parts.two e.symm (fr x List.mem_cons_self) (fr y (List.mem_cons_of_mem _ List.mem_cons_self))
    rw [show TS x.cps.toList = x from ts_cl x, show TS y.cps.toList = y from ts_cl y] at h
    exact h
  | x :: y :: z :: r, e, fr =>
    have e : x.cps.toList ++ 47 :: (y.cps.toList ++ 47 :: jl47 (z.cps.toList :: r.map fun p => p.cps.toList)) = m := e
    have h := Parts.more (y := y) (z := z) (r := r) e.symm (fr x List.mem_cons_self) (by simp)
    rw [show TS x.cps.toList = x from ts_cl x] at h
    exact h
theorem num_A {l : List Nat} (h : 47 ∉ str45 l) : numD l = numF (negA l) false (digN (str45 l)) (some 1) := num_no fun q => h (str47.mpr q)
theorem num_B {l p q : List Nat} (e : str45 l = p ++ 47 :: q) (hp : 47 ∉ p) : numD l = numF (negA l) true (digN p) (digN q) := by
  unfold str45 at e
  by_cases z : l.head? = some 45
  · rw [if_pos z] at e
    obtain ⟨c, r, rfl⟩ : ∃ c r, l = c :: r := by cases l with | nil => cases z | cons c r => exact ⟨c, r, rfl⟩
    obtain rfl : c = 45 := by injection z
    have e : r = p ++ 47 :: q := e
    rw [num_any (a := 45 :: p) (b := q) (by rw [e]; rfl)]
    rfl
  · rw [if_neg z] at e
    have np : ¬ p.head? = some 45 := fun w => z (by rw [e]; cases p with | nil => cases w | cons c r => exact w)
    rw [num_any e]
    unfold numAB negA str45
    rw [if_neg np, decide_eq_false np, decide_eq_false z]
    rfl
theorem dig0 {r : List Nat} (h : digN r = some 0) : r = [48] := by
  obtain ⟨h1, h2, h3⟩ := digN_digits h
  unfold digN at h
  rw [if_neg h1, if_neg (by omega), if_neg (by rw [h3]; decide)] at h
  split at h
  · cases h
  · rename_i hz
    cases r with
    | nil => exact absurd rfl h1
    | cons c t =>
      by_cases z : c = 48
      · exact Classical.byContradiction fun w => hz ⟨by rw [z]; rfl, w⟩
      · have hc := (isD_is c).mp (List.all_eq_true.mp h3 c List.mem_cons_self)
        have hv : NumText.digitsVal (c :: t) = 0 := Option.some.inj h
        have va := val_app [c] t
        rw [show [c] ++ t = c :: t from rfl, hv] at va
        have v1 : NumText.digitsVal [c] = c - 48 := by show 0 * 10 + (c - 48) = _; omega
        rw [v1] at va
        have : 0 < 10 ^ t.length := Nat.pow_pos (by decide)
        have : 1 * 1 ≤ (c - 48) * 10 ^ t.length := Nat.mul_le_mul (by omega) (by omega)
        omega
theorem minus0 {l : List Nat} : l = [45, 48] ↔ negA l = true ∧ digN (str45 l) = some 0 := by
  refine ⟨fun h => by rw [h]; decide +kernel, fun ⟨h1, h2⟩ => ?_⟩
  have h1 : l.head? = some 45 := of_decide_eq_true h1
  have := dig0 h2
  unfold str45 at this
  rw [if_pos h1] at this
  cases l with
  | nil => cases h1
  | cons c r =>
    injection h1 with h1
    rw [h1]
    exact congrArg (45 :: ·) this
theorem low_same {s d : Int} (h : 0 < d) : (lowN s d = s ∧ lowD s d = d) ↔ gd s d = 1 := by
  refine ⟨fun ⟨_, h2⟩ => ?_, fun g => ?_⟩
  · have m := (low_mul (n := s) (d := d) (by omega)).2
    rw [h2] at m
    have : d * gd s d = d * 1 := by rw [m, Int.mul_one]
    exact Int.eq_of_mul_eq_mul_left (by omega) this
  · unfold lowN lowD
    rw [g, Int.ediv_one, Int.ediv_one]
    exact ⟨rfl, rfl⟩
theorem gd_sg (ng : Bool) (s : Nat) (d : Int) : gd (sgI ng s) d = gd (s : Int) d := by
  cases ng with
  | false => rfl
  | true => show gd (-(s : Int)) d = _; unfold gd; rw [Int.neg_gcd]
theorem num_law {ng sl : Bool} {s d : Nat} : numF ng sl (some s) (some d) = if d < 1 ∨ lim < (s : Int) ∨ lim < (d : Int) then .none else if (sl = true ∧ d = 1) ∨ ¬ (lowN (s : Int) (d : Int) = s ∧ lowD (s : Int) (d : Int) = d) ∨ (ng = true ∧ s = 0) then .none else .tuple [.int (sgI ng s), .int (d : Int)] := by
  have ab : (if sgI ng s < 0 then -sgI ng s else sgI ng s) = (s : Int) := by
    cases ng with
    | false => show (if (s : Int) < 0 then -(s : Int) else s) = s; split <;> omega
    | true => show (if -(s : Int) < 0 then - -(s : Int) else -(s : Int)) = s; split <;> omega
  have nb : numB (.int (sgI ng s)) (.int (d : Int)) = (decide ((0 : Int) < d) && decide (gd (s : Int) (d : Int) = 1) && (decide ((s : Int) ≤ lim) && decide ((d : Int) ≤ lim))) := by
    show (decide ((0 : Int) < d) && decide (gd (sgI ng s) d = 1) && (decide ((if sgI ng s < 0 then -sgI ng s else sgI ng s) ≤ lim) && decide ((d : Int) ≤ lim))) = _
    rw [gd_sg, ab]
  rw [numF, nb]
  by_cases c1 : d < 1 ∨ lim < (s : Int) ∨ lim < (d : Int)
  · rw [if_pos c1]
    split
    · rfl
    · rw [if_neg]
      intro q
      simp only [Bool.and_eq_true, decide_eq_true_eq] at q
      omega
  · rw [if_neg c1]
    have dp : (0 : Int) < d := by omega
    by_cases c2 : (sl = true ∧ d = 1) ∨ ¬ (lowN (s : Int) (d : Int) = s ∧ lowD (s : Int) (d : Int) = d) ∨ (ng = true ∧ s = 0)
    · rw [if_pos c2]
      split
      · rfl
      · rename_i w
        rw [if_neg]
        intro q
        simp only [Bool.and_eq_true, Bool.or_eq_true, decide_eq_true_eq] at q w
        rcases c2 with c2 | c2 | c2
        · exact w (.inl c2)
        · exact c2 ((low_same dp).mpr q.1.2)
        · exact w (.inr c2)
    · rw [if_neg c2]
      have n1 : ¬ (sl = true ∧ d = 1) := fun q => c2 (.inl q)
      have n2 : lowN (s : Int) (d : Int) = s ∧ lowD (s : Int) (d : Int) = d := Classical.byContradiction fun q => c2 (.inr (.inl q))
      have n3 : ¬ (ng = true ∧ s = 0) := fun q => c2 (.inr (.inr q))
      rw [if_neg (by simp only [Bool.and_eq_true, Bool.or_eq_true, decide_eq_true_eq]; intro q; rcases q with q | q; exact n1 q; exact n3 q), if_pos]
      simp only [Bool.and_eq_true, decide_eq_true_eq]
      exact ⟨⟨dp, (low_same dp).mp n2⟩, by omega, by omega⟩
def lone (tw : Bool) (so dq : Option Nat) (l : List Nat) : Prop := numD l = numF (negA l) tw so dq ∧ (tw = false → dq = some 1 ∧ so = digN (str45 l)) ∧ (tw = true → l ≠ [45, 48])
theorem dec_m0 (l : List Nat) : decide (V.str (TS l) = V.str "-0") = decide (l = [45, 48]) := dec_ts (by decide +kernel)
theorem low_eqv {n d : Int} (h : 0 < d) : PyData.eqv (.tuple [.int (lowN n d), .int (lowD n d)]) (.tuple [.int n, .int d]) = decide (gd n d = 1) := by
  have m := low_mul (n := n) (d := d) (by omega)
  have g := gd_pos (a := n) (b := d) (by omega)
  by_cases z : gd n d = 1
  · rw [decide_eq_true z]
    rw [z, Int.mul_one, Int.mul_one] at m
    rw [m.1, m.2]
    simp [PyData.eqv, PyData.eqvAll]
  · rw [decide_eq_false z]
    have ne : lowD n d ≠ d := fun e => by
      rw [e] at m
      have : d * gd n d = d * 1 := by rw [Int.mul_one]; exact m.2
      exact z (Int.eq_of_mul_eq_mul_left (by omega) this)
    simp [PyData.eqv, PyData.eqvAll, ne]
theorem gd_zero (d : Int) (h : 0 < d) : gd 0 d = d := by
  unfold gd
  rw [Int.gcd_zero_left]
  omega
section
variable {P : Program} {w : World} {K : PySem.W.Frag} {mg : Str → Option Value} {base : Heap} {f : Addr} {fd : FuncData}
end
end K78
set_option Elab.async false
set_option linter.all false
set_option maxRecDepth 100000
set_option maxHeartbeats 4000000
namespace K78
open PySem PySem.Spec PyProof.Rows L2 Lc
/-! ## leaves -/
def nmL (l : List Nat) : Bool := nameB (.str (TS l))
def valD (l : List Nat) : PyData := if l = [35, 121, 101, 115] then .bool true else if l = [35, 110, 111] then .bool false else if l.head? = some 39 then (if nmL (l.drop 1) = true then .str (TS (l.drop 1)) else .none) else numD l
def wrapD : PyData → PyData
  | .none => .none
  | d => .tuple [.str "value", d]
theorem wrap_ne {d : PyData} (h : d ≠ .none) : wrapD d = .tuple [.str "value", d] := by cases d <;> first | rfl | exact absurd rfl h
def leafD (t : List Nat) : PyData := if nmL t = true then .tuple [.str "column", .str (TS t)] else if t.head? = some 61 then wrapD (valD (t.drop 1)) else .none
def spLin : Sp := fun vs H Q _ => ∃ (l : List Nat), vs = [.str (TS l)] ∧ Tx l ∧ ∀ H', Same H H' → Q (.bl (nmL l)) H'
def spRv : Sp := fun vs H Q _ => ∃ (l : List Nat), vs = [.str (TS l)] ∧ Tx l ∧ ∀ v H', Same H H' → Dh H' v (valD l) → Q v H'
def spRl : Sp := fun vs H Q _ => ∃ (l : List Nat), vs = [.str (TS l)] ∧ Tx l ∧ ∀ v H', Same H H' → Dh H' v (leafD l) → Q v H'
theorem cutG {l : List Nat} {a b : Nat} (h1 : a ≤ b) : cutS (TS l) (some (a : Int)) (some (b : Int)) = TS ((l.drop a).take (b - a)) := by
  refine ts_of ?_
  show (cutS (TS l) (some (a : Int)) (some (b : Int))).cps.toList = _
  unfold cutS
  rw [HT.sIx_nat, HT.sIx_nat, ts_len]
  show List.take (min b l.length - min a l.length) (List.drop (min a l.length) (CL (TS l))) = _
  rw [cl_ts]
  by_cases ha : a ≤ l.length
  · rw [Nat.min_eq_left ha]
    by_cases hb : b ≤ l.length
    · rw [Nat.min_eq_left hb]
    · rw [Nat.min_eq_right (by omega), List.take_of_length_le (by rw [List.length_drop]; exact Nat.le_refl _), List.take_of_length_le (by rw [List.length_drop]; omega)]
  · rw [Nat.min_eq_right (show l.length ≤ a by omega), List.drop_of_length_le (Nat.le_refl _), List.drop_of_length_le (by omega), List.take_nil, List.take_nil]
theorem cutE {l : List Nat} {a : Nat} : cutS (TS l) (some (a : Int)) none = TS (l.drop a) := by
  refine ts_of ?_
  show (cutS (TS l) (some (a : Int)) none).cps.toList = _
  have e2 : HT.sIx (TS l).length (TS l).length none = (TS l).length := rfl
  unfold cutS
  rw [HT.sIx_nat, e2, ts_len]
  show List.take (l.length - min a l.length) (List.drop (min a l.length) (CL (TS l))) = _
  rw [cl_ts]
  by_cases ha : a ≤ l.length
  · rw [Nat.min_eq_left ha, List.take_of_length_le (by rw [List.length_drop]; exact Nat.le_refl _)]
  · rw [Nat.min_eq_right (by omega), List.drop_of_length_le (Nat.le_refl _), List.drop_of_length_le (by omega), List.take_nil]
theorem nm_not61 {l : List Nat} (h : l.head? = some 61) : nmL l = false := by
  cases q : nmL l with
  | false => rfl
  | true =>
    cases l with
    | nil => cases h
    | cons c r =>
      injection h with h
      have := (name_signs q).2.2.2 c r (cl_ts _)
      omega
def isNo : PyData → Bool
  | .none => true
  | _ => false
theorem isNo_t {d : PyData} (h : isNo d = true) : d = .none := by cases d <;> first | rfl | cases h
theorem isNo_f {d : PyData} (h : isNo d = false) : d ≠ .none := fun e => by rw [e] at h; cases h
theorem dh_non {H : Hp} {v : V} {d : PyData} (h : Dh H v d) : decide (v = V.non) = isNo d := by
  cases h <;> first | rfl | exact decide_eq_false nofun
theorem yes_cl : CL (PySem.Str.ofString "#yes") = [35, 121, 101, 115] := by decide +kernel
theorem no_cl : CL (PySem.Str.ofString "#no") = [35, 110, 111] := by decide +kernel
theorem eyes_cl : CL (PySem.Str.ofString "=#yes") = [61, 35, 121, 101, 115] := by decide +kernel
theorem eno_cl : CL (PySem.Str.ofString "=#no") = [61, 35, 110, 111] := by decide +kernel
theorem tick_cl : CL (PySem.Str.ofString "'") = [39] := by decide +kernel
theorem eq_cl : CL (PySem.Str.ofString "=") = [61] := by decide +kernel
section
variable {P : Program} {w : World} {K : PySem.W.Frag} {mg : Str → Option Value} {base : Heap} {f : Addr} {fd : FuncData}
abbrev sRv : Stmt := top 30
abbrev nRv : List Str := ["text", "word"]
abbrev pRv : List Str := ["text"]
theorem scRv : FnScope nRv pRv (defScope sRv) := ⟨rfl, rfl, rfl, by decide +kernel, rfl, by decide +kernel, by decide +kernel⟩
section
variable {fA_ fB_ : Addr} {fdA_ fdB_ : FuncData}
theorem ok_Rv (F : Fun K "read_value" "read_value" sRv f fd) (T : Bt mg)
    (GA_ : FnOk P w K mg base CX0 1 fA_ fdA_ ["value"] (spName)) (mA_ : mg "is_name" = some (.ref fA_)) (kA_ : PySem.W.keepIn K (.ref fA_) = true) (bA_ : Binds K fdA_ ["value"] [])
    (GB_ : FnOk P w K mg base CX0 3 fB_ fdB_ ["text"] (spNm)) (mB_ : mg "read_rational" = some (.ref fB_)) (kB_ : PySem.W.keepIn K (.ref fB_) = true) (bB_ : Binds K fdB_ ["text"] []) : FnOk P w K mg base CX0 4 f fd pRv (spRv) := by
  refine F.ok scRv (fun vs H Q E h => ?_) (fun cdv A outer s H vs Q E hr h => ?_)
  · obtain ⟨l, rfl, _⟩ := h
    rfl
  · obtain ⟨l, rfl, tx, k⟩ := h
    have hrA_ : Room (1) _ := hr.mono (by first | decide | omega)
    have hrB_ : Room (3) _ := hr.mono (by first | decide | omega)
    refine ⟨_, (pss_cons (ps_if (PW.pt (pw_or (pt_cmpR op_eq (pv 0) pe_str (nomark _)) (pw_or1 (pt_cmpR op_eq (pv 0) pe_str (nomark _))))) (pss_one (ps_ret (pe_cmpR op_eq (pv 0) pe_str (nomark _)))) pss_nil)
      (pss_cons (ps_if (pt_val (pe_m1 PySem.F.slot_str_startswith PySem.F.type_str_startswith mt_startswith (pv 0) pe_str)) (pss_cons (ps_set (i := 1) scRv.nd rfl (Or.inl rfl) (pe_slice sl_str (pv 0) (po_some pe_int) po_none))
      (pss_one (ps_ret (pe_ifExp (pt_val (pe_call GA_ hrA_ (by rfl) mA_ kA_ bA_ .nil pass0 (pa_cons (pv 1) pa_nil))) (pv 1) pe_non)))) pss_nil)
      (pss_one (ps_ret (pe_call GB_ hrB_ (by rfl) mB_ kB_ bB_ .nil pass0 (pa_cons (pv 0) pa_nil)))))), ?_⟩
    have t1 : Tx (l.drop 1) := tx.sub (List.drop_sublist _ _)
    unfold valD at k
    refine ⟨_, rfl, rfl, _, rfl, ?_⟩
    rw [dec_ts yes_cl]
    by_cases y : l = [35, 121, 101, 115]
    · rw [decide_eq_true y]
      refine iteT (iteT ⟨_, rfl, rfl, ?_⟩)
      show Q (.bl (decide (V.str (TS l) = V.str (PySem.Str.ofString "#yes")))) H
      rw [dec_ts yes_cl, decide_eq_true y]
      exact k _ H (Same.refl H) (by rw [if_pos y]; exact .bl _)
    rw [decide_eq_false y]
    rw [if_neg y] at k
    refine iteF ⟨_, rfl, rfl, _, rfl, ?_⟩
    rw [dec_ts no_cl]
    by_cases n : l = [35, 110, 111]
    · rw [decide_eq_true n]
      refine iteT ⟨_, rfl, rfl, ?_⟩
      show Q (.bl (decide (V.str (TS l) = V.str (PySem.Str.ofString "#yes")))) H
      rw [dec_ts yes_cl, decide_eq_false y]
      exact k _ H (Same.refl H) (by rw [if_pos n]; exact .bl _)
    rw [decide_eq_false n]
    rw [if_neg n] at k
    refine iteF ⟨_, rfl, ⟨_, rfl⟩, _, _, rfl, rfl, _, rfl, ?_⟩
    rw [tick_eq, starts_one, cl_ts]
    by_cases q : l.head? = some 39
    · rw [decide_eq_true q]
      rw [if_pos q] at k
      refine iteT ⟨_, rfl, 1, rfl, _, rfl, tx.line, ?_⟩
      rw [cutR]
      refine ⟨_, rfl, .str (TS (l.drop 1)), "str", rfl, .str _, fun y e => by injection e with e; rw [← e]; exact t1.line, fun H' s' => ⟨_, rfl, ?_⟩⟩
      show if nmL (l.drop 1) = true then _ else _
      cases nb : nmL (l.drop 1) with
      | true =>
        rw [if_pos nb] at k
        exact iteT ⟨_, rfl, k _ H' s' (.str _)⟩
      | false =>
        rw [if_neg (by rw [nb]; decide)] at k
        exact iteF (k _ H' s' .non)
    · rw [decide_eq_false q]
      rw [if_neg q] at k
      exact iteF ⟨_, rfl, l, rfl, tx, k⟩
end
abbrev sRl : Stmt := top 31
abbrev nRl : List Str := ["token", "value"]
abbrev pRl : List Str := ["token"]
theorem scRl : FnScope nRl pRl (defScope sRl) := ⟨rfl, rfl, rfl, by decide +kernel, rfl, by decide +kernel, by decide +kernel⟩
section
variable {fA_ fB_ : Addr} {fdA_ fdB_ : FuncData}
theorem ok_Rl (F : Fun K "read_leaf" "read_leaf" sRl f fd) (T : Bt mg)
    (GA_ : FnOk P w K mg base CX0 1 fA_ fdA_ ["value"] (spName)) (mA_ : mg "is_name" = some (.ref fA_)) (kA_ : PySem.W.keepIn K (.ref fA_) = true) (bA_ : Binds K fdA_ ["value"] [])
    (GB_ : FnOk P w K mg base CX0 4 fB_ fdB_ ["text"] (spRv)) (mB_ : mg "read_value" = some (.ref fB_)) (kB_ : PySem.W.keepIn K (.ref fB_) = true) (bB_ : Binds K fdB_ ["text"] []) : FnOk P w K mg base CX0 5 f fd pRl (spRl) := by
  refine F.ok scRl (fun vs H Q E h => ?_) (fun cdv A outer s H vs Q E hr h => ?_)
  · obtain ⟨l, rfl, _⟩ := h
    rfl
  · obtain ⟨l, rfl, tx, k⟩ := h
    have hrA_ : Room (1) _ := hr.mono (by first | decide | omega)
    have hrB_ : Room (4) _ := hr.mono (by first | decide | omega)
    refine ⟨_, (pss_cons (ps_if (pt_val (pe_call GA_ hrA_ (by rfl) mA_ kA_ bA_ .nil pass0 (pa_cons (pv 0) pa_nil))) (pss_one (ps_ret (pe_tup (pa_cons pe_str (pa_cons (pv 0) pa_nil))))) pss_nil)
      (pss_cons (ps_if (pt_not (pt_val (pe_m1 PySem.F.slot_str_startswith PySem.F.type_str_startswith mt_startswith (pv 0) pe_str))) (pss_one (ps_ret pe_non)) pss_nil)
      (pss_cons (ps_set (i := 1) scRl.nd rfl (Or.inl rfl) (pe_call GB_ hrB_ (by rfl) mB_ kB_ bB_ .nil pass0 (pa_cons (pe_slice sl_str (pv 0) (po_some pe_int) po_none) pa_nil)))
      (pss_one (ps_ret (pe_ifExp (pt_cmpR op_isN (pv 1) pe_non (nomark _)) pe_non (pe_tup (pa_cons pe_str (pa_cons (pv 1) pa_nil))))))))), ?_⟩
    have two : 2 ≤ sizeLine := by decide
    have t1 : Tx (l.drop 1) := tx.sub (List.drop_sublist _ _)
    unfold leafD at k
    refine ⟨_, rfl, .str (TS l), "str", rfl, .str _, fun y e => by injection e with e; rw [← e]; exact tx.line, fun H' s' => ⟨_, rfl, ?_⟩⟩
    show if nmL l = true then _ else _
    cases nb : nmL l with
    | true =>
      rw [if_pos nb] at k
      exact iteT ⟨_, rfl, two, fun p hp => k _ _ (s'.trans (Same.upd hp)) (.tup upd_same (.cons (.str _) (.cons (.str _) .nil)))⟩
    | false =>
      rw [if_neg (by rw [nb]; decide)] at k
      refine iteF ⟨_, rfl, ⟨_, rfl⟩, _, _, rfl, rfl, _, rfl, ?_⟩
      rw [equal_eq, starts_one, cl_ts]
      by_cases q : l.head? = some 61
      · rw [decide_eq_true q]
        rw [if_pos q] at k
        refine iteF ⟨_, rfl, 1, rfl, _, rfl, tx.line, ?_⟩
        rw [cutR]
        refine ⟨l.drop 1, rfl, t1, fun v H2 s2 hv => ⟨_, rfl, rfl, _, rfl, ?_⟩⟩
        rw [dh_non hv]
        cases z : isNo (valD (l.drop 1)) with
        | true => exact iteT (k _ H2 (s'.trans s2) (by rw [isNo_t z]; exact .non))
        | false => exact iteF ⟨_, rfl, two, fun p hp => k _ _ ((s'.trans s2).trans (Same.upd hp)) (by rw [wrap_ne (isNo_f z)]; exact .tup upd_same (.cons (.str _) (.cons (hv.same (Same.upd hp)) .nil)))⟩
      · rw [decide_eq_false q]
        rw [if_neg q] at k
        exact iteT (k _ H' s' .non)
end
end
end K78
set_option Elab.async false
set_option linter.all false
set_option maxRecDepth 100000
set_option maxHeartbeats 4000000
namespace K78
open PySem PySem.Spec PyProof.Rows L2 Lc
def sgs : Str := "() "
theorem sgs_in (c : Nat) : decide (c ∈ sgs.cps.toList) = decide (sgl c) := by
  have e : sgs.cps.toList = [40, 41, 32] := by decide +kernel
  rw [e]
  exact decide_eq_decide.mpr (by simp [sgl])
def PcsH (H : Hp) (P : Addr) (rs : List Addr) (ps : List (Nat × List Nat)) : Prop := H P = some (.lst (rs.map V.ref)) ∧ Paired (fun r (q : Nat × List Nat) => H r = some (.tup [.int (q.1 : Int), .str (TS q.2)])) rs ps
theorem PcsH.same {H H' : Hp} {P : Addr} {rs : List Addr} {ps : List (Nat × List Nat)} (h : PcsH H P rs ps) (s : Same H H') : PcsH H' P rs ps := ⟨s _ _ h.1, paired_imp (fun _ _ e => s _ _ e) h.2⟩
theorem paired_len {α β : Type} {R : α → β → Prop} : ∀ {l : List α} {m : List β}, Paired R l m → l.length = m.length
  | _, _, .nil => rfl
  | _, _, .cons _ r => by rw [List.length_cons, List.length_cons, paired_len r]
theorem paired_get {α β : Type} {R : α → β → Prop} : ∀ {l : List α} {m : List β}, Paired R l m → ∀ {i : Nat} {b : β}, m[i]? = some b → ∃ a, l[i]? = some a ∧ R a b
  | _, _, .nil, i, b, e => by simp at e
  | _, _, .cons h r, 0, b, e => by injection e with e; subst e; exact ⟨_, rfl, h⟩
  | _, _, .cons h r, i + 1, b, e => paired_get r (by simpa using e)
def spPo : Sp := fun vs H Q _ => ∃ (l : List Nat), vs = [.str (TS l)] ∧ l.length ≤ 400000 ∧ ∀ (P : Addr) (rs : List Addr) (H' : Hp), Same H H' → PcsH H' P rs (pfold l 0 [] ++ [(l.length, [])]) → Q (.ref P) H'
theorem cut_mid {l : List Nat} {a b : Nat} (h1 : a ≤ b) (h2 : b ≤ l.length) : cutS (TS l) (some (a : Int)) (some (b : Int)) = TS ((l.drop a).take (b - a)) := by
  refine ts_of ?_
  show (cutS (TS l) (some (a : Int)) (some (b : Int))).cps.toList = _
  unfold cutS
  rw [HT.sIx_nat, HT.sIx_nat, ts_len, show min a l.length = a by omega, show min b l.length = b by omega]
  show List.take (b - a) (List.drop a (CL (TS l))) = _
  rw [cl_ts]
theorem cut_end {l : List Nat} {a : Nat} (h : a ≤ l.length) : cutS (TS l) (some (a : Int)) none = TS (l.drop a) := by
  refine ts_of ?_
  show (cutS (TS l) (some (a : Int)) none).cps.toList = _
  have e2 : HT.sIx (TS l).length (TS l).length none = (TS l).length := rfl
  unfold cutS
  rw [HT.sIx_nat, e2, ts_len, Nat.min_eq_left h]
  show List.take (l.length - a) (List.drop a (CL (TS l))) = _
  rw [cl_ts, List.take_of_length_le (by rw [List.length_drop]; exact Nat.le_refl _)]
section
variable {u1 : Tok}
variable {P : Program} {w : World} {K : PySem.W.Frag} {mg : Str → Option Value} {base : Heap} {f : Addr} {fd : FuncData}
abbrev sPo : Stmt := top 32
abbrev nPo : List Str := ["text", "pieces", "start", "at", "sign"]
abbrev pPo : List Str := ["text"]
theorem scPo : FnScope nPo pPo (defScope sPo) := ⟨rfl, rfl, rfl, by decide +kernel, rfl, by decide +kernel, by decide +kernel⟩
section
theorem ok_Po (F : Fun K "pieces_of" "pieces_of" sPo f fd) (T : Bt mg) (mS : mg "SINGLE_SIGNS" = some (.str sgs u1)) : FnOk P w K mg base CX0 1 f fd pPo (spPo) := by
  refine F.ok scPo (fun vs H Q E h => ?_) (fun cdv A outer s H vs Q E hr h => ?_)
  · obtain ⟨l, rfl, _⟩ := h
    rfl
  · obtain ⟨l, rfl, hl, k⟩ := h
    refine ⟨_, (pss_cons (ps_set (i := 1) scPo.nd rfl (Or.inl rfl) (pe_lst pa_nil))
      (pss_cons (ps_set (i := 2) scPo.nd rfl (Or.inl rfl) pe_int)
      (pss_cons (ps_for PassesOwn.never rfl (pi_enS (by rfl) T.enum (pa_cons (pv 0) pa_nil)) (pg_tup rfl (pgs_cons (pg_name (i := 3) scPo.nd rfl (.inl rfl)) (pgs_cons (pg_name (i := 4) scPo.nd rfl (.inl rfl)) pgs_nil))) (pss_one (ps_if (pt_cmpR op_in_sign (pv 4) (pe_glob (v := .str sgs) (by rfl) mS ⟨_, rfl⟩) (by rfl)) (Evl.pss_cut (ps_if (pt_cmpR op_lt (pv 2) (pv 3) (nomark _)) (pss_one (ps_expr (pe_bm PySem.F.plainAttrs_list PySem.F.slot_list_append PySem.F.type_list_append mt_append (pv 1) (pa_cons (pe_tup (pa_cons (pv 2) (pa_cons (pe_slice sl_str (pv 0) (po_some (pv 2)) (po_some (pv 3))) pa_nil))) pa_nil)))) pss_nil)
      (pss_cons (ps_expr (pe_bm PySem.F.plainAttrs_list PySem.F.slot_list_append PySem.F.type_list_append mt_append (pv 1) (pa_cons (pe_tup (pa_cons (pv 3) (pa_cons (pv 4) pa_nil))) pa_nil)))
      (pss_one (ps_set (i := 2) scPo.nd rfl (Or.inl rfl) (pe_op op_add (pv 3) pe_int))))) pss_nil)))
      (Evl.pss_cut (ps_if (pt_cmpR op_lt (pv 2) (pe_callB call_len_str (by rfl) T.len PySem.boot_len (pa_cons (pv 0) pa_nil)) (nomark _)) (pss_one (ps_expr (pe_bm PySem.F.plainAttrs_list PySem.F.slot_list_append PySem.F.type_list_append mt_append (pv 1) (pa_cons (pe_tup (pa_cons (pv 2) (pa_cons (pe_slice sl_str (pv 0) (po_some (pv 2)) po_none) pa_nil))) pa_nil)))) pss_nil)
      (pss_cons (ps_expr (pe_bm PySem.F.plainAttrs_list PySem.F.slot_list_append PySem.F.type_list_append mt_append (pv 1) (pa_cons (pe_tup (pa_cons (pe_callB call_len_str (by rfl) T.len PySem.boot_len (pa_cons (pv 0) pa_nil)) (pa_cons pe_str pa_nil))) pa_nil)))
      (pss_one (ps_ret (pv 1)))))))), ?_⟩
    have two : 2 ≤ sizeLine := by decide
    have line : (TS l).length ≤ sizeLine := by rw [ts_len]; exact Nat.le_trans hl (by decide)
    refine ⟨by show 0 ≤ sizeLine; decide, fun P hP => ?_⟩
    -- one more piece
    have more : ∀ {Ha : Hp} {rs : List Addr} {acc : List (Nat × List Nat)} {r : Addr} {q : Nat × List Nat}, PcsH Ha P rs acc → Same H Ha → Ha r = none → PcsH (upd (upd Ha r (.tup [.int (q.1 : Int), .str (TS q.2)])) P (.lst (rs.map V.ref ++ [.ref r]))) P (rs ++ [r]) (acc ++ [q]) ∧ Same H (upd (upd Ha r (.tup [.int (q.1 : Int), .str (TS q.2)])) P (.lst (rs.map V.ref ++ [.ref r]))) ∧ upd Ha r (.tup [.int (q.1 : Int), .str (TS q.2)]) P = some (.lst (rs.map V.ref)) := fun {Ha rs acc r q} pc sa hr => by
      have zr := Same.upd (o := .tup [.int (q.1 : Int), .str (TS q.2)]) hr
      have hp := zr _ _ pc.1
      have kt : SameT (upd Ha r (.tup [.int (q.1 : Int), .str (TS q.2)])) (upd (upd Ha r (.tup [.int (q.1 : Int), .str (TS q.2)])) P (.lst (rs.map V.ref ++ [.ref r]))) := SameT.lst hp
      refine ⟨⟨by rw [upd_same, List.map_append]; rfl, paired_snoc (a := r) (b := q) (R := fun (r' : Addr) (q' : Nat × List Nat) => upd (upd Ha r (.tup [.int (q.1 : Int), .str (TS q.2)])) P (.lst (rs.map V.ref ++ [.ref r])) r' = some (.tup [.int (q'.1 : Int), .str (TS q'.2)])) (kt _ _ upd_same) (paired_imp (fun _ _ e => kt _ _ (zr _ _ e)) pc.2)⟩, fun b o e => ?_, hp⟩
      rw [upd_ne (ne_of_none e hP)]
      exact zr _ _ (sa _ _ e)
    refine ⟨_, rfl, _, rfl, for_it walk_enS (fun i σ H' => ∃ (rs : List Addr) (acc : List (Nat × List Nat)) (s : Nat) (x3 x4 : Option V), σ = [some (.str (TS l)), some (.ref P), some (.int (s : Int)), x3, x4] ∧ s ≤ i ∧ i ≤ l.length ∧ PcsH H' P rs acc ∧ rs.length ≤ 2 * i ∧ acc ++ pfold (l.drop i) i ((l.drop s).take (i - s)) = pfold l 0 [] ∧ Same H H') ⟨[], [], 0, none, none, rfl, Nat.le_refl _, Nat.zero_le _, ⟨upd_same, .nil⟩, Nat.zero_le _, by simp, Same.upd hP⟩ (fun _ _ _ _ _ => True.intro) ?_ ?_⟩
    · rintro i x σ Ha Hb hi ⟨rs, acc, s, x3, x4, rfl, hs, hil, pc, lr, ea, sa⟩ ⟨q, i', z, rfl, hq, rfl, e1, e2⟩
      obtain rfl : V.int ((i : Nat) : Int) = i' := Option.some.inj e1
      obtain ⟨c, ec, rfl⟩ : ∃ c, l[i]? = some c ∧ V.str ⟨#[c]⟩ = z := by
        have e2 : Option.map (fun c => V.str ⟨#[c]⟩) (TS l).cps[i]? = some z := e2
        cases hc : (TS l).cps[i]? with
        | none => rw [hc] at e2; cases e2
        | some c =>
          rw [hc] at e2
          refine ⟨c, ?_, Option.some.inj e2⟩
          have : (TS l).cps.toList[i]? = some c := by simpa using hc
          rw [show (TS l).cps.toList = l from cl_ts l] at this
          exact this
      have li : i < l.length := (List.getElem?_eq_some_iff.mp ec).1
      have zq := Same.upd (o := .tup [.int ((i : Nat) : Int), .str ⟨#[c]⟩]) hq
      have pc1 := pc.same zq
      have sa1 := sa.trans zq
      have dr : l.drop i = c :: l.drop (i + 1) := by rw [List.drop_eq_getElem_cons li, (List.getElem?_eq_some_iff.mp ec).2]
      have cl : ((l.drop s).take (i - s)).length = i - s := by rw [List.length_take, List.length_drop]; omega
      rw [dr] at ea
      refine ⟨q, _, rfl, SqT.of upd_same, rfl, _, _, rfl, _, _, rfl, rfl, ?_⟩
      generalize upd Ha q (.tup [.int ((i : Nat) : Int), .str ⟨#[c]⟩]) = H1 at pc1 sa1 ⊢
      refine ⟨_, rfl, c, sgs, rfl, rfl, _, rfl, ?_⟩
      rw [sgs_in]
      by_cases sg : sgl c
      · rw [decide_eq_true sg]
        rw [pfold, if_pos sg] at ea
        refine iteT ⟨fun σ H' => ∃ (rs : List Addr) (acc' : List (Nat × List Nat)), σ = [some (.str (TS l)), some (.ref P), some (.int (s : Int)), some (.int (i : Int)), some (.str ⟨#[c]⟩)] ∧ PcsH H' P rs acc' ∧ rs.length ≤ 2 * i + 1 ∧ acc' ++ (i, [c]) :: pfold (l.drop (i + 1)) (i + 1) [] = pfold l 0 [] ∧ Same H H', ?_, ?_⟩
        · refine ⟨_, rfl, _, rfl, _, _, rfl, rfl, _, rfl, ?_⟩
          by_cases lt : s < i
          · rw [decide_eq_true (by omega)]
            have ne : (l.drop s).take (i - s) ≠ [] := fun z => by rw [z] at cl; simp at cl; omega
            rw [if_neg ne, cl, show i - (i - s) = s by omega] at ea
            refine iteT ⟨_, rfl, .inl ⟨rfl, _, SqL.of pc1.1⟩, _, rfl, _, rfl, _, rfl, (s : Int), rfl, _, rfl, (i : Int), rfl, _, rfl, line, ?_⟩
            rw [cut_mid (by omega) (by omega)]
            refine ⟨two, fun r hr => ?_⟩
            obtain ⟨m1, m2, m3⟩ := more (q := (s, (l.drop s).take (i - s))) pc1 sa1 hr
            refine ⟨P, _, _, rfl, rfl, m3, by rw [List.length_map]; exact Nat.lt_of_le_of_lt (show _ ≤ 900000 by omega) (by decide), _, _, rfl, m1, by rw [List.length_append]; show rs.length + 1 ≤ _; omega, ?_, m2⟩
            rw [List.append_assoc]
            exact ea
          · rw [decide_eq_false (by omega)]
            have e : (l.drop s).take (i - s) = [] := List.length_eq_zero_iff.mp (by omega)
            rw [e, if_pos rfl] at ea
            exact iteF ⟨rs, acc, rfl, pc1, by omega, ea, sa1⟩
        · rintro σ H2 ⟨rs2, acc2, rfl, pc2, lr2, ea2, s2⟩
          refine ⟨_, rfl, .inl ⟨rfl, _, SqL.of pc2.1⟩, _, rfl, _, rfl, two, fun r hr => ?_⟩
          obtain ⟨m1, m2, m3⟩ := more (q := (i, [c])) pc2 s2 hr
          refine ⟨P, _, _, rfl, rfl, m3, by rw [List.length_map]; exact Nat.lt_of_le_of_lt (show _ ≤ 900000 by omega) (by decide), _, rfl, _, _, rfl, rfl, ?_⟩
          refine ⟨rs2 ++ [r], acc2 ++ [(i, [c])], i + 1, _, _, rfl, Nat.le_refl _, by omega, m1, by rw [List.length_append]; show rs2.length + 1 ≤ _; omega, ?_, m2⟩
          rw [Nat.sub_self, List.take_zero, List.append_assoc]
          exact ea2
      · rw [decide_eq_false sg]
        rw [pfold, if_neg sg] at ea
        refine iteF ⟨rs, acc, s, _, _, rfl, by omega, by omega, pc1, by omega, ?_, sa1⟩
        have e : (l.drop s).take (i - s) ++ [c] = (l.drop s).take (i + 1 - s) := by
          rw [show i + 1 - s = (i - s) + 1 by omega, List.take_add_one, List.getElem?_drop, show s + (i - s) = i by omega, ec]
          rfl
        rw [e] at ea
        exact ea
    · rintro σ H1 ⟨rs, acc, s, x3, x4, rfl, hs, hil, pc, lr, ea, sa⟩
      have ez : (TS l).cps.size = l.length := ts_len l
      rw [ez] at hs hil lr ea
      rw [List.drop_length, pfold] at ea
      have cl : ((l.drop s).take (l.length - s)).length = l.length - s := by rw [List.length_take, List.length_drop]; omega
      have ct : (l.drop s).take (l.length - s) = l.drop s := List.take_of_length_le (by rw [List.length_drop]; exact Nat.le_refl _)
      refine ⟨fun σ H' => ∃ (rs : List Addr), σ = [some (.str (TS l)), some (.ref P), some (.int (s : Int)), x3, x4] ∧ PcsH H' P rs (pfold l 0 []) ∧ rs.length ≤ 2 * l.length + 1 ∧ Same H H', ?_, ?_⟩
      · refine ⟨_, rfl, _, rfl, _, rfl, line, _, _, rfl, rfl, _, rfl, ?_⟩
        rw [ts_len]
        by_cases lt : s < l.length
        · rw [decide_eq_true (by omega)]
          have ne : (l.drop s).take (l.length - s) ≠ [] := fun z => by rw [z] at cl; simp at cl; omega
          rw [if_neg ne, cl, show l.length - (l.length - s) = s by omega, ct] at ea
          refine iteT ⟨_, rfl, .inl ⟨rfl, _, SqL.of pc.1⟩, _, rfl, _, rfl, _, rfl, (s : Int), rfl, _, rfl, line, ?_⟩
          rw [cut_end hs]
          refine ⟨two, fun r hr => ?_⟩
          obtain ⟨m1, m2, m3⟩ := more (q := (s, l.drop s)) pc sa hr
          refine ⟨P, _, _, rfl, rfl, m3, by rw [List.length_map]; exact Nat.lt_of_le_of_lt (show _ ≤ 900000 by omega) (by decide), rs ++ [r], rfl, ?_, by rw [List.length_append]; show rs.length + 1 ≤ _; omega, m2⟩
          rw [← ea]
          exact m1
        · rw [decide_eq_false (by omega)]
          have e : (l.drop s).take (l.length - s) = [] := List.length_eq_zero_iff.mp (by omega)
          rw [e, if_pos rfl, List.append_nil] at ea
          rw [← ea]
          exact iteF ⟨rs, rfl, pc, by omega, sa⟩
      · rintro σ H2 ⟨rs2, rfl, pc2, lr2, s2⟩
        refine ⟨_, rfl, .inl ⟨rfl, _, SqL.of pc2.1⟩, _, rfl, _, rfl, line, two, fun r hr => ?_⟩
        rw [ts_len]
        obtain ⟨m1, m2, m3⟩ := more (q := (l.length, [])) pc2 s2 hr
        exact ⟨P, _, _, rfl, rfl, m3, by rw [List.length_map]; exact Nat.lt_of_le_of_lt (show _ ≤ 900000 by omega) (by decide), _, rfl, k P _ _ m2 m1⟩
end
end
/-! ## errors that tell one thing -/
structure ErF (K : PySem.W.Frag) (mg : Str → Option Value) (x fld : Str) (C fI : Addr) : Prop where
  oex : OexC K C
  iC : PySem.W.findIn K (.ref C) "__init__" = some (some (.ref fI))
  tI : PySem.W.typeIn K (.ref fI) = some (.type "function")
  nG : PySem.W.findIn K (.ref C) fld = some none
  gC : mg x = some (.ref C)
def TellsF (C : Addr) (fld : Str) (H : Hp) (v : V) (E : XK) : Prop := ∀ (d : Addr) (H' : Hp), Same H H' → H d = none → H' d = some (.xd [(fld, v)]) → E (.ref C) (some d) H'
theorem TellsF.same {C : Addr} {fld : Str} {H H' : Hp} {v : V} {E : XK} (h : TellsF C fld H v E) (s : Same H H') : TellsF C fld H' v E := fun d H2 s2 e1 e2 => h d H2 (s.trans s2) (by cases q : H d with | none => rfl | some o => rw [s _ _ q] at e1; cases e1) e2
def spIni (C : Addr) (fld : Str) : Sp := fun vs H Q _ => ∃ (a : Addr) (v : V), vs = [.ref a, v] ∧ H a = some (exo a C none) ∧ ∀ dx, H dx = none → dx ≠ a → Q .non (upd (upd H dx (exd dx [(fld, v)])) a (exo a C (some dx)))
abbrev sIni : Stmt := inClass (top 9) 0
section
variable {P : Program} {w : World} {K : PySem.W.Frag} {mg : Str → Option Value} {base : Heap} {f C fI : Addr} {fd fdI : FuncData}
theorem scIni : FnScope ["self", "position"] ["self", "position"] (defScope sIni) := ⟨rfl, rfl, rfl, by decide +kernel, rfl, by decide +kernel, by decide +kernel⟩
theorem ok_ini (F : Fun K "__init__" "BadText.__init__" sIni fI fdI) (T : ErF K mg "BadText" "position" C fI) : FnOk P w K mg base CX0 1 fI fdI ["self", "position"] (spIni C "position") := by
  refine F.ok scIni (fun vs H Q E h => ?_) (fun cdv A outer s H vs Q E hr h => ?_)
  · obtain ⟨a, v, rfl, _⟩ := h
    rfl
  · obtain ⟨a, v, rfl, ha, k⟩ := h
    refine ⟨_, pss_one (ps_ost (pv 0) (pv 1)), ?_⟩
    exact ⟨_, rfl, _, rfl, a, C, rfl, T.oex, T.nG, .inl ⟨ha, fun dx h1 h2 => k dx h1 h2⟩⟩
/-- raise X(v) -/
theorem tells_ofF {H : Hp} {fld : Str} {v : V} {E : XK} (t : TellsF C fld H v E) : ∀ a, H a = none → spIni C fld (.ref a :: ([v] ++ [])) (upd H a (exo a C none))
    (fun v' H2 => v' = .non ∧ ∃ (d : Addr) (fs : List (Str × V)), H2 a = some (exo a C (some d)) ∧ H2 d = some (exd d fs) ∧ H d = none ∧ E (.ref C) (some d) (upd (del H2 a) d (.xd fs))) (fun _ _ _ => False) := by
  intro a ha
  refine ⟨a, v, rfl, upd_same, fun dx hx hne => ⟨rfl, dx, _, upd_same, by rw [upd_ne hne, upd_same], by rw [upd_ne hne] at hx; exact hx, ?_⟩⟩
  rw [upd_ne hne] at hx
  refine t dx _ (fun b o e => ?_) hx upd_same
  have nb : b ≠ a := ne_of_none e ha
  have nd : b ≠ dx := ne_of_none e hx
  rw [upd_ne nd, del_ne nb, upd_ne nb, upd_ne nd, upd_ne nb]
  exact e
end
/-! ## where tokens and pieces stand -/
def tokL (l : List Nat) (p : Nat) : List Nat := (l.drop p).takeWhile fun c => !decide (sgl c)
def PF (l : List Nat) (p : Nat) : List (Nat × List Nat) := pfold (l.drop p) p [] ++ [(l.length, [])]
def hdL (l : List Nat) (p : Nat) : List Nat := match l[p]? with
  | none => []
  | some c => if sgl c then [c] else tokL l p
theorem tw_split (g : Nat → Bool) : ∀ l : List Nat, ∃ r, l = l.takeWhile g ++ r ∧ (∀ c ∈ l.takeWhile g, g c = true) ∧ (r = [] ∨ ∃ d r', r = d :: r' ∧ g d = false)
  | [] => ⟨[], rfl, nofun, .inl rfl⟩
  | c :: t => by
    cases e : g c with
    | false => exact ⟨c :: t, by rw [List.takeWhile_cons, e]; rfl, by rw [List.takeWhile_cons, e]; nofun, .inr ⟨c, t, rfl, e⟩⟩
    | true =>
      obtain ⟨r, h1, h2, h3⟩ := tw_split g t
      refine ⟨r, ?_, ?_, h3⟩
      · rw [List.takeWhile_cons, e]
        show c :: t = c :: (t.takeWhile g ++ r)
        rw [← h1]
      · rw [List.takeWhile_cons, e]
        intro x hx
        rcases List.mem_cons.mp hx with rfl | hx
        · exact e
        · exact h2 x hx
theorem tok_split {l : List Nat} {p : Nat} : ∃ r, l.drop p = tokL l p ++ r ∧ l.drop (p + (tokL l p).length) = r ∧ (∀ c ∈ tokL l p, ¬ sgl c) ∧ (r = [] ∨ ∃ d r', r = d :: r' ∧ sgl d) := by
  obtain ⟨r, h1, h2, h3⟩ := tw_split (fun c => !decide (sgl c)) (l.drop p)
  have h1 : l.drop p = tokL l p ++ r := h1
  refine ⟨r, h1, ?_, fun c hc => ?_, ?_⟩
  · have e : l.drop (p + (tokL l p).length) = (l.drop p).drop (tokL l p).length := by rw [List.drop_drop]
    rw [e]
    generalize tokL l p = t at h1 ⊢
    rw [h1, List.drop_left]
  · have := h2 c hc
    simpa only [Bool.not_eq_true', decide_eq_false_iff_not] using this
  · rcases h3 with h | ⟨d, r', e, h⟩
    · exact .inl h
    · exact .inr ⟨d, r', e, by simpa only [Bool.not_eq_false', decide_eq_true_eq] using h⟩
theorem tok_len {l : List Nat} {p : Nat} (h : p ≤ l.length) : p + (tokL l p).length ≤ l.length := by
  obtain ⟨r, h1, _⟩ := tok_split (l := l) (p := p)
  have := congrArg List.length h1
  rw [List.length_drop, List.length_append] at this
  omega
theorem hd_sgl {l : List Nat} {p c : Nat} (h : l[p]? = some c) (s : sgl c) : hdL l p = [c] := by unfold hdL; rw [h]; exact if_pos s
theorem hd_tok {l : List Nat} {p c : Nat} (h : l[p]? = some c) (s : ¬ sgl c) : hdL l p = tokL l p := by unfold hdL; rw [h]; exact if_neg s
theorem hd_none {l : List Nat} {p : Nat} (h : l.length ≤ p) : hdL l p = [] := by unfold hdL; rw [List.getElem?_eq_none h]
theorem drop_c {l : List Nat} {p c : Nat} (h : l[p]? = some c) : l.drop p = c :: l.drop (p + 1) := by
  obtain ⟨h1, h2⟩ := List.getElem?_eq_some_iff.mp h
  rw [List.drop_eq_getElem_cons h1, h2]
theorem tok_sgl {l : List Nat} {p c : Nat} (h : l[p]? = some c) (s : sgl c) : tokL l p = [] := by
  unfold tokL
  rw [drop_c h, List.takeWhile_cons, decide_eq_true s]
  rfl
theorem tok_none {l : List Nat} {p : Nat} (h : l.length ≤ p) : tokL l p = [] := by
  unfold tokL
  rw [List.drop_of_length_le h]
  rfl
theorem tok_ne {l : List Nat} {p c : Nat} (h : l[p]? = some c) (s : ¬ sgl c) : tokL l p ≠ [] := by
  unfold tokL
  rw [drop_c h, List.takeWhile_cons, decide_eq_false s]
  exact List.cons_ne_nil _ _
theorem pf_next {l : List Nat} {p : Nat} (h : p < l.length) : PF l p = (p, hdL l p) :: PF l (p + (hdL l p).length) ∧ p + (hdL l p).length ≤ l.length := by
  obtain ⟨c, hc⟩ : ∃ c, l[p]? = some c := ⟨_, List.getElem?_eq_getElem h⟩
  have dr := drop_c hc
  by_cases s : sgl c
  · rw [hd_sgl hc s]
    refine ⟨?_, h⟩
    show PF l p = (p, [c]) :: PF l (p + 1)
    unfold PF
    rw [dr, pfold, if_pos s, if_pos rfl]
    rfl
  · rw [hd_tok hc s]
    obtain ⟨r, h1, h2, h3, h4⟩ := tok_split (l := l) (p := p)
    have ne := tok_ne hc s
    refine ⟨?_, tok_len (Nat.le_of_lt h)⟩
    unfold PF
    rw [h2, h1]
    generalize tokL l p = t at h3 ne ⊢
    rw [pfold_run h3, List.nil_append]
    rcases h4 with rfl | ⟨d, r', rfl, hd⟩
    · rw [pfold, if_neg ne, pfold, if_pos rfl, Nat.add_sub_cancel]
      rfl
    · rw [pfold, if_pos hd, if_neg ne, pfold, if_pos hd, if_pos rfl, Nat.add_sub_cancel]
      rfl
theorem pf_head {l : List Nat} {p : Nat} (h : p ≤ l.length) : ∃ r, PF l p = (p, hdL l p) :: r := by
  by_cases lt : p < l.length
  · exact ⟨_, (pf_next lt).1⟩
  · obtain rfl : p = l.length := by omega
    refine ⟨[], ?_⟩
    rw [hd_none (Nat.le_refl _)]
    unfold PF
    rw [List.drop_length]
    rfl
theorem pf_at {l : List Nat} {p i : Nat} (h : p ≤ l.length) (d : (PF l 0).drop i = PF l p) : (PF l 0)[i]? = some (p, hdL l p) := by
  obtain ⟨r, e⟩ := pf_head h
  have := congrArg (fun x : List (Nat × List Nat) => x[0]?) d
  rw [List.getElem?_drop, e] at this
  exact this
theorem pf_step {l : List Nat} {p i : Nat} (h : p < l.length) (d : (PF l 0).drop i = PF l p) : (PF l 0).drop (i + 1) = PF l (p + (hdL l p).length) := by
  rw [← List.drop_drop, d, (pf_next h).1]
  rfl
theorem hd_is {l : List Nat} {p c : Nat} (s : sgl c) : hdL l p = [c] ↔ l[p]? = some c := by
  constructor
  · intro h
    cases e : l[p]? with
    | none => rw [hd_none (List.getElem?_eq_none_iff.mp e)] at h; cases h
    | some d =>
      by_cases sd : sgl d
      · rw [hd_sgl e sd] at h
        injection h with h
        rw [h]
      · rw [hd_tok e sd] at h
        obtain ⟨_, _, _, h3, _⟩ := tok_split (l := l) (p := p)
        exact absurd s (h3 c (by rw [h]; exact List.mem_cons_self))
  · intro h
    exact hd_sgl h s
theorem hd_nil {l : List Nat} {p : Nat} : hdL l p = [] ↔ l.length ≤ p := by
  constructor
  · intro h
    cases e : l[p]? with
    | none => exact List.getElem?_eq_none_iff.mp e
    | some d =>
      by_cases sd : sgl d
      · rw [hd_sgl e sd] at h; cases h
      · rw [hd_tok e sd] at h
        exact absurd h (tok_ne e sd)
  · exact hd_none
theorem sgl_cases {c : Nat} {p : Nat → Prop} (h1 : p 40) (h2 : p 41) (h3 : p 32) : sgl c → p c := by
  rintro (rfl | rfl | rfl)
  · exact h1
  · exact h2
  · exact h3
/-! ## what is read -/
def nops (t : List Nat) : Nat := ((opsV (TS t)).map List.length).getD 0
theorem leaf_hd {l : List Nat} {p : Nat} : leafD (hdL l p) = leafD (tokL l p) := by
  cases e : l[p]? with
  | none =>
    have := List.getElem?_eq_none_iff.mp e
    rw [hd_none this, tok_none this]
  | some c =>
    by_cases s : sgl c
    · rw [hd_sgl e s, tok_sgl e s]
      have h0 : leafD [] = .none := isNo_t (by decide +kernel)
      have h1 : isNo (leafD [c]) = true := sgl_cases (p := fun c => isNo (leafD [c]) = true) (by decide +kernel) (by decide +kernel) (by decide +kernel) s
      rw [h0, isNo_t h1]
    · rw [hd_tok e s]
theorem ops_hd {l : List Nat} {p : Nat} : opsV (TS (hdL l p)) = opsV (TS (tokL l p)) := by
  cases e : l[p]? with
  | none =>
    have := List.getElem?_eq_none_iff.mp e
    rw [hd_none this, tok_none this]
  | some c =>
    by_cases s : sgl c
    · rw [hd_sgl e s, tok_sgl e s]
      have h0 : opsV (TS []) = none := by decide +kernel
      have h1 : (opsV (TS [c])) = none := Option.isNone_iff_eq_none.mp (sgl_cases (p := fun c => (opsV (TS [c])).isNone = true) (by decide +kernel) (by decide +kernel) (by decide +kernel) s)
      rw [h0, h1]
    · rw [hd_tok e s]
theorem ops_tok {l : List Nat} {p : Nat} {os : List V} (h : opsV (TS (hdL l p)) = some os) : hdL l p = tokL l p ∧ p < l.length := by
  cases e : l[p]? with
  | none =>
    have := List.getElem?_eq_none_iff.mp e
    rw [hd_none this] at h
    have h0 : opsV (TS []) = none := by decide +kernel
    rw [h0] at h
    cases h
  | some c =>
    refine ⟨?_, (List.getElem?_eq_some_iff.mp e).1⟩
    by_cases s : sgl c
    · rw [ops_hd, tok_sgl e s] at h
      have h0 : opsV (TS []) = none := by decide +kernel
      rw [h0] at h
      cases h
    · exact hd_tok e s
theorem nops_some {t : List Nat} {os : List V} (h : opsV (TS t) = some os) : nops t = os.length := by unfold nops; rw [h]; rfl
theorem nops_none {t : List Nat} (h : opsV (TS t) = none) : nops t = 0 := by unfold nops; rw [h]; rfl
def rds (R : Nat → PyData × Nat) (l : List Nat) : Nat → Nat → List PyData → PyData × Nat
  | 0, p, acc => if l[p]? = some 41 then (.tuple acc, p + 1) else (.none, p)
  | k + 1, p, acc => if l[p]? = some 32 then (if isNo (R (p + 1)).1 = true then (.none, (R (p + 1)).2) else rds R l k (R (p + 1)).2 (acc ++ [(R (p + 1)).1])) else (.none, p)
def rdo (R : Nat → PyData × Nat) (l : List Nat) (p : Nat) : PyData × Nat := if nops (tokL l p) = 0 then (.none, p) else rds R l (nops (tokL l p)) (p + (tokL l p).length) [.str (TS (tokL l p))]
def rd (l : List Nat) : Nat → Nat → PyData × Nat
  | 0, p => (.none, p)
  | n + 1, p => if l.length ≤ p then (.none, p) else if l[p]? = some 40 then rdo (rd l n) l (p + 1) else if isNo (leafD (tokL l p)) = true then (.none, p) else (leafD (tokL l p), p + (tokL l p).length)
def reD (l : List Nat) : PyData × Nat := if isNo (rd l 8 0).1 = true then (.none, (rd l 8 0).2) else if (rd l 8 0).2 < l.length then (.none, (rd l 8 0).2) else rd l 8 0
theorem numF_noL {a b : Bool} {o1 o2 : Option Nat} : noL (numF a b o1 o2) = true := by
  cases o1 with
  | none => rw [numF_n1]; rfl
  | some s =>
    cases o2 with
    | none => rw [numF_n2]; rfl
    | some d =>
      unfold numF
      dsimp only
      split
      · rfl
      split <;> rfl
theorem num_noL {l : List Nat} : noL (numD l) = true := by
  unfold numD numAB
  split <;> exact numF_noL
theorem leaf_noL {t : List Nat} : noL (leafD t) = true := by
  have v : ∀ m, noL (valD m) = true := fun m => by
    unfold valD
    split
    · rfl
    split
    · rfl
    split
    · split <;> rfl
    · exact num_noL
  unfold leafD
  split
  · rfl
  split
  · have := v (t.drop 1)
    generalize valD (t.drop 1) = d at this
    cases z : isNo d with
    | true => rw [isNo_t z]; rfl
    | false =>
      rw [wrap_ne (isNo_f z), noL, noLs, noLs, noLs, this]
      rfl
  · rfl
theorem rds_noL {R : Nat → PyData × Nat} {l : List Nat} (hR : ∀ p, noL (R p).1 = true) : ∀ (k p : Nat) (acc : List PyData), (∀ d ∈ acc, noL d = true) → noL (rds R l k p acc).1 = true
  | 0, p, acc, h => by
    unfold rds
    split
    · exact noLs_all.mpr h
    · rfl
  | k + 1, p, acc, h => by
    unfold rds
    split
    · split
      · rfl
      · refine rds_noL hR k _ _ fun d hd => ?_
        rcases List.mem_append.mp hd with hd | hd
        · exact h d hd
        · rw [List.mem_singleton.mp hd]; exact hR _
    · rfl
theorem rdo_noL {R : Nat → PyData × Nat} {l : List Nat} (hR : ∀ p, noL (R p).1 = true) (p : Nat) : noL (rdo R l p).1 = true := by
  unfold rdo
  split
  · rfl
  · exact rds_noL hR _ _ _ fun d hd => by rw [List.mem_singleton.mp hd]; rfl
theorem rd_noL {l : List Nat} : ∀ (n p : Nat), noL (rd l n p).1 = true
  | 0, p => rfl
  | n + 1, p => by
    unfold rd
    split
    · rfl
    split
    · exact rdo_noL (rd_noL n) _
    split
    · rfl
    · exact leaf_noL
theorem rds_le {R : Nat → PyData × Nat} {l : List Nat} (hR : ∀ p, p ≤ l.length → (R p).2 ≤ l.length) : ∀ (k p : Nat) (acc : List PyData), p ≤ l.length → (rds R l k p acc).2 ≤ l.length
  | 0, p, acc, h => by
    unfold rds
    split
    · rename_i e
      exact (List.getElem?_eq_some_iff.mp e).1
    · exact h
  | k + 1, p, acc, h => by
    unfold rds
    split
    · rename_i e
      have := hR (p + 1) (List.getElem?_eq_some_iff.mp e).1
      split
      · exact this
      · exact rds_le hR k _ _ this
    · exact h
theorem rd_le {l : List Nat} : ∀ (n p : Nat), p ≤ l.length → (rd l n p).2 ≤ l.length
  | 0, p, h => h
  | n + 1, p, h => by
    unfold rd
    split
    · exact h
    split
    · rename_i e
      have h1 : p + 1 ≤ l.length := (List.getElem?_eq_some_iff.mp e).1
      unfold rdo
      split
      · exact h1
      · exact rds_le (rd_le n) _ _ _ (tok_len h1)
    split
    · exact h
    · exact tok_len h
theorem free_of {H H1 : Hp} {r : Addr} (s : Same H H1) (e : H1 r = none) : H r = none := by
  cases q : H r with
  | none => rfl
  | some o => rw [s _ _ q] at e; cases e
/-! ## promises of the reading -/
def NewQ (H : Hp) (Q : VK) (l : List Nat) (q : Nat) (d : PyData) : Prop := ∀ (r : Addr) (e : V) (b : Nat) (H' : Hp), Same H H' → H' r = some (.tup [e, .int (b : Int)]) → Dh H' e d → (PF l 0).drop b = PF l q → q ≤ l.length → Q (.ref r) H'
structure OutR (C : Addr) (H : Hp) (Q : VK) (E : XK) (l : List Nat) (o : PyData × Nat) : Prop where
  good : isNo o.1 = false → NewQ H Q l o.2 o.1
  bad : isNo o.1 = true → ∀ H', Same H H' → TellsF C "position" H' (.int (o.2 : Int)) E
def spCp (C : Addr) : Sp := fun vs H Q E => ∃ (P : Addr) (rs : List Addr) (l : List Nat) (j p : Nat) (tk : List Nat), vs = [.ref P, .int (j : Int), .str (TS tk)] ∧ PcsH H P rs (PF l 0) ∧ (PF l 0).drop j = PF l p ∧ p ≤ l.length ∧ (hdL l p = tk → Q .non H) ∧ (hdL l p ≠ tk → TellsF C "position" H (.int (p : Int)) E)
def spRf (C : Addr) (n : Nat) : Sp := fun vs H Q E => ∃ (P : Addr) (rs : List Addr) (l : List Nat) (i p dp : Nat), vs = [.ref P, .int (i : Int), .int (dp : Int)] ∧ PcsH H P rs (PF l 0) ∧ (PF l 0).drop i = PF l p ∧ p ≤ l.length ∧ Tx l ∧ dp + n = 9 ∧ OutR C H Q E l (rd l n p)
def spRo (C : Addr) (n : Nat) : Sp := fun vs H Q E => ∃ (P : Addr) (rs : List Addr) (l : List Nat) (i p dp : Nat), vs = [.ref P, .int (i : Int), .int (dp : Int)] ∧ PcsH H P rs (PF l 0) ∧ (PF l 0).drop i = PF l p ∧ p ≤ l.length ∧ Tx l ∧ dp + n = 8 ∧ OutR C H Q E l (rdo (rd l n) l p)
def spRoP (C : Addr) : Nat → Sp
  | 0 => fun _ _ _ _ => False
  | n + 1 => spRo C n
def spRe (C : Addr) : Sp := fun vs H Q E => ∃ (v : V), vs = [v] ∧ ((∃ t, TyN H v t ∧ t ≠ "str" ∧ TellsF C "position" H (.int 0) E) ∨ ∃ l, v = .str (TS l) ∧ Tx l ∧ (isNo (reD l).1 = false → ∀ v H', Same H H' → Dh H' v (reD l).1 → Q v H') ∧ (isNo (reD l).1 = true → ∀ H', Same H H' → TellsF C "position" H' (.int ((reD l).2 : Int)) E))
structure OpsA (K : PySem.W.Frag) (w : World) (mg : Str → Option Value) (oA : Addr) : Prop where
  g : mg "OPERANDS" = some (.ref oA)
  d : ∃ es n, KDict K w oA es n
  at_ : ∀ x os, opsV x = some os → ∃ a, KDct K w oA x (.ref a) ∧ PySem.W.nsIn K oA x = some (some (.ref a)) ∧ ∀ H, SqT K H a os
  no : ∀ x, opsV x = none → PySem.W.nsIn K oA x = some none
theorem pcs_at {H : Hp} {P : Addr} {rs : List Addr} {ps : List (Nat × List Nat)} (h : PcsH H P rs ps) {i pos : Nat} {t : List Nat} (e : ps[i]? = some (pos, t)) : ∃ r, (rs.map V.ref)[i]? = some (.ref r) ∧ H r = some (.tup [.int (pos : Int), .str (TS t)]) := by
  obtain ⟨r, h1, h2⟩ := paired_get h.2 e
  exact ⟨r, by rw [List.getElem?_map, h1]; rfl, h2⟩
theorem ts_eq {a b : List Nat} : V.str (TS a) = V.str (TS b) ↔ a = b := ⟨fun q => by injection q with q; rw [← cl_ts a, ← cl_ts b, q], fun q => by rw [q]⟩
end K78
set_option Elab.async false
set_option linter.all false
set_option maxRecDepth 100000
set_option maxHeartbeats 4000000
namespace K78
open PySem PySem.Spec PyProof.Rows L2 Lc
/-! ## lines and words -/
def spl (c : Nat) : List Nat → List (List Nat)
  | [] => [[]]
  | a :: l => if a = c then [] :: spl c l else match spl c l with
    | [] => [[a]]
    | w :: ws => (a :: w) :: ws
def jn (c : Nat) : List (List Nat) → List Nat
  | [] => []
  | [w] => w
  | w :: ws => w ++ c :: jn c ws
theorem jn_cons {c : Nat} {w : List Nat} {ws : List (List Nat)} (h : ws ≠ []) : jn c (w :: ws) = w ++ c :: jn c ws := by
  cases ws with
  | nil => exact absurd rfl h
  | cons a r => rfl
theorem spl_ne {c : Nat} : ∀ l, spl c l ≠ []
  | [] => by rw [spl]; exact List.cons_ne_nil _ _
  | a :: l => by
    rw [spl]
    split
    · exact List.cons_ne_nil _ _
    · split <;> exact List.cons_ne_nil _ _
theorem spl_app {c : Nat} : ∀ (w l : List Nat), c ∉ w → spl c (w ++ c :: l) = w :: spl c l
  | [], l, _ => by show spl c (c :: l) = _; rw [spl, if_pos rfl]
  | a :: w, l, h => by
    have h1 : ¬ a = c := fun e => h (by rw [e]; exact List.mem_cons_self)
    have ih := spl_app w l fun hm => h (List.mem_cons_of_mem _ hm)
    show spl c (a :: (w ++ c :: l)) = _
    rw [spl, if_neg h1, ih]
theorem spl_one {c : Nat} : ∀ (w : List Nat), c ∉ w → spl c w = [w]
  | [], _ => rfl
  | a :: w, h => by
    have h1 : ¬ a = c := fun e => h (by rw [e]; exact List.mem_cons_self)
    rw [spl, if_neg h1, spl_one w fun hm => h (List.mem_cons_of_mem _ hm)]
theorem spl_jn {c : Nat} : ∀ {ws : List (List Nat)}, ws ≠ [] → (∀ w ∈ ws, c ∉ w) → spl c (jn c ws) = ws
  | [w], _, h => spl_one w (h w List.mem_cons_self)
  | w :: v :: ws, _, h => by
    rw [jn_cons (List.cons_ne_nil _ _), spl_app w _ (h w List.mem_cons_self), spl_jn (List.cons_ne_nil _ _) fun u hu => h u (List.mem_cons_of_mem _ hu)]
theorem join_TS {c : Nat} : ∀ (ws : List (List Nat)), Str.join ⟨#[c]⟩ (ws.map TS) = TS (jn c ws)
  | [] => rfl
  | [w] => rfl
  | w :: v :: ws => by
    have ih := join_TS (c := c) (v :: ws)
    rw [jn_cons (List.cons_ne_nil _ _)]
    show TS w ++ ⟨#[c]⟩ ++ Str.join ⟨#[c]⟩ ((v :: ws).map TS) = _
    rw [ih]
    show TS w ++ TS [c] ++ TS (jn c (v :: ws)) = _
    rw [ts_app, ts_app, List.append_assoc]
    rfl
theorem split_ne (x : Str) (c : Nat) : Txt.split x ⟨#[c]⟩ ≠ [] := by
  unfold Txt.split
  split
  · exact List.cons_ne_nil _ _
  · split
    · exact List.cons_ne_nil _ _
    · rename_i h
      intro e
      have e2 := congrArg List.length e
      rw [length_partsBetween] at e2
      simp at e2
theorem split_TS (l : List Nat) (c : Nat) : Txt.split (TS l) ⟨#[c]⟩ = (spl c l).map TS := by
  have e1 := StrLaws.join_split (TS l) ⟨#[c]⟩
  have e2 := StrLaws.split_free (TS l) c
  have e3 := split_ne (TS l) c
  generalize Txt.split (TS l) ⟨#[c]⟩ = ps at e1 e2 e3
  have e4 : ps = (ps.map CL).map TS := by
    rw [List.map_map]
    exact (List.map_id' _).symm.trans (List.map_congr_left fun p _ => (ts_cl p).symm)
  rw [e4, join_TS] at e1
  have e5 : jn c (ps.map CL) = l := by
    have := congrArg CL e1
    simpa [CL, TS] using this
  rw [← e5, spl_jn (by simpa using e3) fun w hw => by
    obtain ⟨p, hp, rfl⟩ := List.mem_map.mp hw
    exact e2 p hp]
  exact e4
/-- begins with -/
def stw (p l : List Nat) : Bool := l.take p.length == p
/-- without that beginning -/
def cutp (p l : List Nat) : List Nat := if stw p l = true then l.drop p.length else l
theorem starts_TS (l : List Nat) (y : Str) : Txt.startswith (TS l) y = stw (CL y) l := by
  unfold Txt.startswith stw
  rw [StrLaws.subAt_eq]
  show (decide (0 + y.cps.size ≤ l.toArray.size) && ((List.drop 0 l.toArray.toList).take y.cps.size == y.cps.toList)) = _
  have e : y.cps.size = (CL y).length := by show _ = y.cps.toList.length; simp
  rw [List.drop_zero, e]
  show (decide (0 + (CL y).length ≤ l.toArray.size) && (l.take (CL y).length == CL y)) = _
  by_cases h : l.take (CL y).length = CL y
  · rw [beq_iff_eq.mpr h, Bool.and_true]
    refine decide_eq_true ?_
    have := congrArg List.length h
    rw [List.length_take] at this
    have e2 : l.toArray.size = l.length := by simp
    omega
  · rw [beq_eq_false_iff_ne.mpr h, Bool.and_false]
theorem prefix_TS (l : List Nat) (y : Str) : Txt.removeprefix (TS l) y = TS (cutp (CL y) l) := by
  rw [StrLaws.removeprefix_eq]
  have e : (decide (0 + y.length ≤ (TS l).length) && Builtin.Str.subAt (TS l) y 0) = stw (CL y) l := starts_TS l y
  rw [e]
  unfold cutp
  have e3 : y.length = (CL y).length := by show y.cps.size = y.cps.toList.length; simp
  by_cases h : stw (CL y) l = true
  · rw [if_pos h, if_pos h]
    apply str_ext
    show (((TS l).cps.toList.drop y.length).take ((TS l).length - y.length)) = _
    rw [List.take_of_length_le (by rw [List.length_drop]; show l.toArray.toList.length - _ ≤ l.toArray.size - _; simp), e3]
    rfl
  · rw [if_neg h, if_neg h]
theorem spl_sub {c : Nat} : ∀ (l : List Nat), ∀ w ∈ spl c l, w.Sublist l
  | [], w, h => by
    rw [spl, List.mem_singleton] at h
    rw [h]
    exact List.Sublist.refl _
  | a :: l, w, h => by
    have ih := spl_sub (c := c) l
    rw [spl] at h
    split at h
    · rcases List.mem_cons.mp h with rfl | h
      · exact List.nil_sublist _
      · exact (ih w h).cons _
    · cases e : spl c l with
      | nil => exact absurd e (spl_ne l)
      | cons v vs =>
        rw [e] at h ih
        rcases List.mem_cons.mp h with rfl | h
        · exact (ih v List.mem_cons_self).cons₂ _
        · exact (ih w (List.mem_cons_of_mem _ h)).cons _
theorem tx_spl {c : Nat} {l : List Nat} (h : Tx l) : ∀ w ∈ spl c l, Tx w := fun w hw => h.sub (spl_sub l w hw)
theorem cutp_sub (p l : List Nat) : (cutp p l).Sublist l := by
  unfold cutp
  split
  · exact List.drop_sublist _ _
  · exact List.Sublist.refl _
theorem len_spl {c : Nat} : ∀ (l : List Nat), (spl c l).length ≤ l.length + 1
  | [] => Nat.le_refl _
  | a :: l => by
    have ih := len_spl (c := c) l
    rw [spl]
    split
    · rw [List.length_cons, List.length_cons]; omega
    · cases e : spl c l with
      | nil => exact absurd e (spl_ne l)
      | cons v vs =>
        rw [e] at ih
        rw [List.length_cons] at ih ⊢
        rw [List.length_cons]
        omega
end K78
set_option Elab.async false
set_option linter.all false
set_option maxRecDepth 100000
set_option maxHeartbeats 4000000
namespace K78
open PySem PySem.Spec PyProof.Rows L2 Lc
/-! ## names, wholes, forms -/
abbrev LN : Type := List Nat
abbrev vW (ws : List LN) : List V := (ws.map TS).map V.str
theorem vW_at {ws : List LN} {i : Nat} {x : V} (h : (vW ws)[i]? = some x) : ∃ w, ws[i]? = some w ∧ x = .str (TS w) := by
  rw [List.getElem?_map, List.getElem?_map] at h
  cases e : ws[i]? with
  | none => rw [e] at h; cases h
  | some w =>
    rw [e] at h
    cases h
    exact ⟨w, rfl, rfl⟩
theorem vW_len (ws : List LN) : (vW ws).length = ws.length := by rw [List.length_map, List.length_map]
theorem jn_sub {c : Nat} : ∀ (ws : List LN), ∀ w ∈ ws, w.Sublist (jn c ws)
  | [w], v, h => by rw [List.mem_singleton.mp h]; exact List.Sublist.refl _
  | w :: u :: ws, v, h => by
    rw [jn_cons (List.cons_ne_nil _ _)]
    rcases List.mem_cons.mp h with rfl | h
    · exact List.sublist_append_left _ _
    · exact ((jn_sub (u :: ws) v h).cons _).trans (List.sublist_append_right _ _)
theorem jn_drop {c : Nat} : ∀ (k : Nat) (ws : List LN), (jn c (ws.drop k)).Sublist (jn c ws)
  | 0, ws => List.Sublist.refl _
  | k + 1, [] => by rw [List.drop_nil]; exact List.Sublist.refl _
  | k + 1, [w] => by rw [List.drop_succ_cons, List.drop_nil]; exact List.nil_sublist _
  | k + 1, w :: u :: ws => by
    rw [List.drop_succ_cons, jn_cons (c := c) (w := w) (List.cons_ne_nil u ws)]
    exact (jn_drop k (u :: ws)).trans (((List.Sublist.refl _).cons _).trans (List.sublist_append_right _ _))
theorem jn_len {c : Nat} : ∀ (ws : List LN), ws.length ≤ (jn c ws).length + 1
  | [] => Nat.zero_le _
  | [w] => by show 1 ≤ _; omega
  | w :: u :: ws => by
    have ih := jn_len (c := c) (u :: ws)
    rw [jn_cons (List.cons_ne_nil _ _), List.length_append]
    simp only [List.length_cons] at ih ⊢
    omega
def WsOk (ws : List LN) : Prop := ws.length ≤ 200 ∧ Tx (jn 32 ws)
theorem WsOk.each {ws : List LN} (h : WsOk ws) : ∀ w ∈ ws, Tx w := fun w hw => h.2.sub (jn_sub ws w hw)
theorem WsOk.drop {ws : List LN} (h : WsOk ws) (k : Nat) : WsOk (ws.drop k) := ⟨by rw [List.length_drop]; have := h.1; omega, h.2.sub (jn_drop k ws)⟩
def namesM (ws : List LN) (lo hi : Nat) : Bool := !decide (ws.length < lo) && !decide (hi < ws.length) && ws.all nmL && decide (ws.map TS).Nodup
def wholeM (l : LN) (lo hi : Nat) : Option Nat := match digN l with
  | some n => if lo ≤ n ∧ n ≤ hi then some n else none
  | none => none
def formM (ws : List LN) : PyData := (reD (jn 32 ws)).1
def spUn : Sp := fun vs H Q _ => ∃ (W : Addr) (ws : List LN) (lo hi : Nat), vs = [.ref W, .int lo, .int hi] ∧ H W = some (.lst (vW ws)) ∧ WsOk ws ∧ ∀ H', Same H H' → Q (.bl (namesM ws lo hi)) H'
def opN : Option Nat → V
  | some n => .int n
  | none => .non
def spWn : Sp := fun vs H Q _ => ∃ (l : LN) (lo hi : Nat), vs = [.str (TS l), .int lo, .int hi] ∧ Tx l ∧ ∀ H', Same H H' → Q (opN (wholeM l lo hi)) H'
def spFm : Sp := fun vs H Q _ => ∃ (W : Addr) (ws : List LN), vs = [.ref W] ∧ H W = some (.lst (vW ws)) ∧ WsOk ws ∧ ∀ v H', Same H H' → Dh H' v (if isNo (formM ws) = true then .none else formM ws) → Q v H'
abbrev rJn (K : PySem.W.Frag) : V → List V → Hp → VK → Prop := fun x xs H Q => ∃ (a : Str) (p : Addr) (ys : List Str), x = .str a ∧ xs = [.ref p] ∧ (SqL K H p (ys.map V.str) ∨ SqT K H p (ys.map V.str)) ∧ (ys.map (·.length)).sum + ys.length * a.length ≤ 16777216 ∧ Q (.str (Txt.join a ys)) H
theorem jn_sum {c : Nat} : ∀ (ws : List LN), ((ws.map TS).map (·.length)).sum + ws.length ≤ (jn c ws).length + 1
  | [] => Nat.zero_le _
  | [w] => by
    show (TS w).length + 0 + 1 ≤ w.length + 1
    rw [ts_len]
    omega
  | w :: u :: ws => by
    have ih := jn_sum (c := c) (u :: ws)
    rw [jn_cons (List.cons_ne_nil _ _), List.length_append, List.map_cons, List.map_cons, List.sum_cons, ts_len]
    simp only [List.length_cons] at ih ⊢
    omega
abbrev teUn : TE := tCall spName [] E0 (tCons (tVar 3) tNil)
section
variable {P : Program} {w : World} {K : PySem.W.Frag} {mg : Str → Option Value} {base : Heap} {f : Addr} {fd : FuncData}
abbrev sUn : Stmt := top 52
abbrev nUn : List Str := ["words", "low", "high", "word"]
abbrev pUn : List Str := ["words", "low", "high"]
theorem scUn : FnScope nUn pUn (defScope sUn) := ⟨rfl, rfl, rfl, by decide +kernel, rfl, by decide +kernel, by decide +kernel⟩
section
variable {fA_ : Addr} {fdA_ : FuncData}
theorem ok_Un (F : Fun K "are_unlike_names" "are_unlike_names" sUn f fd) (T : Bt mg) (mE : mg "set" = none)
    (GA_ : FnOk P w K mg base CX0 1 fA_ fdA_ ["value"] (spName)) (mA_ : mg "is_name" = some (.ref fA_)) (kA_ : PySem.W.keepIn K (.ref fA_) = true) (bA_ : Binds K fdA_ ["value"] []) : FnOk P w K mg base CX0 2 f fd pUn (spUn) := by
  refine F.ok scUn (fun vs H Q E h => ?_) (fun cdv A outer s H vs Q E hr h => ?_)
  · obtain ⟨W, ws, lo, hi, rfl, _⟩ := h
    rfl
  · obtain ⟨W, ws, lo, hi, rfl, hW, ok, k⟩ := h
    have hrA_ : Room (1) _ := hr.mono (by first | decide | omega)
    refine ⟨_, (pss_cons (ps_if (PW.pt (pw_or (pt_cmpR op_lt (pe_callB call_len_seq (by rfl) T.len PySem.boot_len (pa_cons (pv 0) pa_nil)) (pv 1) (nomark _)) (pw_or (pt_cmpR op_gt (pe_callB call_len_seq (by rfl) T.len PySem.boot_len (pa_cons (pv 0) pa_nil)) (pv 2) (nomark _)) (pw_or1 (pt_not (pt_val (pe_callB (cr_all rfl) (by rfl) T.all (by decide +kernel) (pa_cons (pe_lc (own := [("word", 3)]) (g := (gName 3)) (tt := tYes) (te := teUn) (by rfl) scUn.nd (pi_list (pv 0)) (blkOk_by (own := [("word", 3)]) (N := nUn) (sc := defScope sUn) (by decide +kernel)) (fun _ _ _ _ _ => (pg_name (i := 3) scUn.nd rfl (.inl rfl))) (fun _ _ _ _ _ => pts_nil) (fun _ _ _ _ _ => (pe_call GA_ hrA_ (by rfl) mA_ kA_ bA_ .nil pass0 (pa_cons (pv 3) pa_nil)))) pa_nil)))))))) (pss_one (ps_ret pe_bl)) pss_nil)
      (pss_one (ps_ret (pe_cmpR op_eq (pe_callB call_lenX (by rfl) T.len PySem.boot_len (pa_cons (pe_callTy (cr_setX rfl) (by rfl) mE boot_set (pa_cons (pv 0) pa_nil)) pa_nil)) (pe_callB call_len_seq (by rfl) T.len PySem.boot_len (pa_cons (pv 0) pa_nil)) (nomark _))))), ?_⟩
    have two : 2 ≤ sizeLine := by decide
    have one : 1 ≤ sizeLine := by decide
    have three : 3 ≤ sizeLine := by decide
    have lw := vW_len ws
    have l2 := ok.1
    unfold namesM at k
    refine ⟨_, rfl, W, _, rfl, .inl (SqL.of hW), _, rfl, _, _, rfl, rfl, _, rfl, ite2 (fun q => ?_) (fun q => ?_)⟩
    · have h : ws.length < lo := by
        have := of_decide_eq_true q
        rw [lw] at this
        omega
      rw [decide_eq_true h] at k
      exact iteT (k H (Same.refl H))
    have h1 : ¬ ws.length < lo := fun h => q (decide_eq_true (by rw [lw]; omega))
    refine ⟨_, rfl, W, _, rfl, .inl (SqL.of hW), _, rfl, _, _, rfl, rfl, _, rfl, ite2 (fun q2 => ?_) (fun q2 => ?_)⟩
    · have h : hi < ws.length := by
        have := of_decide_eq_true q2
        rw [lw] at this
        omega
      rw [decide_eq_false h1, decide_eq_true h] at k
      exact iteT (k H (Same.refl H))
    have h2 : ¬ hi < ws.length := fun h => q2 (decide_eq_true (by rw [lw]; omega))
    rw [decide_eq_false h1, decide_eq_false h2] at k
    refine ⟨_, rfl, W, rfl, ⟨_, SqL.of hW⟩, fun D hD => lc_list (K := K) (a := W) (xs := vW ws) (fun i H' => H' D = some (.lst (((ws.take i).map nmL).map V.bl)) ∧ Same H H') ⟨upd_same, Same.upd hD⟩ (fun i H' _ pr => SqL.of (pr.2 _ _ hW)) ?_ ?_⟩
    · rintro i x H1 hx ⟨hD1, s1⟩
      obtain ⟨w, ew, rfl⟩ := vW_at hx
      have li := (List.getElem?_eq_some_iff.mp ew).1
      refine ⟨rfl, ?_⟩
      dsimp only [tYes]
      refine iteT ?_
      change teUn _ _ _
      refine ⟨_, rfl, .str (TS w), "str", rfl, .str _, fun x e => by cases e; exact (ok.each w (List.mem_of_getElem? ew)).line, fun H3 s3 => ⟨_, s3 _ _ hD1, ?_, ?_, fun b o e => by rw [upd_ne (ne_of_none e hD)]; exact s3 b o (s1 b o e)⟩⟩
      · rw [List.length_map, List.length_map, List.length_take]
        exact Nat.lt_of_le_of_lt (show _ ≤ 2000 by omega) (by decide)
      · rw [upd_same, List.take_add_one, ew, List.map_append, List.map_append]
        rfl
    rintro H1 ⟨hD1, s1⟩
    rw [lw, List.take_length] at hD1
    refine ⟨D, ws.map nmL, rfl, SqL.of hD1, _, rfl, ?_⟩
    rw [show (ws.map nmL).all id = ws.all nmL by rw [List.all_map]; rfl]
    cases e : ws.all nmL with
    | false =>
      rw [e] at k
      exact iteT (k H1 s1)
    | true =>
      rw [e] at k
      refine iteF ⟨_, rfl, W, ws.map TS, rfl, SqL.of (s1 _ _ hW), by rw [List.length_map]; omega, fun S hS => ⟨S, ws.map TS, rfl, upd_same, fun n ln en => ?_⟩⟩
      have zS := Same.upd (o := SetXO w S (ws.map TS)) hS
      have s2 := s1.trans zS
      refine ⟨_, rfl, W, _, rfl, .inl (SqL.of (s2 _ _ hW)), rfl, ?_⟩
      have e2 : decide (V.int (n : Int) = V.int ((vW ws).length : Int)) = decide (ws.map TS).Nodup := by
        rw [lw, show ws.length = (ws.map TS).length by rw [List.length_map]]
        refine decide_eq_decide.mpr ⟨fun h => en.mp (by injection h with h; omega), fun h => by rw [en.mpr h]⟩
      rw [e2]
      exact k _ s2
end
abbrev sWn : Stmt := top 54
abbrev nWn : List Str := ["word", "low", "high", "number"]
abbrev pWn : List Str := ["word", "low", "high"]
theorem scWn : FnScope nWn pWn (defScope sWn) := ⟨rfl, rfl, rfl, by decide +kernel, rfl, by decide +kernel, by decide +kernel⟩
section
variable {fA_ : Addr} {fdA_ : FuncData}
theorem ok_Wn (F : Fun K "whole_or_none" "whole_or_none" sWn f fd) (T : Bt mg)
    (GA_ : FnOk P w K mg base CX0 1 fA_ fdA_ ["text"] (spDg)) (mA_ : mg "read_whole" = some (.ref fA_)) (kA_ : PySem.W.keepIn K (.ref fA_) = true) (bA_ : Binds K fdA_ ["text"] []) : FnOk P w K mg base CX0 2 f fd pWn (spWn) := by
  refine F.ok scWn (fun vs H Q E h => ?_) (fun cdv A outer s H vs Q E hr h => ?_)
  · obtain ⟨l, lo, hi, rfl, _⟩ := h
    rfl
  · obtain ⟨l, lo, hi, rfl, tx, k⟩ := h
    have hrA_ : Room (1) _ := hr.mono (by first | decide | omega)
    refine ⟨_, (pss_cons (ps_set (i := 3) scWn.nd rfl (Or.inl rfl) (pe_call GA_ hrA_ (by rfl) mA_ kA_ bA_ .nil pass0 (pa_cons (pv 0) pa_nil)))
      (pss_one (ps_ret (pe_ifExp (PW.pt (pw_and (pt_cmpR op_notN (pv 3) pe_non (nomark _)) (pw_and1 (pt_chain op_le op_le (pv 1) (pv 3) (pv 2))))) (pv 3) pe_non)))), ?_⟩
    have two : 2 ≤ sizeLine := by decide
    have one : 1 ≤ sizeLine := by decide
    have three : 3 ≤ sizeLine := by decide
    unfold wholeM at k
    refine ⟨_, rfl, l, rfl, tx, fun H1 s1 => ?_⟩
    unfold dgV
    cases e : digN l with
    | none =>
      rw [e] at k
      refine ⟨_, rfl, rfl, _, rfl, ?_⟩
      rw [show decide (V.non = V.non) = true from rfl]
      exact iteF (iteF (k H1 s1))
    | some n =>
      rw [e] at k
      refine ⟨_, rfl, rfl, _, rfl, iteT ⟨_, rfl, _, rfl, _, _, rfl, rfl, _, rfl, ite2 (fun q => ?_) (fun q => ?_)⟩⟩
      · have h1 : lo ≤ n := by have := of_decide_eq_true q; omega
        refine ⟨_, rfl, _, _, rfl, rfl, _, rfl, ite2 (fun q2 => ?_) (fun q2 => ?_)⟩
        · have h2 : n ≤ hi := by have := of_decide_eq_true q2; omega
          have k : Q (opN (if lo ≤ n ∧ n ≤ hi then some n else none)) H1 := k H1 s1
          rw [if_pos ⟨h1, h2⟩] at k
          exact ⟨_, rfl, k⟩
        · have h2 : ¬ (lo ≤ n ∧ n ≤ hi) := fun h => q2 (decide_eq_true (by omega))
          have k : Q (opN (if lo ≤ n ∧ n ≤ hi then some n else none)) H1 := k H1 s1
          rw [if_neg h2] at k
          exact k
      · have h2 : ¬ (lo ≤ n ∧ n ≤ hi) := fun h => q (decide_eq_true (by omega))
        have k : Q (opN (if lo ≤ n ∧ n ≤ hi then some n else none)) H1 := k H1 s1
        rw [if_neg h2] at k
        exact ⟨_, rfl, iteF k⟩
end
end
section
variable {P : Program} {w : World} {K : PySem.W.Frag} {mg : Str → Option Value} {base : Heap} {f C fI fC : Addr} {fd fdC : FuncData}
abbrev sFm : Stmt := top 53
theorem scFm : FnScope ["words"] ["words"] (defScope sFm) := ⟨rfl, rfl, rfl, by decide +kernel, rfl, by decide +kernel, by decide +kernel⟩
/-- the clause of form_or_none -/
structure ExC (K : PySem.W.Frag) (C : Addr) : Prop where
  cc : PySem.W.exmOne K (.ref C) (.ref C) = some true
theorem ok_Fm (F : Fun K "form_or_none" "form_or_none" sFm f fd) (T : Bt mg) (R : ErF K mg "BadText" "position" C fI) (X : ExC K C)
    (GC : FnOk P w K mg base (L2.CX P w) 23 fC fdC ["text"] (spRe C)) (mC : mg "read_expression" = some (.ref fC)) (kC : PySem.W.keepIn K (.ref fC) = true) (bC : Binds K fdC ["text"] []) : FnOk P w K mg base CX0 24 f fd ["words"] spFm := by
  refine F.ok scFm (fun vs H Q E h => ?_) (fun cdv A outer s H vs Q E hr h => ?_)
  · obtain ⟨W, ws, rfl, _⟩ := h
    rfl
  · obtain ⟨W, ws, rfl, hW, ok, k⟩ := h
    refine ⟨_, pss_one (ps_tryL (Wout := fun _ _ _ _ => False) (tb := fun W => tRet (tCallS (spRe C) (WE W) (tCons (tM1 (rJn K) (tC (.str " ")) (tVar 0)) tNil))) (l := [⟨.ref C, none, fun _ _ _ => tRet (tC .non)⟩]) rfl rfl takes0
        (fun W pn xe tk _ => pss_one (ps_ret (pe_callS GC hr (by rfl) mC kC bC (fun σ => passAt tk σ) (pa_cons (pe_m1 PySem.F.slot_str_join PySem.F.type_str_join mt_join pe_str (pv 0)) pa_nil))))
        (.bare ⟨rfl, by decide, Or.inl R.gC⟩ rfl (fun a ob cls d pn hz hf => pss_one (ps_ret pe_non)) .nil)), ?_⟩
    have sum := jn_sum (c := 32) ws
    have tl := ok.2.len
    have bl : (PySem.Str.ofString " ") = ⟨#[32]⟩ := by decide +kernel
    have ej : Txt.join (PySem.Str.ofString " ") (ws.map TS) = TS (jn 32 ws) := by
      rw [bl]
      exact (StrLaws.glued_eq_join _ _).trans (join_TS ws)
    refine ⟨⟨_, rfl⟩, _, rfl, _, W, ws.map TS, rfl, rfl, .inl (SqL.of hW), ?_, ?_⟩
    · rw [bl, List.length_map]
      show _ + ws.length * 1 ≤ 16777216
      omega
    rw [ej]
    dsimp only [tNil]
    unfold formM at k
    refine ⟨_, rfl, .inr ⟨jn 32 ws, rfl, ok.2, fun z v H1 s1 hv => ?_, fun z H1 s1 d H2 s2 hd2 hx => ?_⟩⟩
    · rw [z] at k
      exact k v H1 s1 hv
    · refine ⟨true, X.cc, fun _ a ha => ?_, nofun⟩
      rw [z] at k
      exact k .non H2 (s1.trans s2) .non
end
end K78
set_option Elab.async false
set_option linter.all false
set_option maxRecDepth 100000
set_option maxHeartbeats 4000000
namespace K78
open PySem PySem.Spec PyProof.Rows L2 Lc
/-! ## the readers of a step -/
def strD (w : LN) : PyData := .str (TS w)
def strsD (ws : List LN) : PyData := .tuple (ws.map strD)
theorem strs_dh {H : Hp} : ∀ (ws : List LN), DhAll H (vW ws) (ws.map strD)
  | [] => .nil
  | w :: ws => .cons (.str _) (strs_dh ws)
theorem cut_from (xs : List V) (k : Nat) : cutV xs (some (k : Int)) none = xs.drop k := by
  unfold cutV
  have e2 : HT.sIx xs.length 0 (some (k : Int)) = min k xs.length := HT.sIx_nat _ _ _
  have e1 : HT.sIx xs.length xs.length none = xs.length := rfl
  rw [e1, e2]
  rcases Nat.le_total k xs.length with h | h
  · rw [Nat.min_eq_left h]
    exact List.take_of_length_le (by rw [List.length_drop]; omega)
  · rw [Nat.min_eq_right h, List.drop_of_length_le (Nat.le_refl _), List.drop_of_length_le h, List.take_nil]
theorem cutW (ws : List LN) (k : Nat) : cutV (vW ws) (some (k : Int)) none = vW (ws.drop k) := by
  rw [cut_from, ← List.map_drop, ← List.map_drop]
theorem form_nil : isNo (formM []) = true := by decide +kernel
theorem no_non {H : Hp} {v : V} {d : PyData} (h : Dh H v d) (z : isNo d = false) : v ≠ .non := by
  rintro rfl
  cases h
  cases z
def keepM : List LN → PyData
  | _ :: r => if isNo (formM r) = true then .none else .tuple [.str "keep", formM r]
  | _ => .none
def setM : List LN → PyData
  | _ :: w :: r => if isNo (formM r) = true then .none else if nmL w = true then .tuple [.str "set", .str (TS w), formM r] else .none
  | _ => .none
def selectM : List LN → PyData
  | _ :: r => if namesM r 1 8 = true then .tuple [.str "select", strsD r] else .none
  | _ => .none
def renameM : List LN → PyData
  | [a, b, c] => if nmL b = true ∧ nmL c = true then strsD [a, b, c] else .none
  | _ => .none
def sortM : List LN → PyData
  | [a, b, c] => if nmL b = true ∧ (TS c = "up" ∨ TS c = "down") then strsD [a, b, c] else .none
  | _ => .none
def firstM : List LN → PyData
  | [_, b] => match wholeM b 0 1000 with
    | some n => .tuple [.str "first", .int n]
    | none => .none
  | _ => .none
def sampleM : List LN → PyData
  | [_, b, c, e] => match wholeM c 1 1000, wholeM e 0 1000000000 with
    | some wh, some se => (match wholeM b 0 wh with
      | some n => .tuple [.str "sample", .int n, .int wh, .int se]
      | none => .none)
    | _, _ => .none
  | _ => .none
def joinM : List LN → PyData
  | _ :: b :: c :: r => if nmL b = true ∧ TS c = "on" then (if namesM r 1 3 = true then .tuple [.str "join", .str (TS b), strsD r] else .none) else .none
  | _ => .none
def unionM : List LN → PyData
  | [a, b] => if nmL b = true then strsD [a, b] else .none
  | _ => .none
def distinctM : List LN → PyData
  | [a] => strsD [a]
  | _ => .none
/-- a reader: from the words of a line the step, or None -/
def spRd (M : List LN → PyData) : Sp := fun vs H Q _ => ∃ (W : Addr) (ws : List LN), vs = [.ref W] ∧ H W = some (.lst (vW ws)) ∧ WsOk ws ∧ ws ≠ [] ∧ ∀ v H', Same H H' → Dh H' v (M ws) → Q v H'
section
variable {P : Program} {w : World} {K : PySem.W.Frag} {mg : Str → Option Value} {base : Heap} {f : Addr} {fd : FuncData}
abbrev sKp : Stmt := top 55
abbrev nKp : List Str := ["words", "expression"]
abbrev pKp : List Str := ["words"]
theorem scKp : FnScope nKp pKp (defScope sKp) := ⟨rfl, rfl, rfl, by decide +kernel, rfl, by decide +kernel, by decide +kernel⟩
section
variable {fA_ : Addr} {fdA_ : FuncData}
theorem ok_Kp (F : Fun K "read_keep" "read_keep" sKp f fd) (T : Bt mg)
    (GA_ : FnOk P w K mg base CX0 24 fA_ fdA_ ["words"] (spFm)) (mA_ : mg "form_or_none" = some (.ref fA_)) (kA_ : PySem.W.keepIn K (.ref fA_) = true) (bA_ : Binds K fdA_ ["words"] []) : FnOk P w K mg base CX0 25 f fd pKp (spRd keepM) := by
  refine F.ok scKp (fun vs H Q E h => ?_) (fun cdv A outer s H vs Q E hr h => ?_)
  · obtain ⟨W, ws, rfl, _⟩ := h
    rfl
  · obtain ⟨W, ws, rfl, hW, ok, ne, k⟩ := h
    have hrA_ : Room (24) _ := hr.mono (by first | decide | omega)
    refine ⟨_, (pss_cons (ps_set (i := 1) scKp.nd rfl (Or.inl rfl) (pe_call GA_ hrA_ (by rfl) mA_ kA_ bA_ .nil pass0 (pa_cons (pe_slice sl_list (pv 0) (po_some pe_int) po_none) pa_nil)))
      (pss_one (ps_ret (pe_ifExp (pt_cmpR op_isN (pv 1) pe_non (nomark _)) pe_non (pe_tup (pa_cons pe_str (pa_cons (pv 1) pa_nil))))))), ?_⟩
    have two : 2 ≤ sizeLine := by decide
    have one : 1 ≤ sizeLine := by decide
    have three : 3 ≤ sizeLine := by decide
    obtain ⟨w0, r, rfl⟩ : ∃ w0 r, ws = w0 :: r := by
      cases ws with
      | nil => exact absurd rfl ne
      | cons a r => exact ⟨a, r, rfl⟩
    refine ⟨_, rfl, 1, rfl, W, _, rfl, SqL.of hW, fun R hR => ?_⟩
    rw [show cutV (vW (w0 :: r)) (some 1) none = vW r from cutW (w0 :: r) 1]
    have zR := Same.upd (o := .lst (vW r)) hR
    refine ⟨R, r, rfl, upd_same, ok.drop 1, fun v H1 s1 hv => ?_⟩
    have s := zR.trans s1
    unfold keepM at k
    dsimp only at k
    refine ⟨_, rfl, rfl, _, rfl, ?_⟩
    cases z : isNo (formM r) with
    | true =>
      rw [z] at hv k
      have hv : Dh H1 v .none := hv
      cases hv
      exact iteT (k .non H1 s .non)
    | false =>
      rw [z] at hv k
      have hv : Dh H1 v (formM r) := hv
      rw [decide_eq_false (no_non hv z)]
      exact iteF ⟨_, rfl, two, fun q hq => k _ _ (s.trans (Same.upd hq)) (.tup upd_same (.cons (.str _) (.cons (hv.same (Same.upd hq)) .nil)))⟩
end
abbrev sSt : Stmt := top 56
abbrev nSt : List Str := ["words", "expression"]
abbrev pSt : List Str := ["words"]
theorem scSt : FnScope nSt pSt (defScope sSt) := ⟨rfl, rfl, rfl, by decide +kernel, rfl, by decide +kernel, by decide +kernel⟩
section
variable {fA_ fB_ : Addr} {fdA_ fdB_ : FuncData}
theorem ok_St (F : Fun K "read_set" "read_set" sSt f fd) (T : Bt mg)
    (GA_ : FnOk P w K mg base CX0 24 fA_ fdA_ ["words"] (spFm)) (mA_ : mg "form_or_none" = some (.ref fA_)) (kA_ : PySem.W.keepIn K (.ref fA_) = true) (bA_ : Binds K fdA_ ["words"] [])
    (GB_ : FnOk P w K mg base CX0 1 fB_ fdB_ ["value"] (spName)) (mB_ : mg "is_name" = some (.ref fB_)) (kB_ : PySem.W.keepIn K (.ref fB_) = true) (bB_ : Binds K fdB_ ["value"] []) : FnOk P w K mg base CX0 25 f fd pSt (spRd setM) := by
  refine F.ok scSt (fun vs H Q E h => ?_) (fun cdv A outer s H vs Q E hr h => ?_)
  · obtain ⟨W, ws, rfl, _⟩ := h
    rfl
  · obtain ⟨W, ws, rfl, hW, ok, ne, k⟩ := h
    have hrA_ : Room (24) _ := hr.mono (by first | decide | omega)
    have hrB_ : Room (1) _ := hr.mono (by first | decide | omega)
    refine ⟨_, (pss_cons (ps_set (i := 1) scSt.nd rfl (Or.inl rfl) (pe_call GA_ hrA_ (by rfl) mA_ kA_ bA_ .nil pass0 (pa_cons (pe_slice sl_list (pv 0) (po_some pe_int) po_none) pa_nil)))
      (pss_one (ps_ret (pe_ifExp (PW.pt (pw_or (pt_cmpR op_isN (pv 1) pe_non (nomark _)) (pw_or1 (pt_not (pt_val (pe_call GB_ hrB_ (by rfl) mB_ kB_ bB_ .nil pass0 (pa_cons (pe_ix ix_list (pv 0) pe_int (fun _ _ => rfl)) pa_nil))))))) pe_non (pe_tup (pa_cons pe_str (pa_cons (pe_ix ix_list (pv 0) pe_int (fun _ _ => rfl)) (pa_cons (pv 1) pa_nil)))))))), ?_⟩
    have two : 2 ≤ sizeLine := by decide
    have one : 1 ≤ sizeLine := by decide
    have three : 3 ≤ sizeLine := by decide
    refine ⟨_, rfl, 2, rfl, W, _, rfl, SqL.of hW, fun R hR => ?_⟩
    rw [show cutV (vW ws) (some 2) none = vW (ws.drop 2) from cutW ws 2]
    have zR := Same.upd (o := .lst (vW (ws.drop 2))) hR
    refine ⟨R, ws.drop 2, rfl, upd_same, ok.drop 2, fun v H1 s1 hv => ?_⟩
    have s := zR.trans s1
    refine ⟨_, rfl, rfl, _, rfl, ?_⟩
    match ws, ok, ne, hW, hv, k with
    | [w0], ok, ne, hW, hv, k =>
      rw [show isNo (formM (List.drop 2 [w0])) = true from form_nil] at hv
      have hv : Dh H1 v .none := hv
      cases hv
      exact iteT (iteT (k .non H1 s .non))
    | w0 :: w1 :: r, ok, ne, hW, hv, k =>
      unfold setM at k
      dsimp only at k
      have hv : Dh H1 v (if isNo (formM r) = true then .none else formM r) := hv
      cases z : isNo (formM r) with
      | true =>
        rw [z] at hv k
        have hv : Dh H1 v .none := hv
        cases hv
        exact iteT (iteT (k .non H1 s .non))
      | false =>
        rw [z] at hv k
        have hv : Dh H1 v (formM r) := hv
        rw [decide_eq_false (no_non hv z)]
        refine iteF ⟨_, rfl, W, _, _, .str (TS w1), rfl, rfl, SqL.of (s _ _ hW), at_of (j := 1) rfl rfl, .str (TS w1), "str", rfl, .str _, fun x e => by cases e; exact (ok.each w1 (by simp)).line, fun H3 s3 => ⟨_, rfl, ?_⟩⟩
        rw [show nameB (.str (TS w1)) = nmL w1 from rfl]
        have s' := s.trans s3
        cases n : nmL w1 with
        | false =>
          rw [n] at k
          exact iteT (k .non H3 s' .non)
        | true =>
          rw [n] at k
          exact iteF ⟨_, rfl, W, _, _, .str (TS w1), rfl, rfl, SqL.of (s' _ _ hW), at_of (j := 1) rfl rfl, _, rfl, three, fun q hq => k _ _ (s'.trans (Same.upd hq)) (.tup upd_same (.cons (.str _) (.cons (.str _) (.cons ((hv.same s3).same (Same.upd hq)) .nil))))⟩
end
abbrev sSl : Stmt := top 57
abbrev nSl : List Str := ["words", "names"]
abbrev pSl : List Str := ["words"]
theorem scSl : FnScope nSl pSl (defScope sSl) := ⟨rfl, rfl, rfl, by decide +kernel, rfl, by decide +kernel, by decide +kernel⟩
section
variable {fA_ : Addr} {fdA_ : FuncData}
theorem ok_Sl (F : Fun K "read_select" "read_select" sSl f fd) (T : Bt mg) {u8 : Tok} (m8 : mg "MOST_COLUMNS" = some (.int 8 u8))
    (GA_ : FnOk P w K mg base CX0 2 fA_ fdA_ ["words", "low", "high"] (spUn)) (mA_ : mg "are_unlike_names" = some (.ref fA_)) (kA_ : PySem.W.keepIn K (.ref fA_) = true) (bA_ : Binds K fdA_ ["words", "low", "high"] []) : FnOk P w K mg base CX0 25 f fd pSl (spRd selectM) := by
  refine F.ok scSl (fun vs H Q E h => ?_) (fun cdv A outer s H vs Q E hr h => ?_)
  · obtain ⟨W, ws, rfl, _⟩ := h
    rfl
  · obtain ⟨W, ws, rfl, hW, ok, ne, k⟩ := h
    have hrA_ : Room (2) _ := hr.mono (by first | decide | omega)
    refine ⟨_, (pss_cons (ps_set (i := 1) scSl.nd rfl (Or.inl rfl) (pe_slice sl_list (pv 0) (po_some pe_int) po_none))
      (pss_one (ps_ret (pe_ifExp (pt_val (pe_call GA_ hrA_ (by rfl) mA_ kA_ bA_ .nil pass0 (pa_cons (pv 1) (pa_cons pe_int (pa_cons (pe_glob (v := .int 8) (by rfl) m8 ⟨_, rfl⟩) pa_nil))))) (pe_tup (pa_cons pe_str (pa_cons (pe_callTy call_tuple_of (by rfl) T.tuple boot_tuple (pa_cons (pv 1) pa_nil)) pa_nil))) pe_non)))), ?_⟩
    have two : 2 ≤ sizeLine := by decide
    have one : 1 ≤ sizeLine := by decide
    have three : 3 ≤ sizeLine := by decide
    obtain ⟨w0, r, rfl⟩ : ∃ w0 r, ws = w0 :: r := by
      cases ws with
      | nil => exact absurd rfl ne
      | cons a r => exact ⟨a, r, rfl⟩
    refine ⟨_, rfl, 1, rfl, W, _, rfl, SqL.of hW, fun R hR => ?_⟩
    rw [show cutV (vW (w0 :: r)) (some 1) none = vW r from cutW (w0 :: r) 1]
    have zR := Same.upd (o := .lst (vW r)) hR
    unfold selectM at k
    dsimp only at k
    refine ⟨_, rfl, R, r, 1, 8, rfl, upd_same, ok.drop 1, fun H1 s1 => ⟨_, rfl, ?_⟩⟩
    have s := zR.trans s1
    cases z : namesM r 1 8 with
    | false =>
      rw [z] at k
      exact iteF (k .non H1 s .non)
    | true =>
      rw [z] at k
      refine iteT ⟨_, rfl, R, _, rfl, .inl ⟨SqL.of (s1 _ _ upd_same), fun p hp => ⟨two, fun q hq => ?_⟩⟩⟩
      have z1 := Same.upd (o := .tup (vW r)) hp
      have z2 := Same.upd (o := .tup [.str "select", .ref p]) hq
      exact k _ _ (s.trans (z1.trans z2)) (.tup upd_same (.cons (.str _) (.cons (.tup (z2 _ _ upd_same) (strs_dh r)) .nil)))
end
abbrev sRn : Stmt := top 58
abbrev nRn : List Str := ["words"]
abbrev pRn : List Str := ["words"]
theorem scRn : FnScope nRn pRn (defScope sRn) := ⟨rfl, rfl, rfl, by decide +kernel, rfl, by decide +kernel, by decide +kernel⟩
section
variable {fA_ : Addr} {fdA_ : FuncData}
theorem ok_Rn (F : Fun K "read_rename" "read_rename" sRn f fd) (T : Bt mg)
    (GA_ : FnOk P w K mg base CX0 1 fA_ fdA_ ["value"] (spName)) (mA_ : mg "is_name" = some (.ref fA_)) (kA_ : PySem.W.keepIn K (.ref fA_) = true) (bA_ : Binds K fdA_ ["value"] []) : FnOk P w K mg base CX0 25 f fd pRn (spRd renameM) := by
  refine F.ok scRn (fun vs H Q E h => ?_) (fun cdv A outer s H vs Q E hr h => ?_)
  · obtain ⟨W, ws, rfl, _⟩ := h
    rfl
  · obtain ⟨W, ws, rfl, hW, ok, ne, k⟩ := h
    have hrA_ : Room (1) _ := hr.mono (by first | decide | omega)
    refine ⟨_, (pss_cons (ps_if (PW.pt (pw_or (pt_cmpR op_ne (pe_callB call_len_seq (by rfl) T.len PySem.boot_len (pa_cons (pv 0) pa_nil)) pe_int (nomark _)) (pw_or (pt_not (pt_val (pe_call GA_ hrA_ (by rfl) mA_ kA_ bA_ .nil pass0 (pa_cons (pe_ix ix_list (pv 0) pe_int (fun _ _ => rfl)) pa_nil)))) (pw_or1 (pt_not (pt_val (pe_call GA_ hrA_ (by rfl) mA_ kA_ bA_ .nil pass0 (pa_cons (pe_ix ix_list (pv 0) pe_int (fun _ _ => rfl)) pa_nil)))))))) (pss_one (ps_ret pe_non)) pss_nil)
      (pss_one (ps_ret (pe_callTy call_tuple_of (by rfl) T.tuple boot_tuple (pa_cons (pv 0) pa_nil))))), ?_⟩
    have two : 2 ≤ sizeLine := by decide
    have one : 1 ≤ sizeLine := by decide
    have three : 3 ≤ sizeLine := by decide
    have lw := vW_len ws
    have ne3 : ¬ ws.length = 3 → renameM ws = .none := fun h => by
      match ws, h with
      | [], _ => rfl
      | [_], _ => rfl
      | [_, _], _ => rfl
      | [_, _, _], h => exact absurd rfl h
      | _ :: _ :: _ :: _ :: _, _ => rfl
    refine ⟨_, rfl, W, _, rfl, .inl (SqL.of hW), rfl, _, rfl, ?_⟩
    rw [lw]
    by_cases h3 : ws.length = 3
    · rw [show (!decide (V.int (ws.length : Int) = V.int 3)) = false by rw [h3]; rfl]
      match ws, ok, hW, h3, k with
      | [a, b, c], ok, hW, _, k =>
      refine iteF ⟨_, rfl, W, _, _, .str (TS b), rfl, rfl, SqL.of hW, at_of (j := 1) rfl rfl, .str (TS b), "str", rfl, .str _, fun x e => by cases e; exact (ok.each b (by simp)).line, fun H3 s3 => ⟨_, rfl, ?_⟩⟩
      rw [show nameB (.str (TS b)) = nmL b from rfl]
      unfold renameM at k
      dsimp only at k
      cases nb : nmL b with
      | false =>
        rw [nb, if_neg (fun h => by cases h.1)] at k
        exact iteT (iteT (k .non H3 s3 .non))
      | true =>
        rw [nb] at k
        refine iteF ⟨_, rfl, W, _, _, .str (TS c), rfl, rfl, SqL.of (s3 _ _ hW), at_of (j := 2) rfl rfl, .str (TS c), "str", rfl, .str _, fun x e => by cases e; exact (ok.each c (by simp)).line, fun H4 s4 => ⟨_, rfl, ?_⟩⟩
        rw [show nameB (.str (TS c)) = nmL c from rfl]
        have s := s3.trans s4
        cases nc : nmL c with
        | false =>
          rw [nc, if_neg (fun h => by cases h.2)] at k
          exact iteT (k .non H4 s .non)
        | true =>
          rw [nc, if_pos ⟨rfl, rfl⟩] at k
          exact iteF ⟨_, rfl, W, _, rfl, .inl ⟨SqL.of (s _ _ hW), fun p hp => k _ _ (s.trans (Same.upd hp)) (.tup upd_same (strs_dh [a, b, c]))⟩⟩
    · rw [show (!decide (V.int (ws.length : Int) = V.int 3)) = true by rw [decide_eq_false (fun h => h3 (by injection h with h; omega))]; rfl]
      exact iteT (iteT (k .non H (Same.refl H) (by rw [ne3 h3]; exact .non)))
end
end
end K78
set_option Elab.async false
set_option linter.all false
set_option maxRecDepth 100000
set_option maxHeartbeats 4000000
namespace K78
open PySem PySem.Spec PyProof.Rows L2 Lc
section
variable {P : Program} {w : World} {K : PySem.W.Frag} {mg : Str → Option Value} {base : Heap} {f : Addr} {fd : FuncData}
abbrev sSo : Stmt := top 59
abbrev nSo : List Str := ["words"]
abbrev pSo : List Str := ["words"]
theorem scSo : FnScope nSo pSo (defScope sSo) := ⟨rfl, rfl, rfl, by decide +kernel, rfl, by decide +kernel, by decide +kernel⟩
section
variable {fA_ : Addr} {fdA_ : FuncData}
theorem ok_So (F : Fun K "read_sort" "read_sort" sSo f fd) (T : Bt mg) {oA : Addr} (mO : mg "ORDERS" = some (.ref oA)) (hO : ∀ H, SqT K H oA [.str "up", .str "down"])
    (GA_ : FnOk P w K mg base CX0 1 fA_ fdA_ ["value"] (spName)) (mA_ : mg "is_name" = some (.ref fA_)) (kA_ : PySem.W.keepIn K (.ref fA_) = true) (bA_ : Binds K fdA_ ["value"] []) : FnOk P w K mg base CX0 25 f fd pSo (spRd sortM) := by
  refine F.ok scSo (fun vs H Q E h => ?_) (fun cdv A outer s H vs Q E hr h => ?_)
  · obtain ⟨W, ws, rfl, _⟩ := h
    rfl
  · obtain ⟨W, ws, rfl, hW, ok, ne, k⟩ := h
    have hrA_ : Room (1) _ := hr.mono (by first | decide | omega)
    refine ⟨_, (pss_one (ps_ret (pe_ifExp (PW.pt (pw_and (pt_cmpR op_eq (pe_callB call_len_seq (by rfl) T.len PySem.boot_len (pa_cons (pv 0) pa_nil)) pe_int (nomark _)) (pw_and (pt_val (pe_call GA_ hrA_ (by rfl) mA_ kA_ bA_ .nil pass0 (pa_cons (pe_ix ix_list (pv 0) pe_int (fun _ _ => rfl)) pa_nil))) (pw_and1 (pt_cmpR op_in_seq (pe_ix ix_list (pv 0) pe_int (fun _ _ => rfl)) (pe_glob (v := .ref oA) (by rfl) mO rfl) (by rfl)))))) (pe_callTy call_tuple_of (by rfl) T.tuple boot_tuple (pa_cons (pv 0) pa_nil)) pe_non))), ?_⟩
    have two : 2 ≤ sizeLine := by decide
    have one : 1 ≤ sizeLine := by decide
    have three : 3 ≤ sizeLine := by decide
    have lw := vW_len ws
    have nel : ¬ ws.length = 3 → sortM ws = .none := fun h => by
      match ws, h with
      | [], _ => rfl
      | [_], _ => rfl
      | [_, _], _ => rfl
      | [_, _, _], h => exact absurd rfl h
      | _ :: _ :: _ :: _ :: _, _ => rfl
    refine ⟨_, rfl, W, _, rfl, .inl (SqL.of hW), rfl, _, rfl, ?_⟩
    rw [lw]
    by_cases h3 : ws.length = 3
    · rw [show decide (V.int (ws.length : Int) = V.int 3) = true by rw [h3]; rfl]
      match ws, ok, hW, h3, k with
      | [a, b, c], ok, hW, _, k =>
      refine iteT ⟨_, rfl, W, _, _, .str (TS b), rfl, rfl, SqL.of hW, at_of (j := 1) rfl rfl, .str (TS b), "str", rfl, .str _, fun x e => by cases e; exact (ok.each b (by simp)).line, fun H3 s3 => ⟨_, rfl, ?_⟩⟩
      rw [show nameB (.str (TS b)) = nmL b from rfl]
      unfold sortM at k
      dsimp only at k
      cases nb : nmL b with
      | false =>
        rw [nb, if_neg (fun h => by cases h.1)] at k
        exact iteF (iteF (k .non H3 s3 .non))
      | true =>
        rw [nb] at k
        refine iteT ⟨_, rfl, W, _, _, .str (TS c), rfl, rfl, SqL.of (s3 _ _ hW), at_of (j := 2) rfl rfl, oA, _, rfl, .inr (hO _), rfl, rfl, _, rfl, ?_⟩
        have e : inV (.str (TS c)) [.str "up", .str "down"] = decide (TS c = "up" ∨ TS c = "down") := by
          show (((PySem.Str.ofString "up") == TS c) || (((PySem.Str.ofString "down") == TS c) || false)) = _
          rw [Bool.or_false, Bool.eq_iff_iff]
          simp only [Bool.or_eq_true, beq_iff_eq, decide_eq_true_eq]
          exact or_congr eq_comm eq_comm
        rw [show (if false = true then !inV (.str (TS c)) [.str "up", .str "down"] else inV (.str (TS c)) [.str "up", .str "down"]) = inV (.str (TS c)) [.str "up", .str "down"] from rfl, e]
        by_cases hc : TS c = "up" ∨ TS c = "down"
        · rw [if_pos ⟨rfl, hc⟩] at k
          rw [decide_eq_true hc]
          exact iteT ⟨_, rfl, W, _, rfl, .inl ⟨SqL.of (s3 _ _ hW), fun p hp => k _ _ (s3.trans (Same.upd hp)) (.tup upd_same (strs_dh [a, b, c]))⟩⟩
        · rw [if_neg (fun h => hc h.2)] at k
          rw [decide_eq_false hc]
          exact iteF (k .non H3 s3 .non)
    · rw [show decide (V.int (ws.length : Int) = V.int 3) = false by rw [decide_eq_false (fun h => h3 (by injection h with h; omega))]]
      exact iteF (iteF (k .non H (Same.refl H) (by rw [nel h3]; exact .non)))
end
abbrev sFi : Stmt := top 60
abbrev nFi : List Str := ["words", "count"]
abbrev pFi : List Str := ["words"]
theorem scFi : FnScope nFi pFi (defScope sFi) := ⟨rfl, rfl, rfl, by decide +kernel, rfl, by decide +kernel, by decide +kernel⟩
section
variable {fA_ : Addr} {fdA_ : FuncData}
theorem ok_Fi (F : Fun K "read_first" "read_first" sFi f fd) (T : Bt mg) {uc : Tok} (mc : mg "MOST_COUNT" = some (.int 1000 uc))
    (GA_ : FnOk P w K mg base CX0 2 fA_ fdA_ ["word", "low", "high"] (spWn)) (mA_ : mg "whole_or_none" = some (.ref fA_)) (kA_ : PySem.W.keepIn K (.ref fA_) = true) (bA_ : Binds K fdA_ ["word", "low", "high"] []) : FnOk P w K mg base CX0 25 f fd pFi (spRd firstM) := by
  refine F.ok scFi (fun vs H Q E h => ?_) (fun cdv A outer s H vs Q E hr h => ?_)
  · obtain ⟨W, ws, rfl, _⟩ := h
    rfl
  · obtain ⟨W, ws, rfl, hW, ok, ne, k⟩ := h
    have hrA_ : Room (2) _ := hr.mono (by first | decide | omega)
    refine ⟨_, (pss_cons (ps_set (i := 1) scFi.nd rfl (Or.inl rfl) (pe_ifExp (pt_cmpR op_eq (pe_callB call_len_seq (by rfl) T.len PySem.boot_len (pa_cons (pv 0) pa_nil)) pe_int (nomark _)) (pe_call GA_ hrA_ (by rfl) mA_ kA_ bA_ .nil pass0 (pa_cons (pe_ix ix_list (pv 0) pe_int (fun _ _ => rfl)) (pa_cons pe_int (pa_cons (pe_glob (v := .int 1000) (by rfl) mc ⟨_, rfl⟩) pa_nil)))) pe_non))
      (pss_one (ps_ret (pe_ifExp (pt_cmpR op_isN (pv 1) pe_non (nomark _)) pe_non (pe_tup (pa_cons pe_str (pa_cons (pv 1) pa_nil))))))), ?_⟩
    have two : 2 ≤ sizeLine := by decide
    have one : 1 ≤ sizeLine := by decide
    have three : 3 ≤ sizeLine := by decide
    have lw := vW_len ws
    have nel : ¬ ws.length = 2 → firstM ws = .none := fun h => by
      match ws, h with
      | [], _ => rfl
      | [_], _ => rfl
      | [_, _], h => exact absurd rfl h
      | _ :: _ :: _ :: _, _ => rfl
    refine ⟨_, rfl, W, _, rfl, .inl (SqL.of hW), rfl, _, rfl, ?_⟩
    rw [lw]
    by_cases h3 : ws.length = 2
    · rw [show decide (V.int (ws.length : Int) = V.int 2) = true by rw [h3]; rfl]
      match ws, ok, hW, h3, k with
      | [a, b], ok, hW, _, k =>
      refine iteT ⟨_, rfl, W, _, _, .str (TS b), rfl, rfl, SqL.of hW, at_of (j := 1) rfl rfl, b, 0, 1000, rfl, ok.each b (by simp), fun H1 s1 => ?_⟩
      unfold firstM at k
      dsimp only at k
      refine ⟨_, rfl, rfl, _, rfl, ?_⟩
      cases e : wholeM b 0 1000 with
      | none =>
        rw [e] at k
        rw [show decide (opN none = V.non) = true from rfl]
        exact iteT (k .non H1 s1 .non)
      | some n =>
        rw [e] at k
        rw [show decide (opN (some n) = V.non) = false from rfl]
        exact iteF ⟨_, rfl, two, fun q hq => k _ _ (s1.trans (Same.upd hq)) (.tup upd_same (.cons (.str _) (.cons (.int _) .nil)))⟩
    · rw [show decide (V.int (ws.length : Int) = V.int 2) = false by rw [decide_eq_false (fun h => h3 (by injection h with h; omega))]]
      refine iteF ⟨_, rfl, rfl, _, rfl, ?_⟩
      rw [show decide (V.non = V.non) = true from rfl]
      exact iteT (k .non H (Same.refl H) (by rw [nel h3]; exact .non))
end
abbrev sSm : Stmt := top 61
abbrev nSm : List Str := ["words", "whole", "seed", "part"]
abbrev pSm : List Str := ["words"]
theorem scSm : FnScope nSm pSm (defScope sSm) := ⟨rfl, rfl, rfl, by decide +kernel, rfl, by decide +kernel, by decide +kernel⟩
section
variable {fA_ : Addr} {fdA_ : FuncData}
theorem ok_Sm (F : Fun K "read_sample" "read_sample" sSm f fd) (T : Bt mg) {uw us_ : Tok} (mw : mg "MOST_WHOLE" = some (.int 1000 uw)) (ms : mg "MOST_SEED" = some (.int 1000000000 us_))
    (GA_ : FnOk P w K mg base CX0 2 fA_ fdA_ ["word", "low", "high"] (spWn)) (mA_ : mg "whole_or_none" = some (.ref fA_)) (kA_ : PySem.W.keepIn K (.ref fA_) = true) (bA_ : Binds K fdA_ ["word", "low", "high"] []) : FnOk P w K mg base CX0 25 f fd pSm (spRd sampleM) := by
  refine F.ok scSm (fun vs H Q E h => ?_) (fun cdv A outer s H vs Q E hr h => ?_)
  · obtain ⟨W, ws, rfl, _⟩ := h
    rfl
  · obtain ⟨W, ws, rfl, hW, ok, ne, k⟩ := h
    have hrA_ : Room (2) _ := hr.mono (by first | decide | omega)
    refine ⟨_, (pss_cons (ps_if (pt_cmpR op_ne (pe_callB call_len_seq (by rfl) T.len PySem.boot_len (pa_cons (pv 0) pa_nil)) pe_int (nomark _)) (pss_one (ps_ret pe_non)) pss_nil)
      (pss_cons (ps_set (i := 1) scSm.nd rfl (Or.inl rfl) (pe_call GA_ hrA_ (by rfl) mA_ kA_ bA_ .nil pass0 (pa_cons (pe_ix ix_list (pv 0) pe_int (fun _ _ => rfl)) (pa_cons pe_int (pa_cons (pe_glob (v := .int 1000) (by rfl) mw ⟨_, rfl⟩) pa_nil)))))
      (pss_cons (ps_set (i := 2) scSm.nd rfl (Or.inl rfl) (pe_call GA_ hrA_ (by rfl) mA_ kA_ bA_ .nil pass0 (pa_cons (pe_ix ix_list (pv 0) pe_int (fun _ _ => rfl)) (pa_cons pe_int (pa_cons (pe_glob (v := .int 1000000000) (by rfl) ms ⟨_, rfl⟩) pa_nil)))))
      (pss_cons (ps_set (i := 3) scSm.nd rfl (Or.inl rfl) (pe_ifExp (pt_cmpR op_isN (pv 1) pe_non (nomark _)) pe_non (pe_call GA_ hrA_ (by rfl) mA_ kA_ bA_ .nil pass0 (pa_cons (pe_ix ix_list (pv 0) pe_int (fun _ _ => rfl)) (pa_cons pe_int (pa_cons (pv 1) pa_nil))))))
      (pss_one (ps_ret (pe_ifExp (PW.pt (pw_or (pt_cmpR op_isN (pv 3) pe_non (nomark _)) (pw_or1 (pt_cmpR op_isN (pv 2) pe_non (nomark _))))) pe_non (pe_tup (pa_cons pe_str (pa_cons (pv 3) (pa_cons (pv 1) (pa_cons (pv 2) pa_nil)))))))))))), ?_⟩
    have two : 2 ≤ sizeLine := by decide
    have one : 1 ≤ sizeLine := by decide
    have three : 3 ≤ sizeLine := by decide
    have lw := vW_len ws
    have nel : ¬ ws.length = 4 → sampleM ws = .none := fun h => by
      match ws, h with
      | [], _ => rfl
      | [_], _ => rfl
      | [_, _], _ => rfl
      | [_, _, _], _ => rfl
      | [_, _, _, _], h => exact absurd rfl h
      | _ :: _ :: _ :: _ :: _ :: _, _ => rfl
    have four : 4 ≤ sizeLine := by decide
    refine ⟨_, rfl, W, _, rfl, .inl (SqL.of hW), rfl, _, rfl, ?_⟩
    rw [lw]
    by_cases h3 : ws.length = 4
    · rw [show (!decide (V.int (ws.length : Int) = V.int 4)) = false by rw [h3]; rfl]
      match ws, ok, hW, h3, k with
      | [a, b, c, e], ok, hW, _, k =>
      refine iteF ⟨_, rfl, W, _, _, .str (TS c), rfl, rfl, SqL.of hW, at_of (j := 2) rfl rfl, c, 1, 1000, rfl, ok.each c (by simp), fun H1 s1 => ?_⟩
      refine ⟨_, rfl, W, _, _, .str (TS e), rfl, rfl, SqL.of (s1 _ _ hW), at_of (j := 3) rfl rfl, e, 0, 1000000000, rfl, ok.each e (by simp), fun H2 s2 => ?_⟩
      have s12 := s1.trans s2
      unfold sampleM at k
      dsimp only at k
      refine ⟨_, rfl, rfl, _, rfl, ?_⟩
      cases ec : wholeM c 1 1000 with
      | none =>
        rw [ec] at k
        rw [show decide (opN none = V.non) = true from rfl]
        refine iteT ⟨_, rfl, rfl, _, rfl, ?_⟩
        rw [show decide (V.non = V.non) = true from rfl]
        exact iteT (iteT (k .non H2 s12 .non))
      | some wh =>
        rw [ec] at k
        rw [show decide (opN (some wh) = V.non) = false from rfl]
        refine iteF ⟨_, rfl, W, _, _, .str (TS b), rfl, rfl, SqL.of (s12 _ _ hW), at_of (j := 1) rfl rfl, _, rfl, b, 0, wh, rfl, ok.each b (by simp), fun H3 s3 => ?_⟩
        have s := s12.trans s3
        refine ⟨_, rfl, rfl, _, rfl, ?_⟩
        cases eb : wholeM b 0 wh with
        | none =>
          rw [show decide (opN none = V.non) = true from rfl]
          refine iteT (iteT (k .non H3 s ?_))
          cases ee : wholeM e 0 1000000000 <;> simp only [eb] <;> exact .non
        | some n =>
          rw [show decide (opN (some n) = V.non) = false from rfl]
          refine iteF ⟨_, rfl, rfl, _, rfl, ?_⟩
          cases ee : wholeM e 0 1000000000 with
          | none =>
            rw [ee] at k
            rw [show decide (opN none = V.non) = true from rfl]
            exact iteT (k .non H3 s .non)
          | some se =>
            rw [ee] at k
            simp only [eb] at k
            rw [show decide (opN (some se) = V.non) = false from rfl]
            exact iteF ⟨_, rfl, _, rfl, _, rfl, four, fun q hq => k _ _ (s.trans (Same.upd hq)) (.tup upd_same (.cons (.str _) (.cons (.int _) (.cons (.int _) (.cons (.int _) .nil)))))⟩
    · rw [show (!decide (V.int (ws.length : Int) = V.int 4)) = true by rw [decide_eq_false (fun h => h3 (by injection h with h; omega))]; rfl]
      exact iteT (k .non H (Same.refl H) (by rw [nel h3]; exact .non))
end
abbrev sJo : Stmt := top 62
abbrev nJo : List Str := ["words", "names"]
abbrev pJo : List Str := ["words"]
theorem scJo : FnScope nJo pJo (defScope sJo) := ⟨rfl, rfl, rfl, by decide +kernel, rfl, by decide +kernel, by decide +kernel⟩
section
variable {fA_ fB_ : Addr} {fdA_ fdB_ : FuncData}
theorem ok_Jo (F : Fun K "read_join" "read_join" sJo f fd) (T : Bt mg) {u3 : Tok} (m3 : mg "MOST_KEYS" = some (.int 3 u3))
    (GA_ : FnOk P w K mg base CX0 1 fA_ fdA_ ["value"] (spName)) (mA_ : mg "is_name" = some (.ref fA_)) (kA_ : PySem.W.keepIn K (.ref fA_) = true) (bA_ : Binds K fdA_ ["value"] [])
    (GB_ : FnOk P w K mg base CX0 2 fB_ fdB_ ["words", "low", "high"] (spUn)) (mB_ : mg "are_unlike_names" = some (.ref fB_)) (kB_ : PySem.W.keepIn K (.ref fB_) = true) (bB_ : Binds K fdB_ ["words", "low", "high"] []) : FnOk P w K mg base CX0 25 f fd pJo (spRd joinM) := by
  refine F.ok scJo (fun vs H Q E h => ?_) (fun cdv A outer s H vs Q E hr h => ?_)
  · obtain ⟨W, ws, rfl, _⟩ := h
    rfl
  · obtain ⟨W, ws, rfl, hW, ok, ne, k⟩ := h
    have hrA_ : Room (1) _ := hr.mono (by first | decide | omega)
    have hrB_ : Room (2) _ := hr.mono (by first | decide | omega)
    refine ⟨_, (pss_cons (ps_if (PW.pt (pw_or (pt_cmpR op_lt (pe_callB call_len_seq (by rfl) T.len PySem.boot_len (pa_cons (pv 0) pa_nil)) pe_int (nomark _)) (pw_or (pt_not (pt_val (pe_call GA_ hrA_ (by rfl) mA_ kA_ bA_ .nil pass0 (pa_cons (pe_ix ix_list (pv 0) pe_int (fun _ _ => rfl)) pa_nil)))) (pw_or1 (pt_cmpR op_ne (pe_ix ix_list (pv 0) pe_int (fun _ _ => rfl)) pe_str (nomark _)))))) (pss_one (ps_ret pe_non)) pss_nil)
      (pss_cons (ps_set (i := 1) scJo.nd rfl (Or.inl rfl) (pe_slice sl_list (pv 0) (po_some pe_int) po_none))
      (pss_one (ps_ret (pe_ifExp (pt_val (pe_call GB_ hrB_ (by rfl) mB_ kB_ bB_ .nil pass0 (pa_cons (pv 1) (pa_cons pe_int (pa_cons (pe_glob (v := .int 3) (by rfl) m3 ⟨_, rfl⟩) pa_nil))))) (pe_tup (pa_cons pe_str (pa_cons (pe_ix ix_list (pv 0) pe_int (fun _ _ => rfl)) (pa_cons (pe_callTy call_tuple_of (by rfl) T.tuple boot_tuple (pa_cons (pv 1) pa_nil)) pa_nil)))) pe_non))))), ?_⟩
    have two : 2 ≤ sizeLine := by decide
    have one : 1 ≤ sizeLine := by decide
    have three : 3 ≤ sizeLine := by decide
    have lw := vW_len ws
    refine ⟨_, rfl, W, _, rfl, .inl (SqL.of hW), _, _, rfl, rfl, _, rfl, ?_⟩
    rw [lw]
    match ws, ok, hW, lw, ne, k with
    | [a], ok, hW, lw, ne, k => exact iteT (iteT (k .non H (Same.refl H) .non))
    | [a, b], ok, hW, lw, ne, k => exact iteT (iteT (k .non H (Same.refl H) .non))
    | a :: b :: c :: r, ok, hW, lw, ne, k =>
      rw [decide_eq_false (show ¬ (((a :: b :: c :: r).length : Nat) : Int) < 3 by simp only [List.length_cons]; omega)]
      refine iteF ⟨_, rfl, W, _, _, .str (TS b), rfl, rfl, SqL.of hW, at_of (j := 1) rfl rfl, .str (TS b), "str", rfl, .str _, fun x e => by cases e; exact (ok.each b (by simp)).line, fun H3 s3 => ⟨_, rfl, ?_⟩⟩
      rw [show nameB (.str (TS b)) = nmL b from rfl]
      unfold joinM at k
      dsimp only at k
      cases nb : nmL b with
      | false =>
        rw [nb, if_neg (fun h => by cases h.1)] at k
        exact iteT (iteT (k .non H3 s3 .non))
      | true =>
        rw [nb] at k
        refine iteF ⟨_, rfl, W, _, _, .str (TS c), rfl, rfl, SqL.of (s3 _ _ hW), at_of (j := 2) rfl rfl, rfl, _, rfl, ?_⟩
        by_cases hc : TS c = "on"
        · rw [if_pos ⟨rfl, hc⟩] at k
          rw [show (!decide (V.str (TS c) = V.str "on")) = false by rw [hc]; rfl]
          refine iteF ⟨_, rfl, 3, rfl, W, _, rfl, SqL.of (s3 _ _ hW), fun R hR => ?_⟩
          rw [show cutV (vW (a :: b :: c :: r)) (some 3) none = vW r from cutW (a :: b :: c :: r) 3]
          have zR := Same.upd (o := .lst (vW r)) hR
          refine ⟨_, rfl, R, r, 1, 3, rfl, upd_same, ok.drop 3, fun H4 s4 => ⟨_, rfl, ?_⟩⟩
          have s := s3.trans (zR.trans s4)
          cases z : namesM r 1 3 with
          | false =>
            rw [z] at k
            exact iteF (k .non H4 s .non)
          | true =>
            rw [z] at k
            refine iteT ⟨_, rfl, W, _, _, .str (TS b), rfl, rfl, SqL.of (s _ _ hW), at_of (j := 1) rfl rfl, _, rfl, R, _, rfl, .inl ⟨SqL.of (s4 _ _ upd_same), fun p hp => ⟨three, fun q hq => ?_⟩⟩⟩
            have z1 := Same.upd (o := .tup (vW r)) hp
            have z2 := Same.upd (o := .tup [.str "join", .str (TS b), .ref p]) hq
            exact k _ _ (s.trans (z1.trans z2)) (.tup upd_same (.cons (.str _) (.cons (.str _) (.cons (.tup (z2 _ _ upd_same) (strs_dh r)) .nil))))
        · rw [if_neg (fun h => hc h.2)] at k
          rw [show (!decide (V.str (TS c) = V.str "on")) = true by rw [decide_eq_false (fun h => hc (by injection h))]; rfl]
          exact iteT (k .non H3 s3 .non)
end
abbrev sUo : Stmt := top 63
abbrev nUo : List Str := ["words"]
abbrev pUo : List Str := ["words"]
theorem scUo : FnScope nUo pUo (defScope sUo) := ⟨rfl, rfl, rfl, by decide +kernel, rfl, by decide +kernel, by decide +kernel⟩
section
variable {fA_ : Addr} {fdA_ : FuncData}
theorem ok_Uo (F : Fun K "read_union" "read_union" sUo f fd) (T : Bt mg)
    (GA_ : FnOk P w K mg base CX0 1 fA_ fdA_ ["value"] (spName)) (mA_ : mg "is_name" = some (.ref fA_)) (kA_ : PySem.W.keepIn K (.ref fA_) = true) (bA_ : Binds K fdA_ ["value"] []) : FnOk P w K mg base CX0 25 f fd pUo (spRd unionM) := by
  refine F.ok scUo (fun vs H Q E h => ?_) (fun cdv A outer s H vs Q E hr h => ?_)
  · obtain ⟨W, ws, rfl, _⟩ := h
    rfl
  · obtain ⟨W, ws, rfl, hW, ok, ne, k⟩ := h
    have hrA_ : Room (1) _ := hr.mono (by first | decide | omega)
    refine ⟨_, (pss_one (ps_ret (pe_ifExp (PW.pt (pw_and (pt_cmpR op_eq (pe_callB call_len_seq (by rfl) T.len PySem.boot_len (pa_cons (pv 0) pa_nil)) pe_int (nomark _)) (pw_and1 (pt_val (pe_call GA_ hrA_ (by rfl) mA_ kA_ bA_ .nil pass0 (pa_cons (pe_ix ix_list (pv 0) pe_int (fun _ _ => rfl)) pa_nil)))))) (pe_callTy call_tuple_of (by rfl) T.tuple boot_tuple (pa_cons (pv 0) pa_nil)) pe_non))), ?_⟩
    have two : 2 ≤ sizeLine := by decide
    have one : 1 ≤ sizeLine := by decide
    have three : 3 ≤ sizeLine := by decide
    have lw := vW_len ws
    have nel : ¬ ws.length = 2 → unionM ws = .none := fun h => by
      match ws, h with
      | [], _ => rfl
      | [_], _ => rfl
      | [_, _], h => exact absurd rfl h
      | _ :: _ :: _ :: _, _ => rfl
    refine ⟨_, rfl, W, _, rfl, .inl (SqL.of hW), rfl, _, rfl, ?_⟩
    rw [lw]
    by_cases h3 : ws.length = 2
    · rw [show decide (V.int (ws.length : Int) = V.int 2) = true by rw [h3]; rfl]
      match ws, ok, hW, h3, k with
      | [a, b], ok, hW, _, k =>
      refine iteT ⟨_, rfl, W, _, _, .str (TS b), rfl, rfl, SqL.of hW, at_of (j := 1) rfl rfl, .str (TS b), "str", rfl, .str _, fun x e => by cases e; exact (ok.each b (by simp)).line, fun H3 s3 => ⟨_, rfl, ?_⟩⟩
      rw [show nameB (.str (TS b)) = nmL b from rfl]
      unfold unionM at k
      dsimp only at k
      cases nb : nmL b with
      | false =>
        rw [nb] at k
        exact iteF (k .non H3 s3 .non)
      | true =>
        rw [nb] at k
        exact iteT ⟨_, rfl, W, _, rfl, .inl ⟨SqL.of (s3 _ _ hW), fun p hp => k _ _ (s3.trans (Same.upd hp)) (.tup upd_same (strs_dh [a, b]))⟩⟩
    · rw [show decide (V.int (ws.length : Int) = V.int 2) = false by rw [decide_eq_false (fun h => h3 (by injection h with h; omega))]]
      exact iteF (iteF (k .non H (Same.refl H) (by rw [nel h3]; exact .non)))
end
abbrev sDi : Stmt := top 64
abbrev nDi : List Str := ["words"]
abbrev pDi : List Str := ["words"]
theorem scDi : FnScope nDi pDi (defScope sDi) := ⟨rfl, rfl, rfl, by decide +kernel, rfl, by decide +kernel, by decide +kernel⟩
section
theorem ok_Di (F : Fun K "read_distinct" "read_distinct" sDi f fd) (T : Bt mg) : FnOk P w K mg base CX0 25 f fd pDi (spRd distinctM) := by
  refine F.ok scDi (fun vs H Q E h => ?_) (fun cdv A outer s H vs Q E hr h => ?_)
  · obtain ⟨W, ws, rfl, _⟩ := h
    rfl
  · obtain ⟨W, ws, rfl, hW, ok, ne, k⟩ := h
    refine ⟨_, (pss_one (ps_ret (pe_ifExp (pt_cmpR op_eq (pe_callB call_len_seq (by rfl) T.len PySem.boot_len (pa_cons (pv 0) pa_nil)) pe_int (nomark _)) (pe_callTy call_tuple_of (by rfl) T.tuple boot_tuple (pa_cons (pv 0) pa_nil)) pe_non))), ?_⟩
    have two : 2 ≤ sizeLine := by decide
    have one : 1 ≤ sizeLine := by decide
    have three : 3 ≤ sizeLine := by decide
    have lw := vW_len ws
    have nel : ¬ ws.length = 1 → distinctM ws = .none := fun h => by
      match ws, h with
      | [], _ => rfl
      | [_], h => exact absurd rfl h
      | _ :: _ :: _, _ => rfl
    refine ⟨_, rfl, W, _, rfl, .inl (SqL.of hW), rfl, _, rfl, ?_⟩
    rw [lw]
    by_cases h3 : ws.length = 1
    · rw [show decide (V.int (ws.length : Int) = V.int 1) = true by rw [h3]; rfl]
      match ws, ok, hW, h3, k with
      | [a], ok, hW, _, k => exact iteT ⟨_, rfl, W, _, rfl, .inl ⟨SqL.of hW, fun p hp => k _ _ (Same.upd hp) (.tup upd_same (strs_dh [a]))⟩⟩
    · rw [show decide (V.int (ws.length : Int) = V.int 1) = false by rw [decide_eq_false (fun h => h3 (by injection h with h; omega))]]
      exact iteF (k .non H (Same.refl H) (by rw [nel h3]; exact .non))
end
end
end K78
set_option Elab.async false
set_option linter.all false
set_option maxRecDepth 100000
set_option maxHeartbeats 4000000
namespace K78
open PySem PySem.Spec PyProof.Rows L2 Lc
/-! ## totals of a group -/
theorem jn_spl {c : Nat} : ∀ l, jn c (spl c l) = l
  | [] => rfl
  | a :: l => by
    have ih := jn_spl (c := c) l
    rw [spl]
    split
    · rename_i h
      rw [jn_cons (spl_ne l), ih, h]
      rfl
    · cases e : spl c l with
      | nil => exact absurd e (spl_ne l)
      | cons w ws =>
        rw [e] at ih
        show jn c ((a :: w) :: ws) = a :: l
        cases ws with
        | nil =>
          show a :: w = a :: l
          have ih : w = l := ih
          rw [ih]
        | cons u us =>
          rw [jn_cons (List.cons_ne_nil _ _)] at ih ⊢
          rw [List.cons_append, ih]
def LineOk (l : LN) : Prop := Tx l ∧ l.length ≤ 1500 ∧ l.count 32 ≤ 190
theorem spl_count {c : Nat} : ∀ (l : List Nat), (spl c l).length = l.count c + 1
  | [] => rfl
  | a :: l => by
    have ih := spl_count (c := c) l
    rw [spl]
    by_cases h : a = c
    · rw [if_pos h, List.length_cons, ih, h, List.count_cons_self]
    · rw [if_neg h, List.count_cons_of_ne h]
      cases e : spl c l with
      | nil => exact absurd e (spl_ne l)
      | cons v vs =>
        rw [e] at ih
        exact ih
theorem LineOk.ws {l : LN} (h : LineOk l) (p : LN) : WsOk (spl 32 (cutp p l)) := by
  have s := cutp_sub p l
  refine ⟨?_, by rw [jn_spl]; exact h.1.sub s⟩
  rw [spl_count]
  have := s.count_le 32
  have := h.2.2
  omega
theorem words_TS (line ah : LN) : Txt.split (Txt.removeprefix (TS line) (TS ah)) (PySem.Str.ofString " ") = (spl 32 (cutp ah line)).map TS := by
  have bl : (PySem.Str.ofString " ") = ⟨#[32]⟩ := by decide +kernel
  rw [prefix_TS, cl_ts, bl, split_TS]
abbrev fnsV : List V := [.str "count", .str "sum", .str "mean", .str "median", .str "least", .str "greatest"]
def fnL (f : LN) : Bool := inV (.str (TS f)) fnsV
def totW : List LN → Option (LN × LN × LN)
  | [w, n, g, c] => if TS w = "total" ∧ nmL n = true ∧ fnL g = true ∧ nmL c = true then some (n, g, c) else none
  | _ => none
def totalT (ah line : LN) : Option (LN × LN × LN) := if stw ah line = true then totW (spl 32 (cutp ah line)) else none
def totD : Option (LN × LN × LN) → PyData
  | some (n, g, c) => .tuple [strD n, strD g, strD c]
  | none => .none
def spTt : Sp := fun vs H Q _ => ∃ (line ah : LN), vs = [.str (TS line), .str (TS ah)] ∧ LineOk line ∧ ∀ v H', Same H H' → Dh H' v (totD (totalT ah line)) → Q v H'
section
variable {P : Program} {w : World} {K : PySem.W.Frag} {mg : Str → Option Value} {base : Heap} {f : Addr} {fd : FuncData}
abbrev sTt : Stmt := top 66
abbrev nTt : List Str := ["line", "ahead", "words", "word", "name", "function", "column"]
abbrev pTt : List Str := ["line", "ahead"]
theorem scTt : FnScope nTt pTt (defScope sTt) := ⟨rfl, rfl, rfl, by decide +kernel, rfl, by decide +kernel, by decide +kernel⟩
section
variable {fA_ : Addr} {fdA_ : FuncData}
theorem ok_Tt (F : Fun K "read_total" "read_total" sTt f fd) (T : Bt mg) {fA : Addr} (mF : mg "FUNCTIONS" = some (.ref fA)) (hF : ∀ H, SqT K H fA fnsV)
    (GA_ : FnOk P w K mg base CX0 1 fA_ fdA_ ["value"] (spName)) (mA_ : mg "is_name" = some (.ref fA_)) (kA_ : PySem.W.keepIn K (.ref fA_) = true) (bA_ : Binds K fdA_ ["value"] []) : FnOk P w K mg base CX0 3 f fd pTt (spTt) := by
  refine F.ok scTt (fun vs H Q E h => ?_) (fun cdv A outer s H vs Q E hr h => ?_)
  · obtain ⟨line, ah, rfl, _⟩ := h
    rfl
  · obtain ⟨line, ah, rfl, lo, k⟩ := h
    have hrA_ : Room (1) _ := hr.mono (by first | decide | omega)
    refine ⟨_, (pss_cons (ps_set (i := 2) scTt.nd rfl (Or.inl rfl) (pe_m1 PySem.F.slot_str_split PySem.F.type_str_split mt_split (pe_m1 PySem.F.slot_str_removeprefix PySem.F.type_str_removeprefix mt_removeprefix (pv 0) (pv 1)) pe_str))
      (pss_cons (ps_if (PW.pt (pw_or (pt_not (pt_val (pe_m1 PySem.F.slot_str_startswith PySem.F.type_str_startswith mt_startswith (pv 0) (pv 1)))) (pw_or (pt_cmpR op_ne (pe_callB call_len_seq (by rfl) T.len PySem.boot_len (pa_cons (pv 2) pa_nil)) pe_int (nomark _)) (pw_or1 (pt_cmpR op_ne (pe_ix ix_list (pv 2) pe_int (fun _ _ => rfl)) pe_str (nomark _)))))) (pss_one (ps_ret pe_non)) pss_nil)
      (pss_cons (ps_asg (pv 2) (pg_lst rfl (pgs_cons (pg_name (i := 3) scTt.nd rfl (.inl rfl)) (pgs_cons (pg_name (i := 4) scTt.nd rfl (.inl rfl)) (pgs_cons (pg_name (i := 5) scTt.nd rfl (.inl rfl)) (pgs_cons (pg_name (i := 6) scTt.nd rfl (.inl rfl)) pgs_nil))))))
      (pss_one (ps_ret (pe_ifExp (PW.pt (pw_and (pt_val (pe_call GA_ hrA_ (by rfl) mA_ kA_ bA_ .nil pass0 (pa_cons (pv 4) pa_nil))) (pw_and (pt_cmpR op_in_seq (pv 5) (pe_glob (v := .ref fA) (by rfl) mF rfl) (by rfl)) (pw_and1 (pt_val (pe_call GA_ hrA_ (by rfl) mA_ kA_ bA_ .nil pass0 (pa_cons (pv 6) pa_nil))))))) (pe_tup (pa_cons (pv 4) (pa_cons (pv 5) (pa_cons (pv 6) pa_nil)))) pe_non)))))), ?_⟩
    have two : 2 ≤ sizeLine := by decide
    have one : 1 ≤ sizeLine := by decide
    have three : 3 ≤ sizeLine := by decide
    have ok := lo.ws ah
    have bl : ((PySem.Str.ofString " ").length == 0) = false := by decide +kernel
    have ll : (Txt.removeprefix (TS line) (TS ah)).length + 2 ≤ sizeLine := by
      rw [prefix_TS, ts_len]
      have := (cutp_sub (CL (TS ah)) line).length_le
      have := lo.2
      exact Nat.le_trans (show _ ≤ 2000 by omega) (by decide)
    unfold totalT at k
    refine ⟨_, rfl, ⟨_, rfl⟩, _, rfl, _, _, rfl, rfl, lo.1.line, ⟨_, rfl⟩, _, _, rfl, rfl, bl, ll, fun W hW => ?_⟩
    rw [words_TS]
    generalize spl 32 (cutp ah line) = ws at ok k ⊢
    have zW := Same.upd (o := .lst (vW ws)) hW
    have eW : upd H W (.lst (vW ws)) W = some (.lst (vW ws)) := upd_same
    generalize upd H W (.lst (vW ws)) = H1 at zW eW ⊢
    refine ⟨_, rfl, ⟨_, rfl⟩, _, rfl, _, _, rfl, rfl, _, rfl, ?_⟩
    rw [starts_TS, cl_ts]
    cases sw : stw ah line with
    | false =>
      rw [sw] at k
      exact iteT (iteT (k .non H1 zW .non))
    | true =>
    rw [sw] at k
    have k : ∀ v H', Same H H' → Dh H' v (totD (totW ws)) → Q v H' := k
    have lw := vW_len ws
    refine iteF ⟨_, rfl, W, _, rfl, .inl (SqL.of eW), rfl, _, rfl, ?_⟩
    rw [lw]
    by_cases h4 : ws.length = 4
    · rw [show (!decide (V.int (ws.length : Int) = V.int 4)) = false by rw [h4]; rfl]
      match ws, ok, eW, zW, h4, k with
      | [w, n, g, c], ok, eW, zW, _, k =>
      unfold totW at k
      dsimp only at k
      refine iteF ⟨_, rfl, W, _, _, .str (TS w), rfl, rfl, SqL.of eW, at_of (j := 0) rfl rfl, rfl, _, rfl, ?_⟩
      by_cases hw : TS w = "total"
      · rw [show (!decide (V.str (TS w) = V.str "total")) = false by rw [hw]; rfl]
        refine iteF ⟨_, rfl, W, _, rfl, SqL.of eW, rfl, _, _, rfl, _, _, rfl, _, _, rfl, _, _, rfl, rfl, ?_⟩
        dsimp only [gNil]
        refine ⟨_, rfl, .str (TS n), "str", rfl, .str _, fun x e => by cases e; exact (ok.each n (by simp)).line, fun H3 s3 => ⟨_, rfl, ?_⟩⟩
        rw [show nameB (.str (TS n)) = nmL n from rfl]
        cases nn : nmL n with
        | false =>
          rw [nn, if_neg (fun h => by cases h.2.1)] at k
          exact iteF (iteF (k .non H3 (zW.trans s3) .non))
        | true =>
        rw [nn] at k
        refine iteT ⟨_, rfl, fA, _, rfl, .inr (hF _), rfl, rfl, _, rfl, ?_⟩
        rw [show (if false = true then !inV (.str (TS g)) fnsV else inV (.str (TS g)) fnsV) = fnL g from rfl]
        cases ng : fnL g with
        | false =>
          rw [ng, if_neg (fun h => by cases h.2.2.1)] at k
          exact iteF (iteF (k .non H3 (zW.trans s3) .non))
        | true =>
        rw [ng] at k
        refine iteT ⟨_, rfl, .str (TS c), "str", rfl, .str _, fun x e => by cases e; exact (ok.each c (by simp)).line, fun H4 s4 => ⟨_, rfl, ?_⟩⟩
        rw [show nameB (.str (TS c)) = nmL c from rfl]
        have s := (zW.trans s3).trans s4
        cases nc : nmL c with
        | false =>
          rw [nc, if_neg (fun h => by cases h.2.2.2)] at k
          exact iteF (k .non H4 s .non)
        | true =>
          rw [nc, if_pos ⟨hw, rfl, rfl, rfl⟩] at k
          exact iteT ⟨_, rfl, _, rfl, _, rfl, three, fun q hq => k _ _ (s.trans (Same.upd hq)) (.tup upd_same (.cons (.str _) (.cons (.str _) (.cons (.str _) .nil))))⟩
      · rw [show (!decide (V.str (TS w) = V.str "total")) = true by rw [decide_eq_false (fun h => hw (by injection h))]; rfl]
        rw [if_neg (fun h => hw h.1)] at k
        exact iteT (k .non H1 zW .non)
    · rw [show (!decide (V.int (ws.length : Int) = V.int 4)) = true by rw [decide_eq_false (fun h => h4 (by injection h with h; omega))]; rfl]
      refine iteT (iteT (k .non H1 zW ?_))
      match ws, h4 with
      | [], _ => exact .non
      | [_], _ => exact .non
      | [_, _], _ => exact .non
      | [_, _, _], _ => exact .non
      | [_, _, _, _], h => exact absurd rfl h
      | _ :: _ :: _ :: _ :: _ :: _, _ => exact .non
end
end
end K78
set_option Elab.async false
set_option linter.all false
set_option maxRecDepth 100000
set_option maxHeartbeats 4000000
namespace K78
open PySem PySem.Spec PyProof.Rows L2 Lc
/-! ## groups -/
inductive Out (α : Type) where
  | ok (d : α) (n : Nat)
  | err (n : Nat)
abbrev T3 : Type := LN × LN × LN
def t3D (t : T3) : PyData := .tuple [strD t.1, strD t.2.1, strD t.2.2]
def totsM (ah : LN) : List LN → List LN → Nat → List T3
  | [], _, _ => []
  | l :: r, tk, n => if n < 6 ∧ tk.length < 8 then (match totalT ah l with
    | none => []
    | some t => if inV (.str (TS t.1)) (vW tk) = true then [] else t :: totsM ah r (tk ++ [t.1]) (n + 1)) else []
def groupD (ns : List LN) (ts : List T3) : PyData := .tuple [.str "group", strsD ns, .tuple (ts.map t3D)]
def groupN (ah : LN) (ns r : List LN) : Out PyData := if namesM ns 0 3 = true then (if (totsM (ah ++ [32, 32]) r ns 0).length = 0 then .err 1 else .ok (groupD ns (totsM (ah ++ [32, 32]) r ns 0)) (1 + (totsM (ah ++ [32, 32]) r ns 0).length)) else .err 0
def groupM (ah l : LN) (r : List LN) : Out PyData := groupN ah ((spl 32 (cutp ah l)).drop 1) r
/-- what a reader of lines that may refuse does: the step and the place behind it, or the place of the error -/
def OutQ (C : Addr) (i : Nat) (o : Out PyData) (H : Hp) (Q : VK) (E : XK) : Prop := match o with
  | .ok d n => ∀ (p : Addr) (x : V) (H' : Hp), Same H H' → H' p = some (.tup [x, .int ((i + n : Nat) : Int)]) → Dh H' x d → Q (.ref p) H'
  | .err n => ∀ H', Same H H' → TellsF C "position" H' (.int ((i + n : Nat) : Int)) E
theorem OutQ.same {C : Addr} {i : Nat} {o : Out PyData} {H H' : Hp} {Q : VK} {E : XK} (h : OutQ C i o H Q E) (s : Same H H') : OutQ C i o H' Q E := by
  cases o with
  | ok d n => exact fun p x H2 s2 => h p x H2 (s.trans s2)
  | err n => exact fun H2 s2 => h H2 (s.trans s2)
theorem same_none {H H' : Hp} (s : Same H H') {a : Addr} (h : H' a = none) : H a = none := by
  cases q : H a with
  | none => rfl
  | some o => rw [s _ _ q] at h; cases h
structure LsOk (ls : List LN) : Prop where
  each : ∀ l ∈ ls, LineOk l
  len : ls.length ≤ 100
def spGr (C : Addr) : Sp := fun vs H Q E => ∃ (L : Addr) (ls : List LN) (i : Nat) (ah l : LN) (r : List LN), vs = [.ref L, .int (i : Int), .str (TS ah)] ∧ H L = some (.lst (vW ls)) ∧ LsOk ls ∧ ls.drop i = l :: r ∧ ah.length ≤ 10 ∧ OutQ C i (groupM ah l r) H Q E
theorem drop_get {ls : List LN} {i : Nat} {l : LN} {r : List LN} (h : ls.drop i = l :: r) : ls[i]? = some l ∧ i < ls.length ∧ ls.drop (i + 1) = r := by
  have e : ls[i]? = some l := by
    have := congrArg (fun x : List LN => x[0]?) h
    rw [List.getElem?_drop] at this
    exact this
  have li := (List.getElem?_eq_some_iff.mp e).1
  refine ⟨e, li, ?_⟩
  have := List.drop_eq_getElem_cons li
  rw [h] at this
  injection this with _ h2
  exact h2.symm
theorem vW_get {ls : List LN} {i : Nat} {l : LN} (h : ls[i]? = some l) : (vW ls)[i]? = some (.str (TS l)) := by rw [List.getElem?_map, List.getElem?_map, h]; rfl
theorem noL_strs (ws : List LN) : noL (strsD ws) = true := by
  unfold strsD
  rw [noL]
  refine noLs_all.mpr fun d hd => ?_
  obtain ⟨w, _, rfl⟩ := List.mem_map.mp hd
  rfl
theorem noL_t3 (t : T3) : noL (t3D t) = true := rfl
theorem vW_all (ws : List LN) : (vW ws).all flatV = true := by
  rw [List.all_eq_true]
  intro x hx
  obtain ⟨y, hy, rfl⟩ := List.mem_map.mp hx
  rfl
/-- a while loop that is left at one place or another: all of them are B -/
theorem tw_of {c : TT} {tb : L2.TS} {D : Ends} {σ : L2.St} {H : Hp} (W : Nat → L2.St → Hp → Prop) (B : L2.St → Hp → Prop) (h0 : ∃ m, W m σ H) (hB : ∀ σ H, B σ H → D.nx σ H)
    (turn : ∀ nx : L2.St → Hp → Prop, (∀ σ H, B σ H → nx σ H) → ∀ m σ H, W m σ H → c σ H fun b H1 => if b = true then ∃ N : L2.St → Hp → Prop, (∀ σ' H', N σ' H' → ∃ m', m' < m ∧ W m' σ' H') ∧ tb { D with nx := N, ct := N, bk := nx } σ H1 else nx σ H1) : tWhile c tb D σ H :=
  ⟨W, h0, turn D.nx hB⟩
section
variable {P : Program} {w : World} {K : PySem.W.Frag} {mg : Str → Option Value} {base : Heap} {f C fI : Addr} {fd fdI : FuncData}
abbrev sGr : Stmt := top 67
abbrev nGr : List Str := ["lines", "at", "ahead", "names", "taken", "totals", "behind", "found"]
abbrev pGr : List Str := ["lines", "at", "ahead"]
theorem scGr : FnScope nGr pGr (defScope sGr) := ⟨rfl, rfl, rfl, by decide +kernel, rfl, by decide +kernel, by decide +kernel⟩
section
variable {fA_ fB_ : Addr} {fdA_ fdB_ : FuncData}
theorem ok_Gr (F : Fun K "read_group" "read_group" sGr f fd) (T : Bt mg) {u3 u6 u8 uT : Tok} (m3 : mg "MOST_KEYS" = some (.int 3 u3)) (m6 : mg "MOST_TOTALS" = some (.int 6 u6)) (m8 : mg "MOST_COLUMNS" = some (.int 8 u8)) (mT : mg "TOTAL_BLANKS" = some (.str ⟨#[32, 32]⟩ uT)) (Z : ErF K mg "BadText" "position" C fI) (GI : FnOk P w K mg base CX0 1 fI fdI ["self", "position"] (spIni C "position")) (bI : Binds K fdI ["self", "position"] [])
    (GA_ : FnOk P w K mg base CX0 2 fA_ fdA_ ["words", "low", "high"] (spUn)) (mA_ : mg "are_unlike_names" = some (.ref fA_)) (kA_ : PySem.W.keepIn K (.ref fA_) = true) (bA_ : Binds K fdA_ ["words", "low", "high"] [])
    (GB_ : FnOk P w K mg base CX0 3 fB_ fdB_ ["line", "ahead"] (spTt)) (mB_ : mg "read_total" = some (.ref fB_)) (kB_ : PySem.W.keepIn K (.ref fB_) = true) (bB_ : Binds K fdB_ ["line", "ahead"] []) : FnOk P w K mg base (L2.CX P w) 4 f fd pGr (spGr C) := by
  refine F.okX scGr (fun vs H Q E h => ?_) (fun cdv A outer s H vs Q E hr h => ?_)
  · obtain ⟨L, ls, i, ah, l, r, rfl, _⟩ := h
    rfl
  · obtain ⟨L, ls, i, ah, l, r, rfl, hL, ok, hd, la, k⟩ := h
    have hrA_ : Room (2) _ := hr.mono (by first | decide | omega)
    have hrB_ : Room (3) _ := hr.mono (by first | decide | omega)
    have hrI : Room 2 _ := hr.mono (by first | decide | omega)
    refine ⟨_, (pss_cons (ps_set (i := 3) scGr.nd rfl (Or.inl rfl) (pe_slice sl_list (pe_m1 PySem.F.slot_str_split PySem.F.type_str_split mt_split (pe_m1 PySem.F.slot_str_removeprefix PySem.F.type_str_removeprefix mt_removeprefix (pe_ix ix_list (pv 0) (pv 1) (fun _ _ => rfl)) (pv 2)) pe_str) (po_some pe_int) po_none))
      (pss_cons (ps_if (pt_not (pt_val (pe_call GA_ hrA_ (by rfl) mA_ kA_ bA_ .nil pass0 (pa_cons (pv 3) (pa_cons pe_int (pa_cons (pe_glob (v := .int 3) (by rfl) m3 ⟨_, rfl⟩) pa_nil)))))) (pss_one (ps_raise (W := fun cls d _ H => E cls d H) rfl (takes_of rfl rfl rfl rfl) (pmk_oex Z.oex Z.iC Z.tI GI hrI bI .nil pass0 (by rfl) Z.gC (pa_cons (pv 1) pa_nil)))) pss_nil)
      (pss_cons (ps_set (i := 4) scGr.nd rfl (Or.inl rfl) (pe_callTy call_list_of (by rfl) T.list boot_list (pa_cons (pv 3) pa_nil)))
      (pss_cons (ps_set (i := 5) scGr.nd rfl (Or.inl rfl) (pe_lst pa_nil))
      (pss_cons (ps_set (i := 6) scGr.nd rfl (Or.inl rfl) (pe_op op_add (pv 1) pe_int))
      (pss_cons (ps_while (passes_of rfl) (PW.pt (pw_and (pt_cmpR op_lt (pv 6) (pe_callB call_len_seq (by rfl) T.len PySem.boot_len (pa_cons (pv 0) pa_nil)) (nomark _)) (pw_and (pt_cmpR op_lt (pe_callB call_len_seq (by rfl) T.len PySem.boot_len (pa_cons (pv 5) pa_nil)) (pe_glob (v := .int 6) (by rfl) m6 ⟨_, rfl⟩) (nomark _)) (pw_and1 (pt_cmpR op_lt (pe_callB call_len_seq (by rfl) T.len PySem.boot_len (pa_cons (pv 4) pa_nil)) (pe_glob (v := .int 8) (by rfl) m8 ⟨_, rfl⟩) (nomark _)))))) (pss_cons (ps_set (i := 7) scGr.nd rfl (Or.inl rfl) (pe_call GB_ hrB_ (by rfl) mB_ kB_ bB_ .nil pass0 (pa_cons (pe_ix ix_list (pv 0) (pv 6) (fun _ _ => rfl)) (pa_cons (pe_op op_add_str (pv 2) (pe_glob (v := .str ⟨#[32, 32]⟩) (by rfl) mT ⟨_, rfl⟩)) pa_nil))))
      (pss_cons (ps_if (PW.pt (pw_or (pt_cmpR op_isN (pv 7) pe_non (nomark _)) (pw_or1 (pt_cmpR op_in_seq (pe_ix ix_tup (pv 7) pe_int (fun _ _ => rfl)) (pv 4) (by rfl))))) (pss_one ps_break) pss_nil)
      (pss_cons (ps_expr (pe_bm PySem.F.plainAttrs_list PySem.F.slot_list_append PySem.F.type_list_append mt_append (pv 5) (pa_cons (pv 7) pa_nil)))
      (pss_cons (ps_expr (pe_bm PySem.F.plainAttrs_list PySem.F.slot_list_append PySem.F.type_list_append mt_append (pv 4) (pa_cons (pe_ix ix_tup (pv 7) pe_int (fun _ _ => rfl)) pa_nil)))
      (pss_one (ps_aug (i := 6) scGr.nd rfl (Or.inl rfl) pe_int ip_add (.inr rfl))))))))
      (pss_cons (ps_if (pt_cmpR op_eq (pe_callB call_len_seq (by rfl) T.len PySem.boot_len (pa_cons (pv 5) pa_nil)) pe_int (nomark _)) (pss_one (ps_raise (W := fun cls d _ H => E cls d H) rfl (takes_of rfl rfl rfl rfl) (pmk_oex Z.oex Z.iC Z.tI GI hrI bI .nil pass0 (by rfl) Z.gC (pa_cons (pv 6) pa_nil)))) pss_nil)
      (pss_one (ps_ret (pe_tup (pa_cons (pe_tup (pa_cons pe_str (pa_cons (pe_callTy call_tuple_of (by rfl) T.tuple boot_tuple (pa_cons (pv 3) pa_nil)) (pa_cons (pe_callTy call_tuple_of (by rfl) T.tuple boot_tuple (pa_cons (pv 5) pa_nil)) pa_nil)))) (pa_cons (pv 6) pa_nil)))))))))))), ?_⟩
    have two : 2 ≤ sizeLine := by decide
    have one : 1 ≤ sizeLine := by decide
    have three : 3 ≤ sizeLine := by decide
    obtain ⟨el, li, dn⟩ := drop_get hd
    have gl := vW_get el
    have lk := ok.each l (List.mem_of_getElem? el)
    have wk := lk.ws ah
    have bl : ((PySem.Str.ofString " ").length == 0) = false := by decide +kernel
    have ll : (Txt.removeprefix (TS l) (TS ah)).length + 2 ≤ sizeLine := by
      rw [prefix_TS, ts_len]
      have := (cutp_sub (CL (TS ah)) l).length_le
      have := lk.2
      exact Nat.le_trans (show _ ≤ 2000 by omega) (by decide)
    unfold groupM at k
    refine ⟨_, rfl, _, rfl, L, _, _, .str (TS l), rfl, rfl, SqL.of hL, at_of (j := i) rfl gl, ⟨_, rfl⟩, _, rfl, _, _, rfl, rfl, lk.1.line, ⟨_, rfl⟩, _, _, rfl, rfl, bl, ll, fun W hW => ?_⟩
    rw [words_TS]
    generalize spl 32 (cutp ah l) = ws at wk k ⊢
    have zW := Same.upd (o := .lst (vW ws)) hW
    have eW : upd H W (.lst (vW ws)) W = some (.lst (vW ws)) := upd_same
    generalize upd H W (.lst (vW ws)) = H1 at zW eW ⊢
    refine ⟨1, rfl, W, _, rfl, SqL.of eW, fun N hN => ?_⟩
    rw [show cutV (vW ws) (some 1) none = vW (ws.drop 1) from cutW ws 1]
    have nk := wk.drop 1
    generalize ws.drop 1 = ns at nk k ⊢
    have zN := zW.trans (Same.upd (o := .lst (vW ns)) hN)
    have eN : upd H1 N (.lst (vW ns)) N = some (.lst (vW ns)) := upd_same
    have hN' : H N = none := by
      cases q : H N with
      | none => rfl
      | some o => rw [zW _ _ q] at hN; cases hN
    generalize upd H1 N (.lst (vW ns)) = H2 at zN eN ⊢
    unfold groupN at k
    refine ⟨_, rfl, N, ns, 0, 3, rfl, eN, nk, fun H3 s3 => ?_⟩
    have s03 := zN.trans s3
    have eN3 := s3 _ _ eN
    refine ⟨_, rfl, ?_⟩
    cases nm : namesM ns 0 3 with
    | false =>
      rw [nm] at k
      exact iteT ⟨_, rfl, by show 1 ≤ 1000; decide, tells_ofF (k H3 s03)⟩
    | true =>
    rw [nm, if_pos rfl] at k
    refine iteF ⟨_, rfl, N, _, rfl, .inl (SqL.of eN3), fun Tk hTk => ⟨Nat.zero_le _, fun Z hZ => ?_⟩⟩
    have zT := Same.upd (o := .lst (vW ns)) hTk
    have zZ := Same.upd (o := .lst []) hZ
    have hTk0 : H Tk = none := same_none s03 hTk
    have hZ0 : H Z = none := same_none (s03.trans zT) hZ
    have nZT : Z ≠ Tk := by
      rintro rfl
      rw [upd_same] at hZ
      cases hZ
    have eZ : upd (upd H3 Tk (.lst (vW ns))) Z (.lst []) Z = some (.lst []) := upd_same
    have eT : upd (upd H3 Tk (.lst (vW ns))) Z (.lst []) Tk = some (.lst (vW ns)) := zZ _ _ upd_same
    have eN4 := zZ _ _ (zT _ _ eN3)
    have s04 := (s03.trans zT).trans zZ
    have nNT : N ≠ Tk := ne_of_none eN3 hTk
    have nNZ : N ≠ Z := ne_of_none (zT _ _ eN3) hZ
    generalize upd (upd H3 Tk (.lst (vW ns))) Z (.lst []) = H4 at eZ eT eN4 s04
    refine ⟨_, rfl, _, _, rfl, rfl, ?_⟩
    have l1 := ok.len
    generalize hall : totsM (ah ++ [32, 32]) r ns 0 = all at k
    refine tw_of (fun m σ H' => ∃ (done : List T3) (rj : List LN) (us : List V) (x7 : Option V), m = rj.length ∧ σ = [some (.ref L), some (.int (i : Int)), some (.str (TS ah)), some (.ref N), some (.ref Tk), some (.ref Z), some (.int ((i + 1 + done.length : Nat) : Int)), x7] ∧ ls.drop (i + 1 + done.length) = rj ∧ done ++ totsM (ah ++ [32, 32]) rj (ns ++ done.map (·.1)) done.length = all ∧ H' Z = some (.lst us) ∧ H' Tk = some (.lst (vW (ns ++ done.map (·.1)))) ∧ H' N = some (.lst (vW ns)) ∧ DhAll H' us (done.map t3D) ∧ us.length = done.length ∧ done.length ≤ 6 ∧ Same H H')
      (fun σ H' => ∃ (us : List V) (x7 : Option V), σ = [some (.ref L), some (.int (i : Int)), some (.str (TS ah)), some (.ref N), some (.ref Tk), some (.ref Z), some (.int ((i + 1 + all.length : Nat) : Int)), x7] ∧ H' Z = some (.lst us) ∧ H' N = some (.lst (vW ns)) ∧ DhAll H' us (all.map t3D) ∧ us.length = all.length ∧ all.length ≤ 6 ∧ Same H H')
      ⟨_, [], r, [], none, rfl, rfl, dn, by rw [List.map_nil, List.append_nil]; exact hall, eZ, by rw [List.map_nil, List.append_nil]; exact eT, eN4, .nil, rfl, Nat.zero_le _, s04⟩ ?_ ?_
    · rintro σ H5 ⟨us, x7, rfl, eZ5, eN5, du, lu, l6, s5⟩
      refine ⟨_, rfl, Z, _, rfl, .inl (SqL.of eZ5), rfl, _, rfl, ?_⟩
      rw [lu]
      by_cases z : all.length = 0
      · rw [if_pos z] at k
        rw [show decide (V.int (all.length : Int) = V.int 0) = true by rw [z]; rfl]
        rw [show i + 1 + all.length = i + 1 by rw [z]] 
        exact iteT ⟨_, rfl, by show 1 ≤ 1000; decide, tells_ofF (k H5 s5)⟩
      · rw [if_neg z] at k
        rw [show decide (V.int (all.length : Int) = V.int 0) = false from decide_eq_false (fun h => z (by injection h with h; omega))]
        refine iteF ⟨_, rfl, N, _, rfl, .inl ⟨SqL.of eN5, fun p hp => ⟨_, rfl, Z, _, rfl, .inl ⟨SqL.of (Same.upd hp _ _ eZ5), fun q hq => ⟨three, fun g hg => ⟨_, rfl, two, fun b hb => ?_⟩⟩⟩⟩⟩⟩
        have z1 := Same.upd (o := .tup (vW ns)) hp
        have z2 := Same.upd (o := .tup us) hq
        have z3 := Same.upd (o := .tup [.str "group", .ref p, .ref q]) hg
        have z4 := Same.upd (o := .tup [.ref g, .int ((i + 1 + all.length : Nat) : Int)]) hb
        have z34 := z3.trans z4
        have z24 := z2.trans z34
        exact k b (.ref g) _ (s5.trans (z1.trans z24)) (by rw [← Nat.add_assoc]; exact upd_same) (.tup (z4 _ _ upd_same) (.cons (.str _) (.cons (.tup (z24 _ _ upd_same) (strs_dh ns)) (.cons (.tup (z34 _ _ upd_same) (du.same (z1.trans z24))) .nil))))
    · rintro nx hB m σ H5 ⟨done, rj, us, x7, rfl, rfl, dr, er, eZ5, eT5, eN5, du, lu, l6, s5⟩
      refine ⟨_, rfl, _, rfl, L, _, rfl, .inl (SqL.of (s5 _ _ hL)), _, _, rfl, rfl, _, rfl, ?_⟩
      rw [vW_len]
      have out : totsM (ah ++ [32, 32]) rj (ns ++ done.map (·.1)) done.length = [] → ∀ (y : Option V) (H6 : Hp), Same H5 H6 → nx [some (.ref L), some (.int (i : Int)), some (.str (TS ah)), some (.ref N), some (.ref Tk), some (.ref Z), some (.int ((i + 1 + done.length : Nat) : Int)), y] H6 := fun z y H6 s6 => by
        rw [z, List.append_nil] at er
        subst er
        exact hB _ _ ⟨us, y, rfl, s6 _ _ eZ5, s6 _ _ eN5, du.same s6, lu, l6, s5.trans s6⟩
      cases rj with
      | nil =>
        have : ls.length ≤ i + 1 + done.length := List.drop_eq_nil_iff.mp dr
        rw [decide_eq_false (by omega)]
        exact iteF (iteF (out rfl _ _ (Same.refl _)))
      | cons l1 r1 =>
      obtain ⟨e1, li1, dn1⟩ := drop_get dr
      rw [decide_eq_true (by omega)]
      refine iteT ⟨_, rfl, Z, _, rfl, .inl (SqL.of eZ5), _, _, rfl, rfl, _, rfl, ?_⟩
      rw [lu]
      rw [totsM] at er out
      by_cases c6 : done.length < 6
      · rw [decide_eq_true (by omega)]
        refine iteT ⟨_, rfl, Tk, _, rfl, .inl (SqL.of eT5), _, _, rfl, rfl, _, rfl, ?_⟩
        rw [vW_len]
        by_cases c8 : (ns ++ done.map (·.1)).length < 8
        · rw [decide_eq_true (by omega)]
          rw [if_pos ⟨c6, c8⟩] at er out
          refine iteT ?_
          refine ⟨_, fun _ _ h => h, ?_⟩
          refine ⟨_, rfl, _, rfl, L, _, _, .str (TS l1), rfl, rfl, SqL.of (s5 _ _ hL), at_of (j := i + 1 + done.length) rfl (vW_get e1), _, rfl, TS ah, ⟨#[32, 32]⟩, rfl, rfl, ?_, l1, ah ++ [32, 32], ?_, ok.each l1 (List.mem_of_getElem? e1), fun v H6 s6 hv => ?_⟩
          · rw [ts_len]
            exact Nat.le_trans (show _ ≤ 12 by show ah.length + 2 ≤ 12; omega) (by decide)
          · rw [← ts_app]
            rfl
          have eZ6 := s6 _ _ eZ5
          have eT6 := s6 _ _ eT5
          have eN6 := s6 _ _ eN5
          have dn2 : ls.drop (i + 1 + (done.length + 1)) = r1 := dn1
          generalize totalT (ah ++ [32, 32]) l1 = o at hv er out
          cases o with
          | none =>
            cases hv
            refine ⟨_, rfl, rfl, _, rfl, iteT (iteT ?_)⟩
            exact out rfl _ _ s6
          | some t =>
          obtain ⟨t1, t2, t4⟩ := t
          have hv0 := hv
          cases hv with
          | @tup q xs _ eq hxs =>
          cases hxs with
          | cons h1 hxs => cases hxs with
            | cons h2 hxs => cases hxs with
              | cons h3 hxs =>
                cases hxs
                cases h1
                cases h2
                cases h3
                refine ⟨_, rfl, rfl, _, rfl, iteF ⟨_, rfl, q, _, _, .str (TS t1), rfl, rfl, SqT.of eq, at_of (j := 0) rfl rfl, _, rfl, Tk, _, rfl, .inl (SqL.of eT6), rfl, vW_all _, ?_⟩⟩
                dsimp only at er out
                cases hin : inV (.str (TS t1)) (vW (ns ++ done.map (·.1))) with
                | true =>
                  rw [hin] at out
                  refine ⟨true, rfl, iteT ?_⟩
                  exact out rfl _ _ s6
                | false =>
                  rw [hin] at er
                  refine ⟨false, rfl, iteF ?_⟩
                  have b1 : us.length < sizeLine := Nat.lt_of_le_of_lt (show _ ≤ 6 by omega) (by decide)
                  refine ⟨_, rfl, .inl ⟨rfl, _, SqL.of eZ6⟩, _, rfl, Z, _, _, rfl, rfl, eZ6, b1, ?_⟩
                  have eT7 : upd H6 Z (.lst (us ++ [.ref q])) Tk = some (.lst (vW (ns ++ done.map (·.1)))) := by rw [upd_ne (Ne.symm nZT)]; exact eT6
                  have eq7 : upd H6 Z (.lst (us ++ [.ref q])) q = some (.tup [.str (TS t1), .str (TS t2), .str (TS t4)]) := by
                    rw [upd_ne (fun e => by rw [e, eZ6] at eq; cases eq)]
                    exact eq
                  refine ⟨_, rfl, .inl ⟨rfl, _, SqL.of eT7⟩, _, rfl, q, _, _, .str (TS t1), rfl, rfl, SqT.of eq7, at_of (j := 0) rfl rfl, Tk, _, _, rfl, rfl, eT7, ?_, ?_⟩
                  · exact Nat.lt_of_lt_of_le (show _ < 9 by rw [vW_len]; omega) (by decide)
                  refine ⟨_, rfl, _, _, rfl, rfl, ?_⟩
                  have ld : (done ++ [((t1, t2, t4) : T3)]).length = done.length + 1 := by rw [List.length_append]; rfl
                  have md : ns ++ (done ++ [((t1, t2, t4) : T3)]).map (·.1) = ns ++ done.map (·.1) ++ [t1] := by rw [List.map_append, ← List.append_assoc]; rfl
                  have s56 := s5.trans s6
                  have kt : SameT H6 (upd H6 Z (.lst (us ++ [.ref q]))) := SameT.lst eZ6
                  have kt2 : SameT (upd H6 Z (.lst (us ++ [.ref q]))) (upd (upd H6 Z (.lst (us ++ [.ref q]))) Tk (.lst (vW (ns ++ done.map (·.1)) ++ [.str (TS t1)]))) := SameT.lst eT7
                  have nl : noLs (done.map t3D) = true := noLs_all.mpr (fun d hd => by
                    obtain ⟨t, _, rfl⟩ := List.mem_map.mp hd
                    rfl)
                  have nl2 : noLs (done.map t3D ++ [t3D (t1, t2, t4)]) = true := noLs_all.mpr (fun d hd => by
                    rcases List.mem_append.mp hd with hd | hd
                    · exact noLs_all.mp nl d hd
                    · rw [List.mem_singleton.mp hd]; rfl)
                  refine ⟨r1.length, Nat.lt_succ_self _, done ++ [(t1, t2, t4)], r1, us ++ [.ref q], some (.ref q), rfl, ?_, by rw [ld]; exact dn2, by rw [ld, md, List.append_assoc]; exact er, by rw [upd_ne nZT]; exact upd_same, ?_, by rw [upd_ne nNT, upd_ne nNZ]; exact eN6, ?_, by rw [List.length_append, ld, lu]; rfl, by omega, fun b o eb => by rw [upd_ne (ne_of_none eb hTk0), upd_ne (ne_of_none eb hZ0)]; exact s56 _ _ eb⟩
                  · rw [ld]
                    rfl
                  · rw [md, upd_same]
                    show _ = some (HO.lst (List.map V.str (List.map TS (_ ++ [t1]))))
                    rw [List.map_append, List.map_append]
                    rfl
                  · rw [List.map_append]
                    exact DhAll.t kt2 (DhAll.append (DhAll.t kt (du.same s6) nl) (.cons (Dh.t kt hv0 rfl) .nil)) nl2
        · rw [decide_eq_false (by omega)]
          rw [if_neg (fun h => c8 h.2)] at out
          exact iteF (out rfl _ _ (Same.refl _))
      · rw [decide_eq_false (by omega)]
        rw [if_neg (fun h => c6 h.1)] at out
        exact iteF (iteF (out rfl _ _ (Same.refl _)))
end
end
end K78
set_option Elab.async false
set_option linter.all false
set_option maxRecDepth 100000
set_option maxHeartbeats 4000000
namespace K78
open PySem PySem.Spec PyProof.Rows L2 Lc
/-! ## steps -/
def readV (x : Str) : Option (List LN → PyData) := if x = "keep" then some keepM else if x = "set" then some setM else if x = "select" then some selectM else if x = "rename" then some renameM else if x = "sort" then some sortM else if x = "first" then some firstM else if x = "sample" then some sampleM else if x = "join" then some joinM else if x = "union" then some unionM else if x = "distinct" then some distinctM else none
def hdW (ws : List LN) : LN := ws.headD []
def readW (ws : List LN) : Out PyData := match readV (TS (hdW ws)) with
  | none => .err 0
  | some M => if isNo (M ws) = true then .err 0 else .ok (M ws) 1
def stepW (ah : LN) (ws r : List LN) : Out PyData := if TS (hdW ws) = "group" then groupN ah (ws.drop 1) r else readW ws
def stepM (ah l : LN) (r : List LN) : Out PyData := stepW ah (spl 32 (cutp ah l)) r
structure RdA (P : Program) (w : World) (K : PySem.W.Frag) (mg : Str → Option Value) (base : Heap) (rA : Addr) : Prop where
  g : mg "READERS" = some (.ref rA)
  d : ∃ es n, KDict K w rA es n
  at_ : ∀ x M, readV x = some M → ∃ g, KDct K w rA x (.ref g) ∧ PySem.W.nsIn K rA x = some (some (.ref g)) ∧ Held P w K mg base 25 g (spRd M)
  no : ∀ x, readV x = none → PySem.W.nsIn K rA x = some none
def spSp (C : Addr) : Sp := fun vs H Q E => ∃ (L : Addr) (ls : List LN) (i : Nat) (ah l : LN) (r : List LN), vs = [.ref L, .int (i : Int), .str (TS ah)] ∧ H L = some (.lst (vW ls)) ∧ LsOk ls ∧ ls.drop i = l :: r ∧ ah.length ≤ 10 ∧ OutQ C i (stepM ah l r) H Q E
section
variable {P : Program} {w : World} {K : PySem.W.Frag} {mg : Str → Option Value} {base : Heap} {f C fI : Addr} {fd fdI : FuncData}
abbrev sSp : Stmt := top 68
abbrev nSp : List Str := ["lines", "at", "ahead", "words", "reader", "step"]
abbrev pSp : List Str := ["lines", "at", "ahead"]
theorem scSp : FnScope nSp pSp (defScope sSp) := ⟨rfl, rfl, rfl, by decide +kernel, rfl, by decide +kernel, by decide +kernel⟩
section
variable {fA_ : Addr} {fdA_ : FuncData}
theorem ok_Sp (F : Fun K "read_step" "read_step" sSp f fd) (T : Bt mg) {rA : Addr} (RA : RdA P w K mg base rA) (Z : ErF K mg "BadText" "position" C fI) (GI : FnOk P w K mg base CX0 1 fI fdI ["self", "position"] (spIni C "position")) (bI : Binds K fdI ["self", "position"] [])
    (GA_ : FnOk P w K mg base (L2.CX P w) 4 fA_ fdA_ ["lines", "at", "ahead"] (spGr C)) (mA_ : mg "read_group" = some (.ref fA_)) (kA_ : PySem.W.keepIn K (.ref fA_) = true) (bA_ : Binds K fdA_ ["lines", "at", "ahead"] []) : FnOk P w K mg base (L2.CX P w) 26 f fd pSp (spSp C) := by
  refine F.okX scSp (fun vs H Q E h => ?_) (fun cdv A outer s H vs Q E hr h => ?_)
  · obtain ⟨L, ls, i, ah, l, r, rfl, _⟩ := h
    rfl
  · obtain ⟨L, ls, i, ah, l, r, rfl, hL, ok, hd, la, k⟩ := h
    have hrA_ : Room (4) _ := hr.mono (by first | decide | omega)
    have hrI : Room 2 _ := hr.mono (by first | decide | omega)
    obtain ⟨es, n0, KD⟩ := RA.d
    obtain ⟨g, hg⟩ : ∃ g : Addr, ∀ M, readV (TS (hdW (spl 32 (cutp ah l)))) = some M → KDct K w rA (TS (hdW (spl 32 (cutp ah l)))) (.ref g) ∧ PySem.W.nsIn K rA (TS (hdW (spl 32 (cutp ah l)))) = some (some (.ref g)) ∧ Held P w K mg base 25 g (spRd M) := by
      cases e : readV (TS (hdW (spl 32 (cutp ah l)))) with
      | none => exact ⟨C, nofun⟩
      | some M =>
        obtain ⟨g, h⟩ := RA.at_ _ M e
        exact ⟨g, fun M' e' => by cases e'; exact h⟩
    have hr25 : Room 25 _ := hr.mono (by decide)
    have AS : ∀ f sp, (fun q => if q = g then (readV (TS (hdW (spl 32 (cutp ah l))))).map spRd else none : Addr → Option Sp) f = some sp → Held P w K mg base 25 f sp := fun f sp e => by
      dsimp only at e
      by_cases z : f = g
      · subst z
        rw [if_pos rfl] at e
        obtain ⟨M, hM, rfl⟩ := Option.map_eq_some_iff.mp e
        exact (hg M hM).2.2
      · rw [if_neg z] at e
        cases e
    refine ⟨_, (pss_cons (ps_set (i := 3) scSp.nd rfl (Or.inl rfl) (pe_m1 PySem.F.slot_str_split PySem.F.type_str_split mt_split (pe_m1 PySem.F.slot_str_removeprefix PySem.F.type_str_removeprefix mt_removeprefix (pe_ix ix_list (pv 0) (pv 1) (fun _ _ => rfl)) (pv 2)) pe_str))
      (pss_cons (ps_if (pt_cmpR op_eq (pe_ix ix_list (pv 3) pe_int (fun _ _ => rfl)) pe_str (nomark _)) (pss_one (ps_ret (pe_callS GA_ hrA_ (by rfl) mA_ kA_ bA_ (fun σ => passAt (W := fun cls d _ H => E cls d H) (takes_of rfl rfl rfl rfl) σ) (pa_cons (pv 0) (pa_cons (pv 1) (pa_cons (pv 2) pa_nil)))))) pss_nil)
      (pss_cons (ps_if (pt_cmpR (op_notIn_kd KD) (pe_ix ix_list (pv 3) pe_int (fun _ _ => rfl)) (pe_glob (v := .ref rA) (by rfl) RA.g rfl) (by rfl)) (pss_one (ps_raise (W := fun cls d _ H => E cls d H) rfl (takes_of rfl rfl rfl rfl) (pmk_oex Z.oex Z.iC Z.tI GI hrI bI .nil pass0 (by rfl) Z.gC (pa_cons (pv 1) pa_nil)))) pss_nil)
      (pss_cons (ps_set (i := 4) scSp.nd rfl (Or.inl rfl) (pe_ix ix_kdict (pe_glob (v := .ref rA) (by rfl) RA.g rfl) (pe_ix ix_list (pv 3) pe_int (fun _ _ => rfl)) (fun _ _ => rfl)))
      (pss_cons (ps_set (i := 5) scSp.nd rfl (Or.inl rfl) (pe_callA (i := 4) AS hr25 rfl (Or.inl rfl) (pa_cons (pv 3) pa_nil)))
      (pss_cons (ps_if (pt_cmpR op_isN (pv 5) pe_non (nomark _)) (pss_one (ps_raise (W := fun cls d _ H => E cls d H) rfl (takes_of rfl rfl rfl rfl) (pmk_oex Z.oex Z.iC Z.tI GI hrI bI .nil pass0 (by rfl) Z.gC (pa_cons (pv 1) pa_nil)))) pss_nil)
      (pss_one (ps_ret (pe_tup (pa_cons (pv 5) (pa_cons (pe_op op_add (pv 1) pe_int) pa_nil))))))))))), ?_⟩
    have two : 2 ≤ sizeLine := by decide
    have one : 1 ≤ sizeLine := by decide
    have three : 3 ≤ sizeLine := by decide
    obtain ⟨el, li, dn⟩ := drop_get hd
    have gl := vW_get el
    have lk := ok.each l (List.mem_of_getElem? el)
    have wk := lk.ws ah
    have bl : ((PySem.Str.ofString " ").length == 0) = false := by decide +kernel
    have ll : (Txt.removeprefix (TS l) (TS ah)).length + 2 ≤ sizeLine := by
      rw [prefix_TS, ts_len]
      have := (cutp_sub (CL (TS ah)) l).length_le
      have := lk.2
      exact Nat.le_trans (show _ ≤ 2000 by omega) (by decide)
    have ne : spl 32 (cutp ah l) ≠ [] := spl_ne _
    unfold stepM at k
    refine ⟨_, rfl, _, rfl, L, _, _, .str (TS l), rfl, rfl, SqL.of hL, at_of (j := i) rfl gl, ⟨_, rfl⟩, _, rfl, _, _, rfl, rfl, lk.1.line, ⟨_, rfl⟩, _, _, rfl, rfl, bl, ll, fun W hW => ?_⟩
    rw [words_TS]
    have zW := Same.upd (o := .lst (vW (spl 32 (cutp ah l)))) hW
    have eW : upd H W (.lst (vW (spl 32 (cutp ah l)))) W = some (.lst (vW (spl 32 (cutp ah l)))) := upd_same
    generalize upd H W (.lst (vW (spl 32 (cutp ah l)))) = H1 at zW eW ⊢
    have g0 : (vW (spl 32 (cutp ah l)))[0]? = some (.str (TS (hdW (spl 32 (cutp ah l))))) := by
      cases e : spl 32 (cutp ah l) with
      | nil => exact absurd e ne
      | cons a b => rfl
    refine ⟨_, rfl, W, _, _, .str (TS (hdW (spl 32 (cutp ah l)))), rfl, rfl, SqL.of eW, at_of (j := 0) rfl g0, rfl, _, rfl, ?_⟩
    by_cases hg0 : TS (hdW (spl 32 (cutp ah l))) = "group"
    · unfold stepW at k
      rw [if_pos hg0] at k
      rw [show decide (V.str (TS (hdW (spl 32 (cutp ah l)))) = V.str "group") = true by rw [hg0]; rfl]
      exact iteT ⟨_, rfl, _, rfl, _, rfl, L, ls, i, ah, l, r, rfl, zW _ _ hL, ok, hd, la, k.same zW⟩
    rw [show decide (V.str (TS (hdW (spl 32 (cutp ah l)))) = V.str "group") = false from decide_eq_false (fun h => hg0 (by injection h))]
    unfold stepW at k
    rw [if_neg hg0] at k
    unfold readW at k
    refine iteF ?_
    cases e : readV (TS (hdW (spl 32 (cutp ah l)))) with
    | none =>
      rw [e] at k
      exact ⟨_, rfl, W, _, _, .str (TS (hdW (spl 32 (cutp ah l)))), rfl, rfl, SqL.of eW, at_of (j := 0) rfl g0, TS (hdW (spl 32 (cutp ah l))), _, rfl, rfl, RA.no _ e, _, rfl, iteT ⟨_, rfl, by show 1 ≤ 1000; decide, tells_ofF (k H1 zW)⟩⟩
    | some M =>
      rw [e] at k
      obtain ⟨h1, h2, h3⟩ := hg M e
      refine ⟨_, rfl, W, _, _, .str (TS (hdW (spl 32 (cutp ah l)))), rfl, rfl, SqL.of eW, at_of (j := 0) rfl g0, TS (hdW (spl 32 (cutp ah l))), _, rfl, rfl, h2, _, rfl, iteF ⟨_, rfl, W, _, _, .str (TS (hdW (spl 32 (cutp ah l)))), rfl, rfl, SqL.of eW, at_of (j := 0) rfl g0, rA, TS (hdW (spl 32 (cutp ah l))), _, rfl, rfl, h1, ?_⟩⟩
      refine ⟨g, spRd M, rfl, if_pos rfl, _, rfl, W, _, rfl, eW, wk, ne, fun v H2 s2 hv => ?_⟩
      have s02 := zW.trans s2
      refine ⟨_, rfl, rfl, _, rfl, ?_⟩
      rw [dh_non hv]
      dsimp only at k
      cases z : isNo (M (spl 32 (cutp ah l))) with
      | true =>
        rw [z] at k
        exact iteT ⟨_, rfl, by show 1 ≤ 1000; decide, tells_ofF (k H2 s02)⟩
      | false =>
        rw [z] at k
        refine iteF ⟨_, rfl, _, rfl, _, _, rfl, rfl, two, fun b hb => ?_⟩
        exact k b v _ (s02.trans (Same.upd hb)) (by rw [upd_same]; rfl) (hv.same (Same.upd hb))
end
end
end K78
set_option Elab.async false
set_option linter.all false
set_option maxRecDepth 100000
set_option maxHeartbeats 4000000
namespace K78
open PySem PySem.Spec PyProof.Rows L2 Lc
/-! ## alternatives -/
def Out.pre {α : Type} (a : List α) (c : Nat) : Out (List α) → Out (List α)
  | .ok ds m => .ok (a ++ ds) (c + m)
  | .err m => .err (c + m)
theorem Out.pre_pre {α : Type} {a b : List α} {c d : Nat} (o : Out (List α)) : (o.pre b d).pre a c = o.pre (a ++ b) (c + d) := by
  cases o with
  | ok ds m =>
    show Out.ok (a ++ (b ++ ds)) (c + (d + m)) = Out.ok (a ++ b ++ ds) (c + d + m)
    rw [List.append_assoc, Nat.add_assoc]
  | err m =>
    show Out.err (c + (d + m)) = Out.err (c + d + m)
    rw [Nat.add_assoc]
def Out.tup : Out (List PyData) → Out PyData
  | .ok ds m => .ok (.tuple ds) m
  | .err m => .err m
/-- one part, and the others behind it -/
def Out.then {α β : Type} (o : Out α) (f : α → Nat → Out β) : Out β := match o with
  | .ok d n => f d n
  | .err n => .err n
def inL : LN := [32, 32, 32, 32]
def altM : Nat → List LN → Out (List PyData)
  | 0, _ => .ok [] 0
  | _ + 1, [] => .ok [] 0
  | k + 1, l :: r => if stw inL l = true then (stepM inL l r).then fun d n => (altM k ((l :: r).drop n)).pre [d] n else .ok [] 0
theorem re_noL (l : LN) : noL (reD l).1 = true := by
  unfold reD
  split
  · rfl
  split
  · rfl
  exact rd_noL _ _
theorem form_noL (ws : List LN) : noL (formM ws) = true := re_noL _
theorem read_noL {x : Str} {M : List LN → PyData} (h : readV x = some M) (ws : List LN) : noL (M ws) = true := by
  have h1 : noL (keepM ws) = true := by
    unfold keepM
    split
    · split
      · rfl
      · rw [noL, noLs, noLs, noLs, form_noL]; rfl
    · rfl
  have h2 : noL (setM ws) = true := by
    unfold setM
    split
    · split
      · rfl
      · split
        · rw [noL, noLs, noLs, noLs, noLs, form_noL]; rfl
        · rfl
    · rfl
  have h3 : noL (selectM ws) = true := by
    unfold selectM
    split
    · split
      · rw [noL, noLs, noLs, noLs, noL_strs]; rfl
      · rfl
    · rfl
  have h4 : noL (renameM ws) = true := by
    unfold renameM
    split
    · split
      · exact noL_strs _
      · rfl
    · rfl
  have h5 : noL (sortM ws) = true := by
    unfold sortM
    split
    · split
      · exact noL_strs _
      · rfl
    · rfl
  have h6 : noL (firstM ws) = true := by
    unfold firstM
    split
    · split <;> rfl
    · rfl
  have h7 : noL (sampleM ws) = true := by
    unfold sampleM
    split
    · split
      · split <;> rfl
      · rfl
    · rfl
  have h8 : noL (joinM ws) = true := by
    unfold joinM
    split
    · split
      · split
        · rw [noL, noLs, noLs, noLs, noLs, noL_strs]; rfl
        · rfl
      · rfl
    · rfl
  have h9 : noL (unionM ws) = true := by
    unfold unionM
    split
    · split
      · exact noL_strs _
      · rfl
    · rfl
  have h0 : noL (distinctM ws) = true := by
    unfold distinctM
    split
    · exact noL_strs _
    · rfl
  unfold readV at h
  repeat' split at h
  all_goals first | (cases h; assumption) | cases h
theorem group_noL (ns : List LN) (ts : List T3) : noL (groupD ns ts) = true := by
  have : noLs (ts.map t3D) = true := noLs_all.mpr (fun d hd => by
    obtain ⟨t, _, rfl⟩ := List.mem_map.mp hd
    rfl)
  unfold groupD
  rw [noL, noLs, noLs, noLs, noLs, noL_strs, noL, this]
  rfl
theorem step_noL {ah l : LN} {r : List LN} {d : PyData} {n : Nat} (h : stepM ah l r = .ok d n) : noL d = true ∧ 1 ≤ n := by
  unfold stepM stepW at h
  split at h
  · unfold groupN at h
    split at h
    · split at h
      · cases h
      · injection h with h1 h2
        rw [← h1, ← h2]
        exact ⟨group_noL _ _, by omega⟩
    · cases h
  · unfold readW at h
    split at h
    · cases h
    · rename_i M hM
      split at h
      · cases h
      · injection h with h1 h2
        rw [← h1, ← h2]
        exact ⟨read_noL hM _, Nat.le_refl _⟩
def spAl (C : Addr) : Sp := fun vs H Q E => ∃ (L : Addr) (ls : List LN) (i : Nat), vs = [.ref L, .int (i : Int)] ∧ H L = some (.lst (vW ls)) ∧ LsOk ls ∧ OutQ C i (altM 4 (ls.drop i)).tup H Q E
section
variable {P : Program} {w : World} {K : PySem.W.Frag} {mg : Str → Option Value} {base : Heap} {f C fI : Addr} {fd fdI : FuncData}
abbrev sAl : Stmt := top 69
abbrev nAl : List Str := ["lines", "at", "steps", "behind", "step"]
abbrev pAl : List Str := ["lines", "at"]
theorem scAl : FnScope nAl pAl (defScope sAl) := ⟨rfl, rfl, rfl, by decide +kernel, rfl, by decide +kernel, by decide +kernel⟩
section
variable {fA_ : Addr} {fdA_ : FuncData}
theorem ok_Al (F : Fun K "read_alternative" "read_alternative" sAl f fd) (T : Bt mg) {u4 uT : Tok} (m4 : mg "MOST_INNER_STEPS" = some (.int 4 u4)) (mI : mg "INNER_BLANKS" = some (.str (TS inL) uT)) 
    (GA_ : FnOk P w K mg base (L2.CX P w) 26 fA_ fdA_ ["lines", "at", "ahead"] (spSp C)) (mA_ : mg "read_step" = some (.ref fA_)) (kA_ : PySem.W.keepIn K (.ref fA_) = true) (bA_ : Binds K fdA_ ["lines", "at", "ahead"] []) : FnOk P w K mg base (L2.CX P w) 27 f fd pAl (spAl C) := by
  refine F.okX scAl (fun vs H Q E h => ?_) (fun cdv A outer s H vs Q E hr h => ?_)
  · obtain ⟨L, ls, i, rfl, _⟩ := h
    rfl
  · obtain ⟨L, ls, i, rfl, hL, ok, k⟩ := h
    have hrA_ : Room (26) _ := hr.mono (by first | decide | omega)
    refine ⟨_, (pss_cons (ps_set (i := 2) scAl.nd rfl (Or.inl rfl) (pe_lst pa_nil))
      (pss_cons (ps_set (i := 3) scAl.nd rfl (Or.inl rfl) (pv 1))
      (pss_cons (ps_while (passes_of rfl) (PW.pt (pw_and (pt_cmpR op_lt (pv 3) (pe_callB call_len_seq (by rfl) T.len PySem.boot_len (pa_cons (pv 0) pa_nil)) (nomark _)) (pw_and (pt_cmpR op_lt (pe_callB call_len_seq (by rfl) T.len PySem.boot_len (pa_cons (pv 2) pa_nil)) (pe_glob (v := .int 4) (by rfl) m4 ⟨_, rfl⟩) (nomark _)) (pw_and1 (pt_val (pe_m1 PySem.F.slot_str_startswith PySem.F.type_str_startswith mt_startswith (pe_ix ix_list (pv 0) (pv 3) (fun _ _ => rfl)) (pe_glob (v := .str (TS inL)) (by rfl) mI ⟨_, rfl⟩))))))) (pss_cons (ps_asg (pe_callS GA_ hrA_ (by rfl) mA_ kA_ bA_ (fun σ => passAt (W := fun cls d _ H => E cls d H) (takes_of rfl rfl rfl rfl) σ) (pa_cons (pv 0) (pa_cons (pv 3) (pa_cons (pe_glob (v := .str (TS inL)) (by rfl) mI ⟨_, rfl⟩) pa_nil)))) (pg_tup rfl (pgs_cons (pg_name (i := 4) scAl.nd rfl (.inl rfl)) (pgs_cons (pg_name (i := 3) scAl.nd rfl (.inl rfl)) pgs_nil))))
      (pss_one (ps_expr (pe_bm PySem.F.plainAttrs_list PySem.F.slot_list_append PySem.F.type_list_append mt_append (pv 2) (pa_cons (pv 4) pa_nil))))))
      (pss_one (ps_ret (pe_tup (pa_cons (pe_callTy call_tuple_of (by rfl) T.tuple boot_tuple (pa_cons (pv 2) pa_nil)) (pa_cons (pv 3) pa_nil)))))))), ?_⟩
    have two : 2 ≤ sizeLine := by decide
    have one : 1 ≤ sizeLine := by decide
    have three : 3 ≤ sizeLine := by decide
    refine ⟨Nat.zero_le _, fun Z hZ => ?_⟩
    have zZ := Same.upd (o := .lst []) hZ
    have eZ : upd H Z (.lst []) Z = some (.lst []) := upd_same
    generalize upd H Z (.lst []) = H1 at zZ eZ
    refine ⟨_, rfl, ?_⟩
    generalize ho : altM 4 (ls.drop i) = o at k
    refine tw_of (fun m σ H' => ∃ (done : List PyData) (c : Nat) (us : List V) (x4 : Option V), m = 4 - done.length ∧ σ = [some (.ref L), some (.int (i : Int)), some (.ref Z), some (.int ((i + c : Nat) : Int)), x4] ∧ (altM (4 - done.length) (ls.drop (i + c))).pre done c = o ∧ H' Z = some (.lst us) ∧ DhAll H' us done ∧ noLs done = true ∧ us.length = done.length ∧ done.length ≤ 4 ∧ Same H H')
      (fun σ H' => ∃ (us : List V) (done : List PyData) (c : Nat) (x4 : Option V), σ = [some (.ref L), some (.int (i : Int)), some (.ref Z), some (.int ((i + c : Nat) : Int)), x4] ∧ o = .ok done c ∧ H' Z = some (.lst us) ∧ DhAll H' us done ∧ us.length = done.length ∧ done.length ≤ 4 ∧ Same H H')
      ⟨_, [], 0, [], none, rfl, rfl, by rw [← ho]; show (altM 4 _).pre [] 0 = _; cases altM 4 (ls.drop (i + 0)) <;> simp [Out.pre], eZ, .nil, rfl, rfl, Nat.zero_le _, zZ⟩ ?_ ?_
    · rintro σ H5 ⟨us, done, c, x4, rfl, rfl, eZ5, du, lu, l6, s5⟩
      refine ⟨_, rfl, Z, _, rfl, .inl ⟨SqL.of eZ5, fun p hp => ⟨_, rfl, two, fun b hb => ?_⟩⟩⟩
      have z1 := Same.upd (o := .tup us) hp
      have z2 := Same.upd (o := .tup [.ref p, .int ((i + c : Nat) : Int)]) hb
      exact k b (.ref p) _ (s5.trans (z1.trans z2)) upd_same (.tup (z2 _ _ upd_same) (du.same (z1.trans z2)))
    · rintro nx hB m σ H5 ⟨done, c, us, x4, rfl, rfl, er, eZ5, du, nl, lu, l6, s5⟩
      have out : altM (4 - done.length) (ls.drop (i + c)) = .ok [] 0 → nx [some (.ref L), some (.int (i : Int)), some (.ref Z), some (.int ((i + c : Nat) : Int)), x4] H5 := fun z => by
        rw [z] at er
        exact hB _ _ ⟨us, done, c, x4, rfl, by rw [← er]; simp [Out.pre], eZ5, du, lu, l6, s5⟩
      refine ⟨_, rfl, _, rfl, L, _, rfl, .inl (SqL.of (s5 _ _ hL)), _, _, rfl, rfl, _, rfl, ?_⟩
      rw [vW_len]
      cases hrj : ls.drop (i + c) with
      | nil =>
        have : ls.length ≤ i + c := List.drop_eq_nil_iff.mp hrj
        rw [decide_eq_false (by omega)]
        refine iteF (iteF (out ?_))
        rw [hrj]
        cases 4 - done.length <;> rfl
      | cons l1 r1 =>
      obtain ⟨e1, li1, dn1⟩ := drop_get hrj
      rw [decide_eq_true (by omega)]
      refine iteT ⟨_, rfl, Z, _, rfl, .inl (SqL.of eZ5), _, _, rfl, rfl, _, rfl, ?_⟩
      rw [lu]
      by_cases c4 : done.length < 4
      · rw [decide_eq_true (by omega)]
        rw [hrj] at er out
        obtain ⟨q, hq⟩ : ∃ q, 4 - done.length = q + 1 := ⟨3 - done.length, by omega⟩
        rw [hq, altM] at er out
        refine iteT ⟨_, rfl, _, rfl, L, _, _, .str (TS l1), rfl, rfl, SqL.of (s5 _ _ hL), at_of (j := i + c) rfl (vW_get e1), ⟨_, rfl⟩, _, _, rfl, rfl, _, rfl, ?_⟩
        rw [starts_TS, cl_ts]
        cases sw : stw inL l1 with
        | false =>
          rw [sw] at out
          exact iteF (out rfl)
        | true =>
        rw [sw, if_pos rfl] at er
        refine iteT ?_
        refine ⟨_, fun _ _ h => h, ?_⟩
        refine ⟨_, rfl, _, rfl, L, ls, i + c, inL, l1, r1, rfl, s5 _ _ hL, ok, hrj, by decide, ?_⟩
        cases hs : stepM inL l1 r1 with
        | err n =>
          rw [hs] at er
          intro H6 s6
          have k' : OutQ C i (Out.err (c + n)) H Q E := by
            rw [← er] at k
            exact k
          have := k' H6 (s5.trans s6)
          rw [← Nat.add_assoc] at this
          exact this
        | ok d n =>
          rw [hs] at er
          have er : ((altM q ((l1 :: r1).drop n)).pre [d] n).pre done c = o := er
          rw [Out.pre_pre] at er
          intro p x H6 s6 hp hd
          have eZ6 := s6 _ _ eZ5
          have nd := (step_noL hs).1
          refine ⟨p, _, rfl, SqT.of hp, rfl, _, _, rfl, _, _, rfl, rfl, ?_⟩
          have b1 : us.length < sizeLine := Nat.lt_of_le_of_lt (show _ ≤ 4 by omega) (by decide)
          refine ⟨_, rfl, .inl ⟨rfl, _, SqL.of eZ6⟩, _, rfl, Z, _, _, rfl, rfl, eZ6, b1, ?_⟩
          have kt : SameT H6 (upd H6 Z (.lst (us ++ [x]))) := SameT.lst eZ6
          have s56 := s5.trans s6
          refine ⟨q, by omega, done ++ [d], c + n, us ++ [x], some x, ?_, ?_, ?_, upd_same, DhAll.append (DhAll.t kt (du.same s6) nl) (.cons (Dh.t kt hd nd) .nil), ?_, by rw [List.length_append, List.length_append, lu]; rfl, by rw [List.length_append]; show _ + 1 ≤ 4; omega, fun b o eb => by rw [upd_ne (ne_of_none eb hZ)]; exact s56 _ _ eb⟩
          · rw [List.length_append]; show q = 4 - (_ + 1); omega
          · rw [← Nat.add_assoc]; rfl
          · rw [List.length_append, show 4 - (done.length + [d].length) = q by show 4 - (_ + 1) = q; omega, ← er, ← Nat.add_assoc, ← List.drop_drop, hrj]
          · refine noLs_all.mpr fun e he => ?_
            rcases List.mem_append.mp he with he | he
            · exact noLs_all.mp nl e he
            · rw [List.mem_singleton.mp he]; exact nd
      · rw [decide_eq_false (by omega)]
        refine iteF (iteF (out ?_))
        rw [show 4 - done.length = 0 by omega]
        rfl
end
end
end K78
set_option Elab.async false
set_option linter.all false
set_option maxRecDepth 100000
set_option maxHeartbeats 4000000
namespace K78
open PySem PySem.Spec PyProof.Rows L2 Lc
/-! ## choose -/
def Out.sh {α : Type} : Out α → Out α
  | .ok d n => .ok d (1 + n)
  | .err n => .err (1 + n)
def altsM : Nat → List LN → Out (List PyData)
  | 0, _ => .ok [] 0
  | _ + 1, [] => .ok [] 0
  | k + 1, l :: r => if TS l = "  or" then (altM 4 r).sh.then fun ds n => (altsM k ((l :: r).drop n)).pre [.tuple ds] n else .ok [] 0
abbrev Nu : Type := List (LN × Nat)
def nuK (nu : Nu) : List (Key × V) := nu.map fun e => (Sum.inr (TS e.1), V.int e.2)
def getN (nu : Nu) (x : LN) (d : Nat) : Nat := ((nu.find? fun e => decide (e.1 = x)).map (·.2)).getD d
def putN (nu : Nu) (x : LN) (n : Nat) : Nu := if (nu.any fun e => decide (e.1 = x)) = true then nu.map (fun e => if e.1 = x then (e.1, n) else e) else nu ++ [(x, n)]
theorem key_ts {a b : LN} : ((Sum.inr (TS a) : Key) = Sum.inr (TS b)) ↔ a = b := ⟨fun q => by injection q with q; rw [← cl_ts a, ← cl_ts b, q], fun q => by rw [q]⟩
theorem nu_get (x : LN) (d : Nat) : ∀ nu : Nu, (valV (nuK nu) (Sum.inr (TS x))).getD (.int d) = .int (getN nu x d)
  | [] => rfl
  | e :: nu => by
    have ih := nu_get x d nu
    unfold nuK getN at ih ⊢
    rw [List.map_cons, List.find?_cons]
    by_cases q : e.1 = x
    · rw [valV_pos (key_ts.mpr q), decide_eq_true q]
      rfl
    · rw [valV_neg (fun w => q (key_ts.mp w)), decide_eq_false q]
      exact ih
theorem nu_any (x : LN) : ∀ nu : Nu, ((nuK nu).any fun kv => decide (kv.1 = (Sum.inr (TS x) : Key))) = nu.any fun e => decide (e.1 = x)
  | [] => rfl
  | e :: nu => by
    have ih := nu_any x nu
    unfold nuK at ih ⊢
    rw [List.map_cons, List.any_cons, List.any_cons, ih, decide_eq_decide.mpr key_ts]
theorem nu_put (x : LN) (n : Nat) (nu : Nu) : putK (nuK nu) (Sum.inr (TS x)) (.int n) = nuK (putN nu x n) := by
  unfold putK putN
  rw [nu_any]
  split
  · unfold nuK
    rw [List.map_map, List.map_map]
    refine List.map_congr_left fun e _ => ?_
    show (if (Sum.inr (TS e.1) : Key) = Sum.inr (TS x) then _ else _) = _
    by_cases q : e.1 = x
    · rw [if_pos (key_ts.mpr q)]
      show _ = (fun e : LN × Nat => ((Sum.inr (TS e.1) : Key), V.int e.2)) (if e.1 = x then (e.1, n) else e)
      rw [if_pos q]
    · rw [if_neg (fun w => q (key_ts.mp w))]
      show _ = (fun e : LN × Nat => ((Sum.inr (TS e.1) : Key), V.int e.2)) (if e.1 = x then (e.1, n) else e)
      rw [if_neg q]
  · unfold nuK
    rw [List.map_append]
    rfl
theorem putN_len (nu : Nu) (x : LN) (n : Nat) : (putN nu x n).length ≤ nu.length + 1 := by
  unfold putN
  split
  · rw [List.length_map]; omega
  · rw [List.length_append]; exact Nat.le_refl _
def chL : LN := [99, 104, 111, 111, 115, 101, 32]
def chooseD (c : LN × List PyData) : PyData := .tuple [.str "choose", strD c.1, .tuple c.2]
def chooseL (lb : LN) (r : List LN) (nu : Nu) : Out (LN × List PyData) := if nmL lb = true then (match altsM (getN nu lb 4) r with
  | .err n => .err (1 + n)
  | .ok as n => if as.length < getN nu lb 2 then .err (1 + n) else .ok (lb, as) (1 + n)) else .err 0
def chooseM (l : LN) (r : List LN) (nu : Nu) : Out (LN × List PyData) := chooseL (cutp chL l) r nu
def Out.map {α β : Type} (f : α → β) : Out α → Out β
  | .ok d n => .ok (f d) n
  | .err n => .err n
def spCh (C : Addr) : Sp := fun vs H Q E => ∃ (L D : Addr) (ls : List LN) (i : Nat) (l : LN) (r : List LN) (nu : Nu), vs = [.ref L, .int (i : Int), .ref D] ∧ H L = some (.lst (vW ls)) ∧ LsOk ls ∧ ls.drop i = l :: r ∧ H D = some (.dK (nuK nu)) ∧ OutQ C i ((chooseM l r nu).map chooseD) H Q E
theorem alt_noL {k : Nat} {r : List LN} {ds : List PyData} {n : Nat} : altM k r = .ok ds n → noLs ds = true := by
  induction k generalizing r ds n with
  | zero => intro h; unfold altM at h; injection h with h _; rw [← h]; rfl
  | succ k ih =>
    intro h
    cases r with
    | nil => unfold altM at h; injection h with h _; rw [← h]; rfl
    | cons l r =>
      rw [altM] at h
      split at h
      · cases e : stepM inL l r with
        | err m => rw [e] at h; cases h
        | ok d m =>
          rw [e] at h
          have h : (altM k ((l :: r).drop m)).pre [d] m = .ok ds n := h
          cases e2 : altM k ((l :: r).drop m) with
          | err q => rw [e2] at h; cases h
          | ok es q =>
            rw [e2] at h
            injection h with h _
            rw [← h]
            show noLs (d :: es) = true
            rw [noLs, (step_noL e).1, ih e2]
            rfl
      · injection h with h _; rw [← h]; rfl
section
variable {P : Program} {w : World} {K : PySem.W.Frag} {mg : Str → Option Value} {base : Heap} {f C fI : Addr} {fd fdI : FuncData}
abbrev sCh : Stmt := top 70
abbrev nCh : List Str := ["lines", "at", "numbers", "label", "alternatives", "behind", "most", "steps"]
abbrev pCh : List Str := ["lines", "at", "numbers"]
theorem scCh : FnScope nCh pCh (defScope sCh) := ⟨rfl, rfl, rfl, by decide +kernel, rfl, by decide +kernel, by decide +kernel⟩
section
variable {fA_ fB_ : Addr} {fdA_ fdB_ : FuncData}
theorem ok_Ch (F : Fun K "read_choose" "read_choose" sCh f fd) (T : Bt mg) {u2 u4 uT : Tok} (m2 : mg "LEAST_ALTERNATIVES" = some (.int 2 u2)) (m4 : mg "MOST_ALTERNATIVES" = some (.int 4 u4)) (mO : mg "OR_LINE" = some (.str (PySem.Str.ofString "  or") uT)) (Z : ErF K mg "BadText" "position" C fI) (GI : FnOk P w K mg base CX0 1 fI fdI ["self", "position"] (spIni C "position")) (bI : Binds K fdI ["self", "position"] [])
    (GA_ : FnOk P w K mg base CX0 1 fA_ fdA_ ["value"] (spName)) (mA_ : mg "is_name" = some (.ref fA_)) (kA_ : PySem.W.keepIn K (.ref fA_) = true) (bA_ : Binds K fdA_ ["value"] [])
    (GB_ : FnOk P w K mg base (L2.CX P w) 27 fB_ fdB_ ["lines", "at"] (spAl C)) (mB_ : mg "read_alternative" = some (.ref fB_)) (kB_ : PySem.W.keepIn K (.ref fB_) = true) (bB_ : Binds K fdB_ ["lines", "at"] []) : FnOk P w K mg base (L2.CX P w) 28 f fd pCh (spCh C) := by
  refine F.okX scCh (fun vs H Q E h => ?_) (fun cdv A outer s H vs Q E hr h => ?_)
  · obtain ⟨L, D, ls, i, l, r, nu, rfl, _⟩ := h
    rfl
  · obtain ⟨L, D, ls, i, l, r, nu, rfl, hL, ok, hd, hD, k⟩ := h
    have hrA_ : Room (1) _ := hr.mono (by first | decide | omega)
    have hrB_ : Room (27) _ := hr.mono (by first | decide | omega)
    have hrI : Room 2 _ := hr.mono (by first | decide | omega)
    refine ⟨_, (pss_cons (ps_set (i := 3) scCh.nd rfl (Or.inl rfl) (pe_m1 PySem.F.slot_str_removeprefix PySem.F.type_str_removeprefix mt_removeprefix (pe_ix ix_list (pv 0) (pv 1) (fun _ _ => rfl)) pe_str))
      (pss_cons (ps_if (pt_not (pt_val (pe_call GA_ hrA_ (by rfl) mA_ kA_ bA_ .nil pass0 (pa_cons (pv 3) pa_nil)))) (pss_one (ps_raise (W := fun cls d _ H => E cls d H) rfl (takes_of rfl rfl rfl rfl) (pmk_oex Z.oex Z.iC Z.tI GI hrI bI .nil pass0 (by rfl) Z.gC (pa_cons (pv 1) pa_nil)))) pss_nil)
      (pss_cons (ps_set (i := 4) scCh.nd rfl (Or.inl rfl) (pe_lst pa_nil))
      (pss_cons (ps_set (i := 5) scCh.nd rfl (Or.inl rfl) (pe_op op_add (pv 1) pe_int))
      (pss_cons (ps_set (i := 6) scCh.nd rfl (Or.inl rfl) (pe_dget2 (hu_of hr) (pv 2) (pv 3) (pe_glob (v := .int 4) (by rfl) m4 ⟨_, rfl⟩) ⟨rfl, rfl, rfl, rfl⟩))
      (pss_cons (ps_while (passes_of rfl) (PW.pt (pw_and (pt_cmpR op_lt (pv 5) (pe_callB call_len_seq (by rfl) T.len PySem.boot_len (pa_cons (pv 0) pa_nil)) (nomark _)) (pw_and (pt_cmpR op_lt (pe_callB call_len_seq (by rfl) T.len PySem.boot_len (pa_cons (pv 4) pa_nil)) (pv 6) (nomark _)) (pw_and1 (pt_cmpR op_eq (pe_ix ix_list (pv 0) (pv 5) (fun _ _ => rfl)) (pe_glob (v := .str (PySem.Str.ofString "  or")) (by rfl) mO ⟨_, rfl⟩) (nomark _)))))) (pss_cons (ps_asg (pe_callS GB_ hrB_ (by rfl) mB_ kB_ bB_ (fun σ => passAt (W := fun cls d _ H => E cls d H) (takes_of rfl rfl rfl rfl) σ) (pa_cons (pv 0) (pa_cons (pe_op op_add (pv 5) pe_int) pa_nil))) (pg_tup rfl (pgs_cons (pg_name (i := 7) scCh.nd rfl (.inl rfl)) (pgs_cons (pg_name (i := 5) scCh.nd rfl (.inl rfl)) pgs_nil))))
      (pss_one (ps_expr (pe_bm PySem.F.plainAttrs_list PySem.F.slot_list_append PySem.F.type_list_append mt_append (pv 4) (pa_cons (pv 7) pa_nil))))))
      (pss_cons (ps_if (pt_cmpR op_lt (pe_callB call_len_seq (by rfl) T.len PySem.boot_len (pa_cons (pv 4) pa_nil)) (pe_dget2 (hu_of hr) (pv 2) (pv 3) (pe_glob (v := .int 2) (by rfl) m2 ⟨_, rfl⟩) ⟨rfl, rfl, rfl, rfl⟩) (nomark _)) (pss_one (ps_raise (W := fun cls d _ H => E cls d H) rfl (takes_of rfl rfl rfl rfl) (pmk_oex Z.oex Z.iC Z.tI GI hrI bI .nil pass0 (by rfl) Z.gC (pa_cons (pv 5) pa_nil)))) pss_nil)
      (pss_one (ps_ret (pe_tup (pa_cons (pe_tup (pa_cons pe_str (pa_cons (pv 3) (pa_cons (pe_callTy call_tuple_of (by rfl) T.tuple boot_tuple (pa_cons (pv 4) pa_nil)) pa_nil)))) (pa_cons (pv 5) pa_nil)))))))))))), ?_⟩
    have two : 2 ≤ sizeLine := by decide
    have one : 1 ≤ sizeLine := by decide
    have three : 3 ≤ sizeLine := by decide
    obtain ⟨el, li, dn⟩ := drop_get hd
    have gl := vW_get el
    have lk := ok.each l (List.mem_of_getElem? el)
    have lt : Tx (cutp chL l) := lk.1.sub (cutp_sub _ _)
    have chE : CL (PySem.Str.ofString "choose ") = chL := by decide +kernel
    unfold chooseM at k
    refine ⟨_, rfl, _, rfl, L, _, _, .str (TS l), rfl, rfl, SqL.of hL, at_of (j := i) rfl gl, ⟨_, rfl⟩, _, _, rfl, rfl, lk.1.line, ?_⟩
    rw [prefix_TS, chE]
    generalize cutp chL l = lb at lt k ⊢
    refine ⟨_, rfl, .str (TS lb), "str", rfl, .str _, fun x e => by cases e; exact lt.line, fun H1 s1 => ⟨_, rfl, ?_⟩⟩
    rw [show nameB (.str (TS lb)) = nmL lb from rfl]
    unfold chooseL at k
    cases nb : nmL lb with
    | false =>
      rw [nb] at k
      exact iteT ⟨_, rfl, by show 1 ≤ 1000; decide, tells_ofF (k H1 s1)⟩
    | true =>
    rw [nb, if_pos rfl] at k
    refine iteF ⟨Nat.zero_le _, fun Z hZ => ?_⟩
    have hZ0 := same_none s1 hZ
    have zZ := s1.trans (Same.upd (o := .lst []) hZ)
    have eZ : upd H1 Z (.lst []) Z = some (.lst []) := upd_same
    generalize upd H1 Z (.lst []) = H2 at zZ eZ
    refine ⟨_, rfl, _, _, rfl, rfl, ?_⟩
    refine ⟨_, rfl, D, rfl, .inl ⟨_, .inl (zZ _ _ hD)⟩, _, rfl, _, DGet.k (k := Sum.inr (TS lb)) (zZ _ _ hD), ?_⟩
    rw [show (valV (nuK nu) (Sum.inr (TS lb))).getD (V.int 4) = V.int (getN nu lb 4) from nu_get lb 4 nu]
    generalize hM : getN nu lb 4 = M at k
    generalize ho : altsM M r = o at k
    refine tw_of (fun m σ H' => ∃ (done : List PyData) (c : Nat) (us : List V) (x7 : Option V), m = M - done.length ∧ σ = [some (.ref L), some (.int (i : Int)), some (.ref D), some (.str (TS lb)), some (.ref Z), some (.int ((i + 1 + c : Nat) : Int)), some (.int (M : Int)), x7] ∧ (altsM (M - done.length) (ls.drop (i + 1 + c))).pre done c = o ∧ H' Z = some (.lst us) ∧ DhAll H' us done ∧ noLs done = true ∧ us.length = done.length ∧ done.length ≤ c ∧ Same H H')
      (fun σ H' => ∃ (us : List V) (done : List PyData) (c : Nat) (x7 : Option V), σ = [some (.ref L), some (.int (i : Int)), some (.ref D), some (.str (TS lb)), some (.ref Z), some (.int ((i + 1 + c : Nat) : Int)), some (.int (M : Int)), x7] ∧ o = .ok done c ∧ H' Z = some (.lst us) ∧ DhAll H' us done ∧ us.length = done.length ∧ Same H H')
      ⟨_, [], 0, [], none, rfl, rfl, by rw [← ho]; show (altsM M (ls.drop (i + 1 + 0))).pre [] 0 = _; rw [Nat.add_zero, dn]; cases altsM M r <;> simp [Out.pre], eZ, .nil, rfl, rfl, Nat.zero_le _, zZ⟩ ?_ ?_
    · rintro σ H5 ⟨us, done, c, x7, rfl, rfl, eZ5, du, lu, s5⟩
      dsimp only at k
      refine ⟨_, rfl, Z, _, rfl, .inl (SqL.of eZ5), _, rfl, D, rfl, .inl ⟨_, .inl (s5 _ _ hD)⟩, _, rfl, _, DGet.k (k := Sum.inr (TS lb)) (s5 _ _ hD), ?_⟩
      rw [show (valV (nuK nu) (Sum.inr (TS lb))).getD (V.int 2) = V.int (getN nu lb 2) from nu_get lb 2 nu, lu]
      refine ⟨_, _, rfl, rfl, _, rfl, ?_⟩
      by_cases z : done.length < getN nu lb 2
      · rw [if_pos z] at k
        rw [decide_eq_true (by omega)]
        have := k H5 s5
        rw [← Nat.add_assoc] at this
        exact iteT ⟨_, rfl, by show 1 ≤ 1000; decide, tells_ofF this⟩
      · rw [if_neg z] at k
        rw [decide_eq_false (by omega)]
        refine iteF ⟨_, rfl, _, rfl, Z, _, rfl, .inl ⟨SqL.of eZ5, fun p hp => ⟨three, fun g hg => ⟨_, rfl, two, fun b hb => ?_⟩⟩⟩⟩
        have z1 := Same.upd (o := .tup us) hp
        have z2 := Same.upd (o := .tup [.str "choose", .str (TS lb), .ref p]) hg
        have z3 := Same.upd (o := .tup [.ref g, .int ((i + 1 + c : Nat) : Int)]) hb
        have z23 := z2.trans z3
        exact k b (.ref g) _ (s5.trans (z1.trans z23)) (by rw [← Nat.add_assoc]; exact upd_same) (.tup (z3 _ _ upd_same) (.cons (.str _) (.cons (.str _) (.cons (.tup (z23 _ _ upd_same) (du.same (z1.trans z23))) .nil))))
    · rintro nx hB m σ H5 ⟨done, c, us, x7, rfl, rfl, er, eZ5, du, nl, lu, lc, s5⟩
      have out : altsM (M - done.length) (ls.drop (i + 1 + c)) = .ok [] 0 → nx [some (.ref L), some (.int (i : Int)), some (.ref D), some (.str (TS lb)), some (.ref Z), some (.int ((i + 1 + c : Nat) : Int)), some (.int (M : Int)), x7] H5 := fun z => by
        rw [z] at er
        exact hB _ _ ⟨us, done, c, x7, rfl, by rw [← er]; simp [Out.pre], eZ5, du, lu, s5⟩
      refine ⟨_, rfl, _, rfl, L, _, rfl, .inl (SqL.of (s5 _ _ hL)), _, _, rfl, rfl, _, rfl, ?_⟩
      rw [vW_len]
      have l1 := ok.len
      cases hrj : ls.drop (i + 1 + c) with
      | nil =>
        have : ls.length ≤ i + 1 + c := List.drop_eq_nil_iff.mp hrj
        rw [decide_eq_false (by omega)]
        refine iteF (iteF (out ?_))
        rw [hrj]
        cases M - done.length <;> rfl
      | cons l1 r1 =>
      obtain ⟨e1, li1, dn1⟩ := drop_get hrj
      rw [decide_eq_true (by omega)]
      refine iteT ⟨_, rfl, Z, _, rfl, .inl (SqL.of eZ5), _, rfl, _, _, rfl, rfl, _, rfl, ?_⟩
      rw [lu]
      by_cases c4 : done.length < M
      · rw [decide_eq_true (by omega)]
        rw [hrj] at er out
        obtain ⟨q, hq⟩ : ∃ q, M - done.length = q + 1 := ⟨M - done.length - 1, by omega⟩
        rw [hq, altsM] at er out
        refine iteT ⟨_, rfl, _, rfl, L, _, _, .str (TS l1), rfl, rfl, SqL.of (s5 _ _ hL), at_of (j := i + 1 + c) rfl (vW_get e1), rfl, _, rfl, ?_⟩
        by_cases sw : ¬ TS l1 = "  or"
        · rw [if_neg sw] at out
          rw [show decide (V.str (TS l1) = V.str "  or") = false from decide_eq_false (fun h => sw (by injection h))]
          exact iteF (out rfl)
        have sw := Decidable.not_not.mp sw
        rw [show decide (V.str (TS l1) = V.str "  or") = true by rw [sw]; rfl]
        rw [if_pos sw] at er
        refine iteT ?_
        refine ⟨_, fun _ _ h => h, ?_⟩
        refine ⟨_, rfl, _, rfl, _, _, rfl, rfl, L, ls, i + 1 + c + 1, rfl, s5 _ _ hL, ok, ?_⟩
        rw [dn1]
        cases hs : altM 4 r1 with
        | err n =>
          rw [hs] at er
          intro H6 s6
          subst er
          have := k H6 (s5.trans s6)
          rw [show i + 1 + c + 1 + n = i + (1 + (c + (1 + n))) by omega]
          exact this
        | ok d n =>
          rw [hs] at er
          have er : ((altsM q ((l1 :: r1).drop (1 + n))).pre [.tuple d] (1 + n)).pre done c = o := er
          rw [Out.pre_pre] at er
          intro p x H6 s6 hp hd
          have eZ6 := s6 _ _ eZ5
          have nd : noL (.tuple d) = true := alt_noL hs
          refine ⟨p, _, rfl, SqT.of hp, rfl, _, _, rfl, _, _, rfl, rfl, ?_⟩
          have b1 : us.length < sizeLine := Nat.lt_of_le_of_lt (show _ ≤ 100 by omega) (by decide)
          refine ⟨_, rfl, .inl ⟨rfl, _, SqL.of eZ6⟩, _, rfl, Z, _, _, rfl, rfl, eZ6, b1, ?_⟩
          have kt : SameT H6 (upd H6 Z (.lst (us ++ [x]))) := SameT.lst eZ6
          have s56 := s5.trans s6
          refine ⟨q, by omega, done ++ [.tuple d], c + (1 + n), us ++ [x], some x, ?_, ?_, ?_, upd_same, DhAll.append (DhAll.t kt (du.same s6) nl) (.cons (Dh.t kt hd nd) .nil), ?_, by rw [List.length_append, List.length_append, lu]; rfl, by rw [List.length_append]; show _ + 1 ≤ _; omega, fun b o eb => by rw [upd_ne (ne_of_none eb hZ0)]; exact s56 _ _ eb⟩
          · rw [List.length_append]; show q = M - (_ + 1); omega
          · rw [show i + 1 + (c + (1 + n)) = i + 1 + c + 1 + n by omega]; rfl
          · rw [List.length_append, show M - (done.length + [PyData.tuple d].length) = q by show M - (_ + 1) = q; omega, ← er, ← Nat.add_assoc (i + 1), ← List.drop_drop, hrj]
          · refine noLs_all.mpr fun e he => ?_
            rcases List.mem_append.mp he with he | he
            · exact noLs_all.mp nl e he
            · rw [List.mem_singleton.mp he]; exact nd
      · rw [decide_eq_false (by omega)]
        refine iteF (iteF (out ?_))
        rw [show M - done.length = 0 by omega]
        rfl
end
end
end K78
set_option Elab.async false
set_option linter.all false
set_option maxRecDepth 100000
set_option maxHeartbeats 4000000
namespace K78
open PySem PySem.Spec PyProof.Rows L2 Lc
/-! ## the whole text -/
def frL : LN := [102, 114, 111, 109, 32]
def srcB (l : LN) : Bool := stw frL l && nmL (cutp frL l)
def stepsM : Nat → List LN → Nu → Out (List PyData)
  | _, [], _ => .ok [] 0
  | 0, _ :: _, _ => .err 0
  | k + 1, l :: r, nu => if stw chL l = true then (chooseM l r nu).then fun c n => (stepsM k ((l :: r).drop n) (putN nu c.1 c.2.length)).pre [chooseD c] n else (stepM [] l r).then fun d n => (stepsM k ((l :: r).drop n) nu).pre [d] n
def pipeM : List LN → Out (List PyData)
  | [] => .err 0
  | l :: r => if srcB l = true then (stepsM 10 r []).sh else .err 0
theorem pipe_cons (l : LN) (r : List LN) : pipeM (l :: r) = if srcB l = true then (stepsM 10 r []).sh else .err 0 := rfl
def Out.pos {α : Type} : Out α → Option Nat
  | .ok _ _ => none
  | .err n => some n
def spSo (C : Addr) : Sp := fun vs H Q E => ∃ (l : LN), vs = [.str (TS l)] ∧ Tx l ∧ (srcB l = true → ∀ H', Same H H' → Q (.str (TS (cutp frL l))) H') ∧ (srcB l = false → ∀ H', Same H H' → TellsF C "position" H' (.int 0) E)
def spPl (C : Addr) : Sp := fun vs H Q E => ∃ (v : V), vs = [v] ∧ ((∃ t, TyN H v t ∧ t ≠ "str" ∧ TellsF C "position" H (.int 0) E) ∨ ∃ l, v = .str (TS l) ∧ LsOk (spl 10 l) ∧ l.length ≤ 200000 ∧ (∀ ds n, pipeM (spl 10 l) = .ok ds n → ∀ v H', Same H H' → Dh H' v (.tuple [.str (TS (cutp frL (hdW (spl 10 l)))), .tuple ds]) → Q v H') ∧ ∀ n, (pipeM (spl 10 l)).pos = some n → ∀ H', Same H H' → TellsF C "position" H' (.int (n : Int)) E)
theorem dhA_len {H : Hp} : ∀ {xs : List V} {ds : List PyData}, DhAll H xs ds → xs.length = ds.length
  | [], [], _ => rfl
  | _ :: xs, _ :: ds, h => by
    cases h with
    | cons _ r => rw [List.length_cons, List.length_cons, dhA_len r]
theorem SameT.dk {H : Hp} {a : Addr} {kvs : List (Key × V)} {o : HO} (h : H a = some (.dK kvs)) : SameT H (upd H a o) := fun b xs e => by rw [upd_ne (ne_of e h nofun)]; exact e
theorem alts_ok {k : Nat} {r : List LN} {ds : List PyData} {n : Nat} : altsM k r = .ok ds n → noLs ds = true := by
  induction k generalizing r ds n with
  | zero => intro h; unfold altsM at h; injection h with h _; rw [← h]; rfl
  | succ k ih =>
    intro h
    cases r with
    | nil => unfold altsM at h; injection h with h _; rw [← h]; rfl
    | cons l r =>
      rw [altsM] at h
      split at h
      · cases e : altM 4 r with
        | err m => rw [e] at h; cases h
        | ok d m =>
          rw [e] at h
          have h : (altsM k ((l :: r).drop (1 + m))).pre [.tuple d] (1 + m) = .ok ds n := h
          cases e2 : altsM k ((l :: r).drop (1 + m)) with
          | err q => rw [e2] at h; cases h
          | ok es q =>
            rw [e2] at h
            injection h with h _
            rw [← h]
            show noLs (.tuple d :: es) = true
            rw [noLs, noL, alt_noL e, ih e2]
            rfl
      · injection h with h _; rw [← h]; rfl
theorem choose_ok {l : LN} {r : List LN} {nu : Nu} {c : LN × List PyData} {n : Nat} (h : chooseM l r nu = .ok c n) : noL (chooseD c) = true ∧ 1 ≤ n := by
  unfold chooseM chooseL at h
  split at h
  · split at h
    · cases h
    · rename_i as m e
      split at h
      · cases h
      · injection h with h1 h2
        rw [← h1, ← h2]
        refine ⟨?_, Nat.le_add_right 1 m⟩
        show noL (.tuple [.str "choose", strD _, .tuple as]) = true
        rw [noL, noLs, noLs, noLs, noLs, noL, alts_ok e]
        rfl
  · cases h
section
variable {P : Program} {w : World} {K : PySem.W.Frag} {mg : Str → Option Value} {base : Heap} {f C fI : Addr} {fd fdI : FuncData}
abbrev sSo_ : Stmt := top 71
abbrev nSo_ : List Str := ["line", "source"]
abbrev pSo_ : List Str := ["line"]
theorem scSo_ : FnScope nSo_ pSo_ (defScope sSo_) := ⟨rfl, rfl, rfl, by decide +kernel, rfl, by decide +kernel, by decide +kernel⟩
section
variable {fA_ : Addr} {fdA_ : FuncData}
theorem ok_So_ (F : Fun K "read_source" "read_source" sSo_ f fd) (T : Bt mg) (Z : ErF K mg "BadText" "position" C fI) (GI : FnOk P w K mg base CX0 1 fI fdI ["self", "position"] (spIni C "position")) (bI : Binds K fdI ["self", "position"] [])
    (GA_ : FnOk P w K mg base CX0 1 fA_ fdA_ ["value"] (spName)) (mA_ : mg "is_name" = some (.ref fA_)) (kA_ : PySem.W.keepIn K (.ref fA_) = true) (bA_ : Binds K fdA_ ["value"] []) : FnOk P w K mg base (L2.CX P w) 3 f fd pSo_ (spSo C) := by
  refine F.okX scSo_ (fun vs H Q E h => ?_) (fun cdv A outer s H vs Q E hr h => ?_)
  · obtain ⟨l, rfl, _⟩ := h
    rfl
  · obtain ⟨l, rfl, tx, k1, k2⟩ := h
    have hrA_ : Room (1) _ := hr.mono (by first | decide | omega)
    have hrI : Room 2 _ := hr.mono (by first | decide | omega)
    refine ⟨_, (pss_cons (ps_set (i := 1) scSo_.nd rfl (Or.inl rfl) (pe_m1 PySem.F.slot_str_removeprefix PySem.F.type_str_removeprefix mt_removeprefix (pv 0) pe_str))
      (pss_cons (ps_if (PW.pt (pw_or (pt_not (pt_val (pe_m1 PySem.F.slot_str_startswith PySem.F.type_str_startswith mt_startswith (pv 0) pe_str))) (pw_or1 (pt_not (pt_val (pe_call GA_ hrA_ (by rfl) mA_ kA_ bA_ .nil pass0 (pa_cons (pv 1) pa_nil))))))) (pss_one (ps_raise (W := fun cls d _ H => E cls d H) rfl (takes_of rfl rfl rfl rfl) (pmk_oex Z.oex Z.iC Z.tI GI hrI bI .nil pass0 (by rfl) Z.gC (pa_cons pe_int pa_nil)))) pss_nil)
      (pss_one (ps_ret (pv 1))))), ?_⟩
    have two : 2 ≤ sizeLine := by decide
    have one : 1 ≤ sizeLine := by decide
    have three : 3 ≤ sizeLine := by decide
    have frE : CL (PySem.Str.ofString "from ") = frL := by decide +kernel
    have lt : Tx (cutp frL l) := tx.sub (cutp_sub _ _)
    unfold srcB at k1 k2
    refine ⟨_, rfl, ⟨_, rfl⟩, _, _, rfl, rfl, tx.line, ?_⟩
    rw [prefix_TS, frE]
    refine ⟨_, rfl, ⟨_, rfl⟩, _, _, rfl, rfl, _, rfl, ?_⟩
    rw [starts_TS, frE]
    cases sw : stw frL l with
    | false =>
      rw [sw] at k2
      exact iteT (iteT ⟨by show 1 ≤ 1000; decide, tells_ofF (k2 rfl H (Same.refl H))⟩)
    | true =>
    rw [sw] at k1 k2
    generalize cutp frL l = lb at lt k1 k2 ⊢
    refine iteF ⟨_, rfl, .str (TS lb), "str", rfl, .str _, fun x e => by cases e; exact lt.line, fun H1 s1 => ⟨_, rfl, ?_⟩⟩
    rw [show nameB (.str (TS lb)) = nmL lb from rfl]
    cases nb : nmL lb with
    | false =>
      rw [nb] at k2
      exact iteT ⟨by show 1 ≤ 1000; decide, tells_ofF (k2 rfl H1 s1)⟩
    | true =>
      rw [nb] at k1
      exact iteF ⟨_, rfl, k1 rfl H1 s1⟩
end
abbrev sPl : Stmt := top 72
abbrev nPl : List Str := ["text", "lines", "source", "steps", "numbers", "behind", "step"]
abbrev pPl : List Str := ["text"]
theorem scPl : FnScope nPl pPl (defScope sPl) := ⟨rfl, rfl, rfl, by decide +kernel, rfl, by decide +kernel, by decide +kernel⟩
section
variable {fA_ fB_ fC_ : Addr} {fdA_ fdB_ fdC_ : FuncData}
theorem ok_Pl (F : Fun K "read_pipeline" "read_pipeline" sPl f fd) (T : Bt mg) {ut : Tok} (mt : mg "MOST_STEPS" = some (.int 10 ut)) (Z : ErF K mg "BadText" "position" C fI) (GI : FnOk P w K mg base CX0 1 fI fdI ["self", "position"] (spIni C "position")) (bI : Binds K fdI ["self", "position"] [])
    (GA_ : FnOk P w K mg base (L2.CX P w) 3 fA_ fdA_ ["line"] (spSo C)) (mA_ : mg "read_source" = some (.ref fA_)) (kA_ : PySem.W.keepIn K (.ref fA_) = true) (bA_ : Binds K fdA_ ["line"] [])
    (GB_ : FnOk P w K mg base (L2.CX P w) 26 fB_ fdB_ ["lines", "at", "ahead"] (spSp C)) (mB_ : mg "read_step" = some (.ref fB_)) (kB_ : PySem.W.keepIn K (.ref fB_) = true) (bB_ : Binds K fdB_ ["lines", "at", "ahead"] [])
    (GC_ : FnOk P w K mg base (L2.CX P w) 28 fC_ fdC_ ["lines", "at", "numbers"] (spCh C)) (mC_ : mg "read_choose" = some (.ref fC_)) (kC_ : PySem.W.keepIn K (.ref fC_) = true) (bC_ : Binds K fdC_ ["lines", "at", "numbers"] []) : FnOk P w K mg base (L2.CX P w) 30 f fd pPl (spPl C) := by
  refine F.okX scPl (fun vs H Q E h => ?_) (fun cdv A outer s H vs Q E hr h => ?_)
  · obtain ⟨v, rfl, _⟩ := h
    rfl
  · obtain ⟨v, rfl, k⟩ := h
    have hrA_ : Room (3) _ := hr.mono (by first | decide | omega)
    have hrB_ : Room (26) _ := hr.mono (by first | decide | omega)
    have hrC_ : Room (28) _ := hr.mono (by first | decide | omega)
    have hrI : Room 2 _ := hr.mono (by first | decide | omega)
    refine ⟨_, (pss_cons (ps_if (pt_not (pt_val (pe_callB call_isi (by rfl) T.isi boot_isinstance (pa_cons (pv 0) (pa_cons (pe_bltn (v := .ty "str") (by rfl) T.str boot_str rfl) pa_nil))))) (pss_one (ps_raise (W := fun cls d _ H => E cls d H) rfl (takes_of rfl rfl rfl rfl) (pmk_oex Z.oex Z.iC Z.tI GI hrI bI .nil pass0 (by rfl) Z.gC (pa_cons pe_int pa_nil)))) pss_nil)
      (pss_cons (ps_set (i := 1) scPl.nd rfl (Or.inl rfl) (pe_m1 PySem.F.slot_str_split PySem.F.type_str_split mt_split (pv 0) pe_str))
      (pss_cons (ps_set (i := 2) scPl.nd rfl (Or.inl rfl) (pe_callS GA_ hrA_ (by rfl) mA_ kA_ bA_ (fun σ => passAt (W := fun cls d _ H => E cls d H) (takes_of rfl rfl rfl rfl) σ) (pa_cons (pe_ix ix_list (pv 1) pe_int (fun _ _ => rfl)) pa_nil)))
      (pss_cons (ps_set (i := 3) scPl.nd rfl (Or.inl rfl) (pe_lst pa_nil))
      (pss_cons (ps_set (i := 4) scPl.nd rfl (Or.inl rfl) pe_dnewK)
      (pss_cons (ps_set (i := 5) scPl.nd rfl (Or.inl rfl) pe_int)
      (pss_cons (ps_while (passes_of rfl) (pt_cmpR op_lt (pv 5) (pe_callB call_len_seq (by rfl) T.len PySem.boot_len (pa_cons (pv 1) pa_nil)) (nomark _)) (pss_cons (ps_if (pt_cmpR op_eq (pe_callB call_len_seq (by rfl) T.len PySem.boot_len (pa_cons (pv 3) pa_nil)) (pe_glob (v := .int 10) (by rfl) mt ⟨_, rfl⟩) (nomark _)) (pss_one (ps_raise (W := fun cls d _ H => E cls d H) rfl (takes_of rfl rfl rfl rfl) (pmk_oex Z.oex Z.iC Z.tI GI hrI bI .nil pass0 (by rfl) Z.gC (pa_cons (pv 5) pa_nil)))) pss_nil)
      (pss_cons (ps_if (pt_val (pe_m1 PySem.F.slot_str_startswith PySem.F.type_str_startswith mt_startswith (pe_ix ix_list (pv 1) (pv 5) (fun _ _ => rfl)) pe_str)) (pss_cons (ps_asg (pe_callS GC_ hrC_ (by rfl) mC_ kC_ bC_ (fun σ => passAt (W := fun cls d _ H => E cls d H) (takes_of rfl rfl rfl rfl) σ) (pa_cons (pv 1) (pa_cons (pv 5) (pa_cons (pv 4) pa_nil)))) (pg_tup rfl (pgs_cons (pg_name (i := 6) scPl.nd rfl (.inl rfl)) (pgs_cons (pg_name (i := 5) scPl.nd rfl (.inl rfl)) pgs_nil))))
      (pss_one (ps_dput (hu_of hr) (pv 4) (pe_ix ix_tup (pv 6) pe_int (fun _ _ => rfl)) (pe_callB call_len_seq (by rfl) T.len PySem.boot_len (pa_cons (pe_ix ix_tup (pv 6) pe_int (fun _ _ => rfl)) pa_nil)) (by rfl)))) (pss_one (ps_asg (pe_callS GB_ hrB_ (by rfl) mB_ kB_ bB_ (fun σ => passAt (W := fun cls d _ H => E cls d H) (takes_of rfl rfl rfl rfl) σ) (pa_cons (pv 1) (pa_cons (pv 5) (pa_cons pe_str pa_nil)))) (pg_tup rfl (pgs_cons (pg_name (i := 6) scPl.nd rfl (.inl rfl)) (pgs_cons (pg_name (i := 5) scPl.nd rfl (.inl rfl)) pgs_nil))))))
      (pss_one (ps_expr (pe_bm PySem.F.plainAttrs_list PySem.F.slot_list_append PySem.F.type_list_append mt_append (pv 3) (pa_cons (pv 6) pa_nil)))))))
      (pss_one (ps_ret (pe_tup (pa_cons (pv 2) (pa_cons (pe_callTy call_tuple_of (by rfl) T.tuple boot_tuple (pa_cons (pv 3) pa_nil)) pa_nil)))))))))))), ?_⟩
    have two : 2 ≤ sizeLine := by decide
    have one : 1 ≤ sizeLine := by decide
    have three : 3 ≤ sizeLine := by decide
    rcases k with ⟨t, ty, nt, k⟩ | ⟨l, rfl, ok, ll, k1, k2⟩
    · refine ⟨_, rfl, v, .ty "str", _, _, _, rfl, .ty "str", ty.x, kit_str ty.mem, _, rfl, ?_⟩
      rw [show (t == "str") = false by simpa using nt]
      exact iteT ⟨by show 1 ≤ 1000; decide, tells_ofF k⟩
    have ts : TyN H (.str (TS l)) "str" := .str _
    refine ⟨_, rfl, _, .ty "str", _, _, _, rfl, .ty "str", ts.x, kit_str ts.mem, _, rfl, iteF ?_⟩
    have bl : ((PySem.Str.ofString "\n").length == 0) = false := by decide +kernel
    have nE : (PySem.Str.ofString "\n") = ⟨#[10]⟩ := by decide +kernel
    refine ⟨_, rfl, ⟨_, rfl⟩, _, _, rfl, rfl, bl, by rw [ts_len]; exact Nat.le_trans (show _ ≤ 200002 by omega) (by decide), fun L hL => ?_⟩
    rw [nE, split_TS]
    have ne : spl 10 l ≠ [] := spl_ne _
    generalize spl 10 l = ls at ok k1 k2 ne ⊢
    have zL := Same.upd (o := .lst (vW ls)) hL
    have eL : upd H L (.lst (vW ls)) L = some (.lst (vW ls)) := upd_same
    generalize upd H L (.lst (vW ls)) = H1 at zL eL ⊢
    cases ls with
    | nil => exact absurd rfl ne
    | cons l0 r =>
    have l0t := (ok.each l0 (List.mem_cons_self)).1
    have lk := ok.len
    refine ⟨_, rfl, L, _, _, .str (TS l0), rfl, rfl, SqL.of eL, at_of (j := 0) rfl rfl, l0, rfl, l0t, fun sb H2 s2 => ?_, fun sb H2 s2 => k2 0 (by rw [pipe_cons, if_neg (by rw [sb]; decide)]; rfl) H2 (zL.trans s2)⟩
    have eL2 := s2 _ _ eL
    have s02 := zL.trans s2
    rw [pipe_cons, if_pos sb] at k1 k2
    refine ⟨Nat.zero_le _, fun Z1 hZ => ?_⟩
    have hZ0 := same_none s02 hZ
    have s03 := s02.trans (Same.upd (o := .lst []) hZ)
    have eZ : upd H2 Z1 (.lst []) Z1 = some (.lst []) := upd_same
    have eL3 := (Same.upd (o := .lst []) hZ) _ _ eL2
    generalize upd H2 Z1 (.lst []) = H3 at s03 eZ eL3 ⊢
    refine fun D hD => ?_
    have hD0 := same_none s03 hD
    have nZD : Z1 ≠ D := ne_of_none eZ hD
    have s04 := s03.trans (Same.upd (o := .dK []) hD)
    have eZ4 := (Same.upd (o := .dK []) hD) _ _ eZ
    have eL4 := (Same.upd (o := .dK []) hD) _ _ eL3
    have eD : upd H3 D (.dK []) D = some (.dK []) := upd_same
    generalize upd H3 D (.dK []) = H4 at s04 eZ4 eL4 eD ⊢
    have nLZ : L ≠ Z1 := ne_of_none eL2 hZ
    have nLD : L ≠ D := ne_of_none eL3 hD
    generalize ho : stepsM 10 r [] = o at k1 k2
    refine tw_of (fun m σ H' => ∃ (done : List PyData) (c : Nat) (us : List V) (nu : Nu) (x6 : Option V), m = r.length - c ∧ σ = [some (.str (TS l)), some (.ref L), some (.str (TS (cutp frL l0))), some (.ref Z1), some (.ref D), some (.int ((1 + c : Nat) : Int)), x6] ∧ (stepsM (10 - done.length) (r.drop c) nu).pre done c = o ∧ H' Z1 = some (.lst us) ∧ H' D = some (.dK (nuK nu)) ∧ H' L = some (.lst (vW (l0 :: r))) ∧ DhAll H' us done ∧ noLs done = true ∧ us.length = done.length ∧ done.length ≤ 10 ∧ nu.length ≤ done.length ∧ Same H H')
      (fun σ H' => ∃ (us : List V) (done : List PyData) (c : Nat) (x6 : Option V), σ = [some (.str (TS l)), some (.ref L), some (.str (TS (cutp frL l0))), some (.ref Z1), some (.ref D), some (.int ((1 + c : Nat) : Int)), x6] ∧ o = .ok done c ∧ H' Z1 = some (.lst us) ∧ us.length = done.length ∧ DhAll H' us done ∧ Same H H')
      ⟨_, [], 0, [], [], none, rfl, rfl, by rw [← ho]; show (stepsM 10 r []).pre [] 0 = _; cases stepsM 10 r [] <;> simp [Out.pre], eZ4, eD, eL4, .nil, rfl, rfl, Nat.zero_le _, Nat.zero_le _, s04⟩ ?_ ?_
    · rintro σ H5 ⟨us, done, c, x6, rfl, rfl, eZ5, lu, du, s5⟩
      exact ⟨_, rfl, _, rfl, Z1, _, rfl, .inl ⟨SqL.of eZ5, fun p hp => ⟨two, fun b hb => by
        have z1 := Same.upd (o := .tup us) hp
        have z2 := Same.upd (o := .tup [.str (TS (cutp frL l0)), .ref p]) hb
        exact k1 done (1 + c) rfl _ _ (s5.trans (z1.trans z2)) (.tup upd_same (.cons (.str _) (.cons (.tup (z2 _ _ upd_same) (du.same (z1.trans z2))) .nil)))⟩⟩⟩
    · rintro nx hB m σ H5 ⟨done, c, us, nu, x6, rfl, rfl, er, eZ5, eD5, eL5, du, nl, lu, l10, ln, s5⟩
      refine ⟨_, rfl, _, rfl, L, _, rfl, .inl (SqL.of eL5), _, _, rfl, rfl, _, rfl, ?_⟩
      rw [vW_len, List.length_cons]
      cases hrj : r.drop c with
      | nil =>
        have : r.length ≤ c := List.drop_eq_nil_iff.mp hrj
        rw [decide_eq_false (by omega)]
        rw [hrj] at er
        have er : (Out.ok [] 0 : Out (List PyData)).pre done c = o := by
          rw [← er]
          cases 10 - done.length <;> rfl
        exact iteF (hB _ _ ⟨us, done, c, x6, rfl, by rw [← er]; simp [Out.pre], eZ5, lu, du, s5⟩)
      | cons l1 r1 =>
      obtain ⟨e1, li1, dn1⟩ := drop_get hrj
      have e1' : (l0 :: r)[1 + c]? = some l1 := by rw [Nat.add_comm, List.getElem?_cons_succ]; exact e1
      have hrj' : (l0 :: r).drop (1 + c) = l1 :: r1 := by rw [Nat.add_comm, List.drop_succ_cons]; exact hrj
      have l1k := ok.each l1 (List.mem_of_getElem? e1')
      rw [decide_eq_true (by omega)]
      rw [hrj] at er
      refine iteT ⟨_, fun _ _ h => h, ?_⟩
      refine ⟨_, rfl, Z1, _, rfl, .inl (SqL.of eZ5), rfl, _, rfl, ?_⟩
      rw [lu]
      by_cases c10 : done.length = 10
      · rw [show decide (V.int (done.length : Int) = V.int 10) = true by rw [c10]; rfl]
        rw [c10] at er
        have er : (Out.err 0 : Out (List PyData)).pre done c = o := er
        have := k2 (1 + c) (by rw [← er]; rfl) H5 s5
        exact iteT ⟨_, rfl, by show 1 ≤ 1000; decide, tells_ofF this⟩
      rw [show decide (V.int (done.length : Int) = V.int 10) = false from decide_eq_false (fun h => c10 (by injection h with h; omega))]
      obtain ⟨q, hq⟩ : ∃ q, 10 - done.length = q + 1 := ⟨10 - done.length - 1, by omega⟩
      rw [hq, stepsM] at er
      refine iteF ⟨_, rfl, _, rfl, L, _, _, .str (TS l1), rfl, rfl, SqL.of eL5, at_of (j := 1 + c) rfl (vW_get e1'), ⟨_, rfl⟩, _, _, rfl, rfl, _, rfl, ?_⟩
      have chE : CL (PySem.Str.ofString "choose ") = chL := by decide +kernel
      rw [starts_TS, chE]
      have b1 : us.length < sizeLine := Nat.lt_of_le_of_lt (show _ ≤ 10 by omega) (by decide)
      cases sw : stw chL l1 with
      | false =>
        rw [sw, if_neg (by decide)] at er
        refine iteF ⟨_, rfl, _, rfl, L, l0 :: r, 1 + c, [], l1, r1, rfl, eL5, ok, hrj', by decide, ?_⟩
        cases hs : stepM [] l1 r1 with
        | err n =>
          rw [hs] at er
          have er : (Out.err n : Out (List PyData)).pre done c = o := er
          intro H6 s6
          have := k2 (1 + c + n) (by rw [← er, Nat.add_assoc]; rfl) H6 (s5.trans s6)
          exact this
        | ok d n =>
          rw [hs] at er
          have er : ((stepsM q ((l1 :: r1).drop n) nu).pre [d] n).pre done c = o := er
          rw [Out.pre_pre] at er
          intro p x H6 s6 hp hd
          have eZ6 := s6 _ _ eZ5
          obtain ⟨nd, n1⟩ := step_noL hs
          refine ⟨p, _, rfl, SqT.of hp, rfl, _, _, rfl, _, _, rfl, rfl, ?_⟩
          refine ⟨_, rfl, .inl ⟨rfl, _, SqL.of eZ6⟩, _, rfl, Z1, _, _, rfl, rfl, eZ6, b1, ?_⟩
          have kt : SameT H6 (upd H6 Z1 (.lst (us ++ [x]))) := SameT.lst eZ6
          have s56 := s5.trans s6
          refine ⟨r.length - (c + n), by omega, done ++ [d], c + n, us ++ [x], nu, some x, rfl, ?_, ?_, upd_same, by rw [upd_ne (Ne.symm nZD)]; exact s6 _ _ eD5, by rw [upd_ne nLZ]; exact s6 _ _ eL5, DhAll.append (DhAll.t kt (du.same s6) nl) (.cons (Dh.t kt hd nd) .nil), ?_, by rw [List.length_append, List.length_append, lu]; rfl, by rw [List.length_append]; show _ + 1 ≤ 10; omega, by rw [List.length_append]; show _ ≤ _ + 1; omega, fun b o eb => by rw [upd_ne (ne_of_none eb hZ0)]; exact s56 _ _ eb⟩
          · rw [← Nat.add_assoc]; rfl
          · rw [List.length_append, show 10 - (done.length + [d].length) = q by show 10 - (_ + 1) = q; omega, ← er, ← List.drop_drop, hrj]
          · refine noLs_all.mpr fun e he => ?_
            rcases List.mem_append.mp he with he | he
            · exact noLs_all.mp nl e he
            · rw [List.mem_singleton.mp he]; exact nd
      | true =>
        rw [sw, if_pos rfl] at er
        refine iteT ⟨_, rfl, _, rfl, _, rfl, L, D, l0 :: r, 1 + c, l1, r1, nu, rfl, eL5, ok, hrj', eD5, ?_⟩
        cases hs : chooseM l1 r1 nu with
        | err n =>
          rw [hs] at er
          have er : (Out.err n : Out (List PyData)).pre done c = o := er
          intro H6 s6
          have := k2 (1 + c + n) (by rw [← er, Nat.add_assoc]; rfl) H6 (s5.trans s6)
          exact this
        | ok ca n =>
          rw [hs] at er
          have er : ((stepsM q ((l1 :: r1).drop n) (putN nu ca.1 ca.2.length)).pre [chooseD ca] n).pre done c = o := er
          rw [Out.pre_pre] at er
          obtain ⟨lb, as⟩ := ca
          intro p x H6 s6 hp hd
          have eZ6 := s6 _ _ eZ5
          have eD6 := s6 _ _ eD5
          obtain ⟨nd, n1⟩ := choose_ok hs
          have hd0 : Dh H6 x (chooseD (lb, as)) := hd
          cases hd with
          | @tup q1 xs _ eq hxs =>
          cases hxs with
          | cons h1 hxs => cases hxs with
            | cons h2 hxs => cases hxs with
              | cons h3 hxs =>
          cases hxs
          cases h1
          cases h2
          cases h3 with
          | @tup q2 ys _ eq2 hys =>
          have ly : ys.length = as.length := dhA_len hys
          refine ⟨p, _, rfl, SqT.of hp, rfl, _, _, rfl, _, _, rfl, rfl, ?_⟩
          refine ⟨_, rfl, q1, _, _, .ref q2, rfl, rfl, SqT.of eq, at_of (j := 2) rfl rfl, q2, _, rfl, .inr (SqT.of eq2), _, rfl, _, rfl, q1, _, _, .str (TS lb), rfl, rfl, SqT.of eq, at_of (j := 1) rfl rfl, D, _, rfl, DPut.k (k := Sum.inr (TS lb)) eD6 ?_, ?_⟩
          · unfold nuK
            rw [List.length_map]
            exact Nat.lt_of_le_of_lt (show _ ≤ 10 by omega) (by decide)
          rw [ly, nu_put]
          have eD7 : upd H6 D (.dK (nuK (putN nu lb as.length))) D = some (.dK (nuK (putN nu lb as.length))) := upd_same
          have kt0 : SameT H6 (upd H6 D (.dK (nuK (putN nu lb as.length)))) := SameT.dk eD6
          have eZ7 : upd H6 D (.dK (nuK (putN nu lb as.length))) Z1 = some (.lst us) := by rw [upd_ne nZD]; exact eZ6
          have eL7 : upd H6 D (.dK (nuK (putN nu lb as.length))) L = some (.lst (vW (l0 :: r))) := by rw [upd_ne nLD]; exact s6 _ _ eL5
          have s67 : ∀ b o, H b = some o → upd H6 D (.dK (nuK (putN nu lb as.length))) b = some o := fun b o eb => by rw [upd_ne (ne_of_none eb hD0)]; exact s6 _ _ (s5 _ _ eb)
          have du7 := DhAll.t kt0 (du.same s6) nl
          have hd7 := Dh.t kt0 hd0 nd
          generalize upd H6 D (.dK (nuK (putN nu lb as.length))) = H7 at eD7 eZ7 eL7 s67 du7 hd7 ⊢
          refine ⟨_, rfl, .inl ⟨rfl, _, SqL.of eZ7⟩, _, rfl, Z1, _, _, rfl, rfl, eZ7, b1, ?_⟩
          have kt : SameT H7 (upd H7 Z1 (.lst (us ++ [.ref q1]))) := SameT.lst eZ7
          have pl := putN_len nu lb as.length
          refine ⟨r.length - (c + n), by omega, done ++ [chooseD (lb, as)], c + n, us ++ [.ref q1], putN nu lb as.length, some (.ref q1), rfl, ?_, ?_, upd_same, by rw [upd_ne (Ne.symm nZD)]; exact eD7, by rw [upd_ne nLZ]; exact eL7, DhAll.append (DhAll.t kt du7 nl) (.cons (Dh.t kt hd7 nd) .nil), ?_, by rw [List.length_append, List.length_append, lu]; rfl, by rw [List.length_append]; show _ + 1 ≤ 10; omega, by rw [List.length_append]; show _ ≤ _ + 1; omega, fun b o eb => by rw [upd_ne (ne_of_none eb hZ0)]; exact s67 _ _ eb⟩
          · rw [← Nat.add_assoc]; rfl
          · rw [List.length_append, show 10 - (done.length + [chooseD (lb, as)].length) = q by show 10 - (_ + 1) = q; omega, ← er, ← List.drop_drop, hrj]
          · refine noLs_all.mpr fun e he => ?_
            rcases List.mem_append.mp he with he | he
            · exact noLs_all.mp nl e he
            · rw [List.mem_singleton.mp he]; exact nd
end
end
end K78
set_option Elab.async false
set_option linter.all false
set_option maxRecDepth 100000
set_option maxHeartbeats 4000000
namespace K78
open PySem PySem.Spec PyProof.Rows L2 Lc
section
variable {P : Program} {w : World} {K : PySem.W.Frag} {mg : Str → Option Value} {base : Heap} {f C fI oA : Addr} {fd fdI : FuncData} {u1 : Tok}
abbrev sCp : Stmt := top 33
abbrev nCp : List Str := ["pieces", "at", "wanted", "position", "piece"]
abbrev pCp : List Str := ["pieces", "at", "wanted"]
theorem scCp : FnScope nCp pCp (defScope sCp) := ⟨rfl, rfl, rfl, by decide +kernel, rfl, by decide +kernel, by decide +kernel⟩
section
theorem ok_Cp (F : Fun K "check_piece" "check_piece" sCp f fd) (T : Bt mg) (Z : ErF K mg "BadText" "position" C fI) (GI : FnOk P w K mg base CX0 1 fI fdI ["self", "position"] (spIni C "position")) (bI : Binds K fdI ["self", "position"] []) : FnOk P w K mg base (L2.CX P w) 3 f fd pCp (spCp C) := by
  refine F.okX scCp (fun vs H Q E h => ?_) (fun cdv A outer s H vs Q E hr h => ?_)
  · obtain ⟨P, rs, l, j, p, tk, rfl, _⟩ := h
    rfl
  · obtain ⟨P, rs, l, j, p, tk, rfl, pc, dj, lp, k1, k2⟩ := h
    have hrI : Room 2 _ := hr.mono (by first | decide | omega)
    refine ⟨_, (pss_cons (ps_asg (pe_ix ix_list (pv 0) (pv 1) (fun _ _ => rfl)) (pg_tup rfl (pgs_cons (pg_name (i := 3) scCp.nd rfl (.inl rfl)) (pgs_cons (pg_name (i := 4) scCp.nd rfl (.inl rfl)) pgs_nil))))
      (pss_one (ps_if (pt_cmpR op_ne (pv 4) (pv 2) (nomark _)) (pss_one (ps_raise (W := fun cls d _ H => E cls d H) rfl (takes_of rfl rfl rfl rfl) (pmk_oex Z.oex Z.iC Z.tI GI hrI bI .nil pass0 (by rfl) Z.gC (pa_cons (pv 3) pa_nil)))) pss_nil))), ?_⟩
    obtain ⟨r, e1, e2⟩ := pcs_at pc (pf_at lp dj)
    refine ⟨_, rfl, _, rfl, P, _, _, .ref r, rfl, rfl, SqL.of pc.1, at_of (j := j) rfl e1, r, _, rfl, SqT.of e2, rfl, _, _, rfl, _, _, rfl, rfl, ?_⟩
    refine ⟨_, rfl, _, rfl, rfl, _, rfl, ?_⟩
    show if (!decide (V.str (TS (hdL l p)) = V.str (TS tk))) = true then _ else _
    by_cases h : hdL l p = tk
    · rw [decide_eq_true (ts_eq.mpr h)]
      exact iteF (k1 h)
    · rw [decide_eq_false (fun q => h (ts_eq.mp q))]
      exact iteT ⟨_, rfl, by show 1 ≤ 1000; decide, tells_ofF (k2 h)⟩
end
abbrev sRf : Stmt := top 34
abbrev nRf : List Str := ["pieces", "at", "depth", "position", "piece", "leaf"]
abbrev pRf : List Str := ["pieces", "at", "depth"]
theorem scRf : FnScope nRf pRf (defScope sRf) := ⟨rfl, rfl, rfl, by decide +kernel, rfl, by decide +kernel, by decide +kernel⟩
section
variable {fA_ fB_ : Addr} {fdA_ fdB_ : FuncData}
theorem ok_Rf (F : Fun K "read_form" "read_form" sRf f fd) (T : Bt mg) (n : Nat) (mP : mg "DEEPEST" = some (.int 8 u1)) (Z : ErF K mg "BadText" "position" C fI) (GI : FnOk P w K mg base CX0 1 fI fdI ["self", "position"] (spIni C "position")) (bI : Binds K fdI ["self", "position"] [])
    (GA_ : FnOk P w K mg base (L2.CX P w) (5 + 2 * n) fA_ fdA_ ["pieces", "at", "depth"] (spRoP C n)) (mA_ : mg "read_operation" = some (.ref fA_)) (kA_ : PySem.W.keepIn K (.ref fA_) = true) (bA_ : Binds K fdA_ ["pieces", "at", "depth"] [])
    (GB_ : FnOk P w K mg base CX0 5 fB_ fdB_ ["token"] (spRl)) (mB_ : mg "read_leaf" = some (.ref fB_)) (kB_ : PySem.W.keepIn K (.ref fB_) = true) (bB_ : Binds K fdB_ ["token"] []) : FnOk P w K mg base (L2.CX P w) (5 + 2 * n + 1) f fd pRf (spRf C n) := by
  refine F.okX scRf (fun vs H Q E h => ?_) (fun cdv A outer s H vs Q E hr h => ?_)
  · obtain ⟨P, rs, l, i, p, dp, rfl, _⟩ := h
    rfl
  · obtain ⟨P, rs, l, i, p, dp, rfl, pc, di, lp, tx, ld, ko⟩ := h
    have hrA_ : Room ((5 + 2 * n)) _ := hr.mono (by first | decide | omega)
    have hrB_ : Room (5) _ := hr.mono (by first | decide | omega)
    have hrI : Room 2 _ := hr.mono (by first | decide | omega)
    refine ⟨_, (pss_cons (ps_asg (pe_ix ix_list (pv 0) (pv 1) (fun _ _ => rfl)) (pg_tup rfl (pgs_cons (pg_name (i := 3) scRf.nd rfl (.inl rfl)) (pgs_cons (pg_name (i := 4) scRf.nd rfl (.inl rfl)) pgs_nil))))
      (pss_cons (ps_if (pt_cmpR op_gt (pv 2) (pe_glob (v := .int 8) (by rfl) mP ⟨_, rfl⟩) (nomark _)) (pss_one (ps_raise (W := fun cls d _ H => E cls d H) rfl (takes_of rfl rfl rfl rfl) (pmk_oex Z.oex Z.iC Z.tI GI hrI bI .nil pass0 (by rfl) Z.gC (pa_cons (pv 3) pa_nil)))) pss_nil)
      (pss_cons (ps_if (pt_cmpR op_eq (pv 4) pe_str (nomark _)) (pss_one (ps_ret (pe_callS GA_ hrA_ (by rfl) mA_ kA_ bA_ (fun σ => passAt (W := fun cls d _ H => E cls d H) (takes_of rfl rfl rfl rfl) σ) (pa_cons (pv 0) (pa_cons (pe_op op_add (pv 1) pe_int) (pa_cons (pv 2) pa_nil)))))) pss_nil)
      (pss_cons (ps_set (i := 5) scRf.nd rfl (Or.inl rfl) (pe_call GB_ hrB_ (by rfl) mB_ kB_ bB_ .nil pass0 (pa_cons (pv 4) pa_nil)))
      (pss_cons (ps_if (pt_cmpR op_isN (pv 5) pe_non (nomark _)) (pss_one (ps_raise (W := fun cls d _ H => E cls d H) rfl (takes_of rfl rfl rfl rfl) (pmk_oex Z.oex Z.iC Z.tI GI hrI bI .nil pass0 (by rfl) Z.gC (pa_cons (pv 3) pa_nil)))) pss_nil)
      (pss_one (ps_ret (pe_tup (pa_cons (pv 5) (pa_cons (pe_op op_add (pv 1) pe_int) pa_nil)))))))))), ?_⟩
    have two : 2 ≤ sizeLine := by decide
    have par : CL (PySem.Str.ofString "(") = [40] := by decide +kernel
    obtain ⟨r, e1, e2⟩ := pcs_at pc (pf_at lp di)
    refine ⟨_, rfl, _, rfl, P, _, _, .ref r, rfl, rfl, SqL.of pc.1, at_of (j := i) rfl e1, r, _, rfl, SqT.of e2, rfl, _, _, rfl, _, _, rfl, rfl, ?_⟩
    refine ⟨_, rfl, _, _, rfl, rfl, _, rfl, ?_⟩
    cases n with
    | zero =>
      rw [decide_eq_true (by omega)]
      exact iteT ⟨_, rfl, by show 1 ≤ 1000; decide, tells_ofF (ko.bad rfl H (Same.refl H))⟩
    | succ n =>
    rw [decide_eq_false (by omega)]
    refine iteF ⟨_, rfl, rfl, _, rfl, ?_⟩
    rw [dec_ts par]
    have rdS : rd l (n + 1) p = if l.length ≤ p then (.none, p) else if l[p]? = some 40 then rdo (rd l n) l (p + 1) else if isNo (leafD (tokL l p)) = true then (.none, p) else (leafD (tokL l p), p + (tokL l p).length) := by rw [rd]
    by_cases op : hdL l p = [40]
    · rw [decide_eq_true op]
      have e40 := (hd_is (.inl rfl)).mp op
      have lt : p < l.length := (List.getElem?_eq_some_iff.mp e40).1
      have st := pf_step lt di
      rw [op] at st
      rw [rdS, if_neg (by omega), if_pos e40] at ko
      exact iteT ⟨_, rfl, _, rfl, _, _, rfl, rfl, _, rfl, P, rs, l, i + 1, p + 1, dp, by rw [show ((i + 1 : Nat) : Int) = (i : Int) + 1 by omega] <;> rfl, pc, st, lt, tx, by omega, ko⟩
    · rw [decide_eq_false op]
      have n40 : ¬ l[p]? = some 40 := fun z => op ((hd_is (.inl rfl)).mpr z)
      have th : Tx (hdL l p) := by
        cases e : l[p]? with
        | none => rw [hd_none (List.getElem?_eq_none_iff.mp e)]; exact ⟨Nat.zero_le _, nofun⟩
        | some c =>
          by_cases s : sgl c
          · rw [hd_sgl e s]
            exact ⟨by show 1 ≤ 400000; decide, fun x hx => by rw [List.mem_singleton.mp hx]; exact tx.ok c (List.mem_of_getElem? e)⟩
          · rw [hd_tok e s]
            exact tx.sub ((List.takeWhile_sublist _).trans (List.drop_sublist _ _))
      refine iteF ⟨_, rfl, hdL l p, rfl, th, fun v H' s' hv => ⟨_, rfl, rfl, _, rfl, ?_⟩⟩
      rw [dh_non hv]
      rw [leaf_hd] at hv
      cases z : isNo (leafD (hdL l p)) with
      | true =>
        refine iteT ⟨_, rfl, by show 1 ≤ 1000; decide, tells_ofF ?_⟩
        have q : rd l (n + 1) p = (.none, p) := by
          rw [rdS]
          by_cases ge : l.length ≤ p
          · rw [if_pos ge]
          · rw [if_neg ge, if_neg n40, if_pos (by rw [← leaf_hd]; exact z)]
        have := ko.bad
        rw [q] at this
        exact this rfl H' s'
      | false =>
        have z2 : isNo (leafD (tokL l p)) = false := by rw [← leaf_hd]; exact z
        have lt : p < l.length := by
          by_cases lt : p < l.length
          · exact lt
          · rw [tok_none (by omega)] at z2
            exact absurd z2 (by decide +kernel)
        have ht : hdL l p = tokL l p := by
          by_cases s : sgl (l[p]'lt)
          · rw [tok_sgl (List.getElem?_eq_getElem lt) s] at z2
            exact absurd z2 (by decide +kernel)
          · exact hd_tok (List.getElem?_eq_getElem lt) s
        have q : rd l (n + 1) p = (leafD (tokL l p), p + (tokL l p).length) := by
          rw [rdS, if_neg (by omega), if_neg n40, if_neg (by rw [z2]; decide)]
        have kg := ko.good
        rw [q] at kg
        have st := pf_step lt di
        rw [ht] at st
        refine iteF ⟨_, rfl, _, rfl, _, _, rfl, rfl, two, fun q hq => ?_⟩
        have zq := Same.upd (o := .tup [v, .int ((i : Int) + 1)]) hq
        exact kg z2 q v (i + 1) _ (s'.trans zq) (by rw [upd_same]; rfl) (hv.same zq) st (tok_len (Nat.le_of_lt lt))
end
end
end K78
set_option Elab.async false
set_option linter.all false
set_option maxRecDepth 100000
set_option maxHeartbeats 4000000
namespace K78
open PySem PySem.Spec PyProof.Rows L2 Lc
section
variable {P : Program} {w : World} {K : PySem.W.Frag} {mg : Str → Option Value} {base : Heap} {f C fI oA : Addr} {fd fdI : FuncData} {u1 : Tok}
abbrev sRo : Stmt := top 35
abbrev nRo : List Str := ["pieces", "at", "depth", "position", "word", "parts", "behind", "kind", "operand"]
abbrev pRo : List Str := ["pieces", "at", "depth"]
theorem scRo : FnScope nRo pRo (defScope sRo) := ⟨rfl, rfl, rfl, by decide +kernel, rfl, by decide +kernel, by decide +kernel⟩
section
variable {fA_ fB_ : Addr} {fdA_ fdB_ : FuncData}
theorem ok_Ro (F : Fun K "read_operation" "read_operation" sRo f fd) (T : Bt mg) (n : Nat) (OA : OpsA K w mg oA) (Z : ErF K mg "BadText" "position" C fI) (GI : FnOk P w K mg base CX0 1 fI fdI ["self", "position"] (spIni C "position")) (bI : Binds K fdI ["self", "position"] [])
    (GA_ : FnOk P w K mg base (L2.CX P w) 3 fA_ fdA_ ["pieces", "at", "wanted"] (spCp C)) (mA_ : mg "check_piece" = some (.ref fA_)) (kA_ : PySem.W.keepIn K (.ref fA_) = true) (bA_ : Binds K fdA_ ["pieces", "at", "wanted"] [])
    (GB_ : FnOk P w K mg base (L2.CX P w) (5 + 2 * n + 1) fB_ fdB_ ["pieces", "at", "depth"] (spRf C n)) (mB_ : mg "read_form" = some (.ref fB_)) (kB_ : PySem.W.keepIn K (.ref fB_) = true) (bB_ : Binds K fdB_ ["pieces", "at", "depth"] []) : FnOk P w K mg base (L2.CX P w) (5 + 2 * n + 1 + 1) f fd pRo (spRo C n) := by
  refine F.okX scRo (fun vs H Q E h => ?_) (fun cdv A outer s H vs Q E hr h => ?_)
  · obtain ⟨P, rs, l, i, p, dp, rfl, _⟩ := h
    rfl
  · obtain ⟨P, rs, l, i, p, dp, rfl, pc, di, lp, tx, ld, ko⟩ := h
    have hrA_ : Room (3) _ := hr.mono (by first | decide | omega)
    have hrB_ : Room ((5 + 2 * n + 1)) _ := hr.mono (by first | decide | omega)
    have hrI : Room 2 _ := hr.mono (by first | decide | omega)
    obtain ⟨es, nn, KD⟩ := OA.d
    refine ⟨_, (pss_cons (ps_asg (pe_ix ix_list (pv 0) (pv 1) (fun _ _ => rfl)) (pg_tup rfl (pgs_cons (pg_name (i := 3) scRo.nd rfl (.inl rfl)) (pgs_cons (pg_name (i := 4) scRo.nd rfl (.inl rfl)) pgs_nil))))
      (pss_cons (ps_if (pt_cmpR (op_notIn_kd KD) (pv 4) (pe_glob (v := .ref oA) (by rfl) OA.g rfl) (by rfl)) (pss_one (ps_raise (W := fun cls d _ H => E cls d H) rfl (takes_of rfl rfl rfl rfl) (pmk_oex Z.oex Z.iC Z.tI GI hrI bI .nil pass0 (by rfl) Z.gC (pa_cons (pv 3) pa_nil)))) pss_nil)
      (pss_cons (ps_set (i := 5) scRo.nd rfl (Or.inl rfl) (pe_lst (pa_cons (pv 4) pa_nil)))
      (pss_cons (ps_set (i := 6) scRo.nd rfl (Or.inl rfl) (pe_op op_add (pv 1) pe_int))
      (pss_cons (ps_for (passes_of rfl) rfl (pi_tup (pe_ix ix_kdict (pe_glob (v := .ref oA) (by rfl) OA.g rfl) (pv 4) (fun _ _ => rfl))) (pg_name (i := 7) scRo.nd rfl (.inl rfl)) (pss_cons (ps_expr (pe_callS GA_ hrA_ (by rfl) mA_ kA_ bA_ (fun σ => passAt (W := fun cls d _ H => E cls d H) (takes_of rfl rfl rfl rfl) σ) (pa_cons (pv 0) (pa_cons (pv 6) (pa_cons pe_str pa_nil)))))
      (pss_cons (ps_asg (pe_callS GB_ hrB_ (by rfl) mB_ kB_ bB_ (fun σ => passAt (W := fun cls d _ H => E cls d H) (takes_of rfl rfl rfl rfl) σ) (pa_cons (pv 0) (pa_cons (pe_op op_add (pv 6) pe_int) (pa_cons (pe_op op_add (pv 2) pe_int) pa_nil)))) (pg_tup rfl (pgs_cons (pg_name (i := 8) scRo.nd rfl (.inl rfl)) (pgs_cons (pg_name (i := 6) scRo.nd rfl (.inl rfl)) pgs_nil))))
      (pss_one (ps_expr (pe_bm PySem.F.plainAttrs_list PySem.F.slot_list_append PySem.F.type_list_append mt_append (pv 5) (pa_cons (pv 8) pa_nil)))))))
      (pss_cons (ps_expr (pe_callS GA_ hrA_ (by rfl) mA_ kA_ bA_ (fun σ => passAt (W := fun cls d _ H => E cls d H) (takes_of rfl rfl rfl rfl) σ) (pa_cons (pv 0) (pa_cons (pv 6) (pa_cons pe_str pa_nil)))))
      (pss_one (ps_ret (pe_tup (pa_cons (pe_callTy call_tuple_of (by rfl) T.tuple boot_tuple (pa_cons (pv 5) pa_nil)) (pa_cons (pe_op op_add (pv 6) pe_int) pa_nil))))))))))), ?_⟩
    have two : 2 ≤ sizeLine := by decide
    obtain ⟨r, e1, e2⟩ := pcs_at pc (pf_at lp di)
    refine ⟨_, rfl, _, rfl, P, _, _, .ref r, rfl, rfl, SqL.of pc.1, at_of (j := i) rfl e1, r, _, rfl, SqT.of e2, rfl, _, _, rfl, _, _, rfl, rfl, ?_⟩
    cases ops : opsV (TS (hdL l p)) with
    | none =>
      refine ⟨_, rfl, TS (hdL l p), _, rfl, rfl, OA.no _ ops, _, rfl, iteT ⟨_, rfl, by show 1 ≤ 1000; decide, tells_ofF ?_⟩⟩
      have q : rdo (rd l n) l p = (.none, p) := by
        unfold rdo
        rw [if_pos (nops_none (by rw [← ops_hd]; exact ops))]
      have := ko.bad
      rw [q] at this
      exact this rfl H (Same.refl H)
    | some os =>
    obtain ⟨ht, lt⟩ := ops_tok ops
    obtain ⟨_, _, l1, l3, _⟩ := opsV_words ops
    have st := pf_step lt di
    obtain ⟨oa, kd1, kd2, hoa⟩ := OA.at_ _ os ops
    have q0 : rdo (rd l n) l p = rds (rd l n) l os.length (p + (tokL l p).length) [.str (TS (tokL l p))] := by
      unfold rdo
      rw [nops_some (by rw [← ht]; exact ops), if_neg (by omega)]
    rw [q0] at ko
    have lt2 := tok_len (Nat.le_of_lt lt)
    rw [ht] at ops kd1 kd2 st ⊢
    have tks : Tx (tokL l p) := tx.sub ((List.takeWhile_sublist _).trans (List.drop_sublist _ _))
    generalize tokL l p = wd at *
    generalize hres : rds (rd l n) l os.length (p + wd.length) [.str (TS wd)] = res at ko
    refine ⟨_, rfl, TS wd, _, rfl, rfl, kd2, _, rfl, iteF ?_⟩
    refine ⟨_, rfl, by show 1 ≤ sizeLine; decide, fun Z hZ => ?_⟩
    have zZ := Same.upd (o := .lst [.str (TS wd)]) hZ
    refine ⟨_, rfl, _, _, rfl, rfl, ?_⟩
    refine ⟨_, rfl, oA, TS wd, _, rfl, rfl, kd1, oa, rfl, ⟨_, hoa _⟩, for_tup (K := K) (a := oa) (xs := os) (fun j σ H' => ∃ (us : List V) (acc : List PyData) (b q : Nat) (x7 x8 : Option V), σ = [some (.ref P), some (.int (i : Int)), some (.int (dp : Int)), some (.int (p : Int)), some (.str (TS wd)), some (.ref Z), some (.int (b : Int)), x7, x8] ∧ (PF l 0).drop b = PF l q ∧ q ≤ l.length ∧ rds (rd l n) l (os.length - j) q acc = res ∧ H' Z = some (.lst us) ∧ DhAll H' us acc ∧ (∀ d ∈ acc, noL d = true) ∧ us.length = j + 1 ∧ Same H H') ⟨[.str (TS wd)], [.str (TS wd)], i + 1, p + wd.length, none, none, by rw [show ((i + 1 : Nat) : Int) = (i : Int) + 1 by omega] <;> rfl, st, lt2, hres, upd_same, .cons (.str _) .nil, fun d hd => by rw [List.mem_singleton.mp hd]; rfl, rfl, zZ⟩ (fun _ _ H' _ _ => hoa H') ?_ ?_⟩
    · rintro j x σ H1 hx ⟨us, acc, b, q, x7, x8, rfl, dq, lq, er, hZ1, du, nl, lu, s1⟩
      have lj : j < os.length := (List.getElem?_eq_some_iff.mp hx).1
      rw [show os.length - j = (os.length - (j + 1)) + 1 by omega, rds] at er
      have pc1 := pc.same s1
      have sp : PySem.Str.ofString " " = TS [32] := by decide +kernel
      refine ⟨_, rfl, _, rfl, P, rs, l, b, q, [32], by rw [sp] <;> rfl, pc1, dq, lq, fun h32 => ?_, fun h32 => ?_⟩
      · have e32 := (hd_is (.inr (.inr rfl))).mp h32
        have ltq : q < l.length := (List.getElem?_eq_some_iff.mp e32).1
        have st1 := pf_step ltq dq
        rw [h32] at st1
        rw [if_pos e32] at er
        refine ⟨_, rfl, _, rfl, _, _, rfl, rfl, _, rfl, _, _, rfl, rfl, P, rs, l, b + 1, q + 1, dp + 1, by rw [show ((b + 1 : Nat) : Int) = (b : Int) + 1 by omega, show ((dp + 1 : Nat) : Int) = (dp : Int) + 1 by omega] <;> rfl, pc1, st1, ltq, tx, by omega, fun z r2 e b2 H2 s2 hr2 he d2 l2 => ?_, fun z H2 s2 => ?_⟩
        · rw [if_neg (by rw [z]; decide)] at er
          refine ⟨r2, _, rfl, SqT.of hr2, rfl, _, _, rfl, _, _, rfl, rfl, ?_⟩
          have hZ2 := s2 _ _ hZ1
          refine ⟨_, rfl, .inl ⟨rfl, _, SqL.of hZ2⟩, _, rfl, Z, _, _, rfl, rfl, hZ2, Nat.lt_of_le_of_lt (show _ ≤ 4 by omega) (by decide), ?_⟩
          have kt : SameT H2 (upd H2 Z (.lst (us ++ [e]))) := SameT.lst hZ2
          have nr : noL (rd l n (q + 1)).1 = true := rd_noL n _
          refine ⟨us ++ [e], _, b2, _, _, _, rfl, d2, l2, er, upd_same, DhAll.append (DhAll.t kt (DhAll.same s2 du) (noLs_all.mpr nl)) (.cons (he.t kt nr) .nil), fun d hd => ?_, by rw [List.length_append, lu]; rfl, fun b' o' eb' => by rw [upd_ne (ne_of_none eb' hZ)]; exact s2 _ _ (s1 _ _ eb')⟩
          rcases List.mem_append.mp hd with hd | hd
          · exact nl d hd
          · rw [List.mem_singleton.mp hd]; exact nr
        · rw [if_pos z] at er
          have := ko.bad
          rw [← er] at this
          exact this rfl H2 (s1.trans s2)
      · have n32 : ¬ l[q]? = some 32 := fun z => h32 ((hd_is (.inr (.inr rfl))).mpr z)
        rw [if_neg n32] at er
        have := ko.bad
        rw [← er] at this
        exact this rfl H1 s1
    · rintro σ H1 ⟨us, acc, b, q, x7, x8, rfl, dq, lq, er, hZ1, du, nl, lu, s1⟩
      rw [Nat.sub_self, rds] at er
      have sp : PySem.Str.ofString ")" = TS [41] := by decide +kernel
      refine ⟨_, rfl, _, rfl, P, rs, l, b, q, [41], by rw [sp] <;> rfl, pc.same s1, dq, lq, fun h41 => ?_, fun h41 => ?_⟩
      · have e41 := (hd_is (.inr (.inl rfl))).mp h41
        have ltq : q < l.length := (List.getElem?_eq_some_iff.mp e41).1
        have st1 := pf_step ltq dq
        rw [h41] at st1
        rw [if_pos e41] at er
        have kg := ko.good
        rw [← er] at kg
        refine ⟨_, rfl, Z, _, rfl, .inl ⟨SqL.of hZ1, fun q' hq => ?_⟩⟩
        have zq := Same.upd (o := .tup us) hq
        refine ⟨_, rfl, _, _, rfl, rfl, two, fun u hu => ?_⟩
        have zu := Same.upd (o := .tup [.ref q', .int ((b : Int) + 1)]) hu
        exact kg rfl u (.ref q') (b + 1) _ ((s1.trans zq).trans zu) (by rw [upd_same]; rfl) (.tup (zu _ _ upd_same) (DhAll.same (zq.trans zu) du)) st1 ltq
      · have n41 : ¬ l[q]? = some 41 := fun z => h41 ((hd_is (.inr (.inl rfl))).mpr z)
        rw [if_neg n41] at er
        have := ko.bad
        rw [← er] at this
        exact this rfl H1 s1
end
abbrev sRe : Stmt := top 36
abbrev nRe : List Str := ["text", "pieces", "expression", "behind"]
abbrev pRe : List Str := ["text"]
theorem scRe : FnScope nRe pRe (defScope sRe) := ⟨rfl, rfl, rfl, by decide +kernel, rfl, by decide +kernel, by decide +kernel⟩
section
variable {fA_ fB_ fC_ : Addr} {fdA_ fdB_ fdC_ : FuncData}
theorem ok_Re (F : Fun K "read_expression" "read_expression" sRe f fd) (T : Bt mg) (Z : ErF K mg "BadText" "position" C fI) (GI : FnOk P w K mg base CX0 1 fI fdI ["self", "position"] (spIni C "position")) (bI : Binds K fdI ["self", "position"] [])
    (GA_ : FnOk P w K mg base CX0 1 fA_ fdA_ ["text"] (spPo)) (mA_ : mg "pieces_of" = some (.ref fA_)) (kA_ : PySem.W.keepIn K (.ref fA_) = true) (bA_ : Binds K fdA_ ["text"] [])
    (GB_ : FnOk P w K mg base (L2.CX P w) 22 fB_ fdB_ ["pieces", "at", "depth"] (spRf C 8)) (mB_ : mg "read_form" = some (.ref fB_)) (kB_ : PySem.W.keepIn K (.ref fB_) = true) (bB_ : Binds K fdB_ ["pieces", "at", "depth"] [])
    (GC_ : FnOk P w K mg base (L2.CX P w) 3 fC_ fdC_ ["pieces", "at", "wanted"] (spCp C)) (mC_ : mg "check_piece" = some (.ref fC_)) (kC_ : PySem.W.keepIn K (.ref fC_) = true) (bC_ : Binds K fdC_ ["pieces", "at", "wanted"] []) : FnOk P w K mg base (L2.CX P w) 23 f fd pRe (spRe C) := by
  refine F.okX scRe (fun vs H Q E h => ?_) (fun cdv A outer s H vs Q E hr h => ?_)
  · obtain ⟨v, rfl, _⟩ := h
    rfl
  · obtain ⟨v, rfl, k⟩ := h
    have hrA_ : Room (1) _ := hr.mono (by first | decide | omega)
    have hrB_ : Room (22) _ := hr.mono (by first | decide | omega)
    have hrC_ : Room (3) _ := hr.mono (by first | decide | omega)
    have hrI : Room 2 _ := hr.mono (by first | decide | omega)
    refine ⟨_, (pss_cons (ps_if (pt_not (pt_val (pe_callB call_isi (by rfl) T.isi boot_isinstance (pa_cons (pv 0) (pa_cons (pe_bltn (v := .ty "str") (by rfl) T.str boot_str rfl) pa_nil))))) (pss_one (ps_raise (W := fun cls d _ H => E cls d H) rfl (takes_of rfl rfl rfl rfl) (pmk_oex Z.oex Z.iC Z.tI GI hrI bI .nil pass0 (by rfl) Z.gC (pa_cons pe_int pa_nil)))) pss_nil)
      (pss_cons (ps_set (i := 1) scRe.nd rfl (Or.inl rfl) (pe_call GA_ hrA_ (by rfl) mA_ kA_ bA_ .nil pass0 (pa_cons (pv 0) pa_nil)))
      (pss_cons (ps_asg (pe_callS GB_ hrB_ (by rfl) mB_ kB_ bB_ (fun σ => passAt (W := fun cls d _ H => E cls d H) (takes_of rfl rfl rfl rfl) σ) (pa_cons (pv 1) (pa_cons pe_int (pa_cons pe_int pa_nil)))) (pg_tup rfl (pgs_cons (pg_name (i := 2) scRe.nd rfl (.inl rfl)) (pgs_cons (pg_name (i := 3) scRe.nd rfl (.inl rfl)) pgs_nil))))
      (pss_cons (ps_expr (pe_callS GC_ hrC_ (by rfl) mC_ kC_ bC_ (fun σ => passAt (W := fun cls d _ H => E cls d H) (takes_of rfl rfl rfl rfl) σ) (pa_cons (pv 1) (pa_cons (pv 3) (pa_cons pe_str pa_nil)))))
      (pss_one (ps_ret (pv 2))))))), ?_⟩
    rcases k with ⟨t, ty, nt, k⟩ | ⟨l, rfl, tx, k1, k2⟩
    · refine ⟨_, rfl, v, .ty "str", _, _, _, rfl, .ty "str", ty.x, kit_str ty.mem, _, rfl, ?_⟩
      rw [show (t == "str") = false by simpa using nt]
      exact iteT ⟨by show 1 ≤ 1000; decide, tells_ofF k⟩
    · have ts : TyN H (.str (TS l)) "str" := .str _
      refine ⟨_, rfl, _, .ty "str", _, _, _, rfl, .ty "str", ts.x, kit_str ts.mem, _, rfl, iteF ?_⟩
      refine ⟨_, rfl, l, rfl, tx.len, fun P rs H1 s1 pc => ?_⟩
      have pc : PcsH H1 P rs (PF l 0) := pc
      have lr : (rd l 8 0).2 ≤ l.length → (rd l 8 0).2 = l.length ∨ (rd l 8 0).2 < l.length := fun h => by omega
      refine ⟨_, rfl, P, rs, l, 0, 0, 1, rfl, pc, List.drop_zero, Nat.zero_le _, tx, by omega, fun z r e b H2 s2 hr he db lb => ?_, fun z H2 s2 => ?_⟩
      · refine ⟨r, _, rfl, SqT.of hr, rfl, _, _, rfl, _, _, rfl, rfl, ?_⟩
        have em : PySem.Str.ofString "" = TS [] := by decide +kernel
        refine ⟨_, rfl, _, rfl, P, rs, l, b, (rd l 8 0).2, [], by rw [em] <;> rfl, pc.same s2, db, lb, fun hn => ?_, fun hn => ?_⟩
        · have ll := hd_nil.mp hn
          have q : reD l = rd l 8 0 := by unfold reD; rw [if_neg (by rw [z]; decide), if_neg (by omega)]
          rw [q] at k1
          exact ⟨_, rfl, k1 z e H2 (s1.trans s2) he⟩
        · have ll : (rd l 8 0).2 < l.length := by
            by_cases ll : (rd l 8 0).2 < l.length
            · exact ll
            · exact absurd (hd_nil.mpr (by omega)) hn
          have q : reD l = (.none, (rd l 8 0).2) := by unfold reD; rw [if_neg (by rw [z]; decide), if_pos ll]
          rw [q] at k2
          exact k2 rfl H2 (s1.trans s2)
      · have q : reD l = (.none, (rd l 8 0).2) := by unfold reD; rw [if_pos z]
        rw [q] at k2
        exact k2 rfl H2 (s1.trans s2)
end
theorem fn_noneX {CX : CXT} {f : Addr} {fd : FuncData} {ps : List Str} {k : Nat} : FnOk P w K mg base CX k f fd ps (spRoP C 0) := ⟨fun _ _ _ _ h => h.elim, fun _ _ _ _ _ _ _ _ _ _ _ _ _ h => h.elim⟩
theorem ok_RfN {fO fC fL : Addr} {fdO fdC fdL : FuncData} (F : Fun K "read_form" "read_form" sRf f fd) (FO : Fun K "read_operation" "read_operation" sRo fO fdO) (T : Bt mg) (OA : OpsA K w mg oA) (mP : mg "DEEPEST" = some (.int 8 u1)) (Z : ErF K mg "BadText" "position" C fI) (GI : FnOk P w K mg base CX0 1 fI fdI ["self", "position"] (spIni C "position")) (bI : Binds K fdI ["self", "position"] [])
    (GC : FnOk P w K mg base (L2.CX P w) 3 fC fdC ["pieces", "at", "wanted"] (spCp C)) (mC : mg "check_piece" = some (.ref fC)) (kC : PySem.W.keepIn K (.ref fC) = true) (bC : Binds K fdC ["pieces", "at", "wanted"] [])
    (GL : FnOk P w K mg base CX0 5 fL fdL ["token"] spRl) (mL : mg "read_leaf" = some (.ref fL)) (kL : PySem.W.keepIn K (.ref fL) = true) (bL : Binds K fdL ["token"] [])
    (mF : mg "read_form" = some (.ref f)) (kF : PySem.W.keepIn K (.ref f) = true) (bF : Binds K fd ["pieces", "at", "depth"] []) (mO : mg "read_operation" = some (.ref fO)) (kO : PySem.W.keepIn K (.ref fO) = true) (bO : Binds K fdO ["pieces", "at", "depth"] []) : ∀ n : Nat, FnOk P w K mg base (L2.CX P w) (5 + 2 * n + 1) f fd ["pieces", "at", "depth"] (spRf C n)
  | 0 => ok_Rf F T 0 mP Z GI bI (fn_noneX) mO kO bO GL mL kL bL
  | n + 1 => by
    have G := ok_RfN F FO T OA mP Z GI bI GC mC kC bC GL mL kL bL mF kF bF mO kO bO n
    have GO := ok_Ro FO T n OA Z GI bI GC mC kC bC G mF kF bF
    rw [show 5 + 2 * n + 1 + 1 = 5 + 2 * (n + 1) by omega] at GO
    exact ok_Rf F T (n + 1) mP Z GI bI GO mO kO bO GL mL kL bL
end
end K78
set_option Elab.async false
set_option linter.all false
set_option maxRecDepth 100000
set_option maxHeartbeats 4000000
namespace K78
open PySem PySem.Spec PyProof.Rows L2 Lc
/-! ## what is shown reads back -/
theorem isD_of {c : Nat} (h : 48 ≤ c ∧ c ≤ 57) : isD c = true := by
  have : c = 48 ∨ c = 49 ∨ c = 50 ∨ c = 51 ∨ c = 52 ∨ c = 53 ∨ c = 54 ∨ c = 55 ∨ c = 56 ∨ c = 57 := by omega
  rcases this with rfl | rfl | rfl | rfl | rfl | rfl | rfl | rfl | rfl | rfl <;> decide +kernel
theorem dig_back {m : Nat} (h : m ≤ 10000000000000000000000000000000000000000) : digN (digs m) = some m := by
  obtain ⟨h1, h2⟩ := digs_signs m
  have h3 := digs_len 41 m (by decide) (Nat.lt_of_le_of_lt h (by decide))
  obtain ⟨c, r, e, hc⟩ := digs_head m
  unfold digN
  rw [if_neg h1, if_neg (by omega), if_neg (by rw [show (digs m).all isD = true from List.all_eq_true.mpr fun c hc => isD_of (h2 c hc)]; decide), if_neg, digs_val]
  rintro ⟨q1, q2⟩
  rw [e] at q1 q2
  injection q1 with q1
  exact q2 (by rw [q1, hc q1])
theorem sg_back (n : Int) : sgI (decide (n < 0)) n.natAbs = n := by
  unfold sgI
  by_cases h : n < 0
  · rw [decide_eq_true h, if_pos rfl]
    omega
  · rw [decide_eq_false h, if_neg (by decide)]
    omega
theorem neg_back (n : Int) : negA (intL n) = decide (n < 0) := by
  unfold negA
  exact decide_eq_decide.mpr (int_abs n).2
theorem cutL_at : ∀ {a b : List Nat}, 47 ∉ a → cutL (a ++ 47 :: b) = some (a, b)
  | [], b, _ => by rw [List.nil_append, cutL, if_pos rfl]
  | c :: a, b, h => by
    rw [List.cons_append, cutL, if_neg (fun e => h (by rw [e]; exact List.mem_cons_self)), cutL_at fun q => h (List.mem_cons_of_mem _ q)]
    rfl
theorem num_back {n d : Int} (h : Rt n d) (h1 : n.natAbs ≤ 10000000000000000000000000000000000000000) (h2 : d.natAbs ≤ 10000000000000000000000000000000000000000) : numD (ratL n d) = .tuple [.int n, .int d] := by
  have dn := dig_back h1
  have dd := dig_back h2
  have d0 : 0 < d := h.1
  have nb : numB (.int n) (.int d) = true := by
    show (decide ((0 : Int) < d) && decide (gd n d = 1) && (decide ((if n < 0 then -n else n) ≤ lim) && decide ((d : Int) ≤ lim))) = true
    have e : lim = 10000000000000000000000000000000000000000 := rfl
    rw [decide_eq_true d0, decide_eq_true h.2, decide_eq_true (show (if n < 0 then -n else n) ≤ lim by split <;> omega), decide_eq_true (show d ≤ lim by omega)]
    rfl
  have ng : (decide (n < 0) && decide (n.natAbs = 0)) = false := by
    by_cases q : n < 0
    · rw [decide_eq_true q, decide_eq_false (show ¬ n.natAbs = 0 by omega)]
      rfl
    · rw [decide_eq_false q]
      rfl
  have s45 : str45 (intL n) = digs n.natAbs := (int_abs n).1
  have fin : ∀ {sl : Bool} {m : Nat}, (m : Int) = d → (sl && decide (m = 1)) = false → numF (decide (n < 0)) sl (some n.natAbs) (some m) = .tuple [.int n, .int d] := fun {sl m} em hs => by
    rw [numF, hs, ng, sg_back, em, nb]
    rfl
  unfold ratL numD
  by_cases q : d = 1
  · rw [if_pos q, cutL_none (int_no47 n)]
    show numAB (intL n) none = _
    unfold numAB
    rw [neg_back, s45, dn]
    exact fin (m := 1) q.symm rfl
  · rw [if_neg q, cutL_at (int_no47 n)]
    show numAB (intL n) (some (intL d)) = _
    have ed : intL d = digs d.natAbs := by
      unfold intL
      rw [if_neg (by omega), List.nil_append]
    unfold numAB
    rw [neg_back, s45, dn]
    show numF _ true _ (digN (intL d)) = _
    rw [ed, dd]
    exact fin (by omega) (by rw [decide_eq_false (show ¬ d.natAbs = 1 by omega)]; rfl)
theorem val_back {k : Str} {d : PyData} (h : Vk k d) (nn : d ≠ .none) : valD (valL d) = d := by
  cases h with
  | non => exact absurd rfl nn
  | @num n d rt h1 h2 =>
    obtain ⟨r1, r2⟩ := rat_signs n d
    show valD (ratL n d) = _
    have hd : ∀ c, (c < 45 ∨ 57 < c) → ∀ r, ratL n d ≠ c :: r := fun c hc r e => by
      have := r2 c (by rw [e]; exact List.mem_cons_self)
      omega
    unfold valD
    rw [if_neg (hd 35 (by omega) _), if_neg (hd 35 (by omega) _), if_neg, num_back rt h1 h2]
    intro e
    cases q : ratL n d with
    | nil => exact r1 q
    | cons c r =>
      rw [q] at e
      injection e with e
      exact hd c (by omega) r q
  | flag b => cases b <;> rfl
  | @word x hx hn =>
    have hn : nmL (CL x) = true := by
      unfold nmL
      rw [ts_cl]
      exact hn
    show valD (39 :: CL x) = _
    unfold valD
    rw [if_neg nofun, if_neg nofun]
    show (if nmL (CL x) = true then PyData.str (TS (CL x)) else .none) = _
    rw [if_pos hn, ts_cl]
theorem leaf_col {z : Str} (hn : nameB (.str z) = true) : leafD (CL z) = .tuple [.str "column", .str z] := by
  have hn : nmL (CL z) = true := by
    unfold nmL
    rw [ts_cl]
    exact hn
  unfold leafD
  rw [if_pos hn, ts_cl]
theorem leaf_val {k : Str} {d : PyData} (h : Vk k d) (nn : d ≠ .none) : leafD (61 :: valL d) = .tuple [.str "value", d] := by
  have e : nmL (61 :: valL d) = false := nm_not61 rfl
  unfold leafD
  rw [if_neg (by rw [e]; decide)]
  show wrapD (valD (valL d)) = _
  rw [val_back h nn, wrap_ne nn]
def EndS (r : List Nat) : Prop := r = [] ∨ ∃ c t, r = c :: t ∧ sgl c
theorem tok_of {l t r : List Nat} {p : Nat} (h : l.drop p = t ++ r) (pl : Plain t) (e : EndS r) : tokL l p = t := by
  unfold tokL
  rw [h]
  have a : ∀ {t : List Nat}, (∀ c ∈ t, ¬ sgl c) → (t ++ r).takeWhile (fun c => !decide (sgl c)) = t := fun {t} ht => by
    induction t with
    | nil =>
      rw [List.nil_append]
      rcases e with rfl | ⟨c, q, rfl, hc⟩
      · rfl
      · rw [List.takeWhile_cons, decide_eq_true hc]
        rfl
    | cons c t ih =>
      rw [List.cons_append, List.takeWhile_cons, decide_eq_false (ht c List.mem_cons_self)]
      rw [ih fun x hx => ht x (List.mem_cons_of_mem _ hx)]
      rfl
  exact a pl.2
theorem drop_at {l : List Nat} {p c : Nat} {r : List Nat} (h : l.drop p = c :: r) : l[p]? = some c ∧ l.drop (p + 1) = r ∧ p < l.length := by
  have e : l[p]? = some c := by
    have := congrArg (fun x : List Nat => x[0]?) h
    rw [List.getElem?_drop] at this
    exact this
  have li := (List.getElem?_eq_some_iff.mp e).1
  refine ⟨e, ?_, li⟩
  have := List.drop_eq_getElem_cons li
  rw [h] at this
  injection this with _ h2
  exact h2.symm
theorem drop_more {l a r : List Nat} {p : Nat} (h : l.drop p = a ++ r) : l.drop (p + a.length) = r := by rw [← List.drop_drop, h, List.drop_left]
theorem xf_yes {n : Nat} {d : PyData} (h : Xf n d) : isNo d = false := by cases h <;> rfl
theorem rd_sh (l : List Nat) : ∀ (n : Nat) (d : PyData), Xf n d → ∀ (p : Nat) (rest : List Nat), l.drop p = shL d ++ rest → EndS rest → rd l n p = (d, p + (shL d).length) := by
  intro n d h
  induction h with
  | @col n z h hn =>
    intro p rest e en
    rw [sh_col] at e ⊢
    have pl := col_plain hn
    have tk := tok_of e pl en
    obtain ⟨c, r, ec⟩ : ∃ c r, CL z = c :: r := by
      cases q : CL z with
      | nil => exact absurd q pl.1
      | cons c r => exact ⟨c, r, rfl⟩
    have ns : ¬ sgl c := pl.2 c (by rw [ec]; exact List.mem_cons_self)
    obtain ⟨d1, _, d3⟩ := drop_at (c := c) (r := r ++ rest) (by rw [e, ec]; rfl)
    rw [rd, if_neg (by omega), if_neg (by rw [d1]; intro q; injection q with q; exact ns (.inl q)), tk, leaf_col hn]
    rfl
  | @val n k d h nn =>
    intro p rest e en
    rw [sh_val] at e ⊢
    have pl := (val_text h nn).1
    have tk := tok_of e pl en
    obtain ⟨d1, _, d3⟩ := drop_at (c := 61) (r := valL d ++ rest) (by rw [e]; rfl)
    rw [rd, if_neg (by omega), if_neg (by rw [d1]; intro q; cases q), tk, leaf_val h nn]
    rfl
  | @op n w os ops hw lo ho ih =>
    intro p rest e en
    obtain ⟨pl, _, l1, _, nw⟩ := opsV_words hw
    rw [sh_op nw] at e ⊢
    have e : l.drop p = 40 :: (CL w ++ (shLs os ++ 41 :: rest)) := by rw [e]; simp
    obtain ⟨d1, d2, d3⟩ := drop_at e
    have en2 : EndS (shLs os ++ 41 :: rest) := by
      cases os with
      | nil => rw [List.length_nil] at lo; omega
      | cons o r => rw [shLs]; exact .inr ⟨32, _, rfl, .inr (.inr rfl)⟩
    have tk := tok_of d2 pl en2
    have nt : nops (CL w) = ops.length := nops_some (by rw [ts_cl]; exact hw)
    rw [rd, if_neg (by omega), if_pos d1]
    unfold rdo
    rw [tk, nt, if_neg (by omega), ts_cl]
    have dq := drop_more d2
    have key : ∀ (os : List PyData), (∀ o ∈ os, Xf n o) → (∀ o ∈ os, ∀ (p : Nat) (rest : List Nat), l.drop p = shL o ++ rest → EndS rest → rd l n p = (o, p + (shL o).length)) → ∀ (q : Nat) (acc : List PyData), l.drop q = shLs os ++ 41 :: rest → rds (rd l n) l os.length q acc = (.tuple (acc ++ os), q + (shLs os).length + 1) := by
      intro os
      induction os with
      | nil =>
        intro _ _ q acc eq
        rw [shLs, List.nil_append] at eq
        obtain ⟨f1, _, _⟩ := drop_at eq
        show rds (rd l n) l 0 q acc = _
        rw [rds, if_pos f1, List.append_nil, shLs]
        rfl
      | cons o r ihr =>
        intro h1 h2 q acc eq
        rw [shLs] at eq
        have eq : l.drop q = 32 :: (shL o ++ (shLs r ++ 41 :: rest)) := by rw [eq]; simp
        obtain ⟨f1, f2, _⟩ := drop_at eq
        have en3 : EndS (shLs r ++ 41 :: rest) := by
          cases r with
          | nil => rw [shLs]; exact .inr ⟨41, _, rfl, .inr (.inl rfl)⟩
          | cons o2 r2 => rw [shLs]; exact .inr ⟨32, _, rfl, .inr (.inr rfl)⟩
        have ro := h2 o List.mem_cons_self (q + 1) _ f2 en3
        show rds (rd l n) l (r.length + 1) q acc = _
        rw [rds, if_pos f1, ro]
        show (if isNo o = true then _ else rds (rd l n) l r.length (q + 1 + (shL o).length) (acc ++ [o])) = _
        rw [if_neg (by rw [xf_yes (h1 o List.mem_cons_self)]; decide), ihr (fun x hx => h1 x (List.mem_cons_of_mem _ hx)) (fun x hx => h2 x (List.mem_cons_of_mem _ hx)) _ _ (drop_more f2), shLs]
        refine Prod.ext ?_ ?_
        · show PyData.tuple (acc ++ [o] ++ r) = .tuple (acc ++ o :: r)
          rw [List.append_assoc]
          rfl
        · show q + 1 + (shL o).length + (shLs r).length + 1 = q + (32 :: shL o ++ shLs r).length + 1
          rw [List.length_append, List.length_cons]
          omega
    have kk := key os ho ih _ [.str w] dq
    rw [lo, kk]
    refine Prod.ext rfl ?_
    show p + 1 + (CL w).length + (shLs os).length + 1 = p + (40 :: CL w ++ shLs os ++ [41]).length
    rw [List.length_append, List.length_append, List.length_cons, List.length_singleton]
    omega
theorem re_sh {d : PyData} (h : Xf 8 d) : reD (shL d) = (d, (shL d).length) := by
  have e := rd_sh (shL d) 8 d h 0 [] (by rw [List.drop_zero, List.append_nil]) (.inl rfl)
  rw [Nat.zero_add] at e
  unfold reD
  rw [e, if_neg (by rw [xf_yes h]; decide), if_neg (by omega)]
end K78
set_option Elab.async false
set_option linter.all false
set_option maxRecDepth 100000
set_option maxHeartbeats 4000000
namespace K78
open PySem PySem.Spec PyProof.Rows L2 Lc
/-! ## plain steps: their data, their lines -/
inductive Ps where
  | keep (e : PyData)
  | set (x : Str) (e : PyData)
  | select (ns : List Str)
  | rename (a b : Str)
  | sort (a : Str) (u : Bool)
  | first (n : Nat)
  | sample (n w s : Nat)
  | join (t : Str) (ks : List Str)
  | union (t : Str)
  | distinct
  | group (ks : List Str) (ts : List (Str × Str × Str))
def updn (u : Bool) : Str := if u then "up" else "down"
def strT (ns : List Str) : PyData := .tuple (ns.map PyData.str)
def totS3 (t : Str × Str × Str) : PyData := .tuple [.str t.1, .str t.2.1, .str t.2.2]
def Ps.d : Ps → PyData
  | .keep e => .tuple [.str "keep", e]
  | .set x e => .tuple [.str "set", .str x, e]
  | .select ns => .tuple [.str "select", strT ns]
  | .rename a b => .tuple [.str "rename", .str a, .str b]
  | .sort a u => .tuple [.str "sort", .str a, .str (updn u)]
  | .first n => .tuple [.str "first", .int n]
  | .sample n w s => .tuple [.str "sample", .int n, .int w, .int s]
  | .join t ks => .tuple [.str "join", .str t, strT ks]
  | .union t => .tuple [.str "union", .str t]
  | .distinct => .tuple [.str "distinct"]
  | .group ks ts => .tuple [.str "group", strT ks, .tuple (ts.map totS3)]
def totLn (t : Str × Str × Str) : LN := jn 32 [CL "total", CL t.1, CL t.2.1, CL t.2.2]
/-- the words of the first line -/
def Ps.ws : Ps → List LN
  | .keep e => CL "keep" :: spl 32 (shL e)
  | .set x e => CL "set" :: CL x :: spl 32 (shL e)
  | .select ns => CL "select" :: ns.map CL
  | .rename a b => [CL "rename", CL a, CL b]
  | .sort a u => [CL "sort", CL a, CL (updn u)]
  | .first n => [CL "first", digs n]
  | .sample n w s => [CL "sample", digs n, digs w, digs s]
  | .join t ks => CL "join" :: CL t :: CL "on" :: ks.map CL
  | .union t => [CL "union", CL t]
  | .distinct => [CL "distinct"]
  | .group ks _ => CL "group" :: ks.map CL
def Ps.more : Ps → List LN
  | .group _ ts => ts.map totLn
  | _ => []
abbrev nmS (x : Str) : Prop := nameB (.str x) = true
def fnS : List Str := ["count", "sum", "mean", "median", "least", "greatest"]
structure GrpOk (ks : List Str) (ts : List (Str × Str × Str)) : Prop where
  k : ∀ x ∈ ks, nmS x
  t : ∀ x ∈ ts, nmS x.1 ∧ x.2.1 ∈ fnS ∧ nmS x.2.2
  nd : (ks ++ ts.map (·.1)).Nodup
  kl : ks.length ≤ 3
  tl : 1 ≤ ts.length ∧ ts.length ≤ 6
  al : ks.length + ts.length ≤ 8
def Ps.Ok : Ps → Prop
  | .keep e => Xf 8 e
  | .set x e => nmS x ∧ Xf 8 e
  | .select ns => (∀ x ∈ ns, nmS x) ∧ ns.Nodup ∧ 1 ≤ ns.length ∧ ns.length ≤ 8
  | .rename a b => nmS a ∧ nmS b
  | .sort a _ => nmS a
  | .first n => n ≤ 1000
  | .sample n w s => n ≤ w ∧ 1 ≤ w ∧ w ≤ 1000 ∧ s ≤ 1000000000
  | .join t ks => nmS t ∧ (∀ x ∈ ks, nmS x) ∧ ks.Nodup ∧ 1 ≤ ks.length ∧ ks.length ≤ 3
  | .union t => nmS t
  | .distinct => True
  | .group ks ts => GrpOk ks ts
theorem nm_CL {x : Str} (h : nmS x) : nmL (CL x) = true := by
  unfold nmL
  rw [ts_cl]
  exact h
theorem map_back (ns : List Str) : (ns.map CL).map TS = ns := by
  rw [List.map_map]
  exact List.map_id'' (fun z => ts_cl z) ns
theorem names_back {ns : List Str} {lo hi : Nat} (h : ∀ x ∈ ns, nmS x) (nd : ns.Nodup) (l1 : lo ≤ ns.length) (l2 : ns.length ≤ hi) : namesM (ns.map CL) lo hi = true := by
  unfold namesM
  rw [map_back, List.length_map, decide_eq_false (by omega), decide_eq_false (by omega), decide_eq_true nd]
  have : (ns.map CL).all nmL = true := by
    rw [List.all_eq_true]
    intro x hx
    obtain ⟨z, hz, rfl⟩ := List.mem_map.mp hx
    exact nm_CL (h z hz)
  simp [this]
theorem strs_back (ns : List Str) : strsD (ns.map CL) = strT ns := by
  unfold strsD strT strD
  rw [List.map_map]
  first | done | exact congrArg PyData.tuple (List.map_congr_left fun z _ => congrArg PyData.str (ts_cl z))
theorem form_back {e : PyData} (h : Xf 8 e) : formM (spl 32 (shL e)) = e := by
  unfold formM
  rw [jn_spl, re_sh h]
theorem whole_back {n lo hi : Nat} (h1 : lo ≤ n) (h2 : n ≤ hi) (h3 : hi ≤ 10000000000000000000000000000000000000000) : wholeM (digs n) lo hi = some n := by
  unfold wholeM
  rw [dig_back (by omega)]
  exact if_pos ⟨h1, h2⟩
/-- the first line of a plain step reads back, but for groups -/
theorem read_back {p : Ps} (h : p.Ok) (g : ∀ ks ts, p ≠ .group ks ts) : TS (hdW p.ws) ≠ "group" ∧ readW p.ws = .ok p.d 1 := by
  have go : ∀ {ws : List LN} {w : Str} {M : List LN → PyData} {d : PyData}, TS (hdW ws) = w → readV w = some M → M ws = d → isNo d = false → readW ws = .ok d 1 := fun {ws w M d} e1 e2 e3 e4 => by
    unfold readW
    rw [e1, e2]
    show (if isNo (M ws) = true then Out.err 0 else Out.ok (M ws) 1) = _
    rw [e3, if_neg (by rw [e4]; decide)]
  have hd : ∀ (w : Str) (r : List LN), TS (hdW (CL w :: r)) = w := fun w r => ts_cl w
  cases p with
  | keep e =>
    refine ⟨by show TS (CL "keep") ≠ _; rw [ts_cl]; decide +kernel, go (hd "keep" _) (M := keepM) (by rfl) ?_ rfl⟩
    show (if isNo (formM (spl 32 (shL e))) = true then PyData.none else .tuple [.str "keep", formM (spl 32 (shL e))]) = _
    rw [form_back h, if_neg (by rw [xf_yes h]; decide)]
    rfl
  | set x e =>
    refine ⟨by show TS (CL "set") ≠ _; rw [ts_cl]; decide +kernel, go (hd "set" _) (M := setM) (by rfl) ?_ rfl⟩
    show (if isNo (formM (spl 32 (shL e))) = true then PyData.none else if nmL (CL x) = true then PyData.tuple [.str "set", .str (TS (CL x)), formM (spl 32 (shL e))] else .none) = _
    rw [form_back h.2, if_neg (by rw [xf_yes h.2]; decide), if_pos (nm_CL h.1), ts_cl]
    rfl
  | select ns =>
    obtain ⟨h1, h2, h3, h4⟩ := h
    refine ⟨by show TS (CL "select") ≠ _; rw [ts_cl]; decide +kernel, go (hd "select" _) (M := selectM) (by rfl) ?_ rfl⟩
    show (if namesM (ns.map CL) 1 8 = true then PyData.tuple [.str "select", strsD (ns.map CL)] else .none) = _
    rw [names_back h1 h2 h3 h4, if_pos rfl, strs_back]
    rfl
  | rename a b =>
    refine ⟨by show TS (CL "rename") ≠ _; rw [ts_cl]; decide +kernel, go (hd "rename" _) (M := renameM) (by rfl) ?_ rfl⟩
    show (if nmL (CL a) = true ∧ nmL (CL b) = true then strsD ([("rename" : Str), a, b].map CL) else PyData.none) = _
    rw [if_pos ⟨nm_CL h.1, nm_CL h.2⟩, strs_back]
    rfl
  | sort a u =>
    refine ⟨by show TS (CL "sort") ≠ _; rw [ts_cl]; decide +kernel, go (hd "sort" _) (M := sortM) (by rfl) ?_ rfl⟩
    show (if nmL (CL a) = true ∧ (TS (CL (updn u)) = "up" ∨ TS (CL (updn u)) = "down") then strsD ([("sort" : Str), a, updn u].map CL) else PyData.none) = _
    rw [if_pos ⟨nm_CL h, by rw [ts_cl]; cases u; exact .inr rfl; exact .inl rfl⟩, strs_back]
    rfl
  | first n =>
    refine ⟨by show TS (CL "first") ≠ _; rw [ts_cl]; decide +kernel, go (hd "first" _) (M := firstM) (by rfl) ?_ rfl⟩
    show (match wholeM (digs n) 0 1000 with
      | some n => PyData.tuple [.str "first", .int n]
      | none => .none) = _
    rw [whole_back (Nat.zero_le _) h (by decide)]
    rfl
  | sample n w s =>
    obtain ⟨h1, h2, h3, h4⟩ := h
    refine ⟨by show TS (CL "sample") ≠ _; rw [ts_cl]; decide +kernel, go (hd "sample" _) (M := sampleM) (by rfl) ?_ rfl⟩
    show sampleM [CL "sample", digs n, digs w, digs s] = _
    unfold sampleM
    simp only [whole_back h2 h3 (by decide : 1000 ≤ 10000000000000000000000000000000000000000), whole_back (Nat.zero_le _) h4 (by decide), whole_back (Nat.zero_le _) h1 (by omega)]
    rfl
  | join t ks =>
    obtain ⟨h0, h1, h2, h3, h4⟩ := h
    refine ⟨by show TS (CL "join") ≠ _; rw [ts_cl]; decide +kernel, go (hd "join" _) (M := joinM) (by rfl) ?_ rfl⟩
    show (if nmL (CL t) = true ∧ TS (CL "on") = "on" then (if namesM (ks.map CL) 1 3 = true then PyData.tuple [.str "join", .str (TS (CL t)), strsD (ks.map CL)] else .none) else .none) = _
    rw [if_pos ⟨nm_CL h0, ts_cl _⟩, names_back h1 h2 h3 h4, if_pos rfl, strs_back, ts_cl]
    rfl
  | union t =>
    refine ⟨by show TS (CL "union") ≠ _; rw [ts_cl]; decide +kernel, go (hd "union" _) (M := unionM) (by rfl) ?_ rfl⟩
    show (if nmL (CL t) = true then strsD ([("union" : Str), t].map CL) else PyData.none) = _
    rw [if_pos (nm_CL h), strs_back]
    rfl
  | distinct => exact ⟨by show TS (CL "distinct") ≠ _; rw [ts_cl]; decide +kernel, go (hd "distinct" _) (M := distinctM) (by rfl) (by show strsD ([("distinct" : Str)].map CL) = _; rw [strs_back]; rfl) rfl⟩
  | group ks ts => exact absurd rfl (g ks ts)
end K78
set_option Elab.async false
set_option linter.all false
set_option maxRecDepth 100000
set_option maxHeartbeats 4000000
namespace K78
open PySem PySem.Spec PyProof.Rows L2 Lc
/-! ## signs of lines -/
def As (l : LN) : Prop := ∀ c ∈ l, 32 ≤ c ∧ c < 127
/-- signs but the blank -/
def Aw (l : LN) : Prop := ∀ c ∈ l, 33 ≤ c ∧ c < 127
theorem Aw.as {l : LN} (h : Aw l) : As l := fun c hc => ⟨Nat.le_of_succ_le (h c hc).1, (h c hc).2⟩
theorem Aw.no {l : LN} (h : Aw l) : 32 ∉ l := fun m => by have := h 32 m; omega
theorem Aw.cnt {l : LN} (h : Aw l) : l.count 32 = 0 := List.count_eq_zero.mpr h.no
theorem As.app {a b : LN} (h : As a) (g : As b) : As (a ++ b) := fun c hc => (List.mem_append.mp hc).elim (h c) (g c)
theorem Aw.app {a b : LN} (h : Aw a) (g : Aw b) : Aw (a ++ b) := fun c hc => (List.mem_append.mp hc).elim (h c) (g c)
theorem As.cons {a : Nat} {b : LN} (h : 32 ≤ a ∧ a < 127) (g : As b) : As (a :: b) := fun c hc => by
  rcases List.mem_cons.mp hc with rfl | hc
  · exact h
  · exact g c hc
def awB (l : LN) : Bool := l.all fun c => decide (33 ≤ c) && decide (c < 127)
theorem aw_of {l : LN} (h : awB l = true) : Aw l := fun c hc => by
  have := List.all_eq_true.mp h c hc
  simpa using this
theorem aw_name {z : Str} (h : nameB (.str z) = true) : Aw (CL z) := fun c hc => by
  have := (name_signs h).2.2.1 c hc
  omega
theorem aw_digs (m : Nat) : Aw (digs m) := fun c hc => by
  have := (digs_signs m).2 c hc
  omega
theorem aw_val {k : Str} {d : PyData} (h : Vk k d) (nn : d ≠ .none) : Aw (valL d) := by
  cases h with
  | non => exact absurd rfl nn
  | num rt h1 h2 =>
    intro c hc
    have := (rat_signs _ _).2 c hc
    omega
  | flag b => cases b <;> exact aw_of (by decide +kernel)
  | @word x hx hn => exact (aw_of (l := [39]) (by decide +kernel)).app (aw_name hn)
theorem aw_op {w : Str} {ops : List V} (h : opsV w = some ops) : Aw (CL w) := by
  have key : ∀ x os, opsV x = some os → Aw (CL x) := by
    refine opsV_all ?_ ?_ ?_ ?_ ?_ ?_ ?_ ?_ ?_ ?_ ?_ <;> exact aw_of (by decide +kernel)
  exact key w ops h
def czX : Nat → Nat
  | 0 => 0
  | n + 1 => 3 * czX n + 3
theorem xf_as {n : Nat} {d : PyData} (h : Xf n d) : As (shL d) ∧ (shL d).count 32 ≤ czX n := by
  induction h with
  | @col n z h hn => rw [sh_col]; exact ⟨(aw_name hn).as, by rw [(aw_name hn).cnt]; exact Nat.zero_le _⟩
  | @val n k d h nn =>
    have a : Aw (61 :: valL d) := (aw_of (l := [61]) (by decide +kernel)).app (aw_val h nn)
    rw [sh_val]
    exact ⟨a.as, by rw [a.cnt]; exact Nat.zero_le _⟩
  | @op n w os ops h l ho ih =>
    obtain ⟨_, h2, h3, h4, nw⟩ := opsV_words h
    have key : ∀ l : List PyData, (∀ o ∈ l, As (shL o) ∧ (shL o).count 32 ≤ czX n) → As (shLs l) ∧ (shLs l).count 32 ≤ l.length * (czX n + 1) := fun l => by
      induction l with
      | nil => intro _; rw [shLs]; exact ⟨nofun, Nat.zero_le _⟩
      | cons o r ih2 =>
        intro hl
        have a := hl o List.mem_cons_self
        have b := ih2 fun x hx => hl x (List.mem_cons_of_mem _ hx)
        rw [shLs]
        refine ⟨(As.cons (by decide) a.1).app b.1, ?_⟩
        rw [List.count_append, List.count_cons_self, List.length_cons, Nat.succ_mul]
        have := a.2
        have := b.2
        omega
    have k := key os ih
    have l3 : os.length ≤ 3 := by omega
    have : os.length * (czX n + 1) ≤ 3 * (czX n + 1) := Nat.mul_le_mul_right _ l3
    rw [sh_op nw, czX]
    have aw := aw_op h
    refine ⟨((As.cons (by decide) aw.as).app k.1).app (As.cons (by decide) nofun), ?_⟩
    have e : (40 :: CL w ++ shLs os ++ [41]).count 32 = (CL w).count 32 + (shLs os).count 32 := by
      rw [List.count_append, List.count_append, List.count_cons_of_ne (by decide), List.count_cons_of_ne (a := 32) (b := 41) (by decide)]
      rfl
    rw [e, aw.cnt]
    omega
/-! ## the words of a plain step's first line -/
theorem spl_no {c : Nat} : ∀ (l : List Nat), ∀ w ∈ spl c l, c ∉ w
  | [], w, h => by
    rw [spl, List.mem_singleton] at h
    rw [h]
    nofun
  | a :: l, w, h => by
    have ih := spl_no (c := c) l
    rw [spl] at h
    split at h
    · rcases List.mem_cons.mp h with rfl | h
      · nofun
      · exact ih w h
    · rename_i na
      cases e : spl c l with
      | nil => exact absurd e (spl_ne l)
      | cons v vs =>
        rw [e] at h ih
        rcases List.mem_cons.mp h with rfl | h
        · intro m
          rcases List.mem_cons.mp m with m | m
          · exact na m.symm
          · exact ih v List.mem_cons_self m
        · exact ih w (List.mem_cons_of_mem _ h)
def WsG (ws : List LN) : Prop := ws ≠ [] ∧ ∀ w ∈ ws, 32 ∉ w
theorem WsG.cons {w : LN} {ws : List LN} (h : 32 ∉ w) (g : ∀ w ∈ ws, 32 ∉ w) : WsG (w :: ws) := ⟨List.cons_ne_nil _ _, fun x hx => by
  rcases List.mem_cons.mp hx with rfl | hx
  · exact h
  · exact g x hx⟩
theorem no_names {ns : List Str} (h : ∀ x ∈ ns, nmS x) : ∀ w ∈ ns.map CL, 32 ∉ w := fun w hw => by
  obtain ⟨z, hz, rfl⟩ := List.mem_map.mp hw
  exact (aw_name (h z hz)).no
theorem no_of {ws : List LN} (h : ∀ w ∈ ws, awB w = true ∨ Aw w) : ∀ w ∈ ws, 32 ∉ w := fun w hw => (h w hw).elim (fun z => (aw_of z).no) Aw.no
theorem aw_updn (u : Bool) : Aw (CL (updn u)) := by cases u <;> exact aw_of (by decide +kernel)
theorem Ps.Ok.good {p : Ps} (h : p.Ok) : WsG p.ws := by
  cases p with
  | keep e => exact WsG.cons (aw_of (by decide +kernel)).no (spl_no _)
  | set x e =>
    refine WsG.cons (aw_of (by decide +kernel)).no fun w hw => ?_
    rcases List.mem_cons.mp hw with rfl | hw
    · exact (aw_name h.1).no
    · exact spl_no _ w hw
  | select ns => exact WsG.cons (aw_of (by decide +kernel)).no (no_names h.1)
  | rename a b => exact WsG.cons (aw_of (by decide +kernel)).no (no_names (ns := [a, b]) fun x hx => by simp only [List.mem_cons, List.not_mem_nil, or_false] at hx; rcases hx with rfl | rfl; exact h.1; exact h.2)
  | sort a u =>
    refine WsG.cons (aw_of (by decide +kernel)).no fun w hw => ?_
    · simp only [List.mem_cons, List.not_mem_nil, or_false] at hw
      rcases hw with rfl | rfl
      · exact (aw_name h).no
      · exact (aw_updn u).no
  | first n => exact WsG.cons (aw_of (by decide +kernel)).no fun w hw => by rw [List.mem_singleton.mp hw]; exact (aw_digs n).no
  | sample n w s =>
    refine WsG.cons (aw_of (by decide +kernel)).no fun x hx => ?_
    · simp only [List.mem_cons, List.not_mem_nil, or_false] at hx
      rcases hx with rfl | rfl | rfl <;> exact (aw_digs _).no
  | join t ks =>
    refine WsG.cons (aw_of (by decide +kernel)).no fun w hw => ?_
    rcases List.mem_cons.mp hw with rfl | hw
    · exact (aw_name h.1).no
    rcases List.mem_cons.mp hw with rfl | hw
    · exact (aw_of (by decide +kernel)).no
    · exact no_names h.2.1 w hw
  | union t => exact WsG.cons (aw_of (by decide +kernel)).no (no_names (ns := [t]) fun x hx => by rw [List.mem_singleton.mp hx]; exact h)
  | distinct => exact WsG.cons (aw_of (by decide +kernel)).no nofun
  | group ks ts => exact WsG.cons (aw_of (by decide +kernel)).no (no_names h.k)
/-! ## lines -/
def Ps.ln (p : Ps) : List LN := jn 32 p.ws :: p.more.map ([32, 32] ++ ·)
def Ps.lnA (ah : LN) (p : Ps) : List LN := p.ln.map (ah ++ ·)
theorem Ps.lnA_eq (ah : LN) (p : Ps) : p.lnA ah = (ah ++ jn 32 p.ws) :: p.more.map (ah ++ [32, 32] ++ ·) := by
  unfold Ps.lnA Ps.ln
  rw [List.map_cons, List.map_map]
  refine congrArg _ (List.map_congr_left fun x _ => ?_)
  show ah ++ ([32, 32] ++ x) = _
  rw [List.append_assoc]
theorem cutp_app (a b : LN) : cutp a (a ++ b) = b := by
  unfold cutp
  rw [if_pos (show stw a (a ++ b) = true by unfold stw; rw [List.take_left' rfl]; exact beq_self_eq_true a), List.drop_left' rfl]
theorem stw_app (a b : LN) : stw a (a ++ b) = true := by unfold stw; rw [List.take_left' rfl]; exact beq_self_eq_true a
theorem ws_back {p : Ps} (h : p.Ok) (ah : LN) : spl 32 (cutp ah (ah ++ jn 32 p.ws)) = p.ws := by
  rw [cutp_app, spl_jn h.good.1 h.good.2]
/-- the next line is no total -/
def NTa (ah : LN) : List LN → Prop
  | [] => True
  | l :: _ => stw (ah ++ [32, 32]) l = false
theorem ntot {ah : LN} {rest : List LN} (h : NTa ah rest) (tk : List LN) (n : Nat) : totsM (ah ++ [32, 32]) rest tk n = [] := by
  cases rest with
  | nil => rfl
  | cons l r =>
    have h : stw (ah ++ [32, 32]) l = false := h
    have e : totalT (ah ++ [32, 32]) l = none := by unfold totalT; rw [h]; rfl
    rw [totsM, e]
    split <;> rfl
def tot3 (t : Str × Str × Str) : T3 := (CL t.1, CL t.2.1, CL t.2.2)
theorem fn_words {f : Str} (h : f ∈ fnS) : Aw (CL f) ∧ fnL (CL f) = true := by
  have : ∀ g ∈ fnS, awB (CL g) = true ∧ fnL (CL g) = true := by decide +kernel
  exact ⟨aw_of (this f h).1, (this f h).2⟩
theorem tot_back {ah : LN} {t : Str × Str × Str} (h1 : nmS t.1) (h2 : t.2.1 ∈ fnS) (h3 : nmS t.2.2) : totalT ah (ah ++ totLn t) = some (tot3 t) := by
  unfold totalT
  rw [if_pos (stw_app _ _), cutp_app]
  unfold totLn
  rw [spl_jn (List.cons_ne_nil _ _) fun w hw => ?_]
  · show (if TS (CL "total") = "total" ∧ nmL (CL t.1) = true ∧ fnL (CL t.2.1) = true ∧ nmL (CL t.2.2) = true then some (CL t.1, CL t.2.1, CL t.2.2) else none) = _
    rw [if_pos ⟨ts_cl _, nm_CL h1, (fn_words h2).2, nm_CL h3⟩]
    rfl
  · simp only [List.mem_cons, List.not_mem_nil, or_false] at hw
    rcases hw with rfl | rfl | rfl | rfl
    · exact (aw_of (by decide +kernel)).no
    · exact (aw_name h1).no
    · exact (fn_words h2).1.no
    · exact (aw_name h3).no
theorem in_vW {z : Str} {ss : List Str} : inV (.str (TS (CL z))) (vW (ss.map CL)) = decide (z ∈ ss) := by
  rw [ts_cl]
  show inV (.str z) (((ss.map CL).map TS).map V.str) = _
  rw [map_back, in_strs]
theorem tots_back {ah : LN} {rest : List LN} (nt : NTa ah rest) : ∀ (ts : List (Str × Str × Str)) (ks : List Str) (n : Nat), (∀ x ∈ ts, nmS x.1 ∧ x.2.1 ∈ fnS ∧ nmS x.2.2) → (ks ++ ts.map (·.1)).Nodup → n + ts.length ≤ 6 → ks.length + ts.length ≤ 8 →
    totsM (ah ++ [32, 32]) (ts.map (fun t => ah ++ [32, 32] ++ totLn t) ++ rest) (ks.map CL) n = ts.map tot3
  | [], ks, n, _, _, _, _ => ntot nt _ _
  | t :: ts, ks, n, h, nd, l6, l8 => by
    obtain ⟨h1, h2, h3⟩ := h t List.mem_cons_self
    rw [List.length_cons] at l6 l8
    rw [List.map_cons, List.cons_append, totsM, if_pos ⟨by omega, by rw [List.length_map]; omega⟩, tot_back h1 h2 h3]
    have e : (inV (.str (TS (CL t.1))) (vW (ks.map CL))) = false := by
      rw [in_vW]
      refine decide_eq_false fun m => ?_
      rw [List.nodup_append] at nd
      exact nd.2.2 _ m _ (List.mem_map_of_mem List.mem_cons_self) rfl
    show (if inV (.str (TS (CL t.1))) (vW (ks.map CL)) = true then _ else tot3 t :: totsM (ah ++ [32, 32]) (ts.map (fun t => ah ++ [32, 32] ++ totLn t) ++ rest) (ks.map CL ++ [CL t.1]) (n + 1)) = _
    rw [e, if_neg (by decide)]
    have ih := tots_back nt ts (ks ++ [t.1]) (n + 1) (fun x hx => h x (List.mem_cons_of_mem _ hx)) (by rw [List.append_assoc]; exact nd) (by omega) (by rw [List.length_append]; show _ + 1 + _ ≤ 8; omega)
    rw [List.map_append] at ih
    have ih : totsM (ah ++ [32, 32]) (ts.map (fun t => ah ++ [32, 32] ++ totLn t) ++ rest) (ks.map CL ++ [CL t.1]) (n + 1) = ts.map tot3 := ih
    rw [ih]
    rfl
theorem t3_back (t : Str × Str × Str) : t3D (tot3 t) = totS3 t := by
  unfold t3D tot3 totS3 strD
  rw [ts_cl, ts_cl, ts_cl]
/-- a plain step reads back -/
theorem step_back {p : Ps} (h : p.Ok) {ah : LN} {rest : List LN} (nt : NTa ah rest) : stepM ah (ah ++ jn 32 p.ws) (p.more.map (ah ++ [32, 32] ++ ·) ++ rest) = .ok p.d (p.lnA ah).length := by
  unfold stepM
  rw [ws_back h]
  unfold stepW
  have ng : (∀ ks ts, p ≠ .group ks ts) → (if TS (hdW p.ws) = "group" then groupN ah (p.ws.drop 1) (p.more.map (ah ++ [32, 32] ++ ·) ++ rest) else readW p.ws) = .ok p.d (p.lnA ah).length := fun g => by
    obtain ⟨r1, r2⟩ := read_back h g
    rw [if_neg r1, r2, Ps.lnA_eq]
    have : p.more = [] := by
      cases p with
      | group ks ts => exact absurd rfl (g ks ts)
      | _ => rfl
    rw [this]
    rfl
  cases p with
  | group ks ts =>
    rw [if_pos (show TS (hdW (Ps.ws (.group ks ts))) = "group" from ts_cl _)]
    show groupN ah (ks.map CL) ((ts.map totLn).map (ah ++ [32, 32] ++ ·) ++ rest) = _
    have e := tots_back nt ts ks 0 h.t h.nd (by have := h.tl; omega) h.al
    have em : (ts.map totLn).map (ah ++ [32, 32] ++ ·) = ts.map (fun t => ah ++ [32, 32] ++ totLn t) := by rw [List.map_map]; rfl
    unfold groupN
    rw [names_back (lo := 0) h.k (List.nodup_append.mp h.nd).1 (Nat.zero_le _) h.kl, if_pos rfl, em, e, List.length_map, if_neg (by have := h.tl; omega)]
    have l : (Ps.lnA ah (.group ks ts)).length = 1 + ts.length := by
      rw [Ps.lnA_eq, List.length_cons, List.length_map]
      show (ts.map totLn).length + 1 = _
      rw [List.length_map, Nat.add_comm]
    rw [l]
    unfold groupD
    rw [strs_back, List.map_map]
    show Out.ok (PyData.tuple [.str "group", strT ks, .tuple (ts.map fun t => t3D (tot3 t))]) _ = Out.ok (PyData.tuple [.str "group", strT ks, .tuple (ts.map totS3)]) _
    rw [List.map_congr_left fun t _ => t3_back t]
  | _ => exact ng nofun
/-! ## steps, alternatives -/
inductive Stp where
  | pl (p : Ps)
  | ch (lb : Str) (as : List (List Ps))
def altD (a : List Ps) : PyData := .tuple (a.map Ps.d)
def Stp.d : Stp → PyData
  | .pl p => p.d
  | .ch lb as => .tuple [.str "choose", .str lb, .tuple (as.map altD)]
def inner (a : List Ps) : List LN := (a.map (Ps.lnA inL)).flatten
def orL : LN := [32, 32, 111, 114]
def altLn (a : List Ps) : List LN := orL :: inner a
def Stp.ln : Stp → List LN
  | .pl p => p.ln
  | .ch lb as => (chL ++ CL lb) :: (as.map altLn).flatten
def AltOk (a : List Ps) : Prop := a.length ≤ 4 ∧ ∀ p ∈ a, p.Ok
def StsOk : Nu → List Stp → Prop
  | _, [] => True
  | nu, .pl p :: r => p.Ok ∧ StsOk nu r
  | nu, .ch lb as :: r => nmS lb ∧ (∀ a ∈ as, AltOk a) ∧ getN nu (CL lb) 2 ≤ as.length ∧ as.length ≤ getN nu (CL lb) 4 ∧ StsOk (putN nu (CL lb) as.length) r
/-- the next line begins an alternative's step no more -/
def NI : List LN → Prop
  | [] => True
  | l :: _ => stw inL l = false
theorem hd_lnA (ah : LN) (p : Ps) (rest : List LN) : ∃ l r, p.lnA ah ++ rest = (ah ++ l) :: r := ⟨_, _, by rw [Ps.lnA_eq]; rfl⟩
theorem first_sign {p : Ps} (h : p.Ok) : ∃ c r, jn 32 p.ws = c :: r ∧ 97 ≤ c := by
  have jc : ∀ {w : Str} {ws : List LN} {c : Nat} {t : LN}, CL w = c :: t → ∃ r, jn 32 (CL w :: ws) = c :: r := fun {w ws c t} e => by
    cases ws with
    | nil => exact ⟨t, e⟩
    | cons a b => exact ⟨_, by rw [jn_cons (List.cons_ne_nil _ _), e]; rfl⟩
  have go : ∀ {w : Str} {ws : List LN}, (∃ c t, CL w = c :: t ∧ 97 ≤ c) → ∃ c r, jn 32 (CL w :: ws) = c :: r ∧ 97 ≤ c := fun {w ws} ⟨c, t, e, h⟩ => by
    obtain ⟨r, er⟩ := jc (ws := ws) e
    exact ⟨c, r, er, h⟩
  cases p <;> exact go ⟨_, _, rfl, by decide⟩
theorem sign_nt {ah : LN} {l r : LN} {c : Nat} (e : l = c :: r) (hc : 97 ≤ c) (x : LN) : stw (ah ++ 32 :: x) (ah ++ l) = false := by
  unfold stw
  rw [beq_eq_false_iff_ne]
  intro z
  have := congrArg (fun q : LN => q[ah.length]?) z
  simp only [List.getElem?_take] at this
  rw [if_pos (by rw [List.length_append]; simp), List.getElem?_append_right (Nat.le_refl _), List.getElem?_append_right (Nat.le_refl _), Nat.sub_self, e] at this
  simp at this
  omega
theorem alt_back {rest : List LN} (ni : NI rest) : ∀ (a : List Ps) (k : Nat), a.length ≤ k → (∀ p ∈ a, p.Ok) → altM k (inner a ++ rest) = .ok (a.map Ps.d) (inner a).length
  | [], k, _, _ => by
    show altM k rest = .ok [] 0
    cases k with
    | zero => unfold altM; rfl
    | succ k =>
      cases rest with
      | nil => unfold altM; rfl
      | cons l r =>
        have ni : stw inL l = false := ni
        rw [altM, if_neg (by rw [ni]; decide)]
  | p :: a, k, lk, ok => by
    rw [List.length_cons] at lk
    obtain ⟨k, rfl⟩ : ∃ j, k = j + 1 := ⟨k - 1, by omega⟩
    have hp := ok p List.mem_cons_self
    have ih := alt_back ni a k (by omega) fun q hq => ok q (List.mem_cons_of_mem _ hq)
    have e : inner (p :: a) ++ rest = p.lnA inL ++ (inner a ++ rest) := by
      unfold inner
      rw [List.map_cons, List.flatten_cons, List.append_assoc]
    have nt : NTa inL (inner a ++ rest) := by
      cases a with
      | nil =>
        show NTa inL rest
        cases rest with
        | nil => trivial
        | cons l r =>
          have ni : stw inL l = false := ni
          show stw (inL ++ [32, 32]) l = false
          unfold stw at ni ⊢
          rw [beq_eq_false_iff_ne] at ni ⊢
          intro z
          refine ni ?_
          have := congrArg (List.take 4) z
          rw [List.take_take] at this
          exact this
      | cons q b =>
        obtain ⟨c, r, er, hc⟩ := first_sign (ok q (by simp))
        unfold inner
        rw [List.map_cons, List.flatten_cons, Ps.lnA_eq, List.cons_append, List.cons_append]
        exact sign_nt er hc [32]
    rw [e]
    have sb := step_back hp nt
    have el : p.lnA inL ++ (inner a ++ rest) = (inL ++ jn 32 p.ws) :: (p.more.map (inL ++ [32, 32] ++ ·) ++ (inner a ++ rest)) := by rw [Ps.lnA_eq]; rfl
    have dr : (p.lnA inL ++ (inner a ++ rest)).drop (p.lnA inL).length = inner a ++ rest := List.drop_left' rfl
    rw [el] at dr ⊢
    rw [altM, if_pos (stw_app _ _), sb]
    show (altM k (((inL ++ jn 32 p.ws) :: (p.more.map (inL ++ [32, 32] ++ ·) ++ (inner a ++ rest))).drop (p.lnA inL).length)).pre [p.d] (p.lnA inL).length = _
    rw [dr, ih]
    show Out.ok ([p.d] ++ a.map Ps.d) ((p.lnA inL).length + (inner a).length) = _
    unfold inner
    rw [List.map_cons, List.map_cons, List.flatten_cons, List.length_append]
    rfl
/-- the next line is no alternative's head, and none of its steps -/
def NO : List LN → Prop
  | [] => True
  | l :: _ => TS l ≠ "  or" ∧ stw inL l = false
theorem NO.ni {rest : List LN} (h : NO rest) : NI rest := by
  cases rest with
  | nil => trivial
  | cons l r => exact h.2
theorem or_ts : TS orL = "  or" := by decide +kernel
theorem alts_back {rest : List LN} (no : NO rest) : ∀ (as : List (List Ps)) (k : Nat), as.length ≤ k → (∀ a ∈ as, AltOk a) → altsM k ((as.map altLn).flatten ++ rest) = .ok (as.map altD) ((as.map altLn).flatten).length
  | [], k, _, _ => by
    show altsM k rest = .ok [] 0
    cases k with
    | zero => unfold altsM; rfl
    | succ k =>
      cases rest with
      | nil => unfold altsM; rfl
      | cons l r =>
        rw [altsM, if_neg no.1]
  | a :: as, k, lk, ok => by
    rw [List.length_cons] at lk
    obtain ⟨k, rfl⟩ : ∃ j, k = j + 1 := ⟨k - 1, by omega⟩
    obtain ⟨a4, ap⟩ := ok a List.mem_cons_self
    have ih := alts_back no as k (by omega) fun q hq => ok q (List.mem_cons_of_mem _ hq)
    have ni : NI ((as.map altLn).flatten ++ rest) := by
      cases as with
      | nil => exact no.ni
      | cons b bs => show stw inL orL = false; decide +kernel
    have ab := alt_back ni a 4 a4 ap
    have e : ((a :: as).map altLn).flatten ++ rest = orL :: (inner a ++ ((as.map altLn).flatten ++ rest)) := by
      rw [List.map_cons, List.flatten_cons]
      unfold altLn
      rw [List.cons_append, List.cons_append, List.append_assoc]
    have dr : (orL :: (inner a ++ ((as.map altLn).flatten ++ rest))).drop (1 + (inner a).length) = (as.map altLn).flatten ++ rest := by
      rw [Nat.add_comm, List.drop_succ_cons]
      exact List.drop_left' rfl
    rw [e, altsM, if_pos or_ts, ab]
    show (altsM k ((orL :: (inner a ++ ((as.map altLn).flatten ++ rest))).drop (1 + (inner a).length))).pre [.tuple (a.map Ps.d)] (1 + (inner a).length) = _
    rw [dr, ih]
    show Out.ok ([altD a] ++ as.map altD) (1 + (inner a).length + ((as.map altLn).flatten).length) = _
    rw [List.map_cons, List.map_cons, List.flatten_cons, List.length_append]
    unfold altLn
    rw [List.length_cons, Nat.add_comm 1]
    rfl
theorem no_steps {nu : Nu} {ss : List Stp} (h : StsOk nu ss) : NO ((ss.map Stp.ln).flatten) := by
  have sg : ∀ {l r : LN} {c : Nat}, l = c :: r → 97 ≤ c → TS l ≠ "  or" ∧ stw inL l = false := fun {l r c} e hc => by
    constructor
    · intro z
      have := congrArg CL z
      rw [cl_ts, e] at this
      have o : CL ("  or" : Str) = orL := by decide +kernel
      rw [o] at this
      injection this with t1 _
      omega
    · have := sign_nt (ah := []) e hc [32, 32, 32]
      exact this
  cases ss with
  | nil => trivial
  | cons s r =>
    cases s with
    | pl p =>
      obtain ⟨c, q, e, hc⟩ := first_sign h.1
      exact sg e hc
    | ch lb as => exact sg (l := chL ++ CL lb) (c := 99) rfl (by decide)
theorem steps_back : ∀ (ss : List Stp) (k : Nat) (nu : Nu), ss.length ≤ k → StsOk nu ss → stepsM k ((ss.map Stp.ln).flatten) nu = .ok (ss.map Stp.d) ((ss.map Stp.ln).flatten).length
  | [], k, nu, _, _ => by cases k <;> (show stepsM _ [] nu = .ok [] 0; unfold stepsM; rfl)
  | .pl p :: ss, k, nu, lk, ok => by
    rw [List.length_cons] at lk
    obtain ⟨k, rfl⟩ : ∃ j, k = j + 1 := ⟨k - 1, by omega⟩
    have ih := steps_back ss k nu (by omega) ok.2
    have no := no_steps ok.2
    have lnn : p.lnA [] = p.ln := by unfold Ps.lnA; exact List.map_id' _
    have nt : NTa [] ((ss.map Stp.ln).flatten) := by
      cases ss with
      | nil => trivial
      | cons s r =>
        cases s with
        | pl q =>
          obtain ⟨c, x, e, hc⟩ := first_sign ok.2.1
          exact sign_nt (ah := []) e hc [32]
        | ch lb as => exact sign_nt (ah := []) (l := chL ++ CL lb) (c := 99) rfl (by decide) [32]
    have sb := step_back ok.1 nt
    rw [lnn] at sb
    obtain ⟨c, x, e, hc⟩ := first_sign ok.1
    have nc : stw chL (jn 32 p.ws) = false := by
      have key : ∀ {w : Str} {ws : List LN}, (∀ r, stw chL (CL w ++ 32 :: r) = false) → stw chL (CL w) = false → stw chL (jn 32 (CL w :: ws)) = false := fun {w ws} h1 h2 => by
        cases ws with
        | nil => exact h2
        | cons a b => rw [jn_cons (List.cons_ne_nil _ _)]; exact h1 _
      cases p <;> exact key (fun r => by unfold stw; rfl) (by unfold stw; rfl)
    have el : ((Stp.pl p :: ss).map Stp.ln).flatten = jn 32 p.ws :: (p.more.map ([] ++ [32, 32] ++ ·) ++ (ss.map Stp.ln).flatten) := by rw [List.map_cons, List.flatten_cons]; rfl
    have dr : (jn 32 p.ws :: (p.more.map ([] ++ [32, 32] ++ ·) ++ (ss.map Stp.ln).flatten)).drop p.ln.length = (ss.map Stp.ln).flatten := by rw [← el, List.map_cons, List.flatten_cons]; exact List.drop_left' rfl
    have sb : stepM [] (jn 32 p.ws) (p.more.map ([] ++ [32, 32] ++ ·) ++ (ss.map Stp.ln).flatten) = .ok p.d p.ln.length := sb
    rw [el, stepsM, if_neg (by rw [nc]; decide), sb]
    show (stepsM k ((jn 32 p.ws :: (p.more.map ([] ++ [32, 32] ++ ·) ++ (ss.map Stp.ln).flatten)).drop p.ln.length) nu).pre [p.d] p.ln.length = _
    rw [dr, ih]
    show Out.ok ([p.d] ++ ss.map Stp.d) (p.ln.length + ((ss.map Stp.ln).flatten).length) = Out.ok (p.d :: ss.map Stp.d) _
    rw [← el, List.map_cons, List.flatten_cons, List.length_append]
    rfl
  | .ch lb as :: ss, k, nu, lk, ok => by
    rw [List.length_cons] at lk
    obtain ⟨k, rfl⟩ : ∃ j, k = j + 1 := ⟨k - 1, by omega⟩
    obtain ⟨nl, oka, g2, g4, okr⟩ := ok
    have ih := steps_back ss k _ (by omega) okr
    have ab := alts_back (no_steps okr) as _ g4 oka
    have el : ((Stp.ch lb as :: ss).map Stp.ln).flatten = (chL ++ CL lb) :: ((as.map altLn).flatten ++ (ss.map Stp.ln).flatten) := by rw [List.map_cons, List.flatten_cons]; rfl
    have dr : ((chL ++ CL lb) :: ((as.map altLn).flatten ++ (ss.map Stp.ln).flatten)).drop (1 + ((as.map altLn).flatten).length) = (ss.map Stp.ln).flatten := by
      rw [Nat.add_comm, List.drop_succ_cons]
      exact List.drop_left' rfl
    have cb : chooseM (chL ++ CL lb) ((as.map altLn).flatten ++ (ss.map Stp.ln).flatten) nu = .ok (CL lb, as.map altD) (1 + ((as.map altLn).flatten).length) := by
      unfold chooseM
      rw [cutp_app]
      unfold chooseL
      rw [if_pos (nm_CL nl), ab]
      show (if (as.map altD).length < getN nu (CL lb) 2 then _ else _) = _
      rw [List.length_map, if_neg (by omega)]
    rw [el, stepsM, if_pos (stw_app _ _), cb]
    show (stepsM k (((chL ++ CL lb) :: ((as.map altLn).flatten ++ (ss.map Stp.ln).flatten)).drop (1 + ((as.map altLn).flatten).length)) (putN nu (CL lb) (as.map altD).length)).pre [chooseD (CL lb, as.map altD)] (1 + ((as.map altLn).flatten).length) = _
    rw [dr, List.length_map, ih]
    have : chooseD (CL lb, as.map altD) = Stp.d (.ch lb as) := by
      unfold chooseD strD
      rw [ts_cl]
      rfl
    rw [this]
    show Out.ok ([Stp.d (.ch lb as)] ++ ss.map Stp.d) (1 + ((as.map altLn).flatten).length + ((ss.map Stp.ln).flatten).length) = _
    rw [List.length_cons, List.length_append]
    exact congrArg (Out.ok _) (by omega)
/-! ## a pipeline -/
def pipeLn (src : Str) (ss : List Stp) : List LN := (frL ++ CL src) :: (ss.map Stp.ln).flatten
theorem pipe_back {src : Str} {ss : List Stp} (hs : nmS src) (l10 : ss.length ≤ 10) (ok : StsOk [] ss) : ∃ n, pipeM (pipeLn src ss) = .ok (ss.map Stp.d) n := by
  unfold pipeLn
  rw [pipe_cons, if_pos (show srcB (frL ++ CL src) = true by unfold srcB; rw [stw_app, cutp_app, nm_CL hs]; rfl), steps_back ss 10 [] l10 ok]
  exact ⟨_, rfl⟩
end K78
set_option Elab.async false
set_option linter.all false
set_option maxRecDepth 100000
set_option maxHeartbeats 4000000
namespace K78
open PySem PySem.Spec PyProof.Rows L2 Lc
/-! ## how long the lines are -/
theorem jn_as : ∀ {ws : List LN}, (∀ w ∈ ws, As w) → As (jn 32 ws)
  | [], _ => nofun
  | [w], h => h w List.mem_cons_self
  | w :: v :: ws, h => by
    rw [jn_cons (List.cons_ne_nil _ _)]
    exact (h w List.mem_cons_self).app (As.cons (by decide) (jn_as fun x hx => h x (List.mem_cons_of_mem _ hx)))
theorem jn_cnt {ws : List LN} (h : WsG ws) : (jn 32 ws).count 32 + 1 = ws.length := by
  have := spl_count (c := 32) (jn 32 ws)
  rw [spl_jn h.1 h.2] at this
  exact this.symm
theorem jn_leB {c b : Nat} : ∀ (ws : List LN), (∀ w ∈ ws, w.length ≤ b) → (jn c ws).length ≤ ws.length * (b + 1)
  | [], _ => Nat.zero_le _
  | [w], h => by have := h w List.mem_cons_self; show w.length ≤ 1 * (b + 1); omega
  | w :: v :: ws, h => by
    have ih := jn_leB (c := c) (v :: ws) fun x hx => h x (List.mem_cons_of_mem _ hx)
    have := h w List.mem_cons_self
    rw [jn_cons (List.cons_ne_nil _ _), List.length_append, List.length_cons, List.length_cons (a := w), Nat.succ_mul]
    omega
theorem spl_as {l : LN} (h : As l) : ∀ w ∈ spl 32 l, As w := fun w hw c hc => h c ((spl_sub l w hw).subset hc)
theorem as_names {ns : List Str} (h : ∀ x ∈ ns, nmS x) : ∀ w ∈ ns.map CL, As w ∧ w.length ≤ 12 := fun w hw => by
  obtain ⟨z, hz, rfl⟩ := List.mem_map.mp hw
  exact ⟨(aw_name (h z hz)).as, (name_signs (h z hz)).2.1⟩
theorem as_digs {n : Nat} (h : n ≤ 1000000000) : As (digs n) ∧ (digs n).length ≤ 12 := ⟨(aw_digs n).as, Nat.le_trans (digs_len 10 n (by decide) (Nat.lt_of_le_of_lt h (by decide))) (by decide)⟩
def sm12 (ws : List LN) : Prop := ∀ w ∈ ws, As w ∧ w.length ≤ 12
theorem sm_cons {w : LN} {ws : List LN} (h : As w ∧ w.length ≤ 12) (g : sm12 ws) : sm12 (w :: ws) := fun x hx => by
  rcases List.mem_cons.mp hx with rfl | hx
  · exact h
  · exact g x hx
theorem sm_word {w : LN} (h : awB w = true) (l : w.length ≤ 12) : As w ∧ w.length ≤ 12 := ⟨(aw_of h).as, l⟩
theorem sm_name {z : Str} (h : nmS z) : As (CL z) ∧ (CL z).length ≤ 12 := ⟨(aw_name h).as, (name_signs h).2.1⟩
/-- the words of a plain step but keep and set are short, and few -/
theorem Ps.Ok.short {p : Ps} (h : p.Ok) : (sm12 p.ws ∧ p.ws.length ≤ 9) ∨ ∃ w e, p.ws = w ++ spl 32 (shL e) ∧ sm12 w ∧ 1 ≤ w.length ∧ w.length ≤ 2 ∧ Xf 8 e ∧ ((∃ x, p = .set x e) ∨ p = .keep e) := by
  cases p with
  | keep e => exact .inr ⟨[CL "keep"], e, rfl, sm_cons (sm_word (by decide +kernel) (by decide +kernel)) nofun, by decide, by decide, h, .inr rfl⟩
  | set x e => exact .inr ⟨[CL "set", CL x], e, rfl, sm_cons (sm_word (by decide +kernel) (by decide +kernel)) (sm_cons (sm_name h.1) nofun), by show 1 ≤ 2; decide, by show 2 ≤ 2; decide, h.2, .inl ⟨x, rfl⟩⟩
  | select ns =>
    refine .inl ⟨sm_cons (sm_word (by decide +kernel) (by decide +kernel)) (as_names h.1), ?_⟩
    show (ns.map CL).length + 1 ≤ 9
    rw [List.length_map]
    have := h.2.2.2
    omega
  | rename a b => exact .inl ⟨sm_cons (sm_word (by decide +kernel) (by decide +kernel)) (sm_cons (sm_name h.1) (sm_cons (sm_name h.2) nofun)), by show 3 ≤ 9; decide⟩
  | sort a u =>
    have : As (CL (updn u)) ∧ (CL (updn u)).length ≤ 12 := by cases u <;> exact sm_word (by decide +kernel) (by decide +kernel)
    exact .inl ⟨sm_cons (sm_word (by decide +kernel) (by decide +kernel)) (sm_cons (sm_name h) (sm_cons this nofun)), by show 3 ≤ 9; decide⟩
  | first n => exact .inl ⟨sm_cons (sm_word (by decide +kernel) (by decide +kernel)) (sm_cons (as_digs (Nat.le_trans h (by decide))) nofun), by show 2 ≤ 9; decide⟩
  | sample n w s =>
    obtain ⟨h1, h2, h3, h4⟩ := h
    exact .inl ⟨sm_cons (sm_word (by decide +kernel) (by decide +kernel)) (sm_cons (as_digs (by omega)) (sm_cons (as_digs (by omega)) (sm_cons (as_digs h4) nofun))), by show 4 ≤ 9; decide⟩
  | join t ks =>
    refine .inl ⟨sm_cons (sm_word (by decide +kernel) (by decide +kernel)) (sm_cons (sm_name h.1) (sm_cons (sm_word (by decide +kernel) (by decide +kernel)) (as_names h.2.1))), ?_⟩
    show (ks.map CL).length + 1 + 1 + 1 ≤ 9
    rw [List.length_map]
    have := h.2.2.2.2
    omega
  | union t => exact .inl ⟨sm_cons (sm_word (by decide +kernel) (by decide +kernel)) (sm_cons (sm_name h) nofun), by show 2 ≤ 9; decide⟩
  | distinct => exact .inl ⟨sm_cons (sm_word (by decide +kernel) (by decide +kernel)) nofun, by decide⟩
  | group ks ts =>
    refine .inl ⟨sm_cons (sm_word (by decide +kernel) (by decide +kernel)) (as_names h.k), ?_⟩
    show (ks.map CL).length + 1 ≤ 9
    rw [List.length_map]
    have := h.kl
    omega
theorem jn_app_spl (w : List LN) (l : LN) (h : w ≠ []) : jn 32 (w ++ spl 32 l) = jn 32 w ++ 32 :: l := by
  induction w with
  | nil => exact absurd rfl h
  | cons a r ih =>
    cases r with
    | nil =>
      show jn 32 (a :: spl 32 l) = a ++ 32 :: l
      rw [jn_cons (spl_ne l), jn_spl]
    | cons b r =>
      rw [List.cons_append, jn_cons (by simp), ih (List.cons_ne_nil _ _), jn_cons (List.cons_ne_nil _ _)]
      simp
/-- the first line: its signs, its length, its blanks -/
theorem Ps.Ok.first_line {p : Ps} (h : p.Ok) {n : Nat} (hn : n ≤ 8) (sm : ∀ e, ((∃ x, p = .set x e) ∨ p = .keep e) → Xf n e) : As (jn 32 p.ws) ∧ (jn 32 p.ws).length ≤ szT n + 120 ∧ (jn 32 p.ws).count 32 ≤ czX n + 10 := by
  have g := jn_cnt h.good
  rcases h.short with ⟨h1, h2⟩ | ⟨w, e, h1, h2, h3, h4, h5, h6⟩
  · refine ⟨jn_as fun x hx => (h1 x hx).1, ?_, by omega⟩
    have := jn_leB (c := 32) p.ws fun x hx => (h1 x hx).2
    omega
  · have x := sm e h6
    obtain ⟨a1, a2⟩ := xf_as x
    have l := xf_len x
    have hne : w ≠ [] := fun q => by rw [q] at h3; exact absurd h3 (by decide)
    have jw := jn_leB (c := 32) w fun x hx => (h2 x hx).2
    rw [h1, jn_app_spl w _ hne]
    refine ⟨(jn_as fun x hx => (h2 x hx).1).app (As.cons (by decide) a1), ?_, ?_⟩
    · rw [List.length_append, List.length_cons]
      omega
    · rw [h1, List.length_append, spl_count, jn_app_spl w _ hne] at g
      omega
theorem tot_line {t : Str × Str × Str} (h1 : nmS t.1) (h2 : t.2.1 ∈ fnS) (h3 : nmS t.2.2) : As (totLn t) ∧ (totLn t).length ≤ 60 ∧ (totLn t).count 32 ≤ 10 := by
  have fw := fn_words h2
  have fl : (CL t.2.1).length ≤ 12 := by
    have : ∀ g ∈ fnS, (CL g).length ≤ 12 := by decide +kernel
    exact this _ h2
  have s : sm12 [CL "total", CL t.1, CL t.2.1, CL t.2.2] := sm_cons (sm_word (by decide +kernel) (by decide +kernel)) (sm_cons (sm_name h1) (sm_cons ⟨fw.1.as, fl⟩ (sm_cons (sm_name h3) nofun)))
  have g : WsG [CL "total", CL t.1, CL t.2.1, CL t.2.2] := WsG.cons (aw_of (by decide +kernel)).no fun w hw => by
    simp only [List.mem_cons, List.not_mem_nil, or_false] at hw
    rcases hw with rfl | rfl | rfl
    · exact (aw_name h1).no
    · exact fw.1.no
    · exact (aw_name h3).no
  refine ⟨jn_as fun x hx => (s x hx).1, ?_, ?_⟩
  · exact Nat.le_trans (jn_leB (c := 32) (b := 12) _ fun x hx => (s x hx).2) (by show 4 * 13 ≤ 60; decide)
  · have := jn_cnt g
    have e : [CL "total", CL t.1, CL t.2.1, CL t.2.2].length = 4 := rfl
    rw [e] at this
    show (jn 32 [CL "total", CL t.1, CL t.2.1, CL t.2.2]).count 32 ≤ 10
    omega
def LnB (n : Nat) (l : LN) : Prop := As l ∧ l.length ≤ szT n + 130 ∧ l.count 32 ≤ czX n + 20
def Ps.Sm (n : Nat) (p : Ps) : Prop := ∀ e, ((∃ x, p = .set x e) ∨ p = .keep e) → Xf n e
theorem LnB.app {n : Nat} {a b : LN} (h : As b ∧ b.length ≤ szT n + 120 ∧ b.count 32 ≤ czX n + 12) (g : As a ∧ a.length ≤ 6 ∧ a.count 32 ≤ 6) : LnB n (a ++ b) := ⟨g.1.app h.1, by rw [List.length_append]; omega, by rw [List.count_append]; omega⟩
theorem Ps.Ok.lines {p : Ps} (h : p.Ok) {n : Nat} (hn : n ≤ 8) (sm : p.Sm n) {ah : LN} (ha : ah = [] ∨ ah = inL) : ∀ l ∈ p.lnA ah, LnB n l := by
  have f := h.first_line hn sm
  have pre : As ah ∧ ah.length ≤ 4 ∧ ah.count 32 ≤ 4 := by
    rcases ha with rfl | rfl
    · exact ⟨nofun, by decide, by decide⟩
    · exact ⟨fun c hc => by simp [inL] at hc; omega, by decide, by decide⟩
  rw [Ps.lnA_eq]
  intro l hl
  rcases List.mem_cons.mp hl with rfl | hl
  · exact LnB.app ⟨f.1, f.2.1, by omega⟩ ⟨pre.1, by omega, by omega⟩
  · obtain ⟨x, hx, rfl⟩ := List.mem_map.mp hl
    cases p with
    | group ks ts =>
      obtain ⟨t, ht, rfl⟩ := List.mem_map.mp (show x ∈ ts.map totLn from hx)
      obtain ⟨t1, t2, t3⟩ := h.t t ht
      obtain ⟨q1, q2, q3⟩ := tot_line t1 t2 t3
      refine LnB.app ⟨q1, by omega, by omega⟩ ⟨pre.1.app (fun c hc => by simp at hc; omega), by rw [List.length_append]; show _ + 2 ≤ 6; omega, by rw [List.count_append]; show _ + 2 ≤ 6; omega⟩
    | _ => cases hx
def Stp.Ok1 : Stp → Prop
  | .pl p => p.Ok
  | .ch lb as => nmS lb ∧ as.length ≤ 4 ∧ ∀ a ∈ as, AltOk a
def Stp.Sm (n : Nat) : Stp → Prop
  | .pl p => p.Sm n
  | .ch _ as => ∀ a ∈ as, ∀ p ∈ a, p.Sm n
theorem Stp.Ok1.lines {s : Stp} (h : s.Ok1) {n : Nat} (hn : n ≤ 8) (sm : s.Sm n) : ∀ l ∈ s.ln, LnB n l := by
  cases s with
  | pl p =>
    have := Ps.Ok.lines (p := p) h hn sm (ah := []) (.inl rfl)
    rw [show p.lnA [] = p.ln from by unfold Ps.lnA; exact List.map_id' _] at this
    exact this
  | ch lb as =>
    intro l hl
    rcases List.mem_cons.mp hl with rfl | hl
    · have a := aw_name h.1
      have b := (name_signs h.1).2.1
      have c0 := a.cnt
      refine ⟨As.app (fun c hc => by simp [chL] at hc; omega) a.as, by rw [List.length_append]; show 7 + _ ≤ _; omega, by rw [List.count_append, c0]; show 1 + 0 ≤ _; omega⟩
    · obtain ⟨m, hm, hl⟩ := List.mem_flatten.mp hl
      obtain ⟨a, ha, rfl⟩ := List.mem_map.mp hm
      rcases List.mem_cons.mp hl with rfl | hl
      · refine ⟨fun c hc => by simp [orL] at hc; omega, by show 4 ≤ _; omega, by show 2 ≤ _; omega⟩
      · obtain ⟨m, hm, hl⟩ := List.mem_flatten.mp hl
        obtain ⟨p, hp, rfl⟩ := List.mem_map.mp hm
        exact Ps.Ok.lines ((h.2.2 a ha).2 p hp) hn (sm a ha p hp) (.inr rfl) l hl
theorem pipe_lines {src : Str} (hs : nmS src) {ss : List Stp} (h : ∀ s ∈ ss, s.Ok1 ∧ s.Sm 3) : ∀ l ∈ pipeLn src ss, LineOk l ∧ 10 ∉ l := by
  have key : ∀ l, LnB 3 l → LineOk l ∧ 10 ∉ l := fun l ⟨h1, h2, h3⟩ => by
    have z : szT 3 = 1300 := by decide +kernel
    have y : czX 3 = 39 := by decide +kernel
    rw [z] at h2
    rw [y] at h3
    exact ⟨⟨⟨by omega, fun c hc => by have := (h1 c hc).2; omega⟩, by omega, by omega⟩, fun m => by have := (h1 10 m).1; omega⟩
  intro l hl
  rcases List.mem_cons.mp hl with rfl | hl
  · have a := aw_name hs
    have b := (name_signs hs).2.1
    have c0 := a.cnt
    exact key _ ⟨As.app (fun c hc => by simp [frL] at hc; omega) a.as, by rw [List.length_append]; show 5 + _ ≤ _; omega, by rw [List.count_append, c0]; show 1 + 0 ≤ _; omega⟩
  · obtain ⟨m, hm, hl⟩ := List.mem_flatten.mp hl
    obtain ⟨s, hs', rfl⟩ := List.mem_map.mp hm
    exact key l ((h s hs').1.lines (by decide) (h s hs').2 l hl)
end K78
set_option Elab.async false
set_option linter.all false
set_option maxRecDepth 100000
set_option maxHeartbeats 4000000
namespace K78
open PySem PySem.Spec PyProof.Rows L2 Lc
abbrev teFrm (n : Nat) : TE := tCall (spSh n) [] E0 (tCons (tVar 1) tNil)
section
variable {P : Program} {w : World} {K : PySem.W.Frag} {mg : Str → Option Value} {base : Heap} {f : Addr} {fd : FuncData}
abbrev sVww : Stmt := top 93
abbrev nVww : List Str := ["_law_thing"]
abbrev pVww : List Str := ["_law_thing"]
theorem scVww : FnScope nVww pVww (defScope sVww) := ⟨rfl, rfl, rfl, by decide +kernel, rfl, by decide +kernel, by decide +kernel⟩
section
theorem ok_Vww (F : Fun K "_law_value_words" "_law_value_words" sVww f fd) (T : Bt mg) : FnOk P w K mg base CX0 1 f fd pVww (spShv) := by
  refine F.ok scVww (fun vs H Q E h => ?_) (fun cdv A outer s H vs Q E hr h => ?_)
  · obtain ⟨v, d, kd, rfl, _⟩ := h
    rfl
  · obtain ⟨v, d, kd, rfl, hv, vk, nn, k⟩ := h
    refine ⟨_, (pss_cons (ps_if (pt_val (pe_callB call_isi (by rfl) T.isi boot_isinstance (pa_cons (pv 0) (pa_cons (pe_bltn (v := .ty "bool") (by rfl) T.bool boot_bool rfl) pa_nil)))) (pss_one (ps_ret (pe_ix ix_list (pe_lst (pa_cons pe_str (pa_cons pe_str pa_nil))) (pe_callTy call_int1 (by rfl) T.int boot_int (pa_cons (pv 0) pa_nil)) (fun _ _ => rfl)))) pss_nil)
      (pss_cons (ps_if (pt_val (pe_callB call_isi (by rfl) T.isi boot_isinstance (pa_cons (pv 0) (pa_cons (pe_bltn (v := .ty "str") (by rfl) T.str boot_str rfl) pa_nil)))) (pss_one (ps_ret (pe_op op_add_str pe_str (pv 0)))) pss_nil)
      (pss_one (ps_ret (pe_ifExp (pt_cmpR op_eq (pe_ix ix_tup (pv 0) pe_int (fun _ _ => rfl)) pe_int (nomark _)) (pe_callTy call_str_int (by rfl) T.str boot_str (pa_cons (pe_ix ix_tup (pv 0) pe_int (fun _ _ => rfl)) pa_nil)) (pe_op op_add_str (pe_op op_add_str (pe_callTy call_str_int (by rfl) T.str boot_str (pa_cons (pe_ix ix_tup (pv 0) pe_int (fun _ _ => rfl)) pa_nil)) pe_str) (pe_callTy call_str_int (by rfl) T.str boot_str (pa_cons (pe_ix ix_tup (pv 0) pe_int (fun _ _ => rfl)) pa_nil)))))))), ?_⟩
    have two : 2 ≤ sizeLine := by decide
    cases vk with
    | non => exact absurd rfl nn
    | flag b =>
      cases hv
      have tb : TyN H (.bl b) "bool" := .bl b
      refine ⟨_, rfl, .bl b, .ty "bool", _, _, _, rfl, .ty "bool", tb.x, kit_bool tb.mem, _, rfl, iteT ⟨two, fun l hl => ?_⟩⟩
      refine ⟨_, rfl, .inr ⟨b, rfl, ?_⟩⟩
      have fin : ∀ {z : Str}, z = TS (valL (.bool b)) → Q (.str z) (upd H l (.lst [.str "#no", .str "#yes"])) := fun {z} e => by rw [e]; exact k _ (Same.upd hl)
      cases b with
      | true => exact ⟨l, _, _, .str "#yes", rfl, rfl, SqL.of upd_same, rfl, fin (by decide +kernel)⟩
      | false => exact ⟨l, _, _, .str "#no", rfl, rfl, SqL.of upd_same, rfl, fin (by decide +kernel)⟩
    | @word x hx hn =>
      cases hv
      have ts : TyN H (.str x) "str" := .str x
      refine ⟨_, rfl, .str x, .ty "bool", _, _, _, rfl, .ty "bool", ts.x, kit_bool ts.mem, _, rfl, iteF ?_⟩
      refine ⟨_, rfl, .str x, .ty "str", _, _, _, rfl, .ty "str", ts.x, kit_str ts.mem, _, rfl, iteT ?_⟩
      have l12 : x.cps.toList.length ≤ 12 := (name_signs hn).2.1
      refine ⟨_, rfl, _, _, rfl, rfl, ?_, ?_⟩
      · rw [lenL x]
        exact Nat.le_trans (show 1 + _ ≤ 13 by omega) (by decide)
      · have e : ("'" : Str) ++ x = TS (39 :: CL x) := str_ext (by rw [appL]; show _ = CL (TS _); rw [cl_ts]; rfl)
        rw [e]
        exact k H (Same.refl H)
    | @num n dd rt b1 b2 =>
      obtain ⟨p, rfl, hp⟩ := dh_pair hv
      have ts : TyN H (.ref p) "tuple" := .tup hp
      have a := int_len b1
      have b := int_len b2
      have k0 : Q (.str (TS (ratL n dd))) H := k H (Same.refl H)
      unfold ratL at k0
      refine ⟨_, rfl, .ref p, .ty "bool", _, _, _, rfl, .ty "bool", ts.x, kit_bool ts.mem, _, rfl, iteF ?_⟩
      refine ⟨_, rfl, .ref p, .ty "str", _, _, _, rfl, .ty "str", ts.x, kit_str ts.mem, _, rfl, iteF ?_⟩
      refine ⟨_, rfl, p, _, _, _, rfl, rfl, SqT.of hp, rfl, rfl, _, rfl, ?_⟩
      by_cases z : dd = 1
      · rw [decide_eq_true (show V.int dd = V.int 1 by rw [z])]
        rw [if_pos z, ← int_str] at k0
        exact iteT ⟨_, rfl, p, _, _, _, rfl, rfl, SqT.of hp, rfl, n, rfl, lg_lim b1, k0⟩
      · rw [decide_eq_false (show ¬ V.int dd = V.int 1 from fun e => z (by injection e))]
        rw [if_neg z] at k0
        have e1 : TS (intL n) ++ ("/" : Str) = TS (intL n ++ [47]) := by rw [← ts_app]; rfl
        have e2 : TS (intL n ++ [47]) ++ TS (intL dd) = TS (intL n ++ 47 :: intL dd) := by rw [ts_app, List.append_assoc]; rfl
        refine iteF ⟨_, rfl, p, _, _, _, rfl, rfl, SqT.of hp, rfl, n, rfl, lg_lim b1, _, _, rfl, rfl, ?_, ?_⟩
        · rw [int_str, ts_len]
          have : (PySem.Str.ofString "/").length = 1 := by decide +kernel
          rw [this]
          exact Nat.le_trans (show _ ≤ 100 by omega) (by decide)
        rw [int_str, e1]
        refine ⟨_, rfl, p, _, _, _, rfl, rfl, SqT.of hp, rfl, dd, rfl, lg_lim b2, _, _, rfl, rfl, ?_, ?_⟩
        · rw [int_str, ts_len, ts_len, List.length_append]
          exact Nat.le_trans (show _ + 1 + _ ≤ 100 by omega) (by decide)
        rw [int_str, e2]
        exact k0
end
abbrev sFrm : Stmt := top 94
abbrev nFrm : List Str := ["_law_expression_here", "_law_operand"]
abbrev pFrm : List Str := ["_law_expression_here"]
theorem scFrm : FnScope nFrm pFrm (defScope sFrm) := ⟨rfl, rfl, rfl, by decide +kernel, rfl, by decide +kernel, by decide +kernel⟩
section
variable {fA_ fB_ : Addr} {fdA_ fdB_ : FuncData}
theorem ok_Frm (F : Fun K "_law_form" "_law_form" sFrm f fd) (T : Bt mg) (n : Nat)
    (GA_ : FnOk P w K mg base CX0 (1 + n) fA_ fdA_ ["_law_expression_here"] (spSh n)) (mA_ : mg "_law_form" = some (.ref fA_)) (kA_ : PySem.W.keepIn K (.ref fA_) = true) (bA_ : Binds K fdA_ ["_law_expression_here"] [])
    (GB_ : FnOk P w K mg base CX0 1 fB_ fdB_ ["_law_thing"] (spShv)) (mB_ : mg "_law_value_words" = some (.ref fB_)) (kB_ : PySem.W.keepIn K (.ref fB_) = true) (bB_ : Binds K fdB_ ["_law_thing"] []) : FnOk P w K mg base CX0 (1 + n + 1) f fd pFrm (spSh (n + 1)) := by
  refine F.ok scFrm (fun vs H Q E h => ?_) (fun cdv A outer s H vs Q E hr h => ?_)
  · obtain ⟨v, d, rfl, _⟩ := h
    rfl
  · obtain ⟨v, d, rfl, hv, xf, k⟩ := h
    have hrA_ : Room ((1 + n)) _ := hr.mono (by first | decide | omega)
    have hrB_ : Room (1) _ := hr.mono (by first | decide | omega)
    refine ⟨_, (pss_cons (ps_if (pt_cmpR op_eq (pe_ix ix_tup (pv 0) pe_int (fun _ _ => rfl)) pe_str (nomark _)) (pss_one (ps_ret (pe_ix ix_tup (pv 0) pe_int (fun _ _ => rfl)))) pss_nil)
      (pss_cons (ps_if (pt_cmpR op_eq (pe_ix ix_tup (pv 0) pe_int (fun _ _ => rfl)) pe_str (nomark _)) (pss_one (ps_ret (pe_op op_add_str pe_str (pe_call GB_ hrB_ (by rfl) mB_ kB_ bB_ .nil pass0 (pa_cons (pe_ix ix_tup (pv 0) pe_int (fun _ _ => rfl)) pa_nil))))) pss_nil)
      (pss_one (ps_ret (pe_op op_add_str (pe_op op_add_str pe_str (pe_m1 PySem.F.slot_str_join PySem.F.type_str_join mt_join pe_str (pe_op op_cat (pe_lst (pa_cons (pe_ix ix_tup (pv 0) pe_int (fun _ _ => rfl)) pa_nil)) (pe_lc (own := [("_law_operand", 1)]) (g := (gName 1)) (tt := tYes) (te := teFrm n) (by rfl) scFrm.nd (pi_tup (pe_slice sl_tup (pv 0) (po_some pe_int) po_none)) (blkOk_by (own := [("_law_operand", 1)]) (N := nFrm) (sc := defScope sFrm) (by decide +kernel)) (fun _ _ _ _ _ => (pg_name (i := 1) scFrm.nd rfl (.inl rfl))) (fun _ _ _ _ _ => pts_nil) (fun _ _ _ _ _ => (pe_call GA_ hrA_ (by rfl) mA_ kA_ bA_ .nil pass0 (pa_cons (pv 1) pa_nil))))))) pe_str))))), ?_⟩
    obtain ⟨xf, n8, k⟩ := (⟨xf, k⟩ : Xf (n + 1) d ∧ n + 1 ≤ 8 ∧ ∀ H', Same H H' → Q (.str (TS (shL d))) H')
    have sE : ∀ (a b : Str), decide (V.str a = V.str b) = decide (a = b) := fun a b => decide_eq_decide.mpr ⟨fun e => by injection e, fun e => by rw [e]⟩
    have sz := szT_le n8
    have sz1 := szT_le (show n ≤ 8 by omega)
    have ln := xf_len xf
    cases xf with
    | @col _ z hz hn =>
      cases hv with
      | @tup a ys0 _ ea hs0 =>
      cases hs0 with
      | cons h1 r1 =>
      cases h1
      cases r1 with
      | cons h2 r2 =>
      cases r2
      cases h2
      rw [sh_col, ts_cl] at k
      refine ⟨_, rfl, a, _, _, .str "column", rfl, rfl, SqT.of ea, rfl, rfl, _, rfl, ?_⟩
      rw [sE, decide_eq_true rfl]
      exact iteT ⟨_, rfl, a, _, _, .str z, rfl, rfl, SqT.of ea, rfl, k H (Same.refl H)⟩
    | @val _ kk dv vk nn =>
      cases hv with
      | @tup a ys0 _ ea hs0 =>
      cases hs0 with
      | cons h1 r1 =>
      cases h1
      cases r1 with
      | @cons v2 _ _ _ h2 r2 =>
      cases r2
      rw [sh_val] at k
      have lv := (val_text vk nn).2
      have ee : ("=" : Str) ++ TS (valL dv) = TS (61 :: valL dv) := str_ext (by rw [appL]; show _ ++ CL (TS _) = CL (TS _); rw [cl_ts, cl_ts]; rfl)
      refine ⟨_, rfl, a, _, _, .str "value", rfl, rfl, SqT.of ea, rfl, rfl, _, rfl, ?_⟩
      rw [sE, decide_eq_false (by decide +kernel)]
      refine iteF ⟨_, rfl, a, _, _, .str "value", rfl, rfl, SqT.of ea, rfl, rfl, _, rfl, ?_⟩
      rw [sE, decide_eq_true rfl]
      refine iteT ⟨_, rfl, a, _, _, v2, rfl, rfl, SqT.of ea, rfl, v2, dv, kk, rfl, h2, vk, nn, fun H' s' => ⟨_, _, rfl, rfl, ?_, ?_⟩⟩
      · rw [ts_len]
        exact Nat.le_trans (show 1 + _ ≤ 100 by omega) (by decide)
      · rw [ee]
        exact k H' s'
    | @op _ w os ops ho l hos =>
      obtain ⟨_, w7, _, l3, nw⟩ := opsV_words ho
      rw [l] at l3
      cases hv with
      | @tup a ys0 _ ea hs0 =>
      cases hs0 with
      | @cons _ ys _ _ h1 r1 =>
      cases h1
      have ly := r1.len
      rw [sh_op nw] at k ln
      refine ⟨_, rfl, a, _, _, .str w, rfl, rfl, SqT.of ea, at_zero, rfl, _, rfl, ?_⟩
      rw [sE, decide_eq_false (fun e => nw (.inl e))]
      refine iteF ⟨_, rfl, a, _, _, .str w, rfl, rfl, SqT.of ea, at_zero, rfl, _, rfl, ?_⟩
      rw [sE, decide_eq_false (fun e => nw (.inr e))]
      refine iteF ⟨⟨_, rfl⟩, _, rfl, a, _, _, .str w, rfl, rfl, SqT.of ea, at_zero, by show 1 ≤ sizeLine; decide, fun p0 hp0 => ?_⟩
      have z0 := Same.upd (o := .lst [.str w]) hp0
      refine ⟨_, rfl, 1, rfl, a, _, rfl, SqT.of (z0 _ _ ea), tail_not, fun q hq => ?_⟩
      rw [cut_tail]
      have zq := Same.upd (o := .tup ys) hq
      have s2 := z0.trans zq
      have hp2 := zq _ _ (upd_same (H := H) (a := p0) (o := .lst [.str w]))
      have hq2 : upd (upd H p0 (.lst [.str w])) q (.tup ys) q = some (.tup ys) := upd_same
      generalize upd (upd H p0 (.lst [.str w])) q (.tup ys) = H2 at s2 hq2 hp2 ⊢
      refine ⟨q, rfl, ⟨_, SqT.of hq2⟩, fun D hD => lc_tup (K := K) (a := q) (xs := ys) (fun i H' => H' D = some (.lst (((os.take i).map fun o => TS (shL o)).map V.str)) ∧ Same H2 H') ⟨upd_same, Same.upd hD⟩ (fun i H' _ p => SqT.of (p.2 _ _ hq2)) ?_ ?_⟩
      · rintro i x H3 hx ⟨hD3, s3⟩
        obtain ⟨o, eo, dh⟩ := r1.get _ _ hx
        refine ⟨rfl, ?_⟩
        change teFrm n _ _ _
        refine ⟨_, rfl, x, o, rfl, dh.same (s2.trans s3), hos o (List.mem_of_getElem? eo), by omega, fun H4 s4 => ⟨_, s4 _ _ hD3, ?_, ?_, fun b o' eb => by rw [upd_ne (ne_of_none eb hD)]; exact s4 b o' (s3 b o' eb)⟩⟩
        · rw [List.length_map, List.length_map, List.length_take]
          exact Nat.lt_of_le_of_lt (show _ ≤ 3 by omega) (by decide)
        · rw [upd_same, List.take_add_one, eo]
          simp
      · rintro H3 ⟨hD3, s3⟩
        rw [ly, List.take_length] at hD3
        refine ⟨p0, D, _, _, rfl, rfl, s3 _ _ hp2, hD3, ?_, fun u hu => ?_⟩
        · rw [List.length_map, List.length_map]
          exact Nat.le_trans (show 1 + _ ≤ 4 by omega) (by decide)
        have zu := Same.upd (o := .lst ([.str w] ++ (os.map fun o => TS (shL o)).map V.str)) hu
        have sm := shs_sum hos
        have sm3 : os.length * szT n ≤ 3 * szT n := Nat.mul_le_mul_right _ l3
        have lw : w.length = (CL w).length := lenL w
        have jn : Txt.join (PySem.Str.ofString " ") (w :: os.map fun o => TS (shL o)) = TS (CL w ++ shLs os) := by
          refine ts_of ?_
          rw [sh_join, List.map_map, ← shLs_flat]
          congr 2
        refine ⟨_, u, w :: os.map (fun o => TS (shL o)), rfl, rfl, .inl (SqL.of (by rw [upd_same]; rfl)), ?_, _, _, rfl, rfl, ?_, ?_⟩
        · rw [List.map_cons, List.sum_cons, List.length_cons, List.length_map]
          have : (PySem.Str.ofString " ").length = 1 := by decide +kernel
          rw [this]
          omega
        · rw [jn, ts_len]
          simp only [List.length_append, List.length_cons, List.length_nil] at ln
          have : (PySem.Str.ofString "(").length = 1 := by decide +kernel
          rw [this, List.length_append]
          exact Nat.le_trans (show _ ≤ 330010 by omega) (by decide)
        have e1 : ("(" : Str) ++ TS (CL w ++ shLs os) = TS (40 :: CL w ++ shLs os) := str_ext (by rw [appL]; show _ ++ CL (TS _) = CL (TS _); rw [cl_ts, cl_ts]; rfl)
        have e2 : TS (40 :: CL w ++ shLs os) ++ (")" : Str) = TS (40 :: CL w ++ shLs os ++ [41]) := (show TS (40 :: CL w ++ shLs os) ++ TS [41] = _ from ts_app _ _)
        rw [jn]
        refine ⟨_, _, rfl, rfl, ?_, ?_⟩
        · rw [e1, ts_len]
          simp only [List.length_append, List.length_cons, List.length_nil] at ln ⊢
          have : (PySem.Str.ofString ")").length = 1 := by decide +kernel
          rw [this]
          exact Nat.le_trans (show _ ≤ 330010 by omega) (by decide)
        rw [e1, e2]
        exact k _ ((s2.trans s3).trans zu)
theorem ok_FrmN {fA : Addr} {fdA : FuncData} (F : Fun K "_law_form" "_law_form" sFrm f fd) (T : Bt mg) (mX : mg "_law_form" = some (.ref f)) (kX : PySem.W.keepIn K (.ref f) = true) (bX : Binds K fd pFrm [])
    (GA : FnOk P w K mg base CX0 1 fA fdA ["_law_thing"] spShv) (mA : mg "_law_value_words" = some (.ref fA)) (kA : PySem.W.keepIn K (.ref fA) = true) (bA : Binds K fdA ["_law_thing"] []) : ∀ n : Nat, FnOk P w K mg base CX0 (1 + n) f fd pFrm (spSh n)
  | 0 => fn_weak (sp' := fun _ _ _ _ => False) (fun _ _ _ _ ⟨_, _, _, _, xf, _⟩ => xf.zero.elim) fn_none
  | n + 1 => ok_Frm F T n (ok_FrmN F T mX kX bX GA mA kA bA n) mX kX bX GA mA kA bA
end
end
end K78
set_option Elab.async false
set_option linter.all false
set_option maxRecDepth 100000
set_option maxHeartbeats 4000000
namespace K78
open PySem PySem.Spec PyProof.Rows L2 Lc
/-! ## terms that give texts, and lists of them -/
abbrev vS (ss : List Str) : List V := ss.map V.str
abbrev tl (ls : List LN) : List Str := ls.map TS
theorem tl_cl (ns : List Str) : tl (ns.map CL) = ns := map_back ns
abbrev rAS : R2 := fun x y H Q => ∃ i j, x = .str i ∧ y = .str j ∧ i.length + j.length ≤ sizeLine ∧ Q (.str (i ++ j)) H
abbrev rLo (K : PySem.W.Frag) : List V → Hp → VK → Prop := fun xs H Q => ∃ p ys, xs = [.ref p] ∧ (SqL K H p ys ∨ SqT K H p ys) ∧ ∀ l, H l = none → Q (.ref l) (upd H l (.lst ys))
def VX (σ : L2.St) (H0 : Hp) (te : TE) (v : V) : Prop := ∀ (H : Hp) (Q : VK), Same H0 H → (∀ H', Same H H' → Q v H') → te σ H Q
def LS (σ : L2.St) (H0 : Hp) (te : TE) (ss : List Str) : Prop := ∀ (H : Hp) (Q : VK), Same H0 H → (∀ p H', Same H H' → H p = none → H' p = some (.lst (vS ss)) → Q (.ref p) H') → te σ H Q
def LA (σ : L2.St) (H0 : Hp) (ta : TA) (ss : List Str) : Prop := ∀ (H : Hp) (Q : List V → Hp → Prop), Same H0 H → (∀ H', Same H H' → Q (vS ss) H') → ta σ H Q
section
variable {σ : L2.St} {H0 : Hp} {K : PySem.W.Frag}
theorem vx_c {v : V} : VX σ H0 (tC v) v := fun H Q s k => k H (Same.refl _)
theorem vx_var {i : Nat} {v : V} (h : σ[i]? = some (some v)) : VX σ H0 (tVar i) v := fun H Q s k => ⟨v, h, k H (Same.refl _)⟩
theorem vx_neg {n : Int} : VX σ H0 (tUn (rU fun i => .int (-i)) (tC (.int n))) (.int (-n)) := fun H Q s k => ⟨n, rfl, k H (Same.refl _)⟩
theorem vx_ix {ta tb : TE} {a : Addr} {xs : List V} {i : Int} {v : V} (ha : VX σ H0 ta (.ref a)) (e : H0 a = some (.tup xs)) (hb : VX σ H0 tb (.int i)) (he : atI xs i = some v) : VX σ H0 (tOp (rIxT K) ta tb) v := fun H Q s k => ha H _ s fun H1 s1 => hb H1 _ (s.trans s1) fun H2 s2 => ⟨a, xs, i, v, rfl, rfl, SqT.of (s2 _ _ (s1 _ _ (s _ _ e))), he, k H2 (s1.trans s2)⟩
theorem vx_cat {ta tb : TE} {x y : Str} (ha : VX σ H0 ta (.str x)) (hb : VX σ H0 tb (.str y)) (l : x.length + y.length ≤ 800000) : VX σ H0 (tOp rAS ta tb) (.str (x ++ y)) := fun H Q s k => ha H _ s fun H1 s1 => hb H1 _ (s.trans s1) fun H2 s2 => ⟨x, y, rfl, rfl, Nat.le_trans l (by decide), k H2 (s1.trans s2)⟩
theorem join_sp (ws : List LN) : Txt.join (PySem.Str.ofString " ") (tl ws) = TS (jn 32 ws) := by
  have bl : (PySem.Str.ofString " ") = ⟨#[32]⟩ := by decide +kernel
  rw [bl]
  exact (StrLaws.glued_eq_join _ _).trans (join_TS ws)
theorem jn_go {H : Hp} {Q : VK} {p : Addr} {ws : List LN} (h : SqL K H p (vS (tl ws)) ∨ SqT K H p (vS (tl ws))) (l : (jn 32 ws).length ≤ 400000) (k : Q (.str (TS (jn 32 ws))) H) : rJn K (.str (PySem.Str.ofString " ")) [.ref p] H Q := ⟨_, p, tl ws, rfl, rfl, h, by
  have : ((tl ws).map (·.length)).sum + ws.length ≤ (jn 32 ws).length + 1 := jn_sum (c := 32) ws
  rw [show (PySem.Str.ofString " ").length = 1 by decide +kernel, List.length_map]
  omega, by rw [join_sp]; exact k⟩
theorem vx_join {te : TE} {ws : List LN} (h : LS σ H0 te (tl ws)) (l : (jn 32 ws).length ≤ 400000) : VX σ H0 (tM1 (rJn K) (tC (.str (PySem.Str.ofString " "))) te) (.str (TS (jn 32 ws))) := fun H Q s k => ⟨⟨_, rfl⟩, h H _ s fun p H1 s1 _ e1 => jn_go (.inl (SqL.of e1)) l (k H1 s1)⟩
theorem vx_joinT {te : TE} {a : Addr} {ws : List LN} (h : VX σ H0 te (.ref a)) (e : H0 a = some (.tup (vS (tl ws)))) (l : (jn 32 ws).length ≤ 400000) : VX σ H0 (tM1 (rJn K) (tC (.str (PySem.Str.ofString " "))) te) (.str (TS (jn 32 ws))) := fun H Q s k => ⟨⟨_, rfl⟩, h H _ s fun H1 s1 => jn_go (.inr (SqT.of (s1 _ _ (s _ _ e)))) l (k H1 s1)⟩
theorem la_nil : LA σ H0 tNil [] := fun H Q s k => k H (Same.refl _)
theorem la_cons {te : TE} {ta : TA} {x : Str} {ss : List Str} (h : VX σ H0 te (.str x)) (g : LA σ H0 ta ss) : LA σ H0 (tCons te ta) (x :: ss) := fun H Q s k => h H _ s fun H1 s1 => g H1 _ (s.trans s1) fun H2 s2 => k H2 (s1.trans s2)
theorem ls_lst {ta : TA} {ss : List Str} (h : LA σ H0 ta ss) (l : ss.length ≤ 1000 := by decide) : LS σ H0 (tLst ta) ss := fun H Q s k => h H _ s fun H1 s1 => ⟨by rw [List.length_map]; exact Nat.le_trans l (by decide), fun p hp => k p _ (s1.trans (Same.upd hp)) (same_none s1 hp) upd_same⟩
theorem ls_one {te : TE} {x : Str} (h : VX σ H0 te (.str x)) : LS σ H0 (tLst (tCons te tNil)) [x] := ls_lst (la_cons h la_nil) (by show 1 ≤ 1000; decide)
theorem ret_op_ls {r : R2} {ta tb : TE} {ss : List Str} {D : Ends} (h : LS σ H0 ta ss) (k : ∀ p H', Same H0 H' → H0 p = none → H' p = some (.lst (vS ss)) → tb σ H' (fun y H2 => r (.ref p) y H2 D.rt)) : tRet (tOp r ta tb) D σ H0 := h H0 _ (Same.refl _) k
theorem ret_ls {ta : TE} {ss : List Str} {D : Ends} (h : LS σ H0 ta ss) (k : ∀ p H', Same H0 H' → H0 p = none → H' p = some (.lst (vS ss)) → D.rt (.ref p) H') : tRet ta D σ H0 := h H0 _ (Same.refl _) k
theorem ls_cat {ta tb : TE} {as bs : List Str} (h : LS σ H0 ta as) (g : LS σ H0 tb bs) (l : as.length + bs.length ≤ 1000) : LS σ H0 (tOp rCat ta tb) (as ++ bs) := fun H Q s k => h H _ s fun p H2 s2 _ e2 => g H2 _ (s.trans s2) fun q H3 s3 _ e3 => ⟨_, _, _, _, rfl, rfl, s3 _ _ e2, e3, by rw [List.length_map, List.length_map]; exact Nat.le_trans l (by decide), fun r hr => k r _ (s2.trans (s3.trans (Same.upd hr))) (same_none (s2.trans s3) hr) (by rw [upd_same]; unfold vS; rw [List.map_append])⟩
theorem ls_of {te : TE} {a : Addr} {ss : List Str} (h : VX σ H0 te (.ref a)) (e : H0 a = some (.tup (vS ss))) : LS σ H0 (tCB (rLo K) (tCons te tNil)) ss := fun H Q s k => h H _ s fun H1 s1 => ⟨a, _, rfl, .inr (SqT.of (s1 _ _ (s _ _ e))), fun p hp => k p _ (s1.trans (Same.upd hp)) (same_none s1 hp) upd_same⟩
theorem ls_cut {i : Nat} {a : Addr} {ss : List Str} {v : V} (h : σ[i]? = some (some (.ref a))) (e : H0 a = some (.tup (vS ss ++ [v]))) (l : ss.length ≤ 2) : LS σ H0 (tCB (rLo K) (tCons (tSl (rSlT K) (tVar i) tNoPart (tPart (tUn (rU fun i => .int (-i)) (tC (.int 1))))) tNil)) ss := fun H Q s k => ⟨_, h, _, rfl, _, rfl, a, _, rfl, SqT.of (s _ _ e), (by
  match ss, l with
  | [], _ => exact (by decide : ¬ (HT.sIx 1 0 none = 0 ∧ HT.sIx 1 1 (some (-1)) = 1))
  | [_], _ => exact (by decide : ¬ (HT.sIx 2 0 none = 0 ∧ HT.sIx 2 2 (some (-1)) = 2))
  | [_, _], _ => exact (by decide : ¬ (HT.sIx 3 0 none = 0 ∧ HT.sIx 3 3 (some (-1)) = 3))), fun p hp => by
  have c : cutV (vS ss ++ [v]) none (some (-1)) = vS ss := by
    match ss, l with
    | [], _ => rfl
    | [_], _ => rfl
    | [_, _], _ => rfl
  rw [c]
  exact ⟨p, _, rfl, .inr (SqT.of upd_same), fun q hq => k q _ ((Same.upd hp).trans (Same.upd hq)) (same_none (Same.upd hp) hq) upd_same⟩⟩
theorem vx_she {te : TE} {v : V} {d : PyData} (h : VX σ H0 te v) (hv : Dh H0 v d) (x : Xf 8 d) : VX σ H0 (tCall (spSh 8) [] E0 (tCons te tNil)) (.str (TS (shL d))) := fun H Q s k => h H _ s fun H1 s1 => ⟨v, d, rfl, (hv.same s).same s1, x, by decide, fun H2 s2 => k H2 (s1.trans s2)⟩
end
theorem dh_tupD {H : Hp} {v : V} {ds : List PyData} (h : Dh H v (.tuple ds)) : ∃ a xs, v = .ref a ∧ H a = some (.tup xs) ∧ DhAll H xs ds := by
  cases h with
  | tup e h => exact ⟨_, _, rfl, e, h⟩
theorem dhA_strs {H : Hp} : ∀ {ns : List Str} {xs : List V}, DhAll H xs (ns.map PyData.str) → xs = vS ns
  | [], _, h => by cases h; rfl
  | z :: ns, _, h => by
    cases h with
    | cons h r =>
      cases h
      rw [dhA_strs r]
      rfl
theorem dh_strT {H : Hp} {v : V} {ns : List Str} (h : Dh H v (strT ns)) : ∃ a, v = .ref a ∧ H a = some (.tup (vS ns)) := by
  obtain ⟨a, xs, rfl, e, h⟩ := dh_tupD h
  exact ⟨a, rfl, by rw [e, dhA_strs h]⟩
end K78
set_option Elab.async false
set_option linter.all false
set_option maxRecDepth 100000
set_option maxHeartbeats 4000000
namespace K78
open PySem PySem.Spec PyProof.Rows L2 Lc
/-! ## the lines of a step, as the program shows them -/
abbrev teSg (K : PySem.W.Frag) : TE := tOp rAS (tC (.str "  total ")) (tM1 (rJn K) (tC (.str " ")) (tVar 4))
abbrev rStrE : List V → Hp → VK → Prop := fun xs H Q => (∃ a, xs = [.str a] ∧ Q (.str a) H) ∨ ∃ i, xs = [.int i] ∧ i.natAbs.log2 < 1920 ∧ Q (.str (toString i)) H
abbrev teSc : TE := tOp rAS (tC (.str "    ")) (tVar 7)
abbrev teSpl : TE := tVar 4
abbrev teSs : TE := tCB rStrE (tCons (tVar 2) tNil)
def Stp.dp : Stp → Nat
  | .pl _ => 1
  | .ch _ _ => 2
def spSg : Sp := fun vs H Q _ => ∃ (v : V) (ks : List Str) (ts : List (Str × Str × Str)), vs = [v] ∧ Dh H v (Ps.d (.group ks ts)) ∧ GrpOk ks ts ∧ ∀ p H', Same H H' → H p = none → H' p = some (.lst (vW (Ps.ln (.group ks ts)))) → Q (.ref p) H'
def spSs (n : Nat) : Sp := fun vs H Q _ => ∃ (v : V) (s : Stp), vs = [v] ∧ Dh H v s.d ∧ s.dp ≤ n ∧ s.Ok1 ∧ ∀ p H', Same H H' → H p = none → H' p = some (.lst (vW s.ln)) → Q (.ref p) H'
def spSc (n : Nat) : Sp := fun vs H Q _ => ∃ (v : V) (lb : Str) (as : List (List Ps)), vs = [v] ∧ Dh H v (Stp.d (.ch lb as)) ∧ Stp.Ok1 (.ch lb as) ∧ 1 ≤ n ∧ ∀ p H', Same H H' → H p = none → H' p = some (.lst (vW (Stp.ln (.ch lb as)))) → Q (.ref p) H'
theorem ite_no {a b : Str} {p q : Prop} (h : a ≠ b) (k : q) : if decide (V.str a = V.str b) = true then p else q := by
  rw [decide_eq_false (fun e => h (by injection e))]
  exact k
theorem ite_yes {a : Str} {p q : Prop} (k : p) : if decide (V.str a = V.str a) = true then p else q := by
  rw [decide_eq_true rfl]
  exact k
/-- how a text or a number is written -/
def wdV : V → LN
  | .str z => CL z
  | .int i => intL i
  | _ => []
theorem intL_nat (m : Nat) : intL (m : Int) = digs m := by
  unfold intL
  rw [if_neg (by omega), List.nil_append]
  rfl
theorem jn_last (w : List LN) (l : LN) (h : w ≠ []) : jn 32 (w ++ spl 32 l) = jn 32 (w ++ [l]) := by
  rw [jn_app_spl w l h]
  induction w with
  | nil => exact absurd rfl h
  | cons a r ih =>
    cases r with
    | nil => rfl
    | cons b r =>
      have := ih (List.cons_ne_nil _ _)
      rw [List.cons_append, jn_cons (show (b :: r) ++ [l] ≠ [] by simp), ← this, jn_cons (List.cons_ne_nil _ _), List.append_assoc]
      rfl
theorem dec_s (a b : Str) : decide (V.str a = V.str b) = decide (a = b) := decide_eq_decide.mpr ⟨fun e => by injection e, fun e => by rw [e]⟩
theorem szT8 : szT 8 = 328000 := by decide +kernel
theorem Ps.Ok.len {p : Ps} (h : p.Ok) : (jn 32 p.ws).length ≤ 400000 := by
  have := (h.first_line (n := 8) (by decide) (fun e he => by
    rcases he with ⟨x, rfl⟩ | rfl
    · exact h.2
    · exact h)).2.1
  rw [szT8] at this
  omega
theorem ok8 {p : Ps} (h : p.Ok) : ∀ l ∈ p.ln, LnB 8 l := by
  have := h.lines (n := 8) (by decide) (fun e he => by
    rcases he with ⟨x, rfl⟩ | rfl
    · exact h.2
    · exact h) (ah := []) (.inl rfl)
  rw [show p.lnA [] = p.ln from by unfold Ps.lnA; exact List.map_id' _] at this
  exact this
theorem ln_len {p : Ps} (h : p.Ok) : p.ln.length ≤ 7 := by
  have : p.more.length ≤ 6 := by
    cases p with
    | group ks ts =>
      show (ts.map totLn).length ≤ 6
      rw [List.length_map]
      exact h.tl.2
    | _ => exact Nat.zero_le _
  unfold Ps.ln
  rw [List.length_cons, List.length_map]
  omega
theorem inner_len {a : List Ps} (h : ∀ p ∈ a, p.Ok) : (inner a).length ≤ a.length * 7 := by
  induction a with
  | nil => exact Nat.zero_le _
  | cons p r ih =>
    have a1 := ih fun q hq => h q (List.mem_cons_of_mem _ hq)
    have a2 := ln_len (h p List.mem_cons_self)
    unfold inner at a1 ⊢
    rw [List.map_cons, List.flatten_cons, List.length_append, List.length_cons, Nat.succ_mul]
    unfold Ps.lnA at a1 ⊢
    rw [List.length_map]
    omega
theorem alt_len {a : List Ps} (h : AltOk a) : (altLn a).length ≤ 29 := by
  have := inner_len h.2
  have := h.1
  unfold altLn
  rw [List.length_cons]
  omega
theorem totS3_dh {H : Hp} {v : V} {t : Str × Str × Str} (h : Dh H v (totS3 t)) : ∃ a, v = .ref a ∧ H a = some (.tup (vS [t.1, t.2.1, t.2.2])) := dh_strT (ns := [t.1, t.2.1, t.2.2]) h
def totWs (t : Str × Str × Str) : List LN := [CL t.1, CL t.2.1, CL t.2.2]
theorem tot_eq (t : Str × Str × Str) : totLn t = [116, 111, 116, 97, 108, 32] ++ jn 32 (totWs t) := by
  show jn 32 (CL "total" :: totWs t) = _
  rw [jn_cons (show totWs t ≠ [] from List.cons_ne_nil _ _), show CL ("total" : Str) = [116, 111, 116, 97, 108] by decide +kernel]
  rfl
theorem line_tot {t : Str × Str × Str} : ("  total " : Str) ++ TS (jn 32 (totWs t)) = TS ([32, 32] ++ totLn t) := by
  rw [tot_eq]
  have e : ("  total " : Str) = TS [32, 32, 116, 111, 116, 97, 108, 32] := by decide +kernel
  rw [e, ts_app]
  rfl
theorem tot_len {t : Str × Str × Str} (h1 : nmS t.1) (h2 : t.2.1 ∈ fnS) (h3 : nmS t.2.2) : (jn 32 (totWs t)).length ≤ 60 := by
  have := (tot_line h1 h2 h3).2.1
  rw [tot_eq, List.length_append] at this
  omega
section
variable {P : Program} {w : World} {K : PySem.W.Frag} {mg : Str → Option Value} {base : Heap} {f : Addr} {fd : FuncData}
abbrev sSg : Stmt := top 4
abbrev nSg : List Str := ["step", "word", "names", "totals", "thing"]
abbrev pSg : List Str := ["step"]
theorem scSg : FnScope nSg pSg (defScope sSg) := ⟨rfl, rfl, rfl, by decide +kernel, rfl, by decide +kernel, by decide +kernel⟩
section
theorem ok_Sg (F : Fun K "show_group" "show_group" sSg f fd) (T : Bt mg) : FnOk P w K mg base CX0 1 f fd pSg (spSg) := by
  refine F.ok scSg (fun vs H Q E h => ?_) (fun cdv A outer s H vs Q E hr h => ?_)
  · obtain ⟨v, ks, ts, rfl, _⟩ := h
    rfl
  · obtain ⟨v, ks, ts, rfl, hv, ok, k⟩ := h
    refine ⟨_, (pss_cons (ps_asg (pv 0) (pg_tup rfl (pgs_cons (pg_name (i := 1) scSg.nd rfl (.inl rfl)) (pgs_cons (pg_name (i := 2) scSg.nd rfl (.inl rfl)) (pgs_cons (pg_name (i := 3) scSg.nd rfl (.inl rfl)) pgs_nil)))))
      (pss_one (ps_ret (pe_op op_cat (pe_lst (pa_cons (pe_m1 PySem.F.slot_str_join PySem.F.type_str_join mt_join pe_str (pe_op op_cat (pe_lst (pa_cons (pv 1) pa_nil)) (pe_callTy call_list_of (by rfl) T.list boot_list (pa_cons (pv 2) pa_nil)))) pa_nil)) (pe_lc (own := [("thing", 4)]) (g := (gName 4)) (tt := tYes) (te := teSg K) (by rfl) scSg.nd (pi_tup (pv 3)) (blkOk_by (own := [("thing", 4)]) (N := nSg) (sc := defScope sSg) (by decide +kernel)) (fun _ _ _ _ _ => (pg_name (i := 4) scSg.nd rfl (.inl rfl))) (fun _ _ _ _ _ => pts_nil) (fun _ _ _ _ _ => (pe_op op_add_str pe_str (pe_m1 PySem.F.slot_str_join PySem.F.type_str_join mt_join pe_str (pv 4))))))))), ?_⟩
    have two : 2 ≤ sizeLine := by decide
    have one : 1 ≤ sizeLine := by decide
    have three : 3 ≤ sizeLine := by decide
    obtain ⟨a, xs, rfl, ea, hx⟩ := dh_tupD hv
    cases hx with
    | cons h1 hx => cases hx with
      | cons h2 hx => cases hx with
        | cons h3 hx =>
    cases hx
    cases h1
    obtain ⟨b, rfl, eb⟩ := dh_strT h2
    obtain ⟨c, us, rfl, ec, hu⟩ := dh_tupD h3
    have lk := ok.kl
    have lt := ok.tl
    have lu : us.length = ts.length := by rw [hu.len, List.length_map]
    refine ⟨_, rfl, a, _, rfl, SqT.of ea, rfl, _, _, rfl, _, _, rfl, _, _, rfl, rfl, ?_⟩
    have A : LS [some (.ref a), some (.str "group"), some (.ref b), some (.ref c), none] H (tLst (tCons (tM1 (rJn K) (tC (.str (PySem.Str.ofString " "))) (tOp rCat (tLst (tCons (tVar 1) tNil)) (tCB (rLo K) (tCons (tVar 2) tNil)))) tNil)) [TS (jn 32 (Ps.ws (.group ks ts)))] := by
      refine ls_one (vx_join ?_ (Ps.Ok.len (p := .group ks ts) ok))
      have e : tl (Ps.ws (.group ks ts)) = [("group" : Str)] ++ ks := by
        show tl (CL "group" :: ks.map CL) = _
        rw [show tl (CL "group" :: ks.map CL) = TS (CL "group") :: tl (ks.map CL) from rfl, ts_cl, tl_cl]
        rfl
      rw [e]
      exact ls_cat (ls_one (vx_var rfl)) (ls_of (vx_var rfl) eb) (by show 1 + _ ≤ 1000; omega)
    refine ret_op_ls A fun p H1 s1 _ ep => ?_
    refine ⟨_, rfl, c, rfl, ⟨_, SqT.of (s1 _ _ ec)⟩, fun D hD => lc_tup (K := K) (a := c) (xs := us) (fun j H' => H' D = some (.lst (vW ((ts.take j).map fun t => [32, 32] ++ totLn t))) ∧ Same H1 H') ⟨upd_same, Same.upd hD⟩ (fun i H' _ pr => SqT.of (pr.2 _ _ (s1 _ _ ec))) ?_ ?_⟩
    · rintro j x H2 hj ⟨e2, s2⟩
      obtain ⟨d, ed, hd⟩ := hu.get j x hj
      rw [List.getElem?_map] at ed
      obtain ⟨t, et, rfl⟩ := Option.map_eq_some_iff.mp ed
      obtain ⟨t1, t2, t3⟩ := ok.t t (List.mem_of_getElem? et)
      obtain ⟨q, rfl, eq⟩ := totS3_dh hd
      have eq2 : H2 q = some (.tup (vS (tl (totWs t)))) := by
        rw [s2 _ _ (s1 _ _ eq)]
        show some (HO.tup (vS [t.1, t.2.1, t.2.2])) = some (.tup (vS [TS (CL t.1), TS (CL t.2.1), TS (CL t.2.2)]))
        rw [ts_cl, ts_cl, ts_cl]
      have tlen := tot_len t1 t2 t3
      refine ⟨rfl, ?_⟩
      dsimp only [tYes]
      refine iteT ?_
      change teSg K _ _ _
      refine ⟨⟨_, rfl⟩, _, rfl, jn_go (.inr (SqT.of eq2)) (by omega) ⟨_, _, rfl, rfl, ?_, _, e2, ?_, ?_, fun b o e => by rw [upd_ne (ne_of_none e hD)]; exact s2 b o e⟩⟩
      · rw [ts_len]
        exact Nat.le_trans (show 8 + _ ≤ 68 by omega) (by decide)
      · rw [vW_len, List.length_map, List.length_take]
        exact Nat.lt_of_le_of_lt (show _ ≤ 6 by omega) (by decide)
      · rw [upd_same, List.take_add_one, et, line_tot]
        unfold vW
        rw [List.map_append, List.map_append, List.map_append]
        rfl
    rintro H2 ⟨e2, s2⟩
    rw [lu, List.take_length] at e2
    refine ⟨p, D, _, _, rfl, rfl, s2 _ _ ep, e2, ?_, fun r hr => k r _ (s1.trans (s2.trans (Same.upd hr))) (same_none (s1.trans s2) hr) ?_⟩
    · show 1 + (vW (ts.map fun t => [32, 32] ++ totLn t)).length ≤ _
      rw [vW_len, List.length_map]
      exact Nat.le_trans (show 1 + _ ≤ 7 by omega) (by decide)
    · rw [upd_same]
      show some (HO.lst (vS [TS (jn 32 (Ps.ws (.group ks ts)))] ++ vW (ts.map fun t => [32, 32] ++ totLn t))) = some (.lst (vW (jn 32 (Ps.ws (.group ks ts)) :: (ts.map totLn).map ([32, 32] ++ ·))))
      rw [List.map_map]
      rfl
end
end
end K78
set_option Elab.async false
set_option linter.all false
set_option maxRecDepth 100000
set_option maxHeartbeats 4000000
namespace K78
open PySem PySem.Spec PyProof.Rows L2 Lc
section
variable {P : Program} {w : World} {K : PySem.W.Frag} {mg : Str → Option Value} {base : Heap} {f : Addr} {fd : FuncData}
abbrev sSs : Stmt := top 6
abbrev nSs : List Str := ["step", "word", "thing"]
abbrev pSs : List Str := ["step"]
theorem scSs : FnScope nSs pSs (defScope sSs) := ⟨rfl, rfl, rfl, by decide +kernel, rfl, by decide +kernel, by decide +kernel⟩
section
variable {fA_ fB_ fC_ : Addr} {fdA_ fdB_ fdC_ : FuncData}
theorem ok_Ss (F : Fun K "show_step" "show_step" sSs f fd) (T : Bt mg) (n : Nat)
    (GA_ : FnOk P w K mg base CX0 1 fA_ fdA_ ["step"] (spSg)) (mA_ : mg "show_group" = some (.ref fA_)) (kA_ : PySem.W.keepIn K (.ref fA_) = true) (bA_ : Binds K fdA_ ["step"] [])
    (GB_ : FnOk P w K mg base CX0 (11 + 2 * n) fB_ fdB_ ["step"] (spSc n)) (mB_ : mg "show_choose" = some (.ref fB_)) (kB_ : PySem.W.keepIn K (.ref fB_) = true) (bB_ : Binds K fdB_ ["step"] [])
    (GC_ : FnOk P w K mg base CX0 10 fC_ fdC_ ["expression"] (spSh 8)) (mC_ : mg "show_expression" = some (.ref fC_)) (kC_ : PySem.W.keepIn K (.ref fC_) = true) (bC_ : Binds K fdC_ ["expression"] []) : FnOk P w K mg base CX0 (11 + 2 * n + 1) f fd pSs (spSs (n + 1)) := by
  refine F.ok scSs (fun vs H Q E h => ?_) (fun cdv A outer s H vs Q E hr h => ?_)
  · obtain ⟨v, s, rfl, _⟩ := h
    rfl
  · obtain ⟨v, s, rfl, hv, dp, ok, k⟩ := h
    have hrA_ : Room (1) _ := hr.mono (by first | decide | omega)
    have hrB_ : Room ((11 + 2 * n)) _ := hr.mono (by first | decide | omega)
    have hrC_ : Room (10) _ := hr.mono (by first | decide | omega)
    refine ⟨_, (pss_cons (ps_set (i := 1) scSs.nd rfl (Or.inl rfl) (pe_ix ix_tup (pv 0) pe_int (fun _ _ => rfl)))
      (pss_cons (ps_if (pt_cmpR op_eq (pv 1) pe_str (nomark _)) (pss_one (ps_ret (pe_call GA_ hrA_ (by rfl) mA_ kA_ bA_ .nil pass0 (pa_cons (pv 0) pa_nil)))) pss_nil)
      (pss_cons (ps_if (pt_cmpR op_eq (pv 1) pe_str (nomark _)) (pss_one (ps_ret (pe_call GB_ hrB_ (by rfl) mB_ kB_ bB_ .nil pass0 (pa_cons (pv 0) pa_nil)))) pss_nil)
      (pss_cons (ps_if (PW.pt (pw_or (pt_cmpR op_eq (pv 1) pe_str (nomark _)) (pw_or1 (pt_cmpR op_eq (pv 1) pe_str (nomark _))))) (pss_one (ps_ret (pe_lst (pa_cons (pe_m1 PySem.F.slot_str_join PySem.F.type_str_join mt_join pe_str (pe_op op_cat (pe_callTy call_list_of (by rfl) T.list boot_list (pa_cons (pe_slice sl_tup (pv 0) po_none (po_some (pe_un un_neg pe_int))) pa_nil)) (pe_lst (pa_cons (pe_call GC_ hrC_ (by rfl) mC_ kC_ bC_ .nil pass0 (pa_cons (pe_ix ix_tup (pv 0) (pe_un un_neg pe_int) (fun _ _ => rfl)) pa_nil)) pa_nil)))) pa_nil)))) pss_nil)
      (pss_cons (ps_if (pt_cmpR op_eq (pv 1) pe_str (nomark _)) (pss_one (ps_ret (pe_lst (pa_cons (pe_m1 PySem.F.slot_str_join PySem.F.type_str_join mt_join pe_str (pe_op op_cat (pe_lst (pa_cons (pv 1) pa_nil)) (pe_callTy call_list_of (by rfl) T.list boot_list (pa_cons (pe_ix ix_tup (pv 0) pe_int (fun _ _ => rfl)) pa_nil)))) pa_nil)))) pss_nil)
      (pss_cons (ps_if (pt_cmpR op_eq (pv 1) pe_str (nomark _)) (pss_one (ps_ret (pe_lst (pa_cons (pe_m1 PySem.F.slot_str_join PySem.F.type_str_join mt_join pe_str (pe_op op_cat (pe_lst (pa_cons (pv 1) (pa_cons (pe_ix ix_tup (pv 0) pe_int (fun _ _ => rfl)) (pa_cons pe_str pa_nil)))) (pe_callTy call_list_of (by rfl) T.list boot_list (pa_cons (pe_ix ix_tup (pv 0) pe_int (fun _ _ => rfl)) pa_nil)))) pa_nil)))) pss_nil)
      (pss_one (ps_ret (pe_lst (pa_cons (pe_m1 PySem.F.slot_str_join PySem.F.type_str_join mt_join pe_str (pe_lc (own := [("thing", 2)]) (g := (gName 2)) (tt := tYes) (te := teSs) (by rfl) scSs.nd (pi_tup (pv 0)) (blkOk_by (own := [("thing", 2)]) (N := nSs) (sc := defScope sSs) (by decide +kernel)) (fun _ _ _ _ _ => (pg_name (i := 2) scSs.nd rfl (.inl rfl))) (fun _ _ _ _ _ => pts_nil) (fun _ _ _ _ _ => (pe_callTy call_strE (by rfl) T.str boot_str (pa_cons (pv 2) pa_nil))))) pa_nil)))))))))), ?_⟩
    have two : 2 ≤ sizeLine := by decide
    have one : 1 ≤ sizeLine := by decide
    have three : 3 ≤ sizeLine := by decide
    have tail : ∀ (a : Addr) (y : V) (xs : List V) (D : Ends), H a = some (.tup xs) → (∀ x ∈ xs, (∃ z, x = .str z) ∨ ∃ m : Nat, x = .int m ∧ m ≤ 1000000000) → xs.length ≤ 9 → (jn 32 (xs.map wdV)).length ≤ 400000 → (∀ p H', Same H H' → H p = none → H' p = some (.lst (vS [TS (jn 32 (xs.map wdV))])) → D.rt (.ref p) H') →
        tRet (tLst (tCons (tM1 (rJn K) (tC (.str (PySem.Str.ofString " "))) (tLc (iTup K (tVar 0)) (gName 2) tYes teSs [2])) tNil)) D [some (.ref a), some y, none] H := fun a y xs D ea hx l9 len kt => by
      refine ret_ls (ls_one (vx_join (ws := xs.map wdV) (fun H2 Q2 s2 k2 => ?_) len)) kt
      refine ⟨_, rfl, a, rfl, ⟨_, SqT.of (s2 _ _ ea)⟩, fun D hD => lc_tup (K := K) (a := a) (xs := xs) (fun j H' => H' D = some (.lst (vS (tl ((xs.take j).map wdV)))) ∧ Same H2 H') ⟨upd_same, Same.upd hD⟩ (fun i H' _ pr => SqT.of (pr.2 _ _ (s2 _ _ ea))) ?_ ?_⟩
      · rintro j x H3 hj ⟨e3, s3⟩
        refine ⟨rfl, ?_⟩
        dsimp only [tYes]
        refine iteT ?_
        change teSs _ _ _
        have fin : ∀ z : Str, z = TS (wdV x) → ∃ acc, H3 D = some (.lst acc) ∧ acc.length < sizeLine ∧ (upd H3 D (.lst (acc ++ [.str z])) D = some (.lst (vS (tl ((xs.take (j + 1)).map wdV)))) ∧ Same H2 (upd H3 D (.lst (acc ++ [.str z])))) := fun z ez => by
          refine ⟨_, e3, ?_, ?_, fun b o e => by rw [upd_ne (ne_of_none e hD)]; exact s3 b o e⟩
          · rw [List.length_map, List.length_map, List.length_map, List.length_take]
            exact Nat.lt_of_le_of_lt (show _ ≤ 9 by omega) (by decide)
          · rw [upd_same, List.take_add_one, hj, ez]
            unfold vS tl
            rw [List.map_append, List.map_append, List.map_append]
            rfl
        rcases hx x (List.mem_of_getElem? hj) with ⟨z, rfl⟩ | ⟨m, rfl, hm⟩
        · exact ⟨_, rfl, .inl ⟨z, rfl, fin z (by show z = TS (CL z); rw [ts_cl])⟩⟩
        · refine ⟨_, rfl, .inr ⟨m, rfl, lg_lim (by omega), fin _ ?_⟩⟩
          exact int_str _
      rintro H3 ⟨e3, s3⟩
      rw [List.take_length] at e3
      exact k2 D H3 s3 hD e3
    cases s with
    | ch lb as =>
      have hv0 := hv
      obtain ⟨a, xs, rfl, ea, hx⟩ := dh_tupD hv
      cases hx with
      | cons h0 hx =>
      cases hx with
      | cons h1 hx =>
      cases hx with
      | cons h2 hx =>
      cases hx
      cases h0
      refine ⟨_, rfl, a, _, _, .str "choose", rfl, rfl, SqT.of ea, rfl, ?_⟩
      refine ⟨_, rfl, rfl, _, rfl, ite_no (by decide +kernel) ?_⟩
      refine ⟨_, rfl, rfl, _, rfl, ite_yes ?_⟩
      exact ⟨_, rfl, .ref a, lb, as, rfl, hv0, ok, by have : 2 ≤ n + 1 := dp; omega, k⟩
    | pl p =>
    have ok : p.Ok := ok
    have len := ok.len
    cases p with
    | group ks ts =>
      have hv0 := hv
      obtain ⟨a, xs, rfl, ea, hx⟩ := dh_tupD hv
      cases hx with
      | cons h0 hx =>
      cases hx with
      | cons h1 hx =>
      cases hx with
      | cons h2 hx =>
      cases hx
      cases h0
      refine ⟨_, rfl, a, _, _, .str "group", rfl, rfl, SqT.of ea, rfl, ?_⟩
      refine ⟨_, rfl, rfl, _, rfl, ite_yes ?_⟩
      exact ⟨_, rfl, .ref a, ks, ts, rfl, hv0, ok, k⟩
    | keep e =>
      obtain ⟨a, xs, rfl, ea, hx⟩ := dh_tupD hv
      cases hx with
      | cons h0 hx =>
      cases hx with
      | cons h1 hx =>
      cases hx
      cases h0
      refine ⟨_, rfl, a, _, _, .str "keep", rfl, rfl, SqT.of ea, rfl, ?_⟩
      refine ⟨_, rfl, rfl, _, rfl, ite_no (by decide +kernel) ?_⟩
      refine ⟨_, rfl, rfl, _, rfl, ite_no (by decide +kernel) ?_⟩
      refine ⟨_, rfl, rfl, _, rfl, ite_yes (iteT ?_)⟩
      have ej : jn 32 (Ps.ws (.keep e)) = jn 32 [CL "keep", shL e] := jn_last [CL "keep"] _ (List.cons_ne_nil _ _)
      rw [ej] at len
      refine ret_ls (ls_one (vx_join (ws := [CL "keep", shL e]) ?_ len)) fun p H1 s1 n1 ep => k p H1 s1 n1 (by rw [ep, ← ej]; rfl)
      rw [show tl [CL "keep", shL e] = [("keep" : Str)] ++ [TS (shL e)] by show [TS (CL "keep"), _] = _; rw [ts_cl]; rfl]
      exact ls_cat (ls_cut rfl ea (by show 1 ≤ 2; decide)) (ls_one (vx_she (vx_ix (vx_var rfl) ea vx_neg rfl) h1 ok)) (by show 2 ≤ 1000; decide)
    | set x e =>
      obtain ⟨a, xs, rfl, ea, hx⟩ := dh_tupD hv
      cases hx with
      | cons h0 hx =>
      cases hx with
      | cons h1 hx =>
      cases hx with
      | cons h2 hx =>
      cases hx
      cases h0
      cases h1
      refine ⟨_, rfl, a, _, _, .str "set", rfl, rfl, SqT.of ea, rfl, ?_⟩
      refine ⟨_, rfl, rfl, _, rfl, ite_no (by decide +kernel) ?_⟩
      refine ⟨_, rfl, rfl, _, rfl, ite_no (by decide +kernel) ?_⟩
      refine ⟨_, rfl, rfl, _, rfl, ite_no (by decide +kernel) ⟨_, rfl, rfl, _, rfl, ite_yes ?_⟩⟩
      have ej : jn 32 (Ps.ws (.set x e)) = jn 32 [CL "set", CL x, shL e] := jn_last [CL "set", CL x] _ (List.cons_ne_nil _ _)
      rw [ej] at len
      refine ret_ls (ls_one (vx_join (ws := [CL "set", CL x, shL e]) ?_ len)) fun p H1 s1 n1 ep => k p H1 s1 n1 (by rw [ep, ← ej]; rfl)
      rw [show tl [CL "set", CL x, shL e] = [("set" : Str), x] ++ [TS (shL e)] by show [TS (CL "set"), TS (CL x), _] = _; rw [ts_cl, ts_cl]; rfl]
      exact ls_cat (ls_cut rfl ea (by show 2 ≤ 2; decide)) (ls_one (vx_she (vx_ix (vx_var rfl) ea vx_neg rfl) h2 ok.2)) (by show 3 ≤ 1000; decide)
    | select ns =>
      obtain ⟨a, xs, rfl, ea, hx⟩ := dh_tupD hv
      cases hx with
      | cons h0 hx =>
      cases hx with
      | cons h1 hx =>
      cases hx
      cases h0
      obtain ⟨b, rfl, eb⟩ := dh_strT h1
      refine ⟨_, rfl, a, _, _, .str "select", rfl, rfl, SqT.of ea, rfl, ?_⟩
      refine ⟨_, rfl, rfl, _, rfl, ite_no (by decide +kernel) ?_⟩
      refine ⟨_, rfl, rfl, _, rfl, ite_no (by decide +kernel) ?_⟩
      refine ⟨_, rfl, rfl, _, rfl, ite_no (by decide +kernel) ⟨_, rfl, rfl, _, rfl, ite_no (by decide +kernel) ?_⟩⟩
      refine ⟨_, rfl, rfl, _, rfl, ite_yes ?_⟩
      have l8 := ok.2.2.2
      refine ret_ls (ls_one (vx_join (ws := Ps.ws (.select ns)) ?_ len)) fun p H1 s1 n1 ep => k p H1 s1 n1 ep
      rw [show tl (Ps.ws (.select ns)) = [("select" : Str)] ++ ns by show TS (CL "select") :: tl (ns.map CL) = _; rw [ts_cl, tl_cl]; rfl]
      exact ls_cat (ls_one (vx_var rfl)) (ls_of (vx_ix (vx_var rfl) ea vx_c rfl) eb) (by show 1 + _ ≤ 1000; omega)
    | join t ks =>
      obtain ⟨a, xs, rfl, ea, hx⟩ := dh_tupD hv
      cases hx with
      | cons h0 hx =>
      cases hx with
      | cons h1 hx =>
      cases hx with
      | cons h2 hx =>
      cases hx
      cases h0
      cases h1
      obtain ⟨b, rfl, eb⟩ := dh_strT h2
      refine ⟨_, rfl, a, _, _, .str "join", rfl, rfl, SqT.of ea, rfl, ?_⟩
      refine ⟨_, rfl, rfl, _, rfl, ite_no (by decide +kernel) ?_⟩
      refine ⟨_, rfl, rfl, _, rfl, ite_no (by decide +kernel) ?_⟩
      refine ⟨_, rfl, rfl, _, rfl, ite_no (by decide +kernel) ⟨_, rfl, rfl, _, rfl, ite_no (by decide +kernel) ?_⟩⟩
      refine ⟨_, rfl, rfl, _, rfl, ite_no (by decide +kernel) ?_⟩
      refine ⟨_, rfl, rfl, _, rfl, ite_yes ?_⟩
      have l3 := ok.2.2.2.2
      refine ret_ls (ls_one (vx_join (ws := Ps.ws (.join t ks)) ?_ len)) fun p H1 s1 n1 ep => k p H1 s1 n1 ep
      rw [show tl (Ps.ws (.join t ks)) = [("join" : Str), t, "on"] ++ ks by show TS (CL "join") :: TS (CL t) :: TS (CL "on") :: tl (ks.map CL) = _; rw [ts_cl, ts_cl, ts_cl, tl_cl]; rfl]
      exact ls_cat (ls_lst (la_cons (vx_var rfl) (la_cons (vx_ix (vx_var rfl) ea vx_c rfl) (la_cons vx_c la_nil))) (by show 3 ≤ 1000; decide)) (ls_of (vx_ix (vx_var rfl) ea vx_c rfl) eb) (by show 3 + _ ≤ 1000; omega)
    | rename x y =>
      obtain ⟨a, xs, rfl, ea, hx⟩ := dh_tupD hv
      cases hx with
      | cons h0 hx =>
      cases hx with
      | cons h1 hx =>
      cases hx with
      | cons h2 hx =>
      cases hx
      cases h0
      cases h1
      cases h2
      refine ⟨_, rfl, a, _, _, .str "rename", rfl, rfl, SqT.of ea, rfl, ?_⟩
      refine ⟨_, rfl, rfl, _, rfl, ite_no (by decide +kernel) ?_⟩
      refine ⟨_, rfl, rfl, _, rfl, ite_no (by decide +kernel) ?_⟩
      refine ⟨_, rfl, rfl, _, rfl, ite_no (by decide +kernel) ⟨_, rfl, rfl, _, rfl, ite_no (by decide +kernel) ?_⟩⟩
      refine ⟨_, rfl, rfl, _, rfl, ite_no (by decide +kernel) ?_⟩
      refine ⟨_, rfl, rfl, _, rfl, ite_no (by decide +kernel) ?_⟩
      have ew : Ps.ws (.rename x y) = List.map wdV _ := (by
        show _ = List.map wdV [.str "rename", .str x, .str y]
        simp only [List.map_cons, List.map_nil, wdV, intL_nat]
        rfl)
      rw [ew] at len
      refine tail a _ _ _ ea (fun x hx => ?_) (by show 3 ≤ 9; decide) len fun p H1 s1 n1 ep => k p H1 s1 n1 (by rw [ep, ← ew]; rfl)
      simp only [List.mem_cons, List.not_mem_nil, or_false] at hx
      rcases hx with rfl | rfl | rfl
      · exact .inl ⟨_, rfl⟩
      · exact .inl ⟨_, rfl⟩
      · exact .inl ⟨_, rfl⟩
    | sort x u =>
      obtain ⟨a, xs, rfl, ea, hx⟩ := dh_tupD hv
      cases hx with
      | cons h0 hx =>
      cases hx with
      | cons h1 hx =>
      cases hx with
      | cons h2 hx =>
      cases hx
      cases h0
      cases h1
      cases h2
      refine ⟨_, rfl, a, _, _, .str "sort", rfl, rfl, SqT.of ea, rfl, ?_⟩
      refine ⟨_, rfl, rfl, _, rfl, ite_no (by decide +kernel) ?_⟩
      refine ⟨_, rfl, rfl, _, rfl, ite_no (by decide +kernel) ?_⟩
      refine ⟨_, rfl, rfl, _, rfl, ite_no (by decide +kernel) ⟨_, rfl, rfl, _, rfl, ite_no (by decide +kernel) ?_⟩⟩
      refine ⟨_, rfl, rfl, _, rfl, ite_no (by decide +kernel) ?_⟩
      refine ⟨_, rfl, rfl, _, rfl, ite_no (by decide +kernel) ?_⟩
      have ew : Ps.ws (.sort x u) = List.map wdV _ := (by
        show _ = List.map wdV [.str "sort", .str x, .str (updn u)]
        simp only [List.map_cons, List.map_nil, wdV, intL_nat]
        rfl)
      rw [ew] at len
      refine tail a _ _ _ ea (fun x hx => ?_) (by show 3 ≤ 9; decide) len fun p H1 s1 n1 ep => k p H1 s1 n1 (by rw [ep, ← ew]; rfl)
      simp only [List.mem_cons, List.not_mem_nil, or_false] at hx
      rcases hx with rfl | rfl | rfl
      · exact .inl ⟨_, rfl⟩
      · exact .inl ⟨_, rfl⟩
      · exact .inl ⟨_, rfl⟩
    | first m =>
      obtain ⟨a, xs, rfl, ea, hx⟩ := dh_tupD hv
      cases hx with
      | cons h0 hx =>
      cases hx with
      | cons h1 hx =>
      cases hx
      cases h0
      cases h1
      refine ⟨_, rfl, a, _, _, .str "first", rfl, rfl, SqT.of ea, rfl, ?_⟩
      refine ⟨_, rfl, rfl, _, rfl, ite_no (by decide +kernel) ?_⟩
      refine ⟨_, rfl, rfl, _, rfl, ite_no (by decide +kernel) ?_⟩
      refine ⟨_, rfl, rfl, _, rfl, ite_no (by decide +kernel) ⟨_, rfl, rfl, _, rfl, ite_no (by decide +kernel) ?_⟩⟩
      refine ⟨_, rfl, rfl, _, rfl, ite_no (by decide +kernel) ?_⟩
      refine ⟨_, rfl, rfl, _, rfl, ite_no (by decide +kernel) ?_⟩
      have ew : Ps.ws (.first m) = List.map wdV _ := (by
        show _ = List.map wdV [.str "first", .int m]
        simp only [List.map_cons, List.map_nil, wdV, intL_nat]
        rfl)
      rw [ew] at len
      refine tail a _ _ _ ea (fun x hx => ?_) (by show 2 ≤ 9; decide) len fun p H1 s1 n1 ep => k p H1 s1 n1 (by rw [ep, ← ew]; rfl)
      simp only [List.mem_cons, List.not_mem_nil, or_false] at hx
      rcases hx with rfl | rfl
      · exact .inl ⟨_, rfl⟩
      · exact .inr ⟨_, rfl, by first | exact Nat.le_trans ok (by decide) | (have := ok.1; have := ok.2.1; have := ok.2.2.1; have := ok.2.2.2; omega)⟩
    | sample m m2 m3 =>
      obtain ⟨a, xs, rfl, ea, hx⟩ := dh_tupD hv
      cases hx with
      | cons h0 hx =>
      cases hx with
      | cons h1 hx =>
      cases hx with
      | cons h2 hx =>
      cases hx with
      | cons h3 hx =>
      cases hx
      cases h0
      cases h1
      cases h2
      cases h3
      refine ⟨_, rfl, a, _, _, .str "sample", rfl, rfl, SqT.of ea, rfl, ?_⟩
      refine ⟨_, rfl, rfl, _, rfl, ite_no (by decide +kernel) ?_⟩
      refine ⟨_, rfl, rfl, _, rfl, ite_no (by decide +kernel) ?_⟩
      refine ⟨_, rfl, rfl, _, rfl, ite_no (by decide +kernel) ⟨_, rfl, rfl, _, rfl, ite_no (by decide +kernel) ?_⟩⟩
      refine ⟨_, rfl, rfl, _, rfl, ite_no (by decide +kernel) ?_⟩
      refine ⟨_, rfl, rfl, _, rfl, ite_no (by decide +kernel) ?_⟩
      have ew : Ps.ws (.sample m m2 m3) = List.map wdV _ := (by
        show _ = List.map wdV [.str "sample", .int m, .int m2, .int m3]
        simp only [List.map_cons, List.map_nil, wdV, intL_nat]
        rfl)
      rw [ew] at len
      refine tail a _ _ _ ea (fun x hx => ?_) (by show 4 ≤ 9; decide) len fun p H1 s1 n1 ep => k p H1 s1 n1 (by rw [ep, ← ew]; rfl)
      simp only [List.mem_cons, List.not_mem_nil, or_false] at hx
      rcases hx with rfl | rfl | rfl | rfl
      · exact .inl ⟨_, rfl⟩
      · exact .inr ⟨_, rfl, by first | exact Nat.le_trans ok (by decide) | (have := ok.1; have := ok.2.1; have := ok.2.2.1; have := ok.2.2.2; omega)⟩
      · exact .inr ⟨_, rfl, by first | exact Nat.le_trans ok (by decide) | (have := ok.1; have := ok.2.1; have := ok.2.2.1; have := ok.2.2.2; omega)⟩
      · exact .inr ⟨_, rfl, by first | exact Nat.le_trans ok (by decide) | (have := ok.1; have := ok.2.1; have := ok.2.2.1; have := ok.2.2.2; omega)⟩
    | union x =>
      obtain ⟨a, xs, rfl, ea, hx⟩ := dh_tupD hv
      cases hx with
      | cons h0 hx =>
      cases hx with
      | cons h1 hx =>
      cases hx
      cases h0
      cases h1
      refine ⟨_, rfl, a, _, _, .str "union", rfl, rfl, SqT.of ea, rfl, ?_⟩
      refine ⟨_, rfl, rfl, _, rfl, ite_no (by decide +kernel) ?_⟩
      refine ⟨_, rfl, rfl, _, rfl, ite_no (by decide +kernel) ?_⟩
      refine ⟨_, rfl, rfl, _, rfl, ite_no (by decide +kernel) ⟨_, rfl, rfl, _, rfl, ite_no (by decide +kernel) ?_⟩⟩
      refine ⟨_, rfl, rfl, _, rfl, ite_no (by decide +kernel) ?_⟩
      refine ⟨_, rfl, rfl, _, rfl, ite_no (by decide +kernel) ?_⟩
      have ew : Ps.ws (.union x) = List.map wdV _ := (by
        show _ = List.map wdV [.str "union", .str x]
        simp only [List.map_cons, List.map_nil, wdV, intL_nat]
        rfl)
      rw [ew] at len
      refine tail a _ _ _ ea (fun x hx => ?_) (by show 2 ≤ 9; decide) len fun p H1 s1 n1 ep => k p H1 s1 n1 (by rw [ep, ← ew]; rfl)
      simp only [List.mem_cons, List.not_mem_nil, or_false] at hx
      rcases hx with rfl | rfl
      · exact .inl ⟨_, rfl⟩
      · exact .inl ⟨_, rfl⟩
    | distinct =>
      obtain ⟨a, xs, rfl, ea, hx⟩ := dh_tupD hv
      cases hx with
      | cons h0 hx =>
      cases hx
      cases h0
      refine ⟨_, rfl, a, _, _, .str "distinct", rfl, rfl, SqT.of ea, rfl, ?_⟩
      refine ⟨_, rfl, rfl, _, rfl, ite_no (by decide +kernel) ?_⟩
      refine ⟨_, rfl, rfl, _, rfl, ite_no (by decide +kernel) ?_⟩
      refine ⟨_, rfl, rfl, _, rfl, ite_no (by decide +kernel) ⟨_, rfl, rfl, _, rfl, ite_no (by decide +kernel) ?_⟩⟩
      refine ⟨_, rfl, rfl, _, rfl, ite_no (by decide +kernel) ?_⟩
      refine ⟨_, rfl, rfl, _, rfl, ite_no (by decide +kernel) ?_⟩
      have ew : Ps.ws (.distinct) = List.map wdV _ := (by
        show _ = List.map wdV [.str "distinct"]
        simp only [List.map_cons, List.map_nil, wdV, intL_nat]
        rfl)
      rw [ew] at len
      refine tail a _ _ _ ea (fun x hx => ?_) (by show 1 ≤ 9; decide) len fun p H1 s1 n1 ep => k p H1 s1 n1 (by rw [ep, ← ew]; rfl)
      simp only [List.mem_cons, List.not_mem_nil, or_false] at hx
      rcases hx with rfl
      · exact .inl ⟨_, rfl⟩
end
end
end K78
set_option Elab.async false
set_option linter.all false
set_option maxRecDepth 100000
set_option maxHeartbeats 4000000
namespace K78
open PySem PySem.Spec PyProof.Rows L2 Lc
section
variable {P : Program} {w : World} {K : PySem.W.Frag} {mg : Str → Option Value} {base : Heap} {f : Addr} {fd : FuncData}
abbrev sSc : Stmt := top 5
abbrev nSc : List Str := ["step", "word", "label", "alternatives", "lines", "steps", "inner", "line"]
abbrev pSc : List Str := ["step"]
theorem scSc : FnScope nSc pSc (defScope sSc) := ⟨rfl, rfl, rfl, by decide +kernel, rfl, by decide +kernel, by decide +kernel⟩
section
variable {fA_ : Addr} {fdA_ : FuncData}
theorem ok_Sc (F : Fun K "show_choose" "show_choose" sSc f fd) (T : Bt mg) (n : Nat)
    (GA_ : FnOk P w K mg base CX0 (10 + 2 * n) fA_ fdA_ ["step"] (spSs n)) (mA_ : mg "show_step" = some (.ref fA_)) (kA_ : PySem.W.keepIn K (.ref fA_) = true) (bA_ : Binds K fdA_ ["step"] []) : FnOk P w K mg base CX0 (10 + 2 * n + 1) f fd pSc (spSc n) := by
  refine F.ok scSc (fun vs H Q E h => ?_) (fun cdv A outer s H vs Q E hr h => ?_)
  · obtain ⟨v, lb, as, rfl, _⟩ := h
    rfl
  · obtain ⟨v, lb, as, rfl, hv, ok, n1, k⟩ := h
    have hrA_ : Room ((10 + 2 * n)) _ := hr.mono (by first | decide | omega)
    refine ⟨_, (pss_cons (ps_asg (pv 0) (pg_tup rfl (pgs_cons (pg_name (i := 1) scSc.nd rfl (.inl rfl)) (pgs_cons (pg_name (i := 2) scSc.nd rfl (.inl rfl)) (pgs_cons (pg_name (i := 3) scSc.nd rfl (.inl rfl)) pgs_nil)))))
      (pss_cons (ps_set (i := 4) scSc.nd rfl (Or.inl rfl) (pe_lst (pa_cons (pe_op op_add_str (pe_op op_add_str (pv 1) pe_str) (pv 2)) pa_nil)))
      (pss_cons (ps_for PassesOwn.never rfl (pi_tup (pv 3)) (pg_name (i := 5) scSc.nd rfl (.inl rfl)) (pss_cons (ps_expr (pe_bm PySem.F.plainAttrs_list PySem.F.slot_list_append PySem.F.type_list_append mt_append (pv 4) (pa_cons pe_str pa_nil)))
      (pss_one (ps_expr (pe_bm PySem.F.plainAttrs_list PySem.F.slot_list_extend PySem.F.type_list_extend mt_extend (pv 4) (pa_cons (pe_lc2 (own := [("inner", 6), ("line", 7)]) (vs1 := [7]) (wi1 := iList K (tCall (spSs n) [] E0 (tCons (tVar 6) tNil))) (g := (gName 6)) (tt := tYes) (g1 := (gName 7)) (tt1 := tYes) (te := teSc) (by rfl) scSc.nd (pi_tup (pv 5)) (blkOk_by (own := [("inner", 6), ("line", 7)]) (N := nSc) (sc := defScope sSc) (by decide +kernel)) (by decide) (fun _ _ _ _ _ => (pg_name (i := 6) scSc.nd rfl (.inl rfl))) (fun _ _ _ _ _ => pts_nil) (fun _ _ _ _ _ => (pi_list (pe_call GA_ hrA_ (by rfl) mA_ kA_ bA_ .nil pass0 (pa_cons (pv 6) pa_nil)))) (fun _ _ _ _ _ => (pg_name (i := 7) scSc.nd rfl (.inl rfl))) (fun _ _ _ _ _ => pts_nil) (fun _ _ _ _ _ => (pe_op op_add_str pe_str (pv 7)))) pa_nil))))))
      (pss_one (ps_ret (pv 4)))))), ?_⟩
    have two : 2 ≤ sizeLine := by decide
    have one : 1 ≤ sizeLine := by decide
    have three : 3 ≤ sizeLine := by decide
    have hv0 := hv
    obtain ⟨a, xs, rfl, ea, hx⟩ := dh_tupD hv
    cases hx with
    | cons h0 hx =>
    cases hx with
    | cons h1 hx =>
    cases hx with
    | cons h2 hx =>
    cases hx
    cases h0
    obtain ⟨c, us, rfl, ec, hu⟩ := dh_tupD h2
    cases h1
    obtain ⟨nl, l4, oka⟩ := ok
    have lu : us.length = as.length := by rw [hu.len, List.length_map]
    have ll : lb.cps.toList.length ≤ 12 := (name_signs nl).2.1
    have e1 : ("choose" : Str) ++ (" " : Str) = TS chL := by decide +kernel
    have e2 : ("choose" : Str) ++ (" " : Str) ++ lb = TS (chL ++ CL lb) := by rw [e1, ← ts_app, ts_cl]
    refine ⟨_, rfl, a, _, rfl, SqT.of ea, rfl, _, _, rfl, _, _, rfl, _, _, rfl, rfl, ?_⟩
    refine ⟨_, rfl, _, _, rfl, rfl, by decide +kernel, _, rfl, _, _, rfl, rfl, ?_, one, fun L hL => ?_⟩
    · rw [e1, ts_len, lenL]
      exact Nat.le_trans (show 7 + _ ≤ 19 by omega) (by decide)
    have zL := Same.upd (o := .lst [.str (("choose" : Str) ++ (" " : Str) ++ lb)]) hL
    have eL : upd H L (.lst [.str (("choose" : Str) ++ (" " : Str) ++ lb)]) L = some (.lst (vW [chL ++ CL lb])) := by rw [upd_same, e2]; rfl
    generalize upd H L (.lst [.str (("choose" : Str) ++ (" " : Str) ++ lb)]) = H1 at zL eL ⊢
    have nLc : L ≠ c := Ne.symm (ne_of_none ec hL)
    -- how many lines there are
    have cnt : ∀ l : List (List Ps), l.length ≤ 4 → (∀ x ∈ l, AltOk x) → ((l.map altLn).flatten).length ≤ l.length * 29 := fun l => by
      induction l with
      | nil => intro _ _; exact Nat.zero_le _
      | cons x r ih =>
        intro h1 h2
        rw [List.length_cons] at h1
        have := ih (by omega) fun y hy => h2 y (List.mem_cons_of_mem _ hy)
        have := alt_len (h2 x List.mem_cons_self)
        rw [List.map_cons, List.flatten_cons, List.length_append, List.length_cons, Nat.succ_mul]
        omega
    refine ⟨_, rfl, c, rfl, ⟨_, SqT.of (zL _ _ ec)⟩, for_tup (K := K) (a := c) (xs := us) (fun j σ H' => (∃ x5 : Option V, σ = [some (.ref a), some (.str "choose"), some (.str lb), some (.ref c), some (.ref L), x5, none, none]) ∧ H' L = some (.lst (vW ((chL ++ CL lb) :: ((as.take j).map altLn).flatten))) ∧ Same H H') ⟨⟨none, rfl⟩, eL, zL⟩ (fun i σ H' _ pr => SqT.of (pr.2.2 _ _ ec)) ?_ ?_⟩
    · rintro j x σ H2 hj ⟨⟨x5, rfl⟩, eL2, s2⟩
      obtain ⟨d, ed, hd⟩ := hu.get j x hj
      rw [List.getElem?_map] at ed
      obtain ⟨al, et, rfl⟩ := Option.map_eq_some_iff.mp ed
      obtain ⟨q, vs, rfl, eq, hvs⟩ := dh_tupD (show Dh H x (.tuple (al.map Ps.d)) from hd)
      have hj4 : j < as.length := (List.getElem?_eq_some_iff.mp et).1
      have ak := oka al (List.mem_of_getElem? et)
      have lv : vs.length = al.length := by rw [hvs.len, List.length_map]
      have c1 := cnt (as.take j) (by rw [List.length_take]; omega) fun y hy => oka y (List.mem_of_mem_take hy)
      rw [List.length_take] at c1
      have c2 := alt_len ak
      refine ⟨_, rfl, .inl ⟨rfl, _, SqL.of eL2⟩, L, _, _, rfl, rfl, eL2, ?_, ?_⟩
      · rw [vW_len, List.length_cons]
        exact Nat.lt_of_le_of_lt (show _ ≤ 200 by omega) (by decide)
      have eL3 : upd H2 L (.lst (vW ((chL ++ CL lb) :: ((as.take j).map altLn).flatten) ++ [.str "  or"])) L = some (.lst (vW (((chL ++ CL lb) :: ((as.take j).map altLn).flatten) ++ [orL]))) := by
        rw [upd_same]
        have : (V.str "  or" : V) = .str (TS orL) := by rw [or_ts]
        rw [this]
        unfold vW
        rw [List.map_append, List.map_append]
        rfl
      have s3 : Same H (upd H2 L (.lst (vW ((chL ++ CL lb) :: ((as.take j).map altLn).flatten) ++ [.str "  or"]))) := fun b o e => by
        rw [upd_ne (ne_of_none e hL)]
        exact s2 b o e
      generalize upd H2 L (.lst (vW ((chL ++ CL lb) :: ((as.take j).map altLn).flatten) ++ [.str "  or"])) = H3 at eL3 s3 ⊢
      refine ⟨_, rfl, .inl ⟨rfl, _, SqL.of eL3⟩, _, rfl, q, rfl, ⟨_, SqT.of (s3 _ _ eq)⟩, fun D hD => ?_⟩
      refine lc2_tup (K := K) (a := q) (xs := vs) (fun i H' => H' D = some (.lst (vW (inner (al.take i)))) ∧ Same H3 H') ⟨upd_same, Same.upd hD⟩ (fun i H' _ pr => SqT.of (pr.2 _ _ (s3 _ _ eq))) ?_ ?_
      · rintro i y H4 hi ⟨eD4, s4⟩
        obtain ⟨d, ed, hd⟩ := hvs.get i y hi
        rw [List.getElem?_map] at ed
        obtain ⟨p, ep, rfl⟩ := Option.map_eq_some_iff.mp ed
        have pk := ak.2 p (List.mem_of_getElem? ep)
        have plen := ln_len pk
        have ilen : (inner (al.take i)).length ≤ 28 := Nat.le_trans (inner_len (fun y hy => ak.2 y (List.mem_of_mem_take hy))) (by rw [List.length_take]; have := ak.1; omega)
        refine ⟨rfl, ?_⟩
        dsimp only [tYes]
        refine iteT ?_
        refine ⟨_, rfl, y, .pl p, rfl, (hd.same s3).same s4, n1, pk, fun P H5 s5 nP eP => ⟨P, rfl, ⟨_, SqL.of eP⟩, ?_⟩⟩
        have nPD : P ≠ D := Ne.symm (ne_of_none eD4 nP)
        refine lc_in (K := K) (a := P) (xs := vW p.ln) (g1 := gName 7) (tt1 := tYes) (te := teSc) (vs1 := [7]) (D := D) (fun j H' => H' D = some (.lst (vW (inner (al.take i) ++ (p.ln.take j).map (inL ++ ·)))) ∧ H' P = some (.lst (vW p.ln)) ∧ Same H3 H') ⟨by rw [s5 _ _ eD4, List.take_zero, List.map_nil, List.append_nil], eP, s4.trans s5⟩ (fun i H' _ pr => SqL.of pr.2.1) ?_ ?_
        · rintro j z H6 hj2 ⟨eD6, eP6, s6⟩
          obtain ⟨l, el, rfl⟩ := vW_at hj2
          have jl : j < p.ln.length := (List.getElem?_eq_some_iff.mp el).1
          have lb : LnB 8 l := ok8 pk l (List.mem_of_getElem? el)
          have ll := lb.2.1
          rw [szT8] at ll
          refine ⟨rfl, ?_⟩
          dsimp only [tYes]
          refine iteT ?_
          change teSc _ _ _
          have e4 : ("    " : Str) ++ TS l = TS (inL ++ l) := by
            have : ("    " : Str) = TS inL := by decide +kernel
            rw [this, ts_app]
          refine ⟨_, rfl, _, _, rfl, rfl, ?_, _, eD6, ?_, ?_, by rw [upd_ne nPD]; exact eP6, fun b o e => by rw [upd_ne (ne_of_none e hD)]; exact s6 b o e⟩
          · rw [ts_len]
            exact Nat.le_trans (show 4 + _ ≤ 400000 by omega) (by decide)
          · rw [vW_len, List.length_append, List.length_map, List.length_take]
            exact Nat.lt_of_le_of_lt (show _ ≤ 100 by omega) (by decide)
          · rw [upd_same, List.take_add_one, el, e4]
            unfold vW
            simp only [List.map_append, List.append_assoc]
            rfl
        rintro H6 ⟨eD6, _, s6⟩
        rw [vW_len, List.take_length] at eD6
        refine ⟨?_, s6⟩
        rw [eD6, List.take_add_one, ep]
        unfold inner
        rw [List.map_append, List.flatten_append]
        show _ = some (HO.lst (vW (_ ++ List.flatten [p.lnA inL])))
        rw [List.flatten_singleton]
        rfl
      rintro H4 ⟨eD4, s4⟩
      rw [lv, List.take_length] at eD4
      have il : (inner al).length ≤ 28 := Nat.le_trans (inner_len ak.2) (by have := ak.1; omega)
      refine ⟨L, D, _, _, rfl, rfl, s4 _ _ eL3, eD4, ?_, ⟨_, rfl⟩, ?_, fun b o e => by rw [upd_ne (ne_of_none e hL)]; exact s4 b o (s3 b o e)⟩
      · rw [vW_len, vW_len, List.length_append, List.length_cons, List.length_singleton]
        exact Nat.le_trans (show _ ≤ 400 by omega) (by decide)
      · rw [upd_same, List.take_add_one, et, List.map_append, List.flatten_append]
        show some (HO.lst (vW _ ++ vW (inner al))) = some (HO.lst (vW ((chL ++ CL lb) :: (((as.take j).map altLn).flatten ++ List.flatten [altLn al]))))
        rw [List.flatten_singleton]
        unfold vW altLn
        rw [← List.map_append, ← List.map_append, List.append_assoc, List.cons_append]
        rfl
    · rintro σ H2 ⟨⟨x5, rfl⟩, eL2, s2⟩
      rw [lu, List.take_length] at eL2
      exact ⟨_, rfl, k L H2 s2 hL eL2⟩
end
end
end K78
set_option Elab.async false
set_option linter.all false
set_option maxRecDepth 100000
set_option maxHeartbeats 4000000
namespace K78
open PySem PySem.Spec PyProof.Rows L2 Lc
/-! ## a whole pipeline, as the program shows it -/
theorem stp_len {s : Stp} (h : s.Ok1) : s.ln.length ≤ 120 := by
  cases s with
  | pl p => have : p.ln.length ≤ 7 := ln_len h; show p.ln.length ≤ 120; omega
  | ch lb as =>
    obtain ⟨_, l4, oka⟩ := h
    have cnt : ∀ l : List (List Ps), (∀ x ∈ l, AltOk x) → ((l.map altLn).flatten).length ≤ l.length * 29 := fun l => by
      induction l with
      | nil => intro _; exact Nat.zero_le _
      | cons x r ih =>
        intro h2
        have := ih fun y hy => h2 y (List.mem_cons_of_mem _ hy)
        have := alt_len (h2 x List.mem_cons_self)
        rw [List.map_cons, List.flatten_cons, List.length_append, List.length_cons, Nat.succ_mul]
        omega
    have := cnt as oka
    show ((as.map altLn).flatten).length + 1 ≤ 120
    omega
theorem stps_len {ss : List Stp} (h : ∀ s ∈ ss, s.Ok1) : ((ss.map Stp.ln).flatten).length ≤ ss.length * 120 := by
  induction ss with
  | nil => exact Nat.zero_le _
  | cons s r ih =>
    have := ih fun y hy => h y (List.mem_cons_of_mem _ hy)
    have := stp_len (h s List.mem_cons_self)
    rw [List.map_cons, List.flatten_cons, List.length_append, List.length_cons, Nat.succ_mul]
    omega
structure PpOk (src : Str) (ss : List Stp) : Prop where
  nm : nmS src
  len : ss.length ≤ 10
  st : ∀ s ∈ ss, s.Ok1 ∧ s.Sm 3
def pipeD (src : Str) (ss : List Stp) : PyData := .tuple [.str src, .tuple (ss.map Stp.d)]
def spShp : Sp := fun vs H Q _ => ∃ (v : V) (src : Str) (ss : List Stp), vs = [v] ∧ Dh H v (pipeD src ss) ∧ PpOk src ss ∧ ∀ H', Same H H' → Q (.str (TS (jn 10 (pipeLn src ss)))) H'
theorem PpOk.lens {src : Str} {ss : List Stp} (h : PpOk src ss) : (∀ l ∈ pipeLn src ss, LineOk l ∧ 10 ∉ l) ∧ (pipeLn src ss).length ≤ 1201 ∧ (jn 10 (pipeLn src ss)).length ≤ 1900000 := by
  have a := pipe_lines h.nm h.st
  have b : (pipeLn src ss).length ≤ 1201 := by
    have := stps_len fun s hs => (h.st s hs).1
    have := h.len
    unfold pipeLn
    rw [List.length_cons]
    omega
  refine ⟨a, b, ?_⟩
  have := jn_leB (c := 10) (b := 1500) (pipeLn src ss) fun l hl => (a l hl).1.2.1
  omega
theorem join_nl (ls : List LN) : Txt.join (PySem.Str.ofString "\n") (tl ls) = TS (jn 10 ls) := by
  have bl : (PySem.Str.ofString "\n") = ⟨#[10]⟩ := by decide +kernel
  rw [bl]
  exact (StrLaws.glued_eq_join _ _).trans (join_TS ls)
theorem jnl_go {K : PySem.W.Frag} {H : Hp} {Q : VK} {p : Addr} {ls : List LN} (h : SqL K H p (vS (tl ls)) ∨ SqT K H p (vS (tl ls))) (l : (jn 10 ls).length ≤ 1900000) (k : Q (.str (TS (jn 10 ls))) H) : rJn K (.str (PySem.Str.ofString "\n")) [.ref p] H Q := ⟨_, p, tl ls, rfl, rfl, h, by
  have : ((tl ls).map (·.length)).sum + ls.length ≤ (jn 10 ls).length + 1 := jn_sum (c := 10) ls
  rw [show (PySem.Str.ofString "\n").length = 1 by decide +kernel, List.length_map]
  omega, by rw [join_nl]; exact k⟩
section
variable {P : Program} {w : World} {K : PySem.W.Frag} {mg : Str → Option Value} {base : Heap} {f : Addr} {fd : FuncData}
abbrev sSpl : Stmt := top 7
abbrev nSpl : List Str := ["pipeline", "source", "steps", "step", "line"]
abbrev pSpl : List Str := ["pipeline"]
theorem scSpl : FnScope nSpl pSpl (defScope sSpl) := ⟨rfl, rfl, rfl, by decide +kernel, rfl, by decide +kernel, by decide +kernel⟩
section
variable {fA_ : Addr} {fdA_ : FuncData}
theorem ok_Spl (F : Fun K "show_pipeline" "show_pipeline" sSpl f fd) (T : Bt mg)
    (GA_ : FnOk P w K mg base CX0 14 fA_ fdA_ ["step"] (spSs 2)) (mA_ : mg "show_step" = some (.ref fA_)) (kA_ : PySem.W.keepIn K (.ref fA_) = true) (bA_ : Binds K fdA_ ["step"] []) : FnOk P w K mg base CX0 15 f fd pSpl (spShp) := by
  refine F.ok scSpl (fun vs H Q E h => ?_) (fun cdv A outer s H vs Q E hr h => ?_)
  · obtain ⟨v, src, ss, rfl, _⟩ := h
    rfl
  · obtain ⟨v, src, ss, rfl, hv, ok, k⟩ := h
    have hrA_ : Room (14) _ := hr.mono (by first | decide | omega)
    refine ⟨_, (pss_cons (ps_asg (pv 0) (pg_tup rfl (pgs_cons (pg_name (i := 1) scSpl.nd rfl (.inl rfl)) (pgs_cons (pg_name (i := 2) scSpl.nd rfl (.inl rfl)) pgs_nil))))
      (pss_one (ps_ret (pe_m1 PySem.F.slot_str_join PySem.F.type_str_join mt_join pe_str (pe_op op_cat (pe_lst (pa_cons (pe_op op_add_str pe_str (pv 1)) pa_nil)) (pe_lc2 (own := [("step", 3), ("line", 4)]) (vs1 := [4]) (wi1 := iList K (tCall (spSs 2) [] E0 (tCons (tVar 3) tNil))) (g := (gName 3)) (tt := tYes) (g1 := (gName 4)) (tt1 := tYes) (te := teSpl) (by rfl) scSpl.nd (pi_tup (pv 2)) (blkOk_by (own := [("step", 3), ("line", 4)]) (N := nSpl) (sc := defScope sSpl) (by decide +kernel)) (by decide) (fun _ _ _ _ _ => (pg_name (i := 3) scSpl.nd rfl (.inl rfl))) (fun _ _ _ _ _ => pts_nil) (fun _ _ _ _ _ => (pi_list (pe_call GA_ hrA_ (by rfl) mA_ kA_ bA_ .nil pass0 (pa_cons (pv 3) pa_nil)))) (fun _ _ _ _ _ => (pg_name (i := 4) scSpl.nd rfl (.inl rfl))) (fun _ _ _ _ _ => pts_nil) (fun _ _ _ _ _ => (pv 4)))))))), ?_⟩
    have two : 2 ≤ sizeLine := by decide
    have one : 1 ≤ sizeLine := by decide
    have three : 3 ≤ sizeLine := by decide
    obtain ⟨a, xs, rfl, ea, hx⟩ := dh_tupD hv
    cases hx with
    | cons h0 hx =>
    cases hx with
    | cons h1 hx =>
    cases hx
    cases h0
    obtain ⟨c, us, rfl, ec, hu⟩ := dh_tupD h1
    have lu : us.length = ss.length := by rw [hu.len, List.length_map]
    obtain ⟨L1, L2, L3⟩ := ok.lens
    have ll : src.cps.toList.length ≤ 12 := (name_signs ok.nm).2.1
    have e1 : ("from " : Str) = TS frL := by decide +kernel
    have e2 : ("from " : Str) ++ src = TS (frL ++ CL src) := by rw [e1, ← ts_app, ts_cl]
    have l10 := ok.len
    refine ⟨_, rfl, a, _, rfl, SqT.of ea, rfl, _, _, rfl, _, _, rfl, rfl, ?_⟩
    refine ⟨⟨_, rfl⟩, _, rfl, _, _, rfl, rfl, ?_, one, fun A hA => ?_⟩
    · rw [e1, ts_len, lenL]
      exact Nat.le_trans (show 5 + _ ≤ 19 by omega) (by decide)
    have zA := Same.upd (o := .lst [.str (("from " : Str) ++ src)]) hA
    have eA : upd H A (.lst [.str (("from " : Str) ++ src)]) A = some (.lst (vW [frL ++ CL src])) := by rw [upd_same, e2]; rfl
    generalize upd H A (.lst [.str (("from " : Str) ++ src)]) = H1 at zA eA ⊢
    refine ⟨_, rfl, c, rfl, ⟨_, SqT.of (zA _ _ ec)⟩, fun D hD => ?_⟩
    refine lc2_tup (K := K) (a := c) (xs := us) (fun i H' => H' D = some (.lst (vW (((ss.take i).map Stp.ln).flatten))) ∧ Same H1 H') ⟨upd_same, Same.upd hD⟩ (fun i H' _ pr => SqT.of (pr.2 _ _ (zA _ _ ec))) ?_ ?_
    · rintro i y H4 hi ⟨eD4, s4⟩
      obtain ⟨d, ed, hd⟩ := hu.get i y hi
      rw [List.getElem?_map] at ed
      obtain ⟨s, es, rfl⟩ := Option.map_eq_some_iff.mp ed
      have sk := (ok.st s (List.mem_of_getElem? es)).1
      have slen := stp_len sk
      have ilen : (((ss.take i).map Stp.ln).flatten).length ≤ 1200 := Nat.le_trans (stps_len fun y hy => (ok.st y (List.mem_of_mem_take hy)).1) (by rw [List.length_take]; omega)
      refine ⟨rfl, ?_⟩
      dsimp only [tYes]
      refine iteT ?_
      refine ⟨_, rfl, y, s, rfl, (hd.same zA).same s4, by cases s; exact (by decide : 1 ≤ 2); exact (by decide : 2 ≤ 2), sk, fun P H5 s5 nP eP => ⟨P, rfl, ⟨_, SqL.of eP⟩, ?_⟩⟩
      have nPD : P ≠ D := Ne.symm (ne_of_none eD4 nP)
      refine lc_in (K := K) (a := P) (xs := vW s.ln) (g1 := gName 4) (tt1 := tYes) (te := teSpl) (vs1 := [4]) (D := D) (fun j H' => H' D = some (.lst (vW (((ss.take i).map Stp.ln).flatten ++ s.ln.take j))) ∧ H' P = some (.lst (vW s.ln)) ∧ Same H1 H') ⟨by rw [s5 _ _ eD4, List.take_zero, List.append_nil], eP, s4.trans s5⟩ (fun i H' _ pr => SqL.of pr.2.1) ?_ ?_
      · rintro j z H6 hj2 ⟨eD6, eP6, s6⟩
        obtain ⟨l, el, rfl⟩ := vW_at hj2
        refine ⟨rfl, ?_⟩
        dsimp only [tYes]
        refine iteT ?_
        change teSpl _ _ _
        refine ⟨_, rfl, _, eD6, ?_, ?_, by rw [upd_ne nPD]; exact eP6, fun b o e => by rw [upd_ne (ne_of_none e hD)]; exact s6 b o e⟩
        · rw [vW_len, List.length_append, List.length_take]
          exact Nat.lt_of_le_of_lt (show _ ≤ 1400 by omega) (by decide)
        · rw [upd_same, List.take_add_one, el]
          unfold vW
          simp only [List.map_append, List.append_assoc]
          rfl
      rintro H6 ⟨eD6, _, s6⟩
      rw [vW_len, List.take_length] at eD6
      refine ⟨?_, s6⟩
      rw [eD6, List.take_add_one, es, List.map_append, List.flatten_append]
      show _ = some (HO.lst (vW (_ ++ List.flatten [s.ln])))
      rw [List.flatten_singleton]
    rintro H4 ⟨eD4, s4⟩
    rw [lu, List.take_length] at eD4
    have il := stps_len fun s hs => (ok.st s hs).1
    refine ⟨A, D, _, _, rfl, rfl, s4 _ _ eA, eD4, ?_, fun r hr => ?_⟩
    · rw [vW_len, vW_len, List.length_singleton]
      exact Nat.le_trans (show _ ≤ 1400 by omega) (by decide)
    refine jnl_go (ls := pipeLn src ss) (.inl (SqL.of ?_)) L3 (k _ ((zA.trans s4).trans (Same.upd hr)))
    rw [upd_same]
    rfl
end
end
section
variable {P : Program} {w : World} {K : PySem.W.Frag} {mg : Str → Option Value} {base : Heap} {f fC fG fX : Addr} {fd fdC fdG fdX : FuncData}
theorem ok_SsN (F : Fun K "show_step" "show_step" sSs f fd) (FC : Fun K "show_choose" "show_choose" sSc fC fdC) (T : Bt mg)
    (GG : FnOk P w K mg base CX0 1 fG fdG ["step"] spSg) (mG : mg "show_group" = some (.ref fG)) (kG : PySem.W.keepIn K (.ref fG) = true) (bG : Binds K fdG ["step"] [])
    (GX : FnOk P w K mg base CX0 10 fX fdX ["expression"] (spSh 8)) (mX : mg "show_expression" = some (.ref fX)) (kX : PySem.W.keepIn K (.ref fX) = true) (bX : Binds K fdX ["expression"] [])
    (mF : mg "show_step" = some (.ref f)) (kF : PySem.W.keepIn K (.ref f) = true) (bF : Binds K fd ["step"] []) (mC : mg "show_choose" = some (.ref fC)) (kC : PySem.W.keepIn K (.ref fC) = true) (bC : Binds K fdC ["step"] []) : ∀ n : Nat, FnOk P w K mg base CX0 (10 + 2 * n) f fd ["step"] (spSs n)
  | 0 => fn_weak (sp' := fun _ _ _ _ => False) (fun _ _ _ _ ⟨_, s, _, _, dp, _⟩ => by cases s; exact absurd (show 1 ≤ 0 from dp) (by decide); exact absurd (show 2 ≤ 0 from dp) (by decide)) fn_none
  | n + 1 => by
    have G := ok_SsN F FC T GG mG kG bG GX mX kX bX mF kF bF mC kC bC n
    have GC := ok_Sc FC T n G mF kF bF
    rw [show 10 + 2 * n + 1 = 11 + 2 * n by omega] at GC
    have GF := ok_Ss F T n GG mG kG bG GC mC kC bC GX mX kX bX
    rw [show 10 + 2 * (n + 1) = 11 + 2 * n + 1 by omega]
    exact GF
end
end K78
set_option Elab.async false
set_option linter.all false
set_option maxRecDepth 100000
set_option maxHeartbeats 4000000
namespace K78
open PySem PySem.Spec PyProof.Rows L2 Lc
/-! ## the lines of a step, as the law writes them -/
abbrev teLt (K : PySem.W.Frag) : TE := tOp rAS (tC (.str "  total ")) (tM1 (rJn K) (tC (.str " ")) (tVar 2))
abbrev teLh : TE := tCB rStrE (tCons (tVar 3) tNil)
abbrev teLl : TE := tOp rAS (tC (.str "    ")) (tVar 7)
theorem ite_ne {a b : Str} {p q : Prop} (h : a ≠ b) (k : p) : if (!decide (V.str a = V.str b)) = true then p else q := by
  rw [decide_eq_false (fun e => h (by injection e))]
  exact k
theorem ite_neq {a : Str} {p q : Prop} (k : q) : if (!decide (V.str a = V.str a)) = true then p else q := by
  rw [decide_eq_true rfl]
  exact k
theorem kw_eq {w w' : Str} (h : CL w' = CL w ++ [32]) {ws : List LN} (ne : ws ≠ []) : w' ++ TS (jn 32 ws) = TS (jn 32 (CL w :: ws)) := by
  rw [jn_cons ne, ← ts_cl w', h, ts_app]
  simp
section
variable {P : Program} {w : World} {K : PySem.W.Frag} {mg : Str → Option Value} {base : Heap} {f : Addr} {fd : FuncData}
abbrev sLl : Stmt := top 95
abbrev nLl : List Str := ["_law_step", "_law_word", "_law_total", "_law_thing", "_law_found", "_law_steps_here", "_law_one", "_law_line"]
abbrev pLl : List Str := ["_law_step"]
theorem scLl : FnScope nLl pLl (defScope sLl) := ⟨rfl, rfl, rfl, by decide +kernel, rfl, by decide +kernel, by decide +kernel⟩
section
variable {fA_ fB_ : Addr} {fdA_ fdB_ : FuncData}
theorem ok_Ll (F : Fun K "_law_lines" "_law_lines" sLl f fd) (T : Bt mg) (n : Nat)
    (GA_ : FnOk P w K mg base CX0 9 fA_ fdA_ ["_law_expression_here"] (spSh 8)) (mA_ : mg "_law_form" = some (.ref fA_)) (kA_ : PySem.W.keepIn K (.ref fA_) = true) (bA_ : Binds K fdA_ ["_law_expression_here"] [])
    (GB_ : FnOk P w K mg base CX0 (9 + n) fB_ fdB_ ["_law_step"] (spSs n)) (mB_ : mg "_law_lines" = some (.ref fB_)) (kB_ : PySem.W.keepIn K (.ref fB_) = true) (bB_ : Binds K fdB_ ["_law_step"] []) : FnOk P w K mg base CX0 (9 + n + 1) f fd pLl (spSs (n + 1)) := by
  refine F.ok scLl (fun vs H Q E h => ?_) (fun cdv A outer s H vs Q E hr h => ?_)
  · obtain ⟨v, s, rfl, _⟩ := h
    rfl
  · obtain ⟨v, s, rfl, hv, dp, ok, k⟩ := h
    have hrA_ : Room (9) _ := hr.mono (by first | decide | omega)
    have hrB_ : Room ((9 + n)) _ := hr.mono (by first | decide | omega)
    refine ⟨_, (pss_cons (ps_set (i := 1) scLl.nd rfl (Or.inl rfl) (pe_ix ix_tup (pv 0) pe_int (fun _ _ => rfl)))
      (pss_cons (ps_if (pt_cmpR op_eq (pv 1) pe_str (nomark _)) (pss_one (ps_ret (pe_lst (pa_cons (pe_op op_add_str pe_str (pe_call GA_ hrA_ (by rfl) mA_ kA_ bA_ .nil pass0 (pa_cons (pe_ix ix_tup (pv 0) pe_int (fun _ _ => rfl)) pa_nil))) pa_nil)))) pss_nil)
      (pss_cons (ps_if (pt_cmpR op_eq (pv 1) pe_str (nomark _)) (pss_one (ps_ret (pe_lst (pa_cons (pe_op op_add_str (pe_op op_add_str (pe_op op_add_str pe_str (pe_ix ix_tup (pv 0) pe_int (fun _ _ => rfl))) pe_str) (pe_call GA_ hrA_ (by rfl) mA_ kA_ bA_ .nil pass0 (pa_cons (pe_ix ix_tup (pv 0) pe_int (fun _ _ => rfl)) pa_nil))) pa_nil)))) pss_nil)
      (pss_cons (ps_if (pt_cmpR op_eq (pv 1) pe_str (nomark _)) (pss_one (ps_ret (pe_lst (pa_cons (pe_op op_add_str pe_str (pe_m1 PySem.F.slot_str_join PySem.F.type_str_join mt_join pe_str (pe_ix ix_tup (pv 0) pe_int (fun _ _ => rfl)))) pa_nil)))) pss_nil)
      (pss_cons (ps_if (pt_cmpR op_eq (pv 1) pe_str (nomark _)) (pss_one (ps_ret (pe_lst (pa_cons (pe_op op_add_str (pe_op op_add_str (pe_op op_add_str pe_str (pe_ix ix_tup (pv 0) pe_int (fun _ _ => rfl))) pe_str) (pe_m1 PySem.F.slot_str_join PySem.F.type_str_join mt_join pe_str (pe_ix ix_tup (pv 0) pe_int (fun _ _ => rfl)))) pa_nil)))) pss_nil)
      (pss_cons (ps_if (pt_cmpR op_eq (pv 1) pe_str (nomark _)) (pss_one (ps_ret (pe_op op_cat (pe_lst (pa_cons (pe_m1 PySem.F.slot_str_join PySem.F.type_str_join mt_join pe_str (pe_op op_cat (pe_lst (pa_cons pe_str pa_nil)) (pe_callTy call_list_of (by rfl) T.list boot_list (pa_cons (pe_ix ix_tup (pv 0) pe_int (fun _ _ => rfl)) pa_nil)))) pa_nil)) (pe_lc (own := [("_law_total", 2)]) (g := (gName 2)) (tt := tYes) (te := teLt K) (by rfl) scLl.nd (pi_tup (pe_ix ix_tup (pv 0) pe_int (fun _ _ => rfl))) (blkOk_by (own := [("_law_total", 2)]) (N := nLl) (sc := defScope sLl) (by decide +kernel)) (fun _ _ _ _ _ => (pg_name (i := 2) scLl.nd rfl (.inl rfl))) (fun _ _ _ _ _ => pts_nil) (fun _ _ _ _ _ => (pe_op op_add_str pe_str (pe_m1 PySem.F.slot_str_join PySem.F.type_str_join mt_join pe_str (pv 2)))))))) pss_nil)
      (pss_cons (ps_if (pt_cmpR op_ne (pv 1) pe_str (nomark _)) (pss_one (ps_ret (pe_lst (pa_cons (pe_m1 PySem.F.slot_str_join PySem.F.type_str_join mt_join pe_str (pe_lc (own := [("_law_thing", 3)]) (g := (gName 3)) (tt := tYes) (te := teLh) (by rfl) scLl.nd (pi_tup (pv 0)) (blkOk_by (own := [("_law_thing", 3)]) (N := nLl) (sc := defScope sLl) (by decide +kernel)) (fun _ _ _ _ _ => (pg_name (i := 3) scLl.nd rfl (.inl rfl))) (fun _ _ _ _ _ => pts_nil) (fun _ _ _ _ _ => (pe_callTy call_strE (by rfl) T.str boot_str (pa_cons (pv 3) pa_nil))))) pa_nil)))) pss_nil)
      (pss_cons (ps_set (i := 4) scLl.nd rfl (Or.inl rfl) (pe_lst (pa_cons (pe_op op_add_str pe_str (pe_ix ix_tup (pv 0) pe_int (fun _ _ => rfl))) pa_nil)))
      (pss_cons (ps_for PassesOwn.never rfl (pi_tup (pe_ix ix_tup (pv 0) pe_int (fun _ _ => rfl))) (pg_name (i := 5) scLl.nd rfl (.inl rfl)) (pss_cons (ps_expr (pe_bm PySem.F.plainAttrs_list PySem.F.slot_list_append PySem.F.type_list_append mt_append (pv 4) (pa_cons pe_str pa_nil)))
      (pss_one (ps_for PassesOwn.never rfl (pi_tup (pv 5)) (pg_name (i := 6) scLl.nd rfl (.inl rfl)) (pss_one (ps_set (i := 4) scLl.nd rfl (Or.inl rfl) (pe_op op_cat (pv 4) (pe_lc (own := [("_law_line", 7)]) (g := (gName 7)) (tt := tYes) (te := teLl) (by rfl) scLl.nd (pi_list (pe_call GB_ hrB_ (by rfl) mB_ kB_ bB_ .nil pass0 (pa_cons (pv 6) pa_nil))) (blkOk_by (own := [("_law_line", 7)]) (N := nLl) (sc := defScope sLl) (by decide +kernel)) (fun _ _ _ _ _ => (pg_name (i := 7) scLl.nd rfl (.inl rfl))) (fun _ _ _ _ _ => pts_nil) (fun _ _ _ _ _ => (pe_op op_add_str pe_str (pv 7)))))))))))
      (pss_one (ps_ret (pv 4)))))))))))), ?_⟩
    have two : 2 ≤ sizeLine := by decide
    have one : 1 ≤ sizeLine := by decide
    have three : 3 ≤ sizeLine := by decide
    have tail : ∀ (a : Addr) (y : V) (xs : List V) (D : Ends), H a = some (.tup xs) → (∀ x ∈ xs, (∃ z, x = .str z) ∨ ∃ m : Nat, x = .int m ∧ m ≤ 1000000000) → xs.length ≤ 9 → (jn 32 (xs.map wdV)).length ≤ 400000 → (∀ p H', Same H H' → H p = none → H' p = some (.lst (vS [TS (jn 32 (xs.map wdV))])) → D.rt (.ref p) H') →
        tRet (tLst (tCons (tM1 (rJn K) (tC (.str (PySem.Str.ofString " "))) (tLc (iTup K (tVar 0)) (gName 3) tYes teLh [3])) tNil)) D [some (.ref a), some y, none, none, none, none, none, none] H := fun a y xs D ea hx l9 len kt => by
      refine ret_ls (ls_one (vx_join (ws := xs.map wdV) (fun H2 Q2 s2 k2 => ?_) len)) kt
      refine ⟨_, rfl, a, rfl, ⟨_, SqT.of (s2 _ _ ea)⟩, fun D hD => lc_tup (K := K) (a := a) (xs := xs) (fun j H' => H' D = some (.lst (vS (tl ((xs.take j).map wdV)))) ∧ Same H2 H') ⟨upd_same, Same.upd hD⟩ (fun i H' _ pr => SqT.of (pr.2 _ _ (s2 _ _ ea))) ?_ ?_⟩
      · rintro j x H3 hj ⟨e3, s3⟩
        refine ⟨rfl, ?_⟩
        dsimp only [tYes]
        refine iteT ?_
        change teLh _ _ _
        have fin : ∀ z : Str, z = TS (wdV x) → ∃ acc, H3 D = some (.lst acc) ∧ acc.length < sizeLine ∧ (upd H3 D (.lst (acc ++ [.str z])) D = some (.lst (vS (tl ((xs.take (j + 1)).map wdV)))) ∧ Same H2 (upd H3 D (.lst (acc ++ [.str z])))) := fun z ez => by
          refine ⟨_, e3, ?_, ?_, fun b o e => by rw [upd_ne (ne_of_none e hD)]; exact s3 b o e⟩
          · rw [List.length_map, List.length_map, List.length_map, List.length_take]
            exact Nat.lt_of_le_of_lt (show _ ≤ 9 by omega) (by decide)
          · rw [upd_same, List.take_add_one, hj, ez]
            unfold vS tl
            rw [List.map_append, List.map_append, List.map_append]
            rfl
        rcases hx x (List.mem_of_getElem? hj) with ⟨z, rfl⟩ | ⟨m, rfl, hm⟩
        · exact ⟨_, rfl, .inl ⟨z, rfl, fin z (by show z = TS (CL z); rw [ts_cl])⟩⟩
        · refine ⟨_, rfl, .inr ⟨m, rfl, lg_lim (by omega), fin _ ?_⟩⟩
          exact int_str _
      rintro H3 ⟨e3, s3⟩
      rw [List.take_length] at e3
      exact k2 D H3 s3 hD e3
    have xl : ∀ {e : PyData}, Xf 8 e → (TS (shL e)).length ≤ 328000 := fun {e} x => by
      have := xf_len x
      rw [szT8] at this
      rw [ts_len]
      exact this
    have jl : ∀ {ns : List Str} {b : Nat}, (∀ x ∈ ns, nmS x) → ns.length ≤ 8 → (jn 32 (ns.map CL)).length ≤ 120 := fun {ns b} h l => by
      have := jn_leB (c := 32) (b := 12) (ns.map CL) fun w hw => (as_names h w hw).2
      rw [List.length_map] at this
      omega
    have nl : ∀ {x : Str}, nmS x → x.length ≤ 12 := fun {x} h => by rw [lenL]; exact (name_signs h).2.1
    have al : ∀ {x y : Str}, (x ++ y).length = x.length + y.length := fun {x y} => by rw [lenL, lenL, lenL, appL, List.length_append]
    have neM : ∀ {ns : List Str}, 1 ≤ ns.length → ns.map CL ≠ [] := fun {ns} h e => by
      rw [List.map_eq_nil_iff.mp e] at h
      exact absurd h (by decide)
    cases s with
    | pl p =>
      have ok : p.Ok := ok
      have len := ok.len
      cases p with
      | keep e =>
        obtain ⟨a, xs, rfl, ea, hx⟩ := dh_tupD hv
        cases hx with
        | cons h0 hx =>
        cases hx with
        | cons h1 hx =>
        cases hx
        cases h0
        refine ⟨_, rfl, a, _, _, .str "keep", rfl, rfl, SqT.of ea, rfl, ?_⟩
        refine ⟨_, rfl, rfl, _, rfl, ite_yes ?_⟩
        refine ret_ls (ls_one (vx_cat vx_c (vx_she (vx_ix (vx_var rfl) ea vx_c rfl) h1 ok) (by have := xl ok; rw [show ("keep " : Str).length = 5 by decide +kernel]; omega))) fun p H1 s1 n1 ep => k p H1 s1 n1 ?_
        have e1 := kw_eq (w := "keep") (w' := "keep ") (by decide +kernel) (spl_ne (c := 32) (shL e))
        rw [jn_spl] at e1
        rw [ep, e1]
        rfl
      | set x e =>
        obtain ⟨a, xs, rfl, ea, hx⟩ := dh_tupD hv
        cases hx with
        | cons h0 hx =>
        cases hx with
        | cons h1 hx =>
        cases hx with
        | cons h2 hx =>
        cases hx
        cases h0
        cases h1
        refine ⟨_, rfl, a, _, _, .str "set", rfl, rfl, SqT.of ea, rfl, ?_⟩
        refine ⟨_, rfl, rfl, _, rfl, ite_no (by decide +kernel) ?_⟩
        refine ⟨_, rfl, rfl, _, rfl, ite_yes ?_⟩
        have e1 : ("set " : Str) ++ x ++ (" " : Str) ++ TS (shL e) = TS (jn 32 (Ps.ws (.set x e))) := by
          show _ = TS (jn 32 (CL "set" :: CL x :: spl 32 (shL e)))
          rw [jn_cons (List.cons_ne_nil _ _), jn_cons (spl_ne _), jn_spl, show ("set " : Str) = TS [115, 101, 116, 32] by decide +kernel, show (" " : Str) = TS [32] by decide +kernel, ← ts_cl x, ts_app, ts_app, ts_app, ts_cl, show CL ("set" : Str) = [115, 101, 116] by decide +kernel]
          simp
        have l1 := nl ok.1
        have l2 := xl ok.2
        have l4 : ("set " : Str).length = 4 := by decide +kernel
        have l5 : (" " : Str).length = 1 := by decide +kernel
        refine ret_ls (ls_one (vx_cat (vx_cat (vx_cat vx_c (vx_ix (vx_var rfl) ea vx_c rfl) (by omega)) vx_c (by rw [al]; omega)) (vx_she (vx_ix (vx_var rfl) ea vx_c rfl) h2 ok.2) (by rw [al, al]; omega))) fun p H1 s1 n1 ep => k p H1 s1 n1 ?_
        rw [ep, e1]
        rfl
      | select ns =>
        obtain ⟨a, xs, rfl, ea, hx⟩ := dh_tupD hv
        cases hx with
        | cons h0 hx =>
        cases hx with
        | cons h1 hx =>
        cases hx
        cases h0
        obtain ⟨b, rfl, eb⟩ := dh_strT h1
        refine ⟨_, rfl, a, _, _, .str "select", rfl, rfl, SqT.of ea, rfl, ?_⟩
        refine ⟨_, rfl, rfl, _, rfl, ite_no (by decide +kernel) ?_⟩
        refine ⟨_, rfl, rfl, _, rfl, ite_no (by decide +kernel) ?_⟩
        refine ⟨_, rfl, rfl, _, rfl, ite_yes ?_⟩
        have l1 := jl (b := 0) ok.1 ok.2.2.2
        have e1 := kw_eq (w := "select") (w' := "select ") (by decide +kernel) (neM ok.2.2.1)
        refine ret_ls (ls_one (vx_cat vx_c (vx_joinT (ws := ns.map CL) (vx_ix (vx_var rfl) ea vx_c rfl) (by rw [tl_cl]; exact eb) (by omega)) (by rw [ts_len, show ("select " : Str).length = 7 by decide +kernel]; omega))) fun p H1 s1 n1 ep => k p H1 s1 n1 ?_
        rw [ep, e1]
        rfl
      | join t ks =>
        obtain ⟨a, xs, rfl, ea, hx⟩ := dh_tupD hv
        cases hx with
        | cons h0 hx =>
        cases hx with
        | cons h1 hx =>
        cases hx with
        | cons h2 hx =>
        cases hx
        cases h0
        cases h1
        obtain ⟨b, rfl, eb⟩ := dh_strT h2
        refine ⟨_, rfl, a, _, _, .str "join", rfl, rfl, SqT.of ea, rfl, ?_⟩
        refine ⟨_, rfl, rfl, _, rfl, ite_no (by decide +kernel) ?_⟩
        refine ⟨_, rfl, rfl, _, rfl, ite_no (by decide +kernel) ?_⟩
        refine ⟨_, rfl, rfl, _, rfl, ite_no (by decide +kernel) ?_⟩
        refine ⟨_, rfl, rfl, _, rfl, ite_yes ?_⟩
        have l1 := jl (b := 0) ok.2.1 (Nat.le_trans ok.2.2.2.2 (by decide))
        have l2 := nl ok.1
        have l4 : ("join " : Str).length = 5 := by decide +kernel
        have l5 : (" on " : Str).length = 4 := by decide +kernel
        have e1 : ("join " : Str) ++ t ++ (" on " : Str) ++ TS (jn 32 (ks.map CL)) = TS (jn 32 (Ps.ws (.join t ks))) := by
          show _ = TS (jn 32 (CL "join" :: CL t :: CL "on" :: ks.map CL))
          rw [jn_cons (List.cons_ne_nil _ _), jn_cons (List.cons_ne_nil _ _), jn_cons (neM ok.2.2.2.1), show ("join " : Str) = TS [106, 111, 105, 110, 32] by decide +kernel, show (" on " : Str) = TS [32, 111, 110, 32] by decide +kernel, ← ts_cl t, ts_app, ts_app, ts_app, ts_cl, show CL ("join" : Str) = [106, 111, 105, 110] by decide +kernel, show CL ("on" : Str) = [111, 110] by decide +kernel]
          simp
        refine ret_ls (ls_one (vx_cat (vx_cat (vx_cat vx_c (vx_ix (vx_var rfl) ea vx_c rfl) (by omega)) vx_c (by rw [al]; omega)) (vx_joinT (ws := ks.map CL) (vx_ix (vx_var rfl) ea vx_c rfl) (by rw [tl_cl]; exact eb) (by omega)) (by rw [al, al, ts_len]; omega))) fun p H1 s1 n1 ep => k p H1 s1 n1 ?_
        rw [ep, e1]
        rfl
      | group ks ts =>
        obtain ⟨a, xs, rfl, ea, hx⟩ := dh_tupD hv
        cases hx with
        | cons h0 hx =>
        cases hx with
        | cons h1 hx =>
        cases hx with
        | cons h2 hx =>
        cases hx
        cases h0
        obtain ⟨b, rfl, eb⟩ := dh_strT h1
        obtain ⟨c, us, rfl, ec, hu⟩ := dh_tupD h2
        have lk := ok.kl
        have lt := ok.tl
        have lu : us.length = ts.length := by rw [hu.len, List.length_map]
        refine ⟨_, rfl, a, _, _, .str "group", rfl, rfl, SqT.of ea, rfl, ?_⟩
        refine ⟨_, rfl, rfl, _, rfl, ite_no (by decide +kernel) ?_⟩
        refine ⟨_, rfl, rfl, _, rfl, ite_no (by decide +kernel) ?_⟩
        refine ⟨_, rfl, rfl, _, rfl, ite_no (by decide +kernel) ?_⟩
        refine ⟨_, rfl, rfl, _, rfl, ite_no (by decide +kernel) ?_⟩
        refine ⟨_, rfl, rfl, _, rfl, ite_yes ?_⟩
        have A : LS [some (.ref a), some (.str "group"), none, none, none, none, none, none] H (tLst (tCons (tM1 (rJn K) (tC (.str (PySem.Str.ofString " "))) (tOp rCat (tLst (tCons (tC (.str "group")) tNil)) (tCB (rLo K) (tCons (tOp (rIxT K) (tVar 0) (tC (.int 1))) tNil)))) tNil)) [TS (jn 32 (Ps.ws (.group ks ts)))] := by
          refine ls_one (vx_join ?_ (Ps.Ok.len (p := .group ks ts) ok))
          have e : tl (Ps.ws (.group ks ts)) = [("group" : Str)] ++ ks := by
            show tl (CL "group" :: ks.map CL) = _
            rw [show tl (CL "group" :: ks.map CL) = TS (CL "group") :: tl (ks.map CL) from rfl, ts_cl, tl_cl]
            rfl
          rw [e]
          exact ls_cat (ls_one vx_c) (ls_of (vx_ix (vx_var rfl) ea vx_c rfl) eb) (by show 1 + _ ≤ 1000; omega)
        refine ret_op_ls A fun p H1 s1 _ ep => ?_
        refine ⟨_, rfl, a, _, _, .ref c, rfl, rfl, SqT.of (s1 _ _ ea), rfl, c, rfl, ⟨_, SqT.of (s1 _ _ ec)⟩, fun D hD => lc_tup (K := K) (a := c) (xs := us) (fun j H' => H' D = some (.lst (vW ((ts.take j).map fun t => [32, 32] ++ totLn t))) ∧ Same H1 H') ⟨upd_same, Same.upd hD⟩ (fun i H' _ pr => SqT.of (pr.2 _ _ (s1 _ _ ec))) ?_ ?_⟩
        · rintro j x H2 hj ⟨e2, s2⟩
          obtain ⟨d, ed, hd⟩ := hu.get j x hj
          rw [List.getElem?_map] at ed
          obtain ⟨t, et, rfl⟩ := Option.map_eq_some_iff.mp ed
          obtain ⟨t1, t2, t3⟩ := ok.t t (List.mem_of_getElem? et)
          obtain ⟨q, rfl, eq⟩ := totS3_dh hd
          have eq2 : H2 q = some (.tup (vS (tl (totWs t)))) := by
            rw [s2 _ _ (s1 _ _ eq)]
            show some (HO.tup (vS [t.1, t.2.1, t.2.2])) = some (.tup (vS [TS (CL t.1), TS (CL t.2.1), TS (CL t.2.2)]))
            rw [ts_cl, ts_cl, ts_cl]
          have tlen := tot_len t1 t2 t3
          refine ⟨rfl, ?_⟩
          dsimp only [tYes]
          refine iteT ?_
          change teLt K _ _ _
          refine ⟨⟨_, rfl⟩, _, rfl, jn_go (.inr (SqT.of eq2)) (by omega) ⟨_, _, rfl, rfl, ?_, _, e2, ?_, ?_, fun b o e => by rw [upd_ne (ne_of_none e hD)]; exact s2 b o e⟩⟩
          · rw [ts_len]
            exact Nat.le_trans (show 8 + _ ≤ 68 by omega) (by decide)
          · rw [vW_len, List.length_map, List.length_take]
            exact Nat.lt_of_le_of_lt (show _ ≤ 6 by omega) (by decide)
          · rw [upd_same, List.take_add_one, et, line_tot]
            unfold vW
            rw [List.map_append, List.map_append, List.map_append]
            rfl
        rintro H2 ⟨e2, s2⟩
        rw [lu, List.take_length] at e2
        refine ⟨p, D, _, _, rfl, rfl, s2 _ _ ep, e2, ?_, fun r hr => k r _ (s1.trans (s2.trans (Same.upd hr))) (same_none (s1.trans s2) hr) ?_⟩
        · show 1 + (vW (ts.map fun t => [32, 32] ++ totLn t)).length ≤ _
          rw [vW_len, List.length_map]
          exact Nat.le_trans (show 1 + _ ≤ 7 by omega) (by decide)
        · rw [upd_same]
          show some (HO.lst (vS [TS (jn 32 (Ps.ws (.group ks ts)))] ++ vW (ts.map fun t => [32, 32] ++ totLn t))) = some (.lst (vW (jn 32 (Ps.ws (.group ks ts)) :: (ts.map totLn).map ([32, 32] ++ ·))))
          rw [List.map_map]
          rfl
      | rename x y =>
        obtain ⟨a, xs, rfl, ea, hx⟩ := dh_tupD hv
        cases hx with
        | cons h0 hx =>
        cases hx with
        | cons h1 hx =>
        cases hx with
        | cons h2 hx =>
        cases hx
        cases h0
        cases h1
        cases h2
        refine ⟨_, rfl, a, _, _, .str "rename", rfl, rfl, SqT.of ea, rfl, ?_⟩
        refine ⟨_, rfl, rfl, _, rfl, ite_no (by decide +kernel) ?_⟩
        refine ⟨_, rfl, rfl, _, rfl, ite_no (by decide +kernel) ?_⟩
        refine ⟨_, rfl, rfl, _, rfl, ite_no (by decide +kernel) ?_⟩
        refine ⟨_, rfl, rfl, _, rfl, ite_no (by decide +kernel) ?_⟩
        refine ⟨_, rfl, rfl, _, rfl, ite_no (by decide +kernel) ?_⟩
        refine ⟨_, rfl, rfl, _, rfl, ite_ne (by decide +kernel) ?_⟩
        have ew : Ps.ws (.rename x y) = List.map wdV _ := (by
          show _ = List.map wdV [.str "rename", .str x, .str y]
          simp only [List.map_cons, List.map_nil, wdV, intL_nat]
          rfl)
        rw [ew] at len
        refine tail a _ _ _ ea (fun x hx => ?_) (by show 3 ≤ 9; decide) len fun p H1 s1 n1 ep => k p H1 s1 n1 (by rw [ep, ← ew]; rfl)
        simp only [List.mem_cons, List.not_mem_nil, or_false] at hx
        rcases hx with rfl | rfl | rfl
        · exact .inl ⟨_, rfl⟩
        · exact .inl ⟨_, rfl⟩
        · exact .inl ⟨_, rfl⟩
      | sort x u =>
        obtain ⟨a, xs, rfl, ea, hx⟩ := dh_tupD hv
        cases hx with
        | cons h0 hx =>
        cases hx with
        | cons h1 hx =>
        cases hx with
        | cons h2 hx =>
        cases hx
        cases h0
        cases h1
        cases h2
        refine ⟨_, rfl, a, _, _, .str "sort", rfl, rfl, SqT.of ea, rfl, ?_⟩
        refine ⟨_, rfl, rfl, _, rfl, ite_no (by decide +kernel) ?_⟩
        refine ⟨_, rfl, rfl, _, rfl, ite_no (by decide +kernel) ?_⟩
        refine ⟨_, rfl, rfl, _, rfl, ite_no (by decide +kernel) ?_⟩
        refine ⟨_, rfl, rfl, _, rfl, ite_no (by decide +kernel) ?_⟩
        refine ⟨_, rfl, rfl, _, rfl, ite_no (by decide +kernel) ?_⟩
        refine ⟨_, rfl, rfl, _, rfl, ite_ne (by decide +kernel) ?_⟩
        have ew : Ps.ws (.sort x u) = List.map wdV _ := (by
          show _ = List.map wdV [.str "sort", .str x, .str (updn u)]
          simp only [List.map_cons, List.map_nil, wdV, intL_nat]
          rfl)
        rw [ew] at len
        refine tail a _ _ _ ea (fun x hx => ?_) (by show 3 ≤ 9; decide) len fun p H1 s1 n1 ep => k p H1 s1 n1 (by rw [ep, ← ew]; rfl)
        simp only [List.mem_cons, List.not_mem_nil, or_false] at hx
        rcases hx with rfl | rfl | rfl
        · exact .inl ⟨_, rfl⟩
        · exact .inl ⟨_, rfl⟩
        · exact .inl ⟨_, rfl⟩
      | first m =>
        obtain ⟨a, xs, rfl, ea, hx⟩ := dh_tupD hv
        cases hx with
        | cons h0 hx =>
        cases hx with
        | cons h1 hx =>
        cases hx
        cases h0
        cases h1
        refine ⟨_, rfl, a, _, _, .str "first", rfl, rfl, SqT.of ea, rfl, ?_⟩
        refine ⟨_, rfl, rfl, _, rfl, ite_no (by decide +kernel) ?_⟩
        refine ⟨_, rfl, rfl, _, rfl, ite_no (by decide +kernel) ?_⟩
        refine ⟨_, rfl, rfl, _, rfl, ite_no (by decide +kernel) ?_⟩
        refine ⟨_, rfl, rfl, _, rfl, ite_no (by decide +kernel) ?_⟩
        refine ⟨_, rfl, rfl, _, rfl, ite_no (by decide +kernel) ?_⟩
        refine ⟨_, rfl, rfl, _, rfl, ite_ne (by decide +kernel) ?_⟩
        have ew : Ps.ws (.first m) = List.map wdV _ := (by
          show _ = List.map wdV [.str "first", .int m]
          simp only [List.map_cons, List.map_nil, wdV, intL_nat]
          rfl)
        rw [ew] at len
        refine tail a _ _ _ ea (fun x hx => ?_) (by show 2 ≤ 9; decide) len fun p H1 s1 n1 ep => k p H1 s1 n1 (by rw [ep, ← ew]; rfl)
        simp only [List.mem_cons, List.not_mem_nil, or_false] at hx
        rcases hx with rfl | rfl
        · exact .inl ⟨_, rfl⟩
        · exact .inr ⟨_, rfl, by first | exact Nat.le_trans ok (by decide) | (have := ok.1; have := ok.2.1; have := ok.2.2.1; have := ok.2.2.2; omega)⟩
      | sample m m2 m3 =>
        obtain ⟨a, xs, rfl, ea, hx⟩ := dh_tupD hv
        cases hx with
        | cons h0 hx =>
        cases hx with
        | cons h1 hx =>
        cases hx with
        | cons h2 hx =>
        cases hx with
        | cons h3 hx =>
        cases hx
        cases h0
        cases h1
        cases h2
        cases h3
        refine ⟨_, rfl, a, _, _, .str "sample", rfl, rfl, SqT.of ea, rfl, ?_⟩
        refine ⟨_, rfl, rfl, _, rfl, ite_no (by decide +kernel) ?_⟩
        refine ⟨_, rfl, rfl, _, rfl, ite_no (by decide +kernel) ?_⟩
        refine ⟨_, rfl, rfl, _, rfl, ite_no (by decide +kernel) ?_⟩
        refine ⟨_, rfl, rfl, _, rfl, ite_no (by decide +kernel) ?_⟩
        refine ⟨_, rfl, rfl, _, rfl, ite_no (by decide +kernel) ?_⟩
        refine ⟨_, rfl, rfl, _, rfl, ite_ne (by decide +kernel) ?_⟩
        have ew : Ps.ws (.sample m m2 m3) = List.map wdV _ := (by
          show _ = List.map wdV [.str "sample", .int m, .int m2, .int m3]
          simp only [List.map_cons, List.map_nil, wdV, intL_nat]
          rfl)
        rw [ew] at len
        refine tail a _ _ _ ea (fun x hx => ?_) (by show 4 ≤ 9; decide) len fun p H1 s1 n1 ep => k p H1 s1 n1 (by rw [ep, ← ew]; rfl)
        simp only [List.mem_cons, List.not_mem_nil, or_false] at hx
        rcases hx with rfl | rfl | rfl | rfl
        · exact .inl ⟨_, rfl⟩
        · exact .inr ⟨_, rfl, by first | exact Nat.le_trans ok (by decide) | (have := ok.1; have := ok.2.1; have := ok.2.2.1; have := ok.2.2.2; omega)⟩
        · exact .inr ⟨_, rfl, by first | exact Nat.le_trans ok (by decide) | (have := ok.1; have := ok.2.1; have := ok.2.2.1; have := ok.2.2.2; omega)⟩
        · exact .inr ⟨_, rfl, by first | exact Nat.le_trans ok (by decide) | (have := ok.1; have := ok.2.1; have := ok.2.2.1; have := ok.2.2.2; omega)⟩
      | union x =>
        obtain ⟨a, xs, rfl, ea, hx⟩ := dh_tupD hv
        cases hx with
        | cons h0 hx =>
        cases hx with
        | cons h1 hx =>
        cases hx
        cases h0
        cases h1
        refine ⟨_, rfl, a, _, _, .str "union", rfl, rfl, SqT.of ea, rfl, ?_⟩
        refine ⟨_, rfl, rfl, _, rfl, ite_no (by decide +kernel) ?_⟩
        refine ⟨_, rfl, rfl, _, rfl, ite_no (by decide +kernel) ?_⟩
        refine ⟨_, rfl, rfl, _, rfl, ite_no (by decide +kernel) ?_⟩
        refine ⟨_, rfl, rfl, _, rfl, ite_no (by decide +kernel) ?_⟩
        refine ⟨_, rfl, rfl, _, rfl, ite_no (by decide +kernel) ?_⟩
        refine ⟨_, rfl, rfl, _, rfl, ite_ne (by decide +kernel) ?_⟩
        have ew : Ps.ws (.union x) = List.map wdV _ := (by
          show _ = List.map wdV [.str "union", .str x]
          simp only [List.map_cons, List.map_nil, wdV, intL_nat]
          rfl)
        rw [ew] at len
        refine tail a _ _ _ ea (fun x hx => ?_) (by show 2 ≤ 9; decide) len fun p H1 s1 n1 ep => k p H1 s1 n1 (by rw [ep, ← ew]; rfl)
        simp only [List.mem_cons, List.not_mem_nil, or_false] at hx
        rcases hx with rfl | rfl
        · exact .inl ⟨_, rfl⟩
        · exact .inl ⟨_, rfl⟩
      | distinct =>
        obtain ⟨a, xs, rfl, ea, hx⟩ := dh_tupD hv
        cases hx with
        | cons h0 hx =>
        cases hx
        cases h0
        refine ⟨_, rfl, a, _, _, .str "distinct", rfl, rfl, SqT.of ea, rfl, ?_⟩
        refine ⟨_, rfl, rfl, _, rfl, ite_no (by decide +kernel) ?_⟩
        refine ⟨_, rfl, rfl, _, rfl, ite_no (by decide +kernel) ?_⟩
        refine ⟨_, rfl, rfl, _, rfl, ite_no (by decide +kernel) ?_⟩
        refine ⟨_, rfl, rfl, _, rfl, ite_no (by decide +kernel) ?_⟩
        refine ⟨_, rfl, rfl, _, rfl, ite_no (by decide +kernel) ?_⟩
        refine ⟨_, rfl, rfl, _, rfl, ite_ne (by decide +kernel) ?_⟩
        have ew : Ps.ws (.distinct) = List.map wdV _ := (by
          show _ = List.map wdV [.str "distinct"]
          simp only [List.map_cons, List.map_nil, wdV, intL_nat]
          rfl)
        rw [ew] at len
        refine tail a _ _ _ ea (fun x hx => ?_) (by show 1 ≤ 9; decide) len fun p H1 s1 n1 ep => k p H1 s1 n1 (by rw [ep, ← ew]; rfl)
        simp only [List.mem_cons, List.not_mem_nil, or_false] at hx
        rcases hx with rfl
        · exact .inl ⟨_, rfl⟩
    | ch lb as =>
      have hv0 := hv
      obtain ⟨a, xs, rfl, ea, hx⟩ := dh_tupD hv
      cases hx with
      | cons h0 hx =>
      cases hx with
      | cons h1 hx =>
      cases hx with
      | cons h2 hx =>
      cases hx
      cases h0
      obtain ⟨c, us, rfl, ec, hu⟩ := dh_tupD h2
      cases h1
      obtain ⟨nmb, l4, oka⟩ := ok
      have n1 : 1 ≤ n := by have : 2 ≤ n + 1 := dp; omega
      have lu : us.length = as.length := by rw [hu.len, List.length_map]
      have ll := nl nmb
      have e1 : ("choose " : Str) ++ lb = TS (chL ++ CL lb) := by rw [← ts_app, ts_cl, show ("choose " : Str) = TS chL by decide +kernel]
      have cnt : ∀ l : List (List Ps), l.length ≤ 4 → (∀ x ∈ l, AltOk x) → ((l.map altLn).flatten).length ≤ l.length * 29 := fun l => by
        induction l with
        | nil => intro _ _; exact Nat.zero_le _
        | cons x r ih =>
          intro h1 h2
          rw [List.length_cons] at h1
          have := ih (by omega) fun y hy => h2 y (List.mem_cons_of_mem _ hy)
          have := alt_len (h2 x List.mem_cons_self)
          rw [List.map_cons, List.flatten_cons, List.length_append, List.length_cons, Nat.succ_mul]
          omega
      refine ⟨_, rfl, a, _, _, .str "choose", rfl, rfl, SqT.of ea, rfl, ?_⟩
      refine ⟨_, rfl, rfl, _, rfl, ite_no (by decide +kernel) ?_⟩
      refine ⟨_, rfl, rfl, _, rfl, ite_no (by decide +kernel) ?_⟩
      refine ⟨_, rfl, rfl, _, rfl, ite_no (by decide +kernel) ?_⟩
      refine ⟨_, rfl, rfl, _, rfl, ite_no (by decide +kernel) ?_⟩
      refine ⟨_, rfl, rfl, _, rfl, ite_no (by decide +kernel) ?_⟩
      refine ⟨_, rfl, rfl, _, rfl, ite_neq ?_⟩
      refine ⟨_, rfl, a, _, _, .str lb, rfl, rfl, SqT.of ea, rfl, _, _, rfl, rfl, ?_, one, fun L hL => ?_⟩
      · rw [show ("choose " : Str).length = 7 by decide +kernel]
        exact Nat.le_trans (show 7 + _ ≤ 19 by omega) (by decide)
      have zL := Same.upd (o := .lst [.str (("choose " : Str) ++ lb)]) hL
      have eL : upd H L (.lst [.str (("choose " : Str) ++ lb)]) L = some (.lst (vW [chL ++ CL lb])) := by rw [upd_same, e1]; rfl
      generalize upd H L (.lst [.str (("choose " : Str) ++ lb)]) = H1 at zL eL ⊢
      refine ⟨_, rfl, a, _, _, .ref c, rfl, rfl, SqT.of (zL _ _ ea), rfl, c, rfl, ⟨_, SqT.of (zL _ _ ec)⟩, for_tup (K := K) (a := c) (xs := us) (fun j σ H' => (∃ (L : Addr) (x5 x6 : Option V), σ = [some (.ref a), some (.str "choose"), none, none, some (.ref L), x5, x6, none] ∧ H L = none ∧ H' L = some (.lst (vW ((chL ++ CL lb) :: ((as.take j).map altLn).flatten)))) ∧ Same H H') ⟨⟨L, none, none, rfl, hL, eL⟩, zL⟩ (fun i σ H' _ pr => SqT.of (pr.2 _ _ ec)) ?_ ?_⟩
      · clear hL eL zL
        rintro j x σ H2 hj ⟨⟨L, x5, x6, rfl, hL, eL2⟩, s2⟩
        obtain ⟨d, ed, hd⟩ := hu.get j x hj
        rw [List.getElem?_map] at ed
        obtain ⟨al, et, rfl⟩ := Option.map_eq_some_iff.mp ed
        obtain ⟨q, vs, rfl, eq, hvs⟩ := dh_tupD (show Dh H x (.tuple (al.map Ps.d)) from hd)
        have hj4 : j < as.length := (List.getElem?_eq_some_iff.mp et).1
        have ak := oka al (List.mem_of_getElem? et)
        have lv : vs.length = al.length := by rw [hvs.len, List.length_map]
        have c1 := cnt (as.take j) (by rw [List.length_take]; omega) fun y hy => oka y (List.mem_of_mem_take hy)
        rw [List.length_take] at c1
        have ilen : ∀ i, (inner (al.take i)).length ≤ 28 := fun i => Nat.le_trans (inner_len (fun y hy => ak.2 y (List.mem_of_mem_take hy))) (by rw [List.length_take]; have := ak.1; omega)
        refine ⟨_, rfl, .inl ⟨rfl, _, SqL.of eL2⟩, L, _, _, rfl, rfl, eL2, ?_, ?_⟩
        · rw [vW_len, List.length_cons]
          exact Nat.lt_of_le_of_lt (show _ ≤ 200 by omega) (by decide)
        have eL3 : upd H2 L (.lst (vW ((chL ++ CL lb) :: ((as.take j).map altLn).flatten) ++ [.str "  or"])) L = some (.lst (vW (((chL ++ CL lb) :: ((as.take j).map altLn).flatten) ++ [orL]))) := by
          rw [upd_same]
          have : (V.str "  or" : V) = .str (TS orL) := by rw [or_ts]
          rw [this]
          unfold vW
          rw [List.map_append, List.map_append]
          rfl
        have s3 : Same H (upd H2 L (.lst (vW ((chL ++ CL lb) :: ((as.take j).map altLn).flatten) ++ [.str "  or"]))) := fun b o e => by
          rw [upd_ne (ne_of_none e hL)]
          exact s2 b o e
        generalize upd H2 L (.lst (vW ((chL ++ CL lb) :: ((as.take j).map altLn).flatten) ++ [.str "  or"])) = H3 at eL3 s3 ⊢
        clear eL2 s2
        refine ⟨_, rfl, q, rfl, ⟨_, SqT.of (s3 _ _ eq)⟩, for_tup (K := K) (a := q) (xs := vs) (fun i σ H' => (∃ (L : Addr) (x6 : Option V), σ = [some (.ref a), some (.str "choose"), none, none, some (.ref L), some (.ref q), x6, none] ∧ H L = none ∧ H' L = some (.lst (vW (((chL ++ CL lb) :: ((as.take j).map altLn).flatten) ++ [orL] ++ inner (al.take i))))) ∧ Same H H') ⟨⟨L, x6, rfl, hL, by rw [eL3]; show _ = some (HO.lst (vW (_ ++ []))); rw [List.append_nil]⟩, s3⟩ (fun i σ H' _ pr => SqT.of (pr.2 _ _ eq)) ?_ ?_⟩
        · clear hL eL3 s3
          rintro i y σ H4 hi ⟨⟨L, x6, rfl, hL, eL4⟩, s4⟩
          obtain ⟨d, ed, hd⟩ := hvs.get i y hi
          rw [List.getElem?_map] at ed
          obtain ⟨p, ep, rfl⟩ := Option.map_eq_some_iff.mp ed
          have pk := ak.2 p (List.mem_of_getElem? ep)
          have plen := ln_len pk
          have il := ilen i
          refine ⟨_, rfl, _, rfl, y, .pl p, rfl, hd.same s4, n1, pk, fun P H5 s5 nP eP => ⟨P, rfl, ⟨_, SqL.of eP⟩, fun D hD => lc_list (K := K) (a := P) (xs := vW p.ln) (fun j H' => H' D = some (.lst (vW ((p.ln.take j).map (inL ++ ·)))) ∧ Same H5 H') ⟨upd_same, Same.upd hD⟩ (fun i H' _ pr => SqL.of (pr.2 _ _ eP)) ?_ ?_⟩⟩
          · rintro j z H6 hj2 ⟨eD6, s6⟩
            obtain ⟨l, el, rfl⟩ := vW_at hj2
            have jl : j < p.ln.length := (List.getElem?_eq_some_iff.mp el).1
            have lb := ok8 pk l (List.mem_of_getElem? el)
            have ll := lb.2.1
            rw [szT8] at ll
            refine ⟨rfl, ?_⟩
            dsimp only [tYes]
            refine iteT ?_
            change teLl _ _ _
            have e4 : ("    " : Str) ++ TS l = TS (inL ++ l) := by
              have : ("    " : Str) = TS inL := by decide +kernel
              rw [this, ts_app]
            refine ⟨_, rfl, _, _, rfl, rfl, ?_, _, eD6, ?_, ?_, fun b o e => by rw [upd_ne (ne_of_none e hD)]; exact s6 b o e⟩
            · rw [ts_len]
              exact Nat.le_trans (show 4 + _ ≤ 400000 by omega) (by decide)
            · rw [vW_len, List.length_map, List.length_take]
              exact Nat.lt_of_le_of_lt (show _ ≤ 100 by omega) (by decide)
            · rw [upd_same, List.take_add_one, el, e4]
              unfold vW
              simp only [List.map_append, List.append_assoc]
              rfl
          rintro H6 ⟨eD6, s6⟩
          rw [vW_len, List.take_length] at eD6
          have s56 := s5.trans s6
          refine ⟨L, D, _, _, rfl, rfl, s56 _ _ eL4, eD6, ?_, fun r hr => ⟨⟨r, some y, rfl, same_none (s4.trans s56) hr, ?_⟩, s4.trans (s56.trans (Same.upd hr))⟩⟩
          · rw [vW_len, vW_len, List.length_append, List.length_append, List.length_cons, List.length_singleton, List.length_map]
            exact Nat.le_trans (show _ ≤ 400 by omega) (by decide)
          · rw [upd_same, List.take_add_one, ep]
            unfold inner
            rw [List.map_append, List.flatten_append]
            show _ = some (HO.lst (vW (_ ++ (_ ++ List.flatten [p.lnA inL]))))
            rw [List.flatten_singleton]
            unfold vW Ps.lnA
            simp only [List.map_append, List.append_assoc]
        · rintro σ H4 ⟨⟨L, x6, rfl, hL, eL4⟩, s4⟩
          rw [lv, List.take_length] at eL4
          refine ⟨⟨L, _, _, rfl, hL, ?_⟩, s4⟩
          rw [eL4, List.take_add_one, et, List.map_append, List.flatten_append]
          show _ = some (HO.lst (vW ((chL ++ CL lb) :: (((as.take j).map altLn).flatten ++ List.flatten [altLn al]))))
          rw [List.flatten_singleton]
          unfold altLn
          rw [List.append_assoc, List.cons_append]
          rfl
      · rintro σ H2 ⟨⟨L, x5, x6, rfl, hL, eL2⟩, s2⟩
        rw [lu, List.take_length] at eL2
        exact ⟨_, rfl, k L H2 s2 hL eL2⟩
end
end
end K78
set_option Elab.async false
set_option linter.all false
set_option maxRecDepth 100000
set_option maxHeartbeats 4000000
namespace K78
open PySem PySem.Spec PyProof.Rows L2 Lc
section
variable {P : Program} {w : World} {K : PySem.W.Frag} {mg : Str → Option Value} {base : Heap} {f fX : Addr} {fd fdX : FuncData}
theorem ok_LlN (F : Fun K "_law_lines" "_law_lines" sLl f fd) (T : Bt mg)
    (GX : FnOk P w K mg base CX0 9 fX fdX ["_law_expression_here"] (spSh 8)) (mX : mg "_law_form" = some (.ref fX)) (kX : PySem.W.keepIn K (.ref fX) = true) (bX : Binds K fdX ["_law_expression_here"] [])
    (mF : mg "_law_lines" = some (.ref f)) (kF : PySem.W.keepIn K (.ref f) = true) (bF : Binds K fd ["_law_step"] []) : ∀ n : Nat, FnOk P w K mg base CX0 (9 + n) f fd ["_law_step"] (spSs n)
  | 0 => fn_weak (sp' := fun _ _ _ _ => False) (fun _ _ _ _ ⟨_, s, _, _, dp, _⟩ => by cases s; exact absurd (show 1 ≤ 0 from dp) (by decide); exact absurd (show 2 ≤ 0 from dp) (by decide)) fn_none
  | n + 1 => ok_Ll F T n GX mX kX bX (ok_LlN F T GX mX kX bX mF kF bF n) mF kF bF
end
section
variable {P : Program} {w : World} {K : PySem.W.Frag} {mg : Str → Option Value} {base : Heap} {f : Addr} {fd : FuncData}
abbrev sTx : Stmt := top 96
abbrev nTx : List Str := ["_law_pipeline", "_law_found", "_law_step"]
abbrev pTx : List Str := ["_law_pipeline"]
theorem scTx : FnScope nTx pTx (defScope sTx) := ⟨rfl, rfl, rfl, by decide +kernel, rfl, by decide +kernel, by decide +kernel⟩
section
variable {fA_ : Addr} {fdA_ : FuncData}
theorem ok_Tx (F : Fun K "_law_text" "_law_text" sTx f fd) (T : Bt mg)
    (GA_ : FnOk P w K mg base CX0 11 fA_ fdA_ ["_law_step"] (spSs 2)) (mA_ : mg "_law_lines" = some (.ref fA_)) (kA_ : PySem.W.keepIn K (.ref fA_) = true) (bA_ : Binds K fdA_ ["_law_step"] []) : FnOk P w K mg base CX0 12 f fd pTx (spShp) := by
  refine F.ok scTx (fun vs H Q E h => ?_) (fun cdv A outer s H vs Q E hr h => ?_)
  · obtain ⟨v, src, ss, rfl, _⟩ := h
    rfl
  · obtain ⟨v, src, ss, rfl, hv, ok, k⟩ := h
    have hrA_ : Room (11) _ := hr.mono (by first | decide | omega)
    refine ⟨_, (pss_cons (ps_set (i := 1) scTx.nd rfl (Or.inl rfl) (pe_lst (pa_cons (pe_op op_add_str pe_str (pe_ix ix_tup (pv 0) pe_int (fun _ _ => rfl))) pa_nil)))
      (pss_cons (ps_for PassesOwn.never rfl (pi_tup (pe_ix ix_tup (pv 0) pe_int (fun _ _ => rfl))) (pg_name (i := 2) scTx.nd rfl (.inl rfl)) (pss_one (ps_set (i := 1) scTx.nd rfl (Or.inl rfl) (pe_op op_cat (pv 1) (pe_call GA_ hrA_ (by rfl) mA_ kA_ bA_ .nil pass0 (pa_cons (pv 2) pa_nil))))))
      (pss_one (ps_ret (pe_m1 PySem.F.slot_str_join PySem.F.type_str_join mt_join pe_str (pv 1)))))), ?_⟩
    have two : 2 ≤ sizeLine := by decide
    have one : 1 ≤ sizeLine := by decide
    have three : 3 ≤ sizeLine := by decide
    obtain ⟨a, xs, rfl, ea, hx⟩ := dh_tupD hv
    cases hx with
    | cons h0 hx =>
    cases hx with
    | cons h1 hx =>
    cases hx
    cases h0
    obtain ⟨c, us, rfl, ec, hu⟩ := dh_tupD h1
    have lu : us.length = ss.length := by rw [hu.len, List.length_map]
    obtain ⟨L1, L2, L3⟩ := ok.lens
    have ll : src.cps.toList.length ≤ 12 := (name_signs ok.nm).2.1
    have e1 : ("from " : Str) = TS frL := by decide +kernel
    have e2 : ("from " : Str) ++ src = TS (frL ++ CL src) := by rw [e1, ← ts_app, ts_cl]
    have l10 := ok.len
    refine ⟨_, rfl, a, _, _, .str src, rfl, rfl, SqT.of ea, rfl, _, _, rfl, rfl, ?_, one, fun A hA => ?_⟩
    · rw [e1, ts_len, lenL]
      exact Nat.le_trans (show 5 + _ ≤ 19 by omega) (by decide)
    have zA := Same.upd (o := .lst [.str (("from " : Str) ++ src)]) hA
    have eA : upd H A (.lst [.str (("from " : Str) ++ src)]) A = some (.lst (vW [frL ++ CL src])) := by rw [upd_same, e2]; rfl
    generalize upd H A (.lst [.str (("from " : Str) ++ src)]) = H1 at zA eA ⊢
    refine ⟨_, rfl, a, _, _, .ref c, rfl, rfl, SqT.of (zA _ _ ea), rfl, c, rfl, ⟨_, SqT.of (zA _ _ ec)⟩, for_tup (K := K) (a := c) (xs := us) (fun i σ H' => (∃ (L : Addr) (x2 : Option V), σ = [some (.ref a), some (.ref L), x2] ∧ H' L = some (.lst (vW ((frL ++ CL src) :: ((ss.take i).map Stp.ln).flatten)))) ∧ Same H H') ⟨⟨A, none, rfl, eA⟩, zA⟩ (fun i σ H' _ pr => SqT.of (pr.2 _ _ ec)) ?_ ?_⟩
    · rintro i y σ H4 hi ⟨⟨L, x2, rfl, eL⟩, s4⟩
      obtain ⟨d, ed, hd⟩ := hu.get i y hi
      rw [List.getElem?_map] at ed
      obtain ⟨s, es, rfl⟩ := Option.map_eq_some_iff.mp ed
      have sk := (ok.st s (List.mem_of_getElem? es)).1
      have slen := stp_len sk
      have ilen : (((ss.take i).map Stp.ln).flatten).length ≤ 1200 := Nat.le_trans (stps_len fun y hy => (ok.st y (List.mem_of_mem_take hy)).1) (by rw [List.length_take]; omega)
      refine ⟨_, rfl, _, rfl, y, s, rfl, hd.same s4, by cases s; exact (by decide : 1 ≤ 2); exact (by decide : 2 ≤ 2), sk, fun P H5 s5 nP eP => ⟨L, P, _, _, rfl, rfl, s5 _ _ eL, eP, ?_, fun r hr => ⟨⟨r, some y, rfl, ?_⟩, s4.trans (s5.trans (Same.upd hr))⟩⟩⟩
      · rw [vW_len, vW_len, List.length_cons]
        exact Nat.le_trans (show _ ≤ 1400 by omega) (by decide)
      · rw [upd_same, List.take_add_one, es, List.map_append, List.flatten_append]
        show _ = some (HO.lst (vW ((frL ++ CL src) :: (_ ++ List.flatten [s.ln]))))
        rw [List.flatten_singleton]
        unfold vW
        simp only [List.map_append, List.map_cons, List.cons_append]
    · rintro σ H4 ⟨⟨L, x2, rfl, eL⟩, s4⟩
      rw [lu, List.take_length] at eL
      exact ⟨⟨_, rfl⟩, _, rfl, jnl_go (ls := pipeLn src ss) (.inl (SqL.of eL)) L3 (k _ s4)⟩
end
end
end K78
set_option Elab.async false
set_option linter.all false
set_option maxRecDepth 100000
set_option maxHeartbeats 4000000
namespace K78
open PySem PySem.Spec PyProof.Rows L2 Lc
/-! ## columns, and what a drawn step makes of them -/
abbrev CsL : Type := List (Str × Str)
structure ColP (ps : CsL) : Prop where
  ok : ∀ p ∈ ps, Sh 12 p.1 ∧ nameB (.str p.1) = true ∧ KindS p.2
  nd : (ps.map (·.1)).Nodup
  l1 : 1 ≤ ps.length
  l8 : ps.length ≤ 8
abbrev nms (ps : CsL) : List Str := ps.map (·.1)
theorem ColP.nm {ps : CsL} (h : ColP ps) {x : Str} (hx : x ∈ nms ps) : Sh 12 x ∧ nmS x := by
  obtain ⟨p, hp, rfl⟩ := List.mem_map.mp hx
  exact ⟨(h.ok p hp).1, (h.ok p hp).2.1⟩
def kdOf (ps : CsL) (n : Str) : Str := ((ps.find? fun p => decide (p.1 = n)).map (·.2)).getD ""
theorem kdOf_mem {ps : CsL} (h : (ps.map (·.1)).Nodup) {p : Str × Str} (hp : p ∈ ps) : kdOf ps p.1 = p.2 := by
  induction ps with
  | nil => cases hp
  | cons q r ih =>
    unfold kdOf
    rw [List.find?_cons]
    rcases List.mem_cons.mp hp with rfl | hp
    · rw [decide_eq_true rfl]
      rfl
    · rw [List.map_cons, List.nodup_cons] at h
      have : ¬ q.1 = p.1 := fun e => h.1 (by rw [e]; exact List.mem_map_of_mem hp)
      rw [decide_eq_false this]
      exact ih h.2 hp
theorem ColP.kd {ps : CsL} (h : ColP ps) {x : Str} (hx : x ∈ nms ps) : (x, kdOf ps x) ∈ ps ∧ KindS (kdOf ps x) := by
  obtain ⟨p, hp, rfl⟩ := List.mem_map.mp hx
  rw [kdOf_mem h.nd hp]
  exact ⟨hp, (h.ok p hp).2.2⟩
inductive Lead (os : List (Str × CsL)) (ps : CsL) : Ps → CsL → Prop
  | keep {e : PyData} (h : Xp ps 3 "flag" e) : Lead os ps (.keep e) ps
  | setO {x k : Str} {e : PyData} (hx : x ∈ nms ps) (hk : KindS k) (h : Xp ps 3 k e) : Lead os ps (.set x e) (ps.map fun p => (p.1, if p.1 = x then k else p.2))
  | setN {x k : Str} {e : PyData} (hx : x ∉ nms ps) (nx : Sh 12 x ∧ nmS x) (hk : KindS k) (h : Xp ps 3 k e) (l : ps.length < 8) : Lead os ps (.set x e) (ps ++ [(x, k)])
  | select {ns : List Str} (h : ∀ n ∈ ns, n ∈ nms ps) (nd : ns.Nodup) (l1 : 1 ≤ ns.length) (l8 : ns.length ≤ 8) : Lead os ps (.select ns) (ns.map fun n => (n, kdOf ps n))
  | rename {a b : Str} (ha : a ∈ nms ps) (nb : Sh 12 b ∧ nmS b) (hb : ∀ n ∈ nms ps, n ≠ a → b ≠ n) : Lead os ps (.rename a b) (ps.map fun p => (if p.1 = a then b else p.1, p.2))
  | sort {a : Str} {u : Bool} (ha : a ∈ nms ps) : Lead os ps (.sort a u) ps
  | first {n : Nat} (h : n ≤ 1000) : Lead os ps (.first n) ps
  | sample {n w s : Nat} (h1 : n ≤ w) (h2 : 1 ≤ w) (h3 : w ≤ 1000) (h4 : s ≤ 1000000000) : Lead os ps (.sample n w s) ps
  | distinct : Lead os ps .distinct ps
  | union {t : Str} (ht : (t, ps) ∈ os) : Lead os ps (.union t) ps
  | join {t : Str} {ks : List Str} {qs : CsL} (ht : (t, qs) ∈ os) (nd : ks.Nodup) (l1 : 1 ≤ ks.length) (l3 : ks.length ≤ 3) (h : ∀ k, k ∈ ks ↔ k ∈ nms qs ∧ k ∈ nms ps) (hk : ∀ k ∈ ks, kdOf ps k = kdOf qs k) (l8 : ps.length + (qs.filter fun p => decide (p.1 ∉ nms ps)).length ≤ 8) :
      Lead os ps (.join t ks) (ps ++ qs.filter fun p => decide (p.1 ∉ nms ps))
  | group {ks : List Str} {ts : List (Str × Str × Str)} (hk : ∀ k ∈ ks, k ∈ nms ps) (g : GrpOk ks ts) (ht : ∀ t ∈ ts, Sh 12 t.1 ∧ t.2.2 ∈ nms ps ∧ (t.2.1 ≠ "count" → kdOf ps t.2.2 = "number")) : Lead os ps (.group ks ts) (ks.map (fun n => (n, kdOf ps n)) ++ ts.map fun t => (t.1, ("number" : Str)))
theorem Xp.xf3 {ps : CsL} (h : ColP ps) {k : Str} {e : PyData} (x : Xp ps 3 k e) : Xf 3 e := xp_xf (fun p hp => ⟨(h.ok p hp).1, (h.ok p hp).2.1⟩) x
theorem nodup_map {α β : Type} {f : α → β} {l : List α} (h : l.Nodup) (inj : ∀ a ∈ l, ∀ b ∈ l, f a = f b → a = b) : (l.map f).Nodup := by
  induction l with
  | nil => exact List.nodup_nil
  | cons a r ih =>
    rw [List.nodup_cons] at h
    rw [List.map_cons, List.nodup_cons]
    refine ⟨fun m => ?_, ih h.2 fun x hx y hy => inj x (List.mem_cons_of_mem _ hx) y (List.mem_cons_of_mem _ hy)⟩
    obtain ⟨b, hb, e⟩ := List.mem_map.mp m
    exact h.1 (by rw [← inj b (List.mem_cons_of_mem _ hb) a List.mem_cons_self e]; exact hb)
theorem Lead.go {os : List (Str × CsL)} {ps qs : CsL} {p : Ps} (h : Lead os ps p qs) (c : ColP ps) (ho : ∀ o ∈ os, nmS o.1 ∧ ColP o.2) : p.Ok ∧ p.Sm 3 ∧ ColP qs := by
  have noe : ∀ {p : Ps}, (∀ e, p ≠ .keep e) → (∀ x e, p ≠ .set x e) → p.Sm 3 := fun h1 h2 e he => by
    rcases he with ⟨x, he⟩ | he
    · exact absurd he (h2 x e)
    · exact absurd he (h1 e)
  have sel : ∀ {ns : List Str}, (∀ n ∈ ns, n ∈ nms ps) → ∀ p ∈ ns.map (fun n => (n, kdOf ps n)), Sh 12 p.1 ∧ nameB (.str p.1) = true ∧ KindS p.2 := fun {ns} h p hp => by
    obtain ⟨n, hn, rfl⟩ := List.mem_map.mp hp
    exact ⟨(c.nm (h n hn)).1, (c.nm (h n hn)).2, (c.kd (h n hn)).2⟩
  have idm : ∀ ns : List Str, (ns.map (fun n => (n, kdOf ps n))).map (·.1) = ns := fun ns => by rw [List.map_map]; exact List.map_id' ns
  cases h with
  | keep h =>
    have x := h.xf3 c
    exact ⟨x.mono (by decide), fun e he => by
      rcases he with ⟨x, he⟩ | he
      · cases he
      · cases he; exact x, c⟩
  | @setO x k e hx hk h =>
    have xx := h.xf3 c
    refine ⟨⟨(c.nm hx).2, xx.mono (by decide)⟩, (fun e he => by
      rcases he with ⟨x, he⟩ | he
      · cases he; exact xx
      · cases he), ?_, ?_, by rw [List.length_map]; exact c.l1, by rw [List.length_map]; exact c.l8⟩
    · intro p hp
      obtain ⟨q, hq, rfl⟩ := List.mem_map.mp hp
      obtain ⟨h1, h2, h3⟩ := c.ok q hq
      refine ⟨h1, h2, ?_⟩
      show KindS (if q.1 = x then k else q.2)
      split
      · exact hk
      · exact h3
    · rw [List.map_map]
      exact c.nd
  | @setN x k e hx nx hk h l =>
    have xx := h.xf3 c
    refine ⟨⟨nx.2, xx.mono (by decide)⟩, (fun e he => by
      rcases he with ⟨x, he⟩ | he
      · cases he; exact xx
      · cases he), ?_, ?_, by rw [List.length_append]; show 1 ≤ _ + 1; omega, by rw [List.length_append]; show _ + 1 ≤ 8; omega⟩
    · intro p hp
      rcases List.mem_append.mp hp with hp | hp
      · exact c.ok p hp
      · rw [List.mem_singleton.mp hp]; exact ⟨nx.1, nx.2, hk⟩
    · rw [List.map_append, List.nodup_append]
      exact ⟨c.nd, List.nodup_cons.mpr ⟨nofun, List.nodup_nil⟩, fun a ha b hb e => hx (by rw [List.mem_singleton.mp hb] at e; rw [← show a = x from e]; exact ha)⟩
  | @select ns h nd l1 l8 =>
    exact ⟨⟨fun x hx => (c.nm (h x hx)).2, nd, l1, l8⟩, noe nofun nofun, sel h, by rw [idm]; exact nd, by rw [List.length_map]; exact l1, by rw [List.length_map]; exact l8⟩
  | @rename a b ha nb hb =>
    refine ⟨⟨(c.nm ha).2, nb.2⟩, noe nofun nofun, ?_, ?_, by rw [List.length_map]; exact c.l1, by rw [List.length_map]; exact c.l8⟩
    · intro p hp
      obtain ⟨q, hq, rfl⟩ := List.mem_map.mp hp
      obtain ⟨h1, h2, h3⟩ := c.ok q hq
      show Sh 12 (if q.1 = a then b else q.1) ∧ nameB (.str (if q.1 = a then b else q.1)) = true ∧ _
      split
      · exact ⟨nb.1, nb.2, h3⟩
      · exact ⟨h1, h2, h3⟩
    · have e : (ps.map fun p => (if p.1 = a then b else p.1, p.2)).map (·.1) = (nms ps).map fun n => if n = a then b else n := by
        rw [List.map_map, List.map_map]
        rfl
      rw [e]
      refine nodup_map c.nd fun x hx y hy exy => ?_
      by_cases h1 : x = a
      · by_cases h2 : y = a
        · rw [h1, h2]
        · rw [if_pos h1, if_neg h2] at exy
          exact absurd exy (hb y hy h2)
      · by_cases h2 : y = a
        · rw [if_neg h1, if_pos h2] at exy
          exact absurd exy.symm (hb x hx h1)
        · rw [if_neg h1, if_neg h2] at exy
          exact exy
  | sort ha => exact ⟨(c.nm ha).2, noe nofun nofun, c⟩
  | first h => exact ⟨h, noe nofun nofun, c⟩
  | sample h1 h2 h3 h4 => exact ⟨⟨h1, h2, h3, h4⟩, noe nofun nofun, c⟩
  | distinct => exact ⟨True.intro, noe nofun nofun, c⟩
  | union ht => exact ⟨(ho _ ht).1, noe nofun nofun, c⟩
  | @join t ks qs ht nd l1 l3 h hk l8 =>
    have cq := (ho _ ht).2
    refine ⟨⟨(ho _ ht).1, fun x hx => (c.nm ((h x).mp hx).2).2, nd, l1, l3⟩, noe nofun nofun, ?_, ?_, by rw [List.length_append]; have := c.l1; omega, by rw [List.length_append]; exact l8⟩
    · intro p hp
      rcases List.mem_append.mp hp with hp | hp
      · exact c.ok p hp
      · exact cq.ok p (List.mem_filter.mp hp).1
    · rw [List.map_append, List.nodup_append]
      refine ⟨c.nd, ?_, fun a ha b hb e => ?_⟩
      · exact (List.filter_sublist.map _).nodup cq.nd
      · obtain ⟨p, hp, rfl⟩ := List.mem_map.mp hb
        have := (List.mem_filter.mp hp).2
        exact (of_decide_eq_true this) (by rw [← e]; exact ha)
  | @group ks ts hk g ht =>
    refine ⟨g, noe nofun nofun, ?_, ?_, ?_, ?_⟩
    · intro p hp
      rcases List.mem_append.mp hp with hp | hp
      · exact sel hk p hp
      · obtain ⟨t, h1, rfl⟩ := List.mem_map.mp hp
        exact ⟨(ht t h1).1, (g.t t h1).1, .inl rfl⟩
    · rw [List.map_append, idm, List.map_map]
      exact g.nd
    · rw [List.length_append, List.length_map, List.length_map]
      have := g.tl
      omega
    · rw [List.length_append, List.length_map, List.length_map]
      exact g.al
/-! ## columns in the heap -/
abbrev DhT0 (t : Addr) (H : Hp) : Hp := fun b => if b = t then none else H b
def dl (t : Addr) (H : Hp) : Hp := fun b => if b = t then none else H b
theorem dl_at {t a : Addr} {H : Hp} {o : HO} (n : a ≠ t) (e : H a = some o) : dl t H a = some o := by
  unfold dl
  rw [if_neg n]
  exact e
theorem dl_of {t a : Addr} {H : Hp} {o : HO} (e : dl t H a = some o) : a ≠ t ∧ H a = some o := by
  unfold dl at e
  by_cases q : a = t
  · rw [if_pos q] at e; cases e
  · rw [if_neg q] at e; exact ⟨q, e⟩
theorem dl_same {t : Addr} {H H' : Hp} (s : SameB t H H') : Same (dl t H) (dl t H') := fun b o e => dl_at (dl_of e).1 (s b o (dl_of e).1 (dl_of e).2)
theorem dl_here {t : Addr} {H : Hp} : Same (dl t H) H := fun b o e => (dl_of e).2
abbrev DhT (t : Addr) (H : Hp) (v : V) (d : PyData) : Prop := Dh (dl t H) v d
theorem dts {t : Addr} {H H1 : Hp} {v : V} {d : PyData} (h : DhT t H v d) (s : Same H H1) : DhT t H1 v d := h.same (dl_same (Same.b t s))
theorem dtb {t : Addr} {H H1 : Hp} {v : V} {d : PyData} (h : DhT t H v d) (s : SameB t H H1) : DhT t H1 v d := h.same (dl_same s)
theorem dtsA {t : Addr} {H H1 : Hp} {vs : List V} {ds : List PyData} (h : DhAll (dl t H) vs ds) (s : Same H H1) : DhAll (dl t H1) vs ds := h.same (dl_same (Same.b t s))
theorem dtbA {t : Addr} {H H1 : Hp} {vs : List V} {ds : List PyData} (h : DhAll (dl t H) vs ds) (s : SameB t H H1) : DhAll (dl t H1) vs ds := h.same (dl_same s)
theorem DhF.t {t : Addr} {H H' : Hp} {v : V} {d : PyData} (T : Tape H t) (h : DhF H H' v d) : DhT t H' v d := h (dl t H') fun b o n e => dl_at (T.ne n) e
/-- a new tuple of data -/
theorem dh_tupT {t p : Addr} {H : Hp} {vs : List V} {ds : List PyData} (T : Tape H t) (h : DhAll (dl t H) vs ds) (hp : H p = none) : DhT t (upd H p (.tup vs)) (.ref p) (.tuple ds) := .tup (dl_at (T.ne hp) upd_same) (dtsA h (Same.upd hp))
def CA (H : Hp) (L : Addr) (ps : CsL) : Prop := ∃ xs, ZT H L xs ∧ Cols H xs ps
theorem CA.b {t : Addr} {H H' : Hp} {L : Addr} {ps : CsL} (h : CA H L ps) (T : Tape H t) (s : SameB t H H') : CA H' L ps := by
  obtain ⟨xs, z, c⟩ := h
  exact ⟨xs, z.b T s, c.b T s⟩
theorem CA.same {H H' : Hp} {L : Addr} {ps : CsL} (h : CA H L ps) (s : Same H H') : CA H' L ps := by
  obtain ⟨xs, z, c⟩ := h
  exact ⟨xs, z.same s, c.t (SameT.of s)⟩
theorem SameT.b2 {t : Addr} {H H' : Hp} (T : Tape H t) (s : SameB t H H') : SameT H H' := SameT.b T s
/-- a text of these columns as it is: the names -/
theorem cols_at {H : Hp} {xs : List V} {ps : CsL} (c : Cols H xs ps) {i : Nat} {x : V} (h : xs[i]? = some x) : ∃ a z k, x = .ref a ∧ H a = some (.tup [.str z, .str k]) ∧ ps[i]? = some (z, k) := c.get _ _ h
end K78
set_option Elab.async false
set_option linter.all false
set_option maxRecDepth 100000
set_option maxHeartbeats 4000000
namespace K78
open PySem PySem.Spec PyProof.Rows L2 Lc
/-! ## some of the items, in a drawn order -/
theorem erase_perm {α : Type} : ∀ {l : List α} {k : Nat} {y : α}, l[k]? = some y → (y :: l.eraseIdx k).Perm l
  | [], k, y, h => by simp at h
  | a :: l, 0, y, h => by
    have e : a = y := by simpa using h
    subst e
    exact List.Perm.refl _
  | a :: l, k + 1, y, h => by
    have ih := erase_perm (l := l) (k := k) (y := y) (by simpa using h)
    show (y :: a :: l.eraseIdx k).Perm (a :: l)
    exact (List.Perm.swap a y _).trans (ih.cons a)
theorem map_er {α β : Type} (f : α → β) : ∀ (l : List α) (k : Nat), (l.map f).eraseIdx k = (l.eraseIdx k).map f
  | [], k => by cases k <;> rfl
  | a :: l, 0 => rfl
  | a :: l, k + 1 => by
    show f a :: (l.map f).eraseIdx k = f a :: (l.eraseIdx k).map f
    rw [map_er f l k]
def spPk : Sp := fun vs H Q _ => ∃ (t c L : Addr) (ss : List Str) (many : Int), vs = [.ref t, .ref L, .int many] ∧ TapeL c H t ∧ H L = some (.lst (vS ss)) ∧ ss.Nodup ∧ ss.length ≤ 8 ∧ 1 ≤ many ∧ many ≤ 8 ∧
  ∀ (G : Addr) (gs : List Str) (H' : Hp), H' G = some (.lst (vS gs)) → H G = none → (∀ x ∈ gs, x ∈ ss) → gs.Nodup → (ss ≠ [] → gs ≠ []) → (gs.length : Int) ≤ many → TapeL c H' t → SameB t H H' → Q (.ref G) H'
def spSmp : Sp := fun vs H Q _ => ∃ (t c : Addr), vs = [.ref t] ∧ TapeL c H t ∧ ∀ (v : V) (n w s : Nat) (H' : Hp), n ≤ w → 1 ≤ w → w ≤ 1000 → s ≤ 1000000000 → DhT t H' v (Ps.d (.sample n w s)) → TapeL c H' t → SameB t H H' → Q v H'
def spSrt : Sp := fun vs H Q _ => ∃ (t c L : Addr) (ps : CsL), vs = [.ref t, .ref L] ∧ TapeL c H t ∧ CA H L ps ∧ ColP ps ∧ ∀ (v : V) (a : Str) (u : Bool) (H' : Hp), a ∈ nms ps → DhT t H' v (Ps.d (.sort a u)) → TapeL c H' t → SameB t H H' → Q v H'
theorem nm_turn {H H1 : Hp} {D : Addr} {ps : CsL} {i : Nat} {z kk : Str} (hD : H D = none) (hD1 : H1 D = some (.lst (vS ((nms ps).take i)))) (ep : ps[i]? = some (z, kk)) (l8 : ps.length ≤ 8) (s1 : Same H H1) : ∃ acc, H1 D = some (.lst acc) ∧ acc.length < sizeLine ∧ (upd H1 D (.lst (acc ++ [.str z])) D = some (.lst (vS ((nms ps).take (i + 1)))) ∧ Same H (upd H1 D (.lst (acc ++ [.str z])))) := by
  refine ⟨_, hD1, ?_, ?_, fun b o e => by rw [upd_ne (ne_of_none e hD)]; exact s1 b o e⟩
  · rw [List.length_map, List.length_take, List.length_map]
    exact Nat.lt_of_le_of_lt (show _ ≤ 8 by omega) (by decide)
  · have : (nms ps)[i]? = some z := by rw [List.getElem?_map, ep]; rfl
    rw [upd_same, List.take_add_one, this]
    unfold vS
    rw [List.map_append]
    rfl
theorem seq_ix {n : Nat} {d : Int} (h0 : 0 ≤ d) (h1 : d < n) : seqIndex? d n = some d.toNat := by
  refine (ixN_seq (n := n) (i := d) (j := d.toNat) ?_).1
  unfold ixN
  rw [if_pos h0, if_pos h1]
theorem lt_size {n : Nat} (h : n ≤ 1000) : n < sizeLine := Nat.lt_of_le_of_lt h (by decide)
section
variable {P : Program} {w : World} {K : PySem.W.Frag} {mg : Str → Option Value} {base : Heap} {f : Addr} {fd : FuncData}
abbrev sPk : Stmt := top 83
abbrev nPk : List Str := ["_law_tape_here", "_law_items", "_law_many", "_law_rest", "_law_got", "_law_k"]
abbrev pPk : List Str := ["_law_tape_here", "_law_items", "_law_many"]
theorem scPk : FnScope nPk pPk (defScope sPk) := ⟨rfl, rfl, rfl, by decide +kernel, rfl, by decide +kernel, by decide +kernel⟩
section
variable {fA_ : Addr} {fdA_ : FuncData}
theorem ok_Pk (F : Fun K "_law_pick" "_law_pick" sPk f fd) (T : Bt mg)
    (GA_ : FnOk P w K mg base CX0 1 fA_ fdA_ ["_law_tape_here", "_law_many"] (spDrawL)) (mA_ : mg "_law_draw" = some (.ref fA_)) (kA_ : PySem.W.keepIn K (.ref fA_) = true) (bA_ : Binds K fdA_ ["_law_tape_here", "_law_many"] []) : FnOk P w K mg base CX0 2 f fd pPk (spPk) := by
  refine F.ok scPk (fun vs H Q E h => ?_) (fun cdv A outer s H vs Q E hr h => ?_)
  · obtain ⟨t, c, L, ss, many, rfl, _⟩ := h
    rfl
  · obtain ⟨t, c, L, ss, many, rfl, hT, hL, nd, l8, m1, m8, k⟩ := h
    have hrA_ : Room (1) _ := hr.mono (by first | decide | omega)
    refine ⟨_, (pss_cons (ps_set (i := 3) scPk.nd rfl (Or.inl rfl) (pe_callTy call_list_of (by rfl) T.list boot_list (pa_cons (pv 1) pa_nil)))
      (pss_cons (ps_set (i := 4) scPk.nd rfl (Or.inl rfl) (pe_lst pa_nil))
      (pss_cons (ps_for PassesOwn.never rfl (pi_range1 (by rfl) T.range (pa_cons (pe_callB (call_min2 rfl) (by rfl) T.min (by decide +kernel) (pa_cons (pe_callB call_len_seq (by rfl) T.len PySem.boot_len (pa_cons (pv 3) pa_nil)) (pa_cons (pv 2) pa_nil))) pa_nil)) (pg_name (i := 5) scPk.nd rfl (.inl rfl)) (pss_one (ps_if (PW.pt (pw_or (pt_cmpR op_eq (pv 5) pe_int (nomark _)) (pw_or1 (pt_cmpR op_gt (pe_call GA_ hrA_ (by rfl) mA_ kA_ bA_ .nil pass0 (pa_cons (pv 0) (pa_cons pe_int pa_nil))) pe_int (nomark _))))) (pss_one (ps_expr (pe_bm PySem.F.plainAttrs_list PySem.F.slot_list_append PySem.F.type_list_append mt_append (pv 4) (pa_cons (pe_bm PySem.F.plainAttrs_list PySem.F.slot_list_pop PySem.F.type_list_pop mt_popAt (pv 3) (pa_cons (pe_call GA_ hrA_ (by rfl) mA_ kA_ bA_ .nil pass0 (pa_cons (pv 0) (pa_cons (pe_callB call_len_seq (by rfl) T.len PySem.boot_len (pa_cons (pv 3) pa_nil)) pa_nil))) pa_nil)) pa_nil)))) pss_nil)))
      (pss_one (ps_ret (pv 4)))))), ?_⟩
    have two : 2 ≤ sizeLine := by decide
    have one : 1 ≤ sizeLine := by decide
    have three : 3 ≤ sizeLine := by decide
    have four : 4 ≤ sizeLine := by decide
    have nLt := ne_tape hT.tape hL
    refine ⟨_, rfl, L, _, rfl, .inl (SqL.of hL), fun R hR => ⟨Nat.zero_le _, fun G hG => ?_⟩⟩
    have zR := Same.upd (o := .lst (vS ss)) hR
    have zG := Same.upd (o := .lst []) hG
    have gG := Same.gone zR hG
    have nRt := hT.tape.ne hR
    have nGt := hT.tape.ne gG
    obtain ⟨ys, hc⟩ := hT.list
    have nRc : R ≠ c := Ne.symm (ne_of_none hc hR)
    have nGc : G ≠ c := Ne.symm (ne_of_none hc gG)
    have eR0 : upd H R (.lst (vS ss)) R = some (.lst (vS ss)) := upd_same
    have nRG : R ≠ G := ne_of_none eR0 hG
    have eR1 := zG _ _ eR0
    have eG1 : upd (upd H R (.lst (vS ss))) G (.lst []) G = some (.lst []) := upd_same
    have z2 := zR.trans zG
    have T2 := hT.same z2
    generalize upd (upd H R (.lst (vS ss))) G (.lst []) = H2 at eR1 eG1 z2 T2 ⊢
    clear zG eR0 zR
    refine ⟨_, rfl, R, _, rfl, .inl (SqL.of eR1), _, rfl, _, _, rfl, ?_⟩
    rw [List.length_map]
    generalize hn : (if many < (ss.length : Int) then many else (ss.length : Int)) = n
    have n1 : n ≤ many ∧ n ≤ ss.length ∧ 0 ≤ n ∧ (ss ≠ [] → 0 < n) := by
      have : ss ≠ [] → 0 < ss.length := fun h => List.length_pos_iff.mpr h
      by_cases q : many < (ss.length : Int)
      · rw [if_pos q] at hn; omega
      · rw [if_neg q] at hn
        refine ⟨by omega, by omega, by omega, fun h => ?_⟩
        have := this h
        omega
    clear hn
    refine ⟨n, rfl, by omega, by omega, for_range (n := n.toNat) (fun i σ H' => (∃ (x5 : Option V) (rs gs : List Str), σ = [some (.ref t), some (.ref L), some (.int many), some (.ref R), some (.ref G), x5] ∧ H' R = some (.lst (vS rs)) ∧ H' G = some (.lst (vS gs)) ∧ (gs ++ rs).Nodup ∧ (∀ x ∈ gs ++ rs, x ∈ ss) ∧ gs.length + rs.length = ss.length ∧ gs.length ≤ i ∧ (0 < i → gs ≠ [])) ∧ TapeL c H' t ∧ SameB t H H')
      ⟨⟨none, ss, [], rfl, eR1, eG1, nd, fun x hx => hx, Nat.zero_add _, Nat.le_refl _, fun h => absurd h (Nat.lt_irrefl 0)⟩, T2, Same.b t z2⟩ ?_ ?_⟩
    · clear eR1 eG1 T2
      rintro i σ H3 hi ⟨⟨x5, rs, gs, rfl, eR, eG, pnd, pin, len, gl, ge⟩, T3, S3⟩
      refine ⟨_, rfl, rfl, _, rfl, ?_⟩
      by_cases z : i = 0
      · rw [show decide (V.int ((0 : Int) + (i : Int)) = V.int 0) = true by rw [z]; rfl]
        refine iteT (iteT ?_)
        refine ⟨_, rfl, .inl ⟨rfl, _, SqL.of eG⟩, _, rfl, .inl ⟨rfl, _, SqL.of eR⟩, _, rfl, _, rfl, R, _, rfl, .inl (SqL.of eR), t, c, _, rfl, T3, by rw [List.length_map]; omega, big1000 (by omega) (by rw [List.length_map]; omega), fun d Hd d0 d1 Td Sd => ?_⟩
        rw [List.length_map] at d1
        have eR2 := Sd _ _ nRt eR
        have eG2 := Sd _ _ nGt eG
        have hd : d.toNat < rs.length := by omega
        obtain ⟨y, ey⟩ : ∃ y, rs[d.toNat]? = some y := ⟨_, List.getElem?_eq_getElem hd⟩
        have pm := erase_perm ey
        refine ⟨R, _, d, d.toNat, .str y, rfl, rfl, eR2, by omega, by omega, seq_ix d0 (by rw [List.length_map]; omega), by rw [List.getElem?_map, ey]; rfl, G, _, _, rfl, rfl, by rw [upd_ne (Ne.symm nRG)]; exact eG2, by rw [List.length_map]; exact lt_size (by omega), ?_⟩
        rw [map_er]
        have er := List.length_eraseIdx_of_lt hd
        refine ⟨⟨_, rs.eraseIdx d.toNat, gs ++ [y], rfl, by rw [upd_ne nRG, upd_same], by rw [upd_same]; unfold vS; rw [List.map_append]; rfl, ?_, ?_, by rw [List.length_append]; show _ + 1 + _ = _; omega, by rw [List.length_append]; show _ + 1 ≤ _; omega, fun _ => by simp⟩, (Td.upd nRt nRc).upd nGt nGc, ?_⟩
        · rw [List.append_assoc]
          exact pnd.perm ((List.Perm.append_left gs pm).symm)
        · intro x hx
          refine pin x ?_
          rw [List.append_assoc] at hx
          exact (List.Perm.append_left gs pm).mem_iff.mp hx
        · intro b o n e
          rw [upd_ne (fun z => by rw [z, gG] at e; cases e), upd_ne (fun z => by rw [z, hR] at e; cases e)]
          exact (S3.trans Sd) b o n e
      · rw [show decide (V.int ((0 : Int) + (i : Int)) = V.int 0) = false from decide_eq_false (fun h => z (by injection h with h; omega))]
        refine iteF ⟨_, rfl, t, c, _, rfl, T3, by decide, big1000 (by decide) (by decide), fun e He e0 e3 T4 S4 => ?_⟩
        replace eR := S4 _ _ nRt eR
        replace eG := S4 _ _ nGt eG
        have S34 := S3.trans S4
        refine ⟨_, _, rfl, rfl, _, rfl, ite2 (fun _ => ?_) (fun _ => ⟨⟨_, rs, gs, rfl, eR, eG, pnd, pin, len, by omega, fun _ => ge (by omega)⟩, T4, S34⟩)⟩
        refine ⟨_, rfl, .inl ⟨rfl, _, SqL.of eG⟩, _, rfl, .inl ⟨rfl, _, SqL.of eR⟩, _, rfl, _, rfl, R, _, rfl, .inl (SqL.of eR), t, c, _, rfl, T4, by rw [List.length_map]; omega, big1000 (by omega) (by rw [List.length_map]; omega), fun d Hd d0 d1 Td Sd => ?_⟩
        rw [List.length_map] at d1
        have eR2 := Sd _ _ nRt eR
        have eG2 := Sd _ _ nGt eG
        have hd : d.toNat < rs.length := by omega
        obtain ⟨y, ey⟩ : ∃ y, rs[d.toNat]? = some y := ⟨_, List.getElem?_eq_getElem hd⟩
        have pm := erase_perm ey
        refine ⟨R, _, d, d.toNat, .str y, rfl, rfl, eR2, by omega, by omega, seq_ix d0 (by rw [List.length_map]; omega), by rw [List.getElem?_map, ey]; rfl, G, _, _, rfl, rfl, by rw [upd_ne (Ne.symm nRG)]; exact eG2, by rw [List.length_map]; exact lt_size (by omega), ?_⟩
        rw [map_er]
        have er := List.length_eraseIdx_of_lt hd
        refine ⟨⟨_, rs.eraseIdx d.toNat, gs ++ [y], rfl, by rw [upd_ne nRG, upd_same], by rw [upd_same]; unfold vS; rw [List.map_append]; rfl, ?_, ?_, by rw [List.length_append]; show _ + 1 + _ = _; omega, by rw [List.length_append]; show _ + 1 ≤ _; omega, fun _ => by simp⟩, (Td.upd nRt nRc).upd nGt nGc, ?_⟩
        · rw [List.append_assoc]
          exact pnd.perm ((List.Perm.append_left gs pm).symm)
        · intro x hx
          refine pin x ?_
          rw [List.append_assoc] at hx
          exact (List.Perm.append_left gs pm).mem_iff.mp hx
        · intro b o n e
          rw [upd_ne (fun z => by rw [z, gG] at e; cases e), upd_ne (fun z => by rw [z, hR] at e; cases e)]
          exact (S34.trans Sd) b o n e
    · rintro σ H3 ⟨⟨x5, rs, gs, rfl, eR, eG, pnd, pin, len, gl, ge⟩, T3, S3⟩
      exact ⟨_, rfl, k G gs H3 eG gG (fun x hx => pin x (List.mem_append_left _ hx)) (List.nodup_append.mp pnd).1 (fun h => ge (by have := n1.2.2.2 h; omega)) (by omega) T3 S3⟩
end
abbrev sSmp : Stmt := top 86
abbrev nSmp : List Str := ["_law_tape_here", "_law_whole"]
abbrev pSmp : List Str := ["_law_tape_here"]
theorem scSmp : FnScope nSmp pSmp (defScope sSmp) := ⟨rfl, rfl, rfl, by decide +kernel, rfl, by decide +kernel, by decide +kernel⟩
section
variable {fA_ : Addr} {fdA_ : FuncData}
theorem ok_Smp (F : Fun K "_law_sample_step" "_law_sample_step" sSmp f fd) (T : Bt mg)
    (GA_ : FnOk P w K mg base CX0 1 fA_ fdA_ ["_law_tape_here", "_law_many"] (spDrawL)) (mA_ : mg "_law_draw" = some (.ref fA_)) (kA_ : PySem.W.keepIn K (.ref fA_) = true) (bA_ : Binds K fdA_ ["_law_tape_here", "_law_many"] []) : FnOk P w K mg base CX0 2 f fd pSmp (spSmp) := by
  refine F.ok scSmp (fun vs H Q E h => ?_) (fun cdv A outer s H vs Q E hr h => ?_)
  · obtain ⟨t, c, rfl, _⟩ := h
    rfl
  · obtain ⟨t, c, rfl, hT, k⟩ := h
    have hrA_ : Room (1) _ := hr.mono (by first | decide | omega)
    refine ⟨_, (pss_cons (ps_set (i := 1) scSmp.nd rfl (Or.inl rfl) (pe_ix ix_list (pe_lst (pa_cons pe_int (pa_cons pe_int (pa_cons pe_int (pa_cons pe_int pa_nil))))) (pe_call GA_ hrA_ (by rfl) mA_ kA_ bA_ .nil pass0 (pa_cons (pv 0) (pa_cons pe_int pa_nil))) (fun _ _ => rfl)))
      (pss_one (ps_ret (pe_tup (pa_cons pe_str (pa_cons (pe_call GA_ hrA_ (by rfl) mA_ kA_ bA_ .nil pass0 (pa_cons (pv 0) (pa_cons (pe_op op_add (pv 1) pe_int) pa_nil))) (pa_cons (pv 1) (pa_cons (pe_call GA_ hrA_ (by rfl) mA_ kA_ bA_ .nil pass0 (pa_cons (pv 0) (pa_cons (pe_op op_add (pe_op op_pow pe_int pe_int) pe_int) pa_nil))) pa_nil)))))))), ?_⟩
    have two : 2 ≤ sizeLine := by decide
    have one : 1 ≤ sizeLine := by decide
    have three : 3 ≤ sizeLine := by decide
    have four : 4 ≤ sizeLine := by decide
    have pw9 : CPow 10 9 := ⟨by decide, by decide, by decide⟩
    have p9 : (10 : Int) ^ (9 : Int).toNat = 1000000000 := by decide
    have bigx : ∀ z : Int, 0 ≤ z → z ≤ 1000000001 → z.natAbs < 2 ^ 4000 := fun z h1 h2 => Nat.lt_of_lt_of_le (show z.natAbs < 2 ^ 40 by omega) (Nat.pow_le_pow_right (by decide) (by decide))
    refine ⟨four, fun Y hY => ?_⟩
    have zY := Same.upd (o := .lst [.int 2, .int 3, .int 10, .int 1000]) hY
    have nY := hT.tape.ne hY
    refine ⟨_, rfl, t, c, _, rfl, hT.same zY, by decide, big1000 (by decide) (by decide), fun j H2 j0 j4 T2 S2 => ?_⟩
    obtain ⟨w, ew, w1, w2⟩ : ∃ w : Nat, ([.int 2, .int 3, .int 10, .int 1000] : List V)[j.toNat]? = some (.int w) ∧ 1 ≤ w ∧ w ≤ 1000 := by
      have : j.toNat = 0 ∨ j.toNat = 1 ∨ j.toNat = 2 ∨ j.toNat = 3 := by omega
      rcases this with e | e | e | e <;> rw [e]
      · exact ⟨2, rfl, by decide, by decide⟩
      · exact ⟨3, rfl, by decide, by decide⟩
      · exact ⟨10, rfl, by decide, by decide⟩
      · exact ⟨1000, rfl, by decide, by decide⟩
    have S02 := (Same.b t zY).trans S2
    refine ⟨Y, _, _, .int w, rfl, rfl, SqL.of (S2 _ _ nY upd_same), at_of (j := j.toNat) (by omega) ew, ?_⟩
    refine ⟨_, rfl, _, rfl, _, _, rfl, rfl, t, c, _, rfl, T2, by omega, bigx _ (by omega) (by omega), fun n H3 n0 n1 T3 S3 => ?_⟩
    refine ⟨_, rfl, _, rfl, _, _, rfl, rfl, pw9, _, _, rfl, rfl, t, c, _, rfl, T3, by rw [p9]; decide, by rw [p9]; exact bigx _ (by decide) (by decide), fun s H4 s0 s1 T4 S4 => ⟨four, fun r hr => ?_⟩⟩
    rw [p9] at s1
    obtain ⟨n, rfl⟩ : ∃ m : Nat, n = m := ⟨n.toNat, by omega⟩
    obtain ⟨s, rfl⟩ : ∃ m : Nat, s = m := ⟨s.toNat, by omega⟩
    exact k _ n w s _ (by omega) w1 w2 (by omega) (dh_tupT T4.tape (.cons (.str _) (.cons (.int _) (.cons (.int _) (.cons (.int _) .nil)))) hr) (T4.same (Same.upd hr)) ((S02.trans (S3.trans S4)).trans (Same.b t (Same.upd hr)))
end
abbrev sSrt : Stmt := top 85
abbrev nSrt : List Str := ["_law_tape_here", "_law_columns_here", "_law_names", "_law_name_here", "_law_kind"]
abbrev pSrt : List Str := ["_law_tape_here", "_law_columns_here"]
theorem scSrt : FnScope nSrt pSrt (defScope sSrt) := ⟨rfl, rfl, rfl, by decide +kernel, rfl, by decide +kernel, by decide +kernel⟩
section
variable {fA_ : Addr} {fdA_ : FuncData}
theorem ok_Srt (F : Fun K "_law_sort_step" "_law_sort_step" sSrt f fd) (T : Bt mg)
    (GA_ : FnOk P w K mg base CX0 1 fA_ fdA_ ["_law_tape_here", "_law_many"] (spDrawL)) (mA_ : mg "_law_draw" = some (.ref fA_)) (kA_ : PySem.W.keepIn K (.ref fA_) = true) (bA_ : Binds K fdA_ ["_law_tape_here", "_law_many"] []) : FnOk P w K mg base CX0 2 f fd pSrt (spSrt) := by
  refine F.ok scSrt (fun vs H Q E h => ?_) (fun cdv A outer s H vs Q E hr h => ?_)
  · obtain ⟨t, c, L, ps, rfl, _⟩ := h
    rfl
  · obtain ⟨t, c, L, ps, rfl, hT, hL, cp, k⟩ := h
    have hrA_ : Room (1) _ := hr.mono (by first | decide | omega)
    refine ⟨_, (pss_cons (ps_setLc (i := 2) (own := [("_law_name_here", 3), ("_law_kind", 4)]) (g := (gTup K 2 (gCons (gName 3) (gCons (gName 4) gNil)))) (tt := tYes) (te := tVar 3) (by rfl) scSrt.nd rfl rfl (sw_true rfl rfl rfl (by decide +kernel)) (pi_tup (pv 1)) (blkOk_by (own := [("_law_name_here", 3), ("_law_kind", 4)]) (N := nSrt) (sc := defScope sSrt) (by decide +kernel)) (fun _ _ _ _ _ => (pg_tup rfl (pgs_cons (pg_name (i := 3) scSrt.nd rfl (.inl rfl)) (pgs_cons (pg_name (i := 4) scSrt.nd rfl (.inl rfl)) pgs_nil)))) (fun _ _ _ _ _ => pts_nil) (fun _ _ _ _ _ => (pv 3)))
      (pss_one (ps_ret (pe_tup (pa_cons pe_str (pa_cons (pe_ix ix_list (pv 2) (pe_call GA_ hrA_ (by rfl) mA_ kA_ bA_ .nil pass0 (pa_cons (pv 0) (pa_cons (pe_callB call_len_seq (by rfl) T.len PySem.boot_len (pa_cons (pv 2) pa_nil)) pa_nil))) (fun _ _ => rfl)) (pa_cons (pe_ix ix_list (pe_lst (pa_cons pe_str (pa_cons pe_str pa_nil))) (pe_call GA_ hrA_ (by rfl) mA_ kA_ bA_ .nil pass0 (pa_cons (pv 0) (pa_cons pe_int pa_nil))) (fun _ _ => rfl)) pa_nil))))))), ?_⟩
    have two : 2 ≤ sizeLine := by decide
    have one : 1 ≤ sizeLine := by decide
    have three : 3 ≤ sizeLine := by decide
    have four : 4 ≤ sizeLine := by decide
    obtain ⟨xs, zL, cc⟩ := hL
    have l8 := cp.l8
    have l1 := cp.l1
    refine ⟨_, rfl, L, rfl, ⟨_, zL.sq⟩, fun W hW => lc_tup (K := K) (a := L) (xs := xs) (fun i H' => H' W = some (.lst (vS ((nms ps).take i))) ∧ Same H H') ⟨upd_same, Same.upd hW⟩ (fun i H' _ pr => (zL.same pr.2).sq) ?_ ?_⟩
    · rintro i x H1 hx ⟨hW1, s1⟩
      obtain ⟨a, z, kk, rfl, ea, ep⟩ := cc.get _ _ hx
      refine ⟨a, _, rfl, SqT.of (s1 _ _ ea), rfl, _, _, rfl, _, _, rfl, rfl, rfl, ?_⟩
      dsimp only [tYes]
      exact iteT ⟨_, rfl, nm_turn hW hW1 ep cp.l8 s1⟩
    rintro H1 ⟨hW1, s1⟩
    rw [show xs.length = (nms ps).length by rw [cc.len, List.length_map], List.take_length] at hW1
    have T1 := hT.same s1
    have nW := hT.tape.ne hW
    have ln : (vS (nms ps)).length = ps.length := by rw [List.length_map, List.length_map]
    refine ⟨_, rfl, _, rfl, _, rfl, W, _, rfl, .inl (SqL.of hW1), t, c, _, rfl, T1, by rw [ln]; omega, big1000 (by omega) (by rw [ln]; omega), fun j H2 j0 j1 T2 S2 => ?_⟩
    rw [ln] at j1
    have hj : j.toNat < (nms ps).length := by rw [List.length_map]; omega
    obtain ⟨z, ez⟩ : ∃ z, (nms ps)[j.toNat]? = some z := ⟨_, List.getElem?_eq_getElem hj⟩
    refine ⟨W, _, _, .str z, rfl, rfl, SqL.of (S2 _ _ nW hW1), at_of (j := j.toNat) (by omega) (by rw [List.getElem?_map, ez]; rfl), two, fun Y hY => ?_⟩
    have zY := Same.upd (o := .lst [.str "up", .str "down"]) hY
    have nY := T2.tape.ne hY
    refine ⟨_, rfl, t, c, _, rfl, T2.same zY, by decide, big1000 (by decide) (by decide), fun u H3 u0 u2 T3 S3 => ?_⟩
    obtain ⟨b, eb⟩ : ∃ b : Bool, ([.str "up", .str "down"] : List V)[u.toNat]? = some (.str (updn b)) := by
      have : u.toNat = 0 ∨ u.toNat = 1 := by omega
      rcases this with e | e <;> rw [e]
      · exact ⟨true, rfl⟩
      · exact ⟨false, rfl⟩
    refine ⟨Y, _, _, .str (updn b), rfl, rfl, SqL.of (S3 _ _ nY upd_same), at_of (j := u.toNat) (by omega) eb, three, fun r hr => ?_⟩
    have S := (Same.b t s1).trans (S2.trans ((Same.b t zY).trans S3))
    exact k _ z b _ (List.mem_of_getElem? ez) (dh_tupT T3.tape (.cons (.str _) (.cons (.str _) (.cons (.str _) .nil))) hr) (T3.same (Same.upd hr)) (S.trans (Same.b t (Same.upd hr)))
end
end
end K78
set_option Elab.async false
set_option linter.all false
set_option maxRecDepth 100000
set_option maxHeartbeats 4000000
namespace K78
open PySem PySem.Spec PyProof.Rows L2 Lc
/-! ## set: a column is written anew, or a new one -/
abbrev rI1 : List V → Hp → VK → Prop := fun xs H Q => (∃ i, xs = [.int i] ∧ Q (.int i) H) ∨ ∃ k, xs = [.bl k] ∧ Q (.int (if k then 1 else 0)) H
abbrev teSet (K : PySem.W.Frag) : TE := tTup (tCons (tVar 6) (tCons (tOp (rIxL K) (tLst (tCons (tVar 7) (tCons (tVar 4) tNil))) (tCB rI1 (tCons (tOp rEq (tVar 6) (tVar 3)) tNil))) tNil))
def spKs : Sp := fun vs H Q _ => ∃ (t c L : Addr) (ps : CsL), vs = [.ref t, .ref L] ∧ TapeL c H t ∧ CA H L ps ∧ ColP ps ∧ ∀ (r : Addr) (v : V) (C : Addr) (p : Ps) (qs : CsL) (H' : Hp), H' r = some (.tup [v, .ref C]) → DhT t H' v p.d → CA H' C qs → (∀ os, Lead os ps p qs) → TapeL c H' t → SameB t H H' → Q (.ref r) H'
theorem col_turn {H H1 H2 : Hp} {D p : Addr} {ys : List V} {qs : CsL} {z k : Str} (hD : H D = none) (e1 : H1 D = some (.lst ys)) (c1 : Cols H1 ys qs) (l : ys.length ≤ 100) (s1 : Same H H1) (s2 : Same H1 H2) (hp : H2 p = none) :
    ∃ acc, upd H2 p (.tup [.str z, .str k]) D = some (.lst acc) ∧ acc.length < sizeLine ∧ ((∃ ys', upd (upd H2 p (.tup [.str z, .str k])) D (.lst (acc ++ [.ref p])) D = some (.lst ys') ∧ Cols (upd (upd H2 p (.tup [.str z, .str k])) D (.lst (acc ++ [.ref p]))) ys' (qs ++ [(z, k)])) ∧ Same H (upd (upd H2 p (.tup [.str z, .str k])) D (.lst (acc ++ [.ref p])))) := by
  have zp := Same.upd (o := .tup [.str z, .str k]) hp
  have e3 := zp _ _ (s2 _ _ e1)
  refine ⟨ys, e3, lt_size (by omega), ⟨ys ++ [.ref p], upd_same, ?_⟩, fun b o e => by rw [upd_ne (ne_of_none e hD)]; exact zp _ _ (s2 _ _ (s1 _ _ e))⟩
  have c3 : Cols (upd H2 p (.tup [.str z, .str k])) ys qs := (c1.t (SameT.of s2)).t (SameT.of zp)
  exact (c3.app (.cons upd_same .nil)).t (SameT.lst e3)
section
variable {P : Program} {w : World} {K : PySem.W.Frag} {mg : Str → Option Value} {base : Heap} {f : Addr} {fd : FuncData}
abbrev sSst : Stmt := top 84
abbrev nSst : List Str := ["_law_tape_here", "_law_columns_here", "_law_names", "_law_name_here", "_law_kind", "_law_step", "_law_other", "_law_old"]
abbrev pSst : List Str := ["_law_tape_here", "_law_columns_here"]
theorem scSst : FnScope nSst pSst (defScope sSst) := ⟨rfl, rfl, rfl, by decide +kernel, rfl, by decide +kernel, by decide +kernel⟩
section
variable {fA_ fB_ fC_ : Addr} {fdA_ fdB_ fdC_ : FuncData}
theorem ok_Sst (F : Fun K "_law_set_step" "_law_set_step" sSst f fd) (T : Bt mg)
    (GA_ : FnOk P w K mg base CX0 1 fA_ fdA_ ["_law_tape_here", "_law_many"] (spDrawL)) (mA_ : mg "_law_draw" = some (.ref fA_)) (kA_ : PySem.W.keepIn K (.ref fA_) = true) (bA_ : Binds K fdA_ ["_law_tape_here", "_law_many"] [])
    (GB_ : FnOk P w K mg base CX0 3 fB_ fdB_ ["_law_tape_here", "_law_taken"] (spFr)) (mB_ : mg "_law_fresh" = some (.ref fB_)) (kB_ : PySem.W.keepIn K (.ref fB_) = true) (bB_ : Binds K fdB_ ["_law_tape_here", "_law_taken"] [])
    (GC_ : FnOk P w K mg base CX0 6 fC_ fdC_ ["_law_tape_here", "_law_columns_here", "_law_kind", "_law_depth"] (spXp 3)) (mC_ : mg "_law_expression" = some (.ref fC_)) (kC_ : PySem.W.keepIn K (.ref fC_) = true) (bC_ : Binds K fdC_ ["_law_tape_here", "_law_columns_here", "_law_kind", "_law_depth"] []) : FnOk P w K mg base CX0 7 f fd pSst (spKs) := by
  refine F.ok scSst (fun vs H Q E h => ?_) (fun cdv A outer s H vs Q E hr h => ?_)
  · obtain ⟨t, c, L, ps, rfl, _⟩ := h
    rfl
  · obtain ⟨t, c, L, ps, rfl, hT, hL, cp, k⟩ := h
    have hrA_ : Room (1) _ := hr.mono (by first | decide | omega)
    have hrB_ : Room (3) _ := hr.mono (by first | decide | omega)
    have hrC_ : Room (6) _ := hr.mono (by first | decide | omega)
    refine ⟨_, (Evl.pss_cut (ps_setLc (i := 2) (own := [("_law_name_here", 3), ("_law_kind", 4)]) (g := (gTup K 2 (gCons (gName 3) (gCons (gName 4) gNil)))) (tt := tYes) (te := tVar 3) (by rfl) scSst.nd rfl rfl (sw_true rfl rfl rfl (by decide +kernel)) (pi_tup (pv 1)) (blkOk_by (own := [("_law_name_here", 3), ("_law_kind", 4)]) (N := nSst) (sc := defScope sSst) (by decide +kernel)) (fun _ _ _ _ _ => (pg_tup rfl (pgs_cons (pg_name (i := 3) scSst.nd rfl (.inl rfl)) (pgs_cons (pg_name (i := 4) scSst.nd rfl (.inl rfl)) pgs_nil)))) (fun _ _ _ _ _ => pts_nil) (fun _ _ _ _ _ => (pv 3)))
      (pss_cons (ps_set (i := 4) scSst.nd rfl (Or.inr rfl) (pe_ix ix_list (pe_lst (pa_cons pe_str (pa_cons pe_str (pa_cons pe_str pa_nil)))) (pe_call GA_ hrA_ (by rfl) mA_ kA_ bA_ .nil pass0 (pa_cons (pv 0) (pa_cons pe_int pa_nil))) (fun _ _ => rfl)))
      (pss_cons (ps_set (i := 3) scSst.nd rfl (Or.inr rfl) (pe_ix ix_list (pv 2) (pe_call GA_ hrA_ (by rfl) mA_ kA_ bA_ .nil pass0 (pa_cons (pv 0) (pa_cons (pe_callB call_len_seq (by rfl) T.len PySem.boot_len (pa_cons (pv 2) pa_nil)) pa_nil))) (fun _ _ => rfl)))
      (Evl.pss_cut (ps_if (PW.pt (pw_and (pt_cmpR op_lt (pe_callB call_len_seq (by rfl) T.len PySem.boot_len (pa_cons (pv 1) pa_nil)) pe_int (nomark _)) (pw_and1 (pt_cmpR op_eq (pe_call GA_ hrA_ (by rfl) mA_ kA_ bA_ .nil pass0 (pa_cons (pv 0) (pa_cons pe_int pa_nil))) pe_int (nomark _))))) (pss_one (ps_set (i := 3) scSst.nd rfl (Or.inr rfl) (pe_call GB_ hrB_ (by rfl) mB_ kB_ bB_ .nil pass0 (pa_cons (pv 0) (pa_cons (pv 2) pa_nil))))) pss_nil)
      (Evl.pss_cut (ps_set (i := 5) scSst.nd rfl (Or.inl rfl) (pe_tup (pa_cons pe_str (pa_cons (pv 3) (pa_cons (pe_call GC_ hrC_ (by rfl) mC_ kC_ bC_ .nil pass0 (pa_cons (pv 0) (pa_cons (pv 1) (pa_cons (pv 4) (pa_cons pe_int pa_nil))))) pa_nil)))))
      (pss_cons (ps_if (pt_cmpR op_notIn_seq (pv 3) (pv 2) (by rfl)) (pss_one (ps_ret (pe_tup (pa_cons (pv 5) (pa_cons (pe_op op_catZ (pv 1) (pe_tup (pa_cons (pe_tup (pa_cons (pv 3) (pa_cons (pv 4) pa_nil))) pa_nil))) pa_nil))))) pss_nil)
      (pss_one (ps_ret (pe_tup (pa_cons (pv 5) (pa_cons (pe_callTy call_tupleZ (by rfl) T.tuple boot_tuple (pa_cons (pe_lc (own := [("_law_other", 6), ("_law_old", 7)]) (g := (gTup K 2 (gCons (gName 6) (gCons (gName 7) gNil)))) (tt := tYes) (te := teSet K) (by rfl) scSst.nd (pi_tup (pv 1)) (blkOk_by (own := [("_law_other", 6), ("_law_old", 7)]) (N := nSst) (sc := defScope sSst) (by decide +kernel)) (fun _ _ _ _ _ => (pg_tup rfl (pgs_cons (pg_name (i := 6) scSst.nd rfl (.inl rfl)) (pgs_cons (pg_name (i := 7) scSst.nd rfl (.inl rfl)) pgs_nil)))) (fun _ _ _ _ _ => pts_nil) (fun _ _ _ _ _ => (pe_tup (pa_cons (pv 6) (pa_cons (pe_ix ix_list (pe_lst (pa_cons (pv 7) (pa_cons (pv 4) pa_nil))) (pe_callTy call_int1 (by rfl) T.int boot_int (pa_cons (pe_cmpR op_eq (pv 6) (pv 3) (nomark _)) pa_nil)) (fun _ _ => rfl)) pa_nil))))) pa_nil)) pa_nil))))))))))), ?_⟩
    have two : 2 ≤ sizeLine := by decide
    have one : 1 ≤ sizeLine := by decide
    have three : 3 ≤ sizeLine := by decide
    have four : 4 ≤ sizeLine := by decide
    obtain ⟨xs, zL, cc⟩ := hL
    have l8 := cp.l8
    have l1 := cp.l1
    have lx := cc.len
    have lnm : (nms ps).length = ps.length := List.length_map _
    have ln : (vS (nms ps)).length = ps.length := by rw [List.length_map, lnm]
    have fl : (vS (nms ps)).all flatV = true := by simp [flatV]
    refine ⟨fun σ H' => ∃ W : Addr, σ = [some (.ref t), some (.ref L), some (.ref W), none, none, none, none, none] ∧ H' W = some (.lst (vS (nms ps))) ∧ H W = none ∧ Same H H', ?_, ?_⟩
    · refine ⟨_, rfl, L, rfl, ⟨_, zL.sq⟩, fun W hW => lc_tup (K := K) (a := L) (xs := xs) (fun i H' => H' W = some (.lst (vS ((nms ps).take i))) ∧ Same H H') ⟨upd_same, Same.upd hW⟩ (fun i H' _ pr => (zL.same pr.2).sq) ?_ ?_⟩
      · rintro i x H1 hx ⟨hW1, s1⟩
        obtain ⟨a, z, kk, rfl, ea, ep⟩ := cc.get _ _ hx
        refine ⟨a, _, rfl, SqT.of (s1 _ _ ea), rfl, _, _, rfl, _, _, rfl, rfl, rfl, ?_⟩
        dsimp only [tYes]
        exact iteT ⟨_, rfl, nm_turn hW hW1 ep cp.l8 s1⟩
      rintro H1 ⟨hW1, s1⟩
      rw [show xs.length = (nms ps).length by rw [cc.len, List.length_map], List.take_length] at hW1
      exact ⟨W, rfl, hW1, hW, s1⟩
    rintro σ H1 ⟨W, rfl, hW1, hW, s1⟩
    have T1 := hT.same s1
    have S1 := Same.b t s1
    have nW := hT.tape.ne hW
    refine ⟨three, fun Y hY => ?_⟩
    have zY := Same.upd (o := .lst [.str "number", .str "word", .str "flag"]) hY
    have nY := T1.tape.ne hY
    refine ⟨_, rfl, t, c, _, rfl, T1.same zY, by decide, big1000 (by decide) (by decide), fun j H2 j0 j3 T2 S2 => ?_⟩
    obtain ⟨kd, ekd, hk⟩ : ∃ kk : Str, ([.str "number", .str "word", .str "flag"] : List V)[j.toNat]? = some (.str kk) ∧ KindS kk := by
      have : j.toNat = 0 ∨ j.toNat = 1 ∨ j.toNat = 2 := by omega
      rcases this with e | e | e <;> rw [e]
      · exact ⟨_, rfl, .inl rfl⟩
      · exact ⟨_, rfl, .inr (.inl rfl)⟩
      · exact ⟨_, rfl, .inr (.inr rfl)⟩
    refine ⟨Y, _, _, .str kd, rfl, rfl, SqL.of (S2 _ _ nY upd_same), at_of (j := j.toNat) (by omega) ekd, ?_⟩
    have S02 := S1.trans ((Same.b t zY).trans S2)
    have hW2 := S2 _ _ nW (zY _ _ hW1)
    refine ⟨_, rfl, _, rfl, _, rfl, W, _, rfl, .inl (SqL.of hW2), t, c, _, rfl, T2, by rw [ln]; omega, big1000 (by omega) (by rw [ln]; omega), fun i H3 i0 i1 T3 S3 => ?_⟩
    rw [ln] at i1
    obtain ⟨z, ez⟩ : ∃ z, (nms ps)[i.toNat]? = some z := ⟨_, List.getElem?_eq_getElem (by omega)⟩
    have hW3 := S3 _ _ nW hW2
    refine ⟨W, _, _, .str z, rfl, rfl, SqL.of hW3, at_of (j := i.toNat) (by omega) (by rw [List.getElem?_map, ez]; rfl), ?_⟩
    have S03 := S02.trans S3
    have zm := List.mem_of_getElem? ez
    clear S1 S2 S3 S02 T1 T2 zY ekd ez hW1 hW2 s1 hY
    let M := fun (y5 : Option V) (σ : L2.St) (H' : Hp) (x : Str) => σ = [some (.ref t), some (.ref L), some (.ref W), some (.str x), some (.str kd), y5, none, none] ∧ H' W = some (.lst (vS (nms ps))) ∧ (x ∈ nms ps ∨ (x ∉ nms ps ∧ Sh 12 x ∧ nmS x ∧ ps.length < 8)) ∧ TapeL c H' t ∧ SameB t H H'
    refine ⟨fun σ H' => ∃ x, M none σ H' x, ?_, ?_⟩
    · refine ⟨_, rfl, L, _, rfl, .inr (zL.b hT.tape S03).sq, _, _, rfl, rfl, _, rfl, ite2 (fun q => ?_) (fun q => iteF ⟨z, rfl, hW3, .inl zm, T3, S03⟩)⟩
      have q := of_decide_eq_true q
      refine ⟨_, rfl, t, c, _, rfl, T3, by decide, big1000 (by decide) (by decide), fun d H4 d0 d2 T4 S4 => ⟨rfl, _, rfl, ite2 (fun _ => ?_) (fun _ => ⟨z, rfl, S4 _ _ nW hW3, .inl zm, T4, S03.trans S4⟩)⟩⟩
      have hW4 := S4 _ _ nW hW3
      exact ⟨_, rfl, _, rfl, t, c, W, nms ps, rfl, T4, hW4, by omega, fun x H5 hx nx fz T5 S5 => ⟨x, rfl, S5 _ _ nW hW4, .inr ⟨fz, hx, nx, by omega⟩, T5, (S03.trans S4).trans S5⟩⟩
    clear hW3 zm T3 S03 ln
    rintro σ H3 ⟨x, rfl, hW3, hx, T3, S03⟩
    refine ⟨fun σ H' => ∃ v e, M (some v) σ H' x ∧ DhT t H' v (Ps.d (.set x e)) ∧ Xp ps 3 kd e, ?_, ?_⟩
    · refine ⟨_, rfl, _, rfl, _, rfl, _, rfl, t, c, L, kd, xs, ps, rfl, hk, T3, (zL.b hT.tape S03).rd, cc.b hT.tape S03, l8, fun v e H4 df xp T4 S4 => ⟨three, fun r hr => ?_⟩⟩
      have zr := Same.upd (o := .tup [.str "set", .str x, v]) hr
      exact ⟨.ref r, e, ⟨rfl, zr _ _ (S4 _ _ nW hW3), hx, T4.same zr, (S03.trans S4).trans (Same.b t zr)⟩, dh_tupT T4.tape (.cons (.str _) (.cons (.str _) (.cons (DhF.t T3.tape df) .nil))) hr, xp⟩
    clear hW3 T3 S03
    rintro σ H4 ⟨v, e, ⟨rfl, hW4, hx, T4, S4⟩, dv, xp⟩
    have z4 := zL.b hT.tape S4
    have c4 := cc.b hT.tape S4
    refine ⟨_, rfl, _, rfl, W, _, rfl, .inl (SqL.of hW4), rfl, fl, _, rfl, ite2 (fun y => ?_) (fun y => ?_)⟩
    · have nx : x ∉ nms ps := fun m => by
        rw [if_pos rfl, in_strs, decide_eq_true m] at y
        cases y
      obtain ⟨_, h1, h2, h3⟩ : x ∉ nms ps ∧ Sh 12 x ∧ nmS x ∧ ps.length < 8 := by
        rcases hx with hx | hx
        · exact absurd hx nx
        · exact hx
      refine ⟨_, rfl, _, rfl, _, rfl, _, rfl, two, fun p hp => ⟨one, fun q hq => ?_⟩⟩
      have zp := Same.upd (o := .tup [.str x, .str kd]) hp
      have zq := Same.upd (o := .tup [.ref p]) hq
      have zpq := zp.trans zq
      refine ⟨L, q, xs, [.ref p], rfl, rfl, (z4.same zpq).sq, SqT.of upd_same, fun z => by rw [z] at lx; change 0 = _ at lx; omega, Nat.le_trans (show _ + 1 ≤ 9 by omega) (by decide), nofun, fun _ r ob hr d1 d2 => ⟨two, fun s hs => ?_⟩⟩
      have zr := Same.upd (o := .frz ob (.tup (xs ++ [.ref p]))) hr
      have zs := Same.upd (o := .tup [v, .ref r]) hs
      have zall := zpq.trans (zr.trans zs)
      refine k s v r (.set x e) _ _ upd_same (dts dv zall) ⟨xs ++ [.ref p], ⟨ob, d1, d2, zs _ _ upd_same⟩, (c4.t (SameT.of zall)).app (.cons (zs _ _ (zr _ _ (zq _ _ upd_same))) .nil)⟩ (fun os => .setN nx ⟨h1, h2⟩ hk xp h3) (T4.same zall) (S4.trans (Same.b t zall))
    · have mx : x ∈ nms ps := by
        rw [if_pos rfl, in_strs] at y
        exact of_decide_eq_true (by simpa using y)
      refine ⟨_, rfl, _, rfl, L, rfl, ⟨_, z4.sq⟩, fun D hD => lc_tup (K := K) (a := L) (xs := xs) (fun i H' => (∃ ys, H' D = some (.lst ys) ∧ Cols H' ys ((ps.take i).map fun p => (p.1, if p.1 = x then kd else p.2))) ∧ Same H4 H') ⟨⟨[], upd_same, .nil⟩, Same.upd hD⟩ (fun i H' _ pr => (z4.same pr.2).sq) ?_ ?_⟩
      · rintro i y H5 hi ⟨⟨ys, e5, c5⟩, s5⟩
        obtain ⟨a, z, kk, rfl, ea, ep⟩ := c4.get _ _ hi
        have l5 := c5.len
        rw [List.length_map, List.length_take] at l5
        refine ⟨a, _, rfl, SqT.of (s5 _ _ ea), rfl, _, _, rfl, _, _, rfl, rfl, rfl, ?_⟩
        dsimp only [tYes]
        refine iteT ?_
        change teSet K _ _ _
        refine ⟨_, rfl, _, rfl, _, rfl, two, fun q hq => ⟨_, rfl, _, rfl, rfl, .inr ⟨_, rfl, q, _, _, .str (if z = x then kd else kk), rfl, rfl, SqL.of upd_same, ?_, two, fun p hp => ?_⟩⟩⟩
        · by_cases zx : z = x
          · rw [if_pos zx, show decide (V.str z = V.str x) = true by rw [zx]; exact decide_eq_true rfl]
            rfl
          · rw [if_neg zx, show decide (V.str z = V.str x) = false from decide_eq_false (fun h => zx (by injection h))]
            rfl
        · rw [List.take_add_one, ep, List.map_append]
          exact col_turn hD e5 c5 (by omega) s5 (Same.upd hq) hp
      rintro H5 ⟨⟨ys, e5, c5⟩, s5⟩
      rw [lx, List.take_length] at c5
      refine ⟨D, ys, rfl, SqL.of e5, fun r ob hr d1 d2 => ⟨two, fun s hs => ?_⟩⟩
      have zr := Same.upd (o := .frz ob (.tup ys)) hr
      have zs := Same.upd (o := .tup [v, .ref r]) hs
      have zall := s5.trans (zr.trans zs)
      exact k s v r (.set x e) _ _ upd_same (dts dv zall) ⟨ys, ⟨ob, d1, d2, zs _ _ upd_same⟩, c5.t (SameT.of (zr.trans zs))⟩ (fun os => .setO mx hk xp) (T4.same zall) (S4.trans (Same.b t zall))
end
end
end K78
set_option Elab.async false
set_option linter.all false
set_option maxRecDepth 100000
set_option maxHeartbeats 4000000
namespace K78
open PySem PySem.Spec PyProof.Rows L2 Lc
/-! ## the kinds of columns as a dict -/
def dkc (ps : CsL) : List (Key × V) := ps.map fun p => ((Sum.inr p.1 : Key), V.str p.2)
theorem merge_new : ∀ (more acc : List (Key × V)), ((acc ++ more).map (·.1)).Nodup → mergeK acc more = acc ++ more
  | [], acc, _ => (List.append_nil acc).symm
  | e :: r, acc, h => by
    have hn : (acc.any fun kv => decide (kv.1 = e.1)) = false := by
      rw [List.any_eq_false]
      intro x hx
      rw [List.map_append, List.nodup_append] at h
      have := h.2.2 x.1 (List.mem_map_of_mem hx) e.1 (List.mem_map_of_mem List.mem_cons_self)
      simpa using this
    have e1 : putK acc e.1 e.2 = acc ++ [e] := by
      unfold putK
      rw [hn, if_neg (by decide)]
    show mergeK (putK acc e.1 e.2) r = _
    rw [e1, merge_new r (acc ++ [e]) (by rw [List.append_assoc]; exact h), List.append_assoc]
    rfl
theorem dkc_merge {ps : CsL} (h : (nms ps).Nodup) : mergeK [] (dkc ps) = dkc ps := by
  refine merge_new (dkc ps) [] ?_
  rw [List.nil_append]
  unfold dkc
  rw [List.map_map]
  have e : ((fun x : Key × V => x.1) ∘ fun p : Str × Str => ((Sum.inr p.1 : Key), V.str p.2)) = (Sum.inr : Str → Key) ∘ (fun p : Str × Str => p.1) := rfl
  rw [e, ← List.map_map]
  exact nodup_map h fun a _ b _ q => by injection q
theorem dkc_get (x : Str) : ∀ ps : CsL, valV (dkc ps) (Sum.inr x : Key) = (ps.find? fun p => decide (p.1 = x)).map fun p => .str p.2
  | [] => rfl
  | p :: ps => by
    have ih := dkc_get x ps
    unfold dkc at ih ⊢
    rw [List.map_cons, List.find?_cons]
    by_cases q : p.1 = x
    · rw [valV_pos (by rw [q]), decide_eq_true q]
      rfl
    · rw [valV_neg (fun w => q (by injection w)), decide_eq_false q]
      exact ih
theorem dkc_in {ps : CsL} {x : Str} (h : x ∈ nms ps) : valV (dkc ps) (Sum.inr x : Key) = some (.str (kdOf ps x)) := by
  rw [dkc_get]
  unfold kdOf
  obtain ⟨p, hp, rfl⟩ := List.mem_map.mp h
  cases e : ps.find? fun q => decide (q.1 = p.1) with
  | none => exact absurd (List.find?_eq_none.mp e p hp) (by simp)
  | some q => rfl
theorem dkc_no {ps : CsL} {x : Str} (h : x ∉ nms ps) : valV (dkc ps) (Sum.inr x : Key) = none := by
  rw [dkc_get]
  cases e : ps.find? fun q => decide (q.1 = x) with
  | none => rfl
  | some q =>
    have h1 := List.find?_some e
    have h2 := List.mem_of_find?_eq_some e
    exact absurd (by rw [← show q.1 = x by simpa using h1]; exact List.mem_map_of_mem h2) h
theorem cols_refs {K : PySem.W.Frag} {H : Hp} : ∀ {xs : List V} {ps : CsL}, Cols H xs ps → ∃ as : List Addr, xs = as.map V.ref ∧ Paired (fun (p : Addr) (kv : Key × V) => SqT K H p [kV kv.1, kv.2]) as (dkc ps)
  | _, _, .nil => ⟨[], rfl, .nil⟩
  | _, _, .cons (a := a) e r => by
    obtain ⟨as, h1, h2⟩ := cols_refs (K := K) r
    exact ⟨a :: as, by rw [h1]; rfl, .cons (SqT.of e) h2⟩
abbrev teSel : TE := tTup (tCons (tVar 4) (tCons (tDGet (tVar 7) (tVar 4)) tNil))
abbrev ttRen : TT := tTest (tOp rNe (tVar 4) (tVar 8))
abbrev teRen (K : PySem.W.Frag) : TE := tTup (tCons (tOp (rIxL K) (tLst (tCons (tVar 4) (tCons (tVar 9) tNil))) (tCB rI1 (tCons (tOp rEq (tVar 4) (tVar 8)) tNil))) (tCons (tVar 5) tNil))
theorem strsA {H : Hp} : ∀ (ns : List Str), DhAll H (vS ns) (ns.map PyData.str)
  | [] => .nil
  | z :: ns => .cons (.str _) (strsA ns)
section
variable {P : Program} {w : World} {K : PySem.W.Frag} {mg : Str → Option Value} {base : Heap} {f : Addr} {fd : FuncData}
abbrev sKsp : Stmt := top 87
abbrev nKsp : List Str := ["_law_tape_here", "_law_columns_here", "_law_turn", "_law_names", "_law_name_here", "_law_kind", "_law_chosen", "_law_kinds", "_law_old", "_law_new"]
abbrev pKsp : List Str := ["_law_tape_here", "_law_columns_here"]
theorem scKsp : FnScope nKsp pKsp (defScope sKsp) := ⟨rfl, rfl, rfl, by decide +kernel, rfl, by decide +kernel, by decide +kernel⟩
section
variable {fA_ fB_ fC_ fD_ fE_ fF_ fG_ : Addr} {fdA_ fdB_ fdC_ fdD_ fdE_ fdF_ fdG_ : FuncData}
theorem ok_Ksp (F : Fun K "_law_keeping_step" "_law_keeping_step" sKsp f fd) (T : Bt mg)
    (GA_ : FnOk P w K mg base CX0 1 fA_ fdA_ ["_law_tape_here", "_law_many"] (spDrawL)) (mA_ : mg "_law_draw" = some (.ref fA_)) (kA_ : PySem.W.keepIn K (.ref fA_) = true) (bA_ : Binds K fdA_ ["_law_tape_here", "_law_many"] [])
    (GB_ : FnOk P w K mg base CX0 2 fB_ fdB_ ["_law_tape_here", "_law_items", "_law_many"] (spPk)) (mB_ : mg "_law_pick" = some (.ref fB_)) (kB_ : PySem.W.keepIn K (.ref fB_) = true) (bB_ : Binds K fdB_ ["_law_tape_here", "_law_items", "_law_many"] [])
    (GC_ : FnOk P w K mg base CX0 3 fC_ fdC_ ["_law_tape_here", "_law_taken"] (spFr)) (mC_ : mg "_law_fresh" = some (.ref fC_)) (kC_ : PySem.W.keepIn K (.ref fC_) = true) (bC_ : Binds K fdC_ ["_law_tape_here", "_law_taken"] [])
    (GD_ : FnOk P w K mg base CX0 6 fD_ fdD_ ["_law_tape_here", "_law_columns_here", "_law_kind", "_law_depth"] (spXp 3)) (mD_ : mg "_law_expression" = some (.ref fD_)) (kD_ : PySem.W.keepIn K (.ref fD_) = true) (bD_ : Binds K fdD_ ["_law_tape_here", "_law_columns_here", "_law_kind", "_law_depth"] [])
    (GE_ : FnOk P w K mg base CX0 2 fE_ fdE_ ["_law_tape_here"] (spSmp)) (mE_ : mg "_law_sample_step" = some (.ref fE_)) (kE_ : PySem.W.keepIn K (.ref fE_) = true) (bE_ : Binds K fdE_ ["_law_tape_here"] [])
    (GF_ : FnOk P w K mg base CX0 2 fF_ fdF_ ["_law_tape_here", "_law_columns_here"] (spSrt)) (mF_ : mg "_law_sort_step" = some (.ref fF_)) (kF_ : PySem.W.keepIn K (.ref fF_) = true) (bF_ : Binds K fdF_ ["_law_tape_here", "_law_columns_here"] [])
    (GG_ : FnOk P w K mg base CX0 7 fG_ fdG_ ["_law_tape_here", "_law_columns_here"] (spKs)) (mG_ : mg "_law_set_step" = some (.ref fG_)) (kG_ : PySem.W.keepIn K (.ref fG_) = true) (bG_ : Binds K fdG_ ["_law_tape_here", "_law_columns_here"] []) : FnOk P w K mg base CX0 8 f fd pKsp (spKs) := by
  refine F.ok scKsp (fun vs H Q E h => ?_) (fun cdv A outer s H vs Q E hr h => ?_)
  · obtain ⟨t, c, L, ps, rfl, _⟩ := h
    rfl
  · obtain ⟨t, c, L, ps, rfl, hT, hL, cp, k⟩ := h
    have hrA_ : Room (1) _ := hr.mono (by first | decide | omega)
    have hrB_ : Room (2) _ := hr.mono (by first | decide | omega)
    have hrC_ : Room (3) _ := hr.mono (by first | decide | omega)
    have hrD_ : Room (6) _ := hr.mono (by first | decide | omega)
    have hrE_ : Room (2) _ := hr.mono (by first | decide | omega)
    have hrF_ : Room (2) _ := hr.mono (by first | decide | omega)
    have hrG_ : Room (7) _ := hr.mono (by first | decide | omega)
    refine ⟨_, (pss_cons (ps_set (i := 2) scKsp.nd rfl (Or.inl rfl) (pe_call GA_ hrA_ (by rfl) mA_ kA_ bA_ .nil pass0 (pa_cons (pv 0) (pa_cons pe_int pa_nil))))
      (Evl.pss_cut (ps_setLc (i := 3) (own := [("_law_name_here", 4), ("_law_kind", 5)]) (g := (gTup K 2 (gCons (gName 4) (gCons (gName 5) gNil)))) (tt := tYes) (te := tVar 4) (by rfl) scKsp.nd rfl rfl (sw_true rfl rfl rfl (by decide +kernel)) (pi_tup (pv 1)) (blkOk_by (own := [("_law_name_here", 4), ("_law_kind", 5)]) (N := nKsp) (sc := defScope sKsp) (by decide +kernel)) (fun _ _ _ _ _ => (pg_tup rfl (pgs_cons (pg_name (i := 4) scKsp.nd rfl (.inl rfl)) (pgs_cons (pg_name (i := 5) scKsp.nd rfl (.inl rfl)) pgs_nil)))) (fun _ _ _ _ _ => pts_nil) (fun _ _ _ _ _ => (pv 4)))
      (pss_cons (ps_if (pt_cmpR op_eq (pv 2) pe_int (nomark _)) (pss_one (ps_ret (pe_tup (pa_cons (pe_call GE_ hrE_ (by rfl) mE_ kE_ bE_ .nil pass0 (pa_cons (pv 0) pa_nil)) (pa_cons (pv 1) pa_nil))))) pss_nil)
      (pss_cons (ps_if (pt_cmpR op_eq (pv 2) pe_int (nomark _)) (pss_one (ps_ret (pe_tup (pa_cons (pe_call GF_ hrF_ (by rfl) mF_ kF_ bF_ .nil pass0 (pa_cons (pv 0) (pa_cons (pv 1) pa_nil))) (pa_cons (pv 1) pa_nil))))) pss_nil)
      (pss_cons (ps_if (pt_cmpR op_eq (pv 2) pe_int (nomark _)) (pss_cons (ps_set (i := 6) scKsp.nd rfl (Or.inl rfl) (pe_call GB_ hrB_ (by rfl) mB_ kB_ bB_ .nil pass0 (pa_cons (pv 0) (pa_cons (pv 3) (pa_cons pe_int pa_nil)))))
      (pss_cons (ps_set (i := 7) scKsp.nd rfl (Or.inr rfl) (pe_callTy (call_dictZ rfl) (by rfl) T.dict boot_dict (pa_cons (pv 1) pa_nil)))
      (pss_one (ps_ret (pe_tup (pa_cons (pe_tup (pa_cons pe_str (pa_cons (pe_callTy call_tuple_of (by rfl) T.tuple boot_tuple (pa_cons (pv 6) pa_nil)) pa_nil))) (pa_cons (pe_callTy call_tupleZ (by rfl) T.tuple boot_tuple (pa_cons (pe_lc (own := [("_law_name_here", 4)]) (g := (gName 4)) (tt := tYes) (te := teSel) (by rfl) scKsp.nd (pi_list (pv 6)) (blkOk_by (own := [("_law_name_here", 4)]) (N := nKsp) (sc := defScope sKsp) (by decide +kernel)) (fun _ _ _ _ _ => (pg_name (i := 4) scKsp.nd rfl (.inl rfl))) (fun _ _ _ _ _ => pts_nil) (fun _ _ _ _ _ => (pe_tup (pa_cons (pv 4) (pa_cons (pe_dget (hu_of hr) (pv 7) (pv 4) (fun _ _ => rfl)) pa_nil))))) pa_nil)) pa_nil))))))) pss_nil)
      (pss_cons (ps_if (pt_cmpR op_eq (pv 2) pe_int (nomark _)) (pss_cons (ps_set (i := 8) scKsp.nd rfl (Or.inr rfl) (pe_ix ix_list (pv 3) (pe_call GA_ hrA_ (by rfl) mA_ kA_ bA_ .nil pass0 (pa_cons (pv 0) (pa_cons (pe_callB call_len_seq (by rfl) T.len PySem.boot_len (pa_cons (pv 3) pa_nil)) pa_nil))) (fun _ _ => rfl)))
      (pss_cons (ps_set (i := 9) scKsp.nd rfl (Or.inr rfl) (pe_call GC_ hrC_ (by rfl) mC_ kC_ bC_ .nil pass0 (pa_cons (pv 0) (pa_cons (pe_lc (own := [("_law_name_here", 4)]) (g := (gName 4)) (tt := ttRen) (te := tVar 4) (by rfl) scKsp.nd (pi_list (pv 3)) (blkOk_by (own := [("_law_name_here", 4)]) (N := nKsp) (sc := defScope sKsp) (by decide +kernel)) (fun _ _ _ _ _ => (pg_name (i := 4) scKsp.nd rfl (.inl rfl))) (fun _ _ _ _ _ => (pts_one (pt_cmpR op_ne (pv 4) (pv 8) (nomark _)))) (fun _ _ _ _ _ => (pv 4))) pa_nil))))
      (pss_one (ps_ret (pe_tup (pa_cons (pe_tup (pa_cons pe_str (pa_cons (pv 8) (pa_cons (pv 9) pa_nil)))) (pa_cons (pe_callTy call_tupleZ (by rfl) T.tuple boot_tuple (pa_cons (pe_lc (own := [("_law_name_here", 4), ("_law_kind", 5)]) (g := (gTup K 2 (gCons (gName 4) (gCons (gName 5) gNil)))) (tt := tYes) (te := teRen K) (by rfl) scKsp.nd (pi_tup (pv 1)) (blkOk_by (own := [("_law_name_here", 4), ("_law_kind", 5)]) (N := nKsp) (sc := defScope sKsp) (by decide +kernel)) (fun _ _ _ _ _ => (pg_tup rfl (pgs_cons (pg_name (i := 4) scKsp.nd rfl (.inl rfl)) (pgs_cons (pg_name (i := 5) scKsp.nd rfl (.inl rfl)) pgs_nil)))) (fun _ _ _ _ _ => pts_nil) (fun _ _ _ _ _ => (pe_tup (pa_cons (pe_ix ix_list (pe_lst (pa_cons (pv 4) (pa_cons (pv 9) pa_nil))) (pe_callTy call_int1 (by rfl) T.int boot_int (pa_cons (pe_cmpR op_eq (pv 4) (pv 8) (nomark _)) pa_nil)) (fun _ _ => rfl)) (pa_cons (pv 5) pa_nil))))) pa_nil)) pa_nil))))))) pss_nil)
      (pss_cons (ps_if (pt_cmpR op_eq (pv 2) pe_int (nomark _)) (pss_one (ps_ret (pe_call GG_ hrG_ (by rfl) mG_ kG_ bG_ .nil pass0 (pa_cons (pv 0) (pa_cons (pv 1) pa_nil))))) pss_nil)
      (pss_one (ps_ret (pe_tup (pa_cons (pe_tup (pa_cons pe_str (pa_cons (pe_call GD_ hrD_ (by rfl) mD_ kD_ bD_ .nil pass0 (pa_cons (pv 0) (pa_cons (pv 1) (pa_cons pe_str (pa_cons pe_int pa_nil))))) pa_nil))) (pa_cons (pv 1) pa_nil)))))))))))), ?_⟩
    have two : 2 ≤ sizeLine := by decide
    have one : 1 ≤ sizeLine := by decide
    have three : 3 ≤ sizeLine := by decide
    have four : 4 ≤ sizeLine := by decide
    obtain ⟨xs, zL, cc⟩ := hL
    have l8 := cp.l8
    have l1 := cp.l1
    have lx := cc.len
    have lnm : (nms ps).length = ps.length := List.length_map _
    have ln : (vS (nms ps)).length = ps.length := by rw [List.length_map, lnm]
    refine ⟨_, rfl, t, c, _, rfl, hT, by decide, big1000 (by decide) (by decide), fun u H0 u0 u7 T0 S0 => ?_⟩
    have z0 := zL.b hT.tape S0
    have c0 := cc.b hT.tape S0
    refine ⟨fun σ H' => ∃ W : Addr, σ = [some (.ref t), some (.ref L), some (.int u), some (.ref W), none, none, none, none, none, none] ∧ H' W = some (.lst (vS (nms ps))) ∧ W ≠ t ∧ TapeL c H' t ∧ SameB t H H', ?_, ?_⟩
    · refine ⟨_, rfl, L, rfl, ⟨_, z0.sq⟩, fun W hW => lc_tup (K := K) (a := L) (xs := xs) (fun i H' => H' W = some (.lst (vS ((nms ps).take i))) ∧ Same H0 H') ⟨upd_same, Same.upd hW⟩ (fun i H' _ pr => (z0.same pr.2).sq) ?_ ?_⟩
      · rintro i x H1 hx ⟨hW1, s1⟩
        obtain ⟨a, z, kk, rfl, ea, ep⟩ := c0.get _ _ hx
        refine ⟨a, _, rfl, SqT.of (s1 _ _ ea), rfl, _, _, rfl, _, _, rfl, rfl, rfl, ?_⟩
        dsimp only [tYes]
        exact iteT ⟨_, rfl, nm_turn hW hW1 ep cp.l8 s1⟩
      rintro H1 ⟨hW1, s1⟩
      rw [show xs.length = (nms ps).length by rw [c0.len, List.length_map], List.take_length] at hW1
      exact ⟨W, rfl, hW1, T0.tape.ne hW, T0.same s1, S0.trans (Same.b t s1)⟩
    clear z0 c0 T0 S0
    rintro σ H1 ⟨W, rfl, hW1, nW, T1, S1⟩
    have z1 := zL.b hT.tape S1
    have c1 := cc.b hT.tape S1
    have fin : ∀ {H' : Hp} {v : V} {p : Ps}, DhT t H' v p.d → (∀ os, Lead os ps p ps) → TapeL c H' t → SameB t H H' → ∀ r, H' r = none → Q (.ref r) (upd H' r (.tup [v, .ref L])) := fun {H' v p} dv ld T' S' r hr => by
      have zr := Same.upd (o := .tup [v, .ref L]) hr
      exact k r v L p ps _ upd_same (dts dv zr) ⟨xs, (zL.b hT.tape S').same zr, (cc.b hT.tape S').t (SameT.of zr)⟩ ld (T'.same zr) (S'.trans (Same.b t zr))
    refine ⟨_, rfl, rfl, _, rfl, ite2 (fun _ => ?_) (fun _ => ?_)⟩
    · exact ⟨_, rfl, t, c, rfl, T1, fun v n w s H2 h1 h2 h3 h4 dv T2 S2 => ⟨_, rfl, two, fun r hr => fin dv (fun os => .sample h1 h2 h3 h4) T2 (S1.trans S2) r hr⟩⟩
    refine ⟨_, rfl, rfl, _, rfl, ite2 (fun _ => ?_) (fun _ => ?_)⟩
    · exact ⟨_, rfl, _, rfl, t, c, L, ps, rfl, T1, ⟨xs, z1, c1⟩, cp, fun v a u H2 ha dv T2 S2 => ⟨_, rfl, two, fun r hr => fin dv (fun os => .sort ha) T2 (S1.trans S2) r hr⟩⟩
    refine ⟨_, rfl, rfl, _, rfl, ite2 (fun _ => ?_) (fun _ => ?_)⟩
    · refine ⟨_, rfl, _, rfl, t, c, W, nms ps, _, rfl, T1, hW1, cp.nd, by omega, by decide, by decide, fun G gs H2 eG gG gin gnd gne gl T2 S2 => ?_⟩
      have S02 := S1.trans S2
      have z2 := zL.b hT.tape S02
      have c2 := cc.b hT.tape S02
      obtain ⟨as, ex, pr⟩ := cols_refs (K := K) c2
      rw [ex] at z2
      refine ⟨_, rfl, L, as, dkc ps, rfl, z2, pr, fun d hd => ?_⟩
      rw [dkc_merge cp.nd]
      have zd := Same.upd (o := .dK (dkc ps)) hd
      have ed : upd H2 d (.dK (dkc ps)) d = some (.dK (dkc ps)) := upd_same
      have eG3 := zd _ _ eG
      have T3 := T2.same zd
      have S03 := S02.trans (Same.b t zd)
      generalize upd H2 d (.dK (dkc ps)) = H3 at ed eG3 T3 S03 ⊢
      refine ⟨_, rfl, G, _, rfl, .inl ⟨SqL.of eG3, fun p hp => ⟨two, fun q hq => ?_⟩⟩⟩
      have zp := Same.upd (o := .tup (vS gs)) hp
      have zq := Same.upd (o := .tup [.str "select", .ref p]) hq
      have zpq := zp.trans zq
      have dv : DhT t (upd (upd H3 p (.tup (vS gs))) q (.tup [.str "select", .ref p])) (.ref q) (Ps.d (.select gs)) := dh_tupT (T3.same zp).tape (.cons (.str _) (.cons (.tup (dl_at (T3.tape.ne hp) upd_same) (strsA gs)) .nil)) hq
      have T4 := T3.same zpq
      have S04 := S03.trans (Same.b t zpq)
      have ed4 := zpq _ _ ed
      have eG4 := zpq _ _ eG3
      generalize upd (upd H3 p (.tup (vS gs))) q (.tup [.str "select", .ref p]) = H4 at dv T4 S04 ed4 eG4 ⊢
      refine ⟨_, rfl, G, rfl, ⟨_, SqL.of eG4⟩, fun D hD => lc_list (K := K) (a := G) (xs := vS gs) (fun i H' => (∃ ys, H' D = some (.lst ys) ∧ Cols H' ys ((gs.take i).map fun n => (n, kdOf ps n))) ∧ Same H4 H') ⟨⟨[], upd_same, .nil⟩, Same.upd hD⟩ (fun i H' _ pr => SqL.of (pr.2 _ _ eG4)) ?_ ?_⟩
      · rintro i y H5 hi ⟨⟨ys, e5, c5⟩, s5⟩
        rw [List.getElem?_map] at hi
        obtain ⟨g, eg, rfl⟩ := Option.map_eq_some_iff.mp hi
        have l5 := c5.len
        rw [List.length_map, List.length_take] at l5
        have hg := gin g (List.mem_of_getElem? eg)
        have q := DGet.k (k := (Sum.inr g : Key)) (s5 _ _ ed4)
        rw [dkc_in hg] at q
        refine ⟨rfl, ?_⟩
        dsimp only [tYes]
        refine iteT ?_
        change teSel _ _ _
        refine ⟨_, rfl, _, rfl, _, rfl, d, _, rfl, q, two, fun p hp => ?_⟩
        rw [List.take_add_one, eg, List.map_append]
        exact col_turn hD e5 c5 (by omega) s5 (Same.refl _) hp
      rintro H5 ⟨⟨ys, e5, c5⟩, s5⟩
      rw [List.length_map, List.take_length] at c5
      refine ⟨D, ys, rfl, SqL.of e5, fun r ob hr d1 d2 => ⟨two, fun s hs => ?_⟩⟩
      have zr := Same.upd (o := .frz ob (.tup ys)) hr
      have zs := Same.upd (o := .tup [.ref q, .ref r]) hs
      have zall := s5.trans (zr.trans zs)
      have g1 : 1 ≤ gs.length := List.length_pos_iff.mpr (gne (fun e => by rw [e] at lnm; change 0 = _ at lnm; omega))
      exact k s (.ref q) r (.select gs) _ _ upd_same (dts dv zall) ⟨ys, ⟨ob, d1, d2, zs _ _ upd_same⟩, c5.t (SameT.of (zr.trans zs))⟩ (fun os => .select gin gnd g1 (by omega)) (T4.same zall) (S04.trans (Same.b t zall))
    refine ⟨_, rfl, rfl, _, rfl, ite2 (fun _ => ?_) (fun _ => ?_)⟩
    · refine ⟨_, rfl, _, rfl, _, rfl, W, _, rfl, .inl (SqL.of hW1), t, c, _, rfl, T1, by rw [ln]; omega, big1000 (by omega) (by rw [ln]; omega), fun j H2 j0 j1 T2 S2 => ?_⟩
      rw [ln] at j1
      obtain ⟨old, eo⟩ : ∃ z, (nms ps)[j.toNat]? = some z := ⟨_, List.getElem?_eq_getElem (by omega)⟩
      have hW2 := S2 _ _ nW hW1
      have om := List.mem_of_getElem? eo
      refine ⟨W, _, _, .str old, rfl, rfl, SqL.of hW2, at_of (j := j.toNat) (by omega) (by rw [List.getElem?_map, eo]; rfl), ?_⟩
      refine ⟨_, rfl, _, rfl, W, rfl, ⟨_, SqL.of hW2⟩, fun D hD => lc_list (K := K) (a := W) (xs := vS (nms ps)) (fun i H' => (∃ ss : List Str, H' D = some (.lst (vS ss)) ∧ ss.length ≤ i ∧ ∀ n ∈ (nms ps).take i, n ≠ old → n ∈ ss) ∧ Same H2 H') ⟨⟨[], upd_same, Nat.le_refl _, fun n hn => by simp at hn⟩, Same.upd hD⟩ (fun i H' _ pr => SqL.of (pr.2 _ _ hW2)) ?_ ?_⟩
      · rintro i y H5 hi ⟨⟨ss, e5, l5, c5⟩, s5⟩
        rw [List.getElem?_map] at hi
        obtain ⟨g, eg, rfl⟩ := Option.map_eq_some_iff.mp hi
        have ig : i < ps.length := by have := (List.getElem?_eq_some_iff.mp eg).1; omega
        refine ⟨rfl, ?_⟩
        change ttRen _ _ _
        refine ⟨_, rfl, _, rfl, rfl, _, rfl, ?_⟩
        by_cases zx : g = old
        · rw [show decide (V.str g = V.str old) = true by rw [zx]; exact decide_eq_true rfl]
          refine iteF ⟨⟨ss, e5, by omega, fun n hn ne => ?_⟩, s5⟩
          rw [List.take_add_one, eg] at hn
          rcases List.mem_append.mp hn with hn | hn
          · exact c5 n hn ne
          · rw [Option.toList_some, List.mem_singleton] at hn
            exact absurd (hn.trans zx) ne
        · rw [show decide (V.str g = V.str old) = false from decide_eq_false (fun h => zx (by injection h))]
          refine iteT ⟨_, rfl, _, e5, by rw [List.length_map]; exact lt_size (by omega), ⟨ss ++ [g], by rw [upd_same]; unfold vS; rw [List.map_append]; rfl, by rw [List.length_append]; show _ + 1 ≤ _; omega, fun n hn ne => ?_⟩, fun b o e => by rw [upd_ne (ne_of_none e hD)]; exact s5 b o e⟩
          rw [List.take_add_one, eg] at hn
          rcases List.mem_append.mp hn with hn | hn
          · exact List.mem_append_left _ (c5 n hn ne)
          · rw [Option.toList_some, List.mem_singleton] at hn
            rw [hn]
            exact List.mem_append_right _ List.mem_cons_self
      rintro H3 ⟨⟨ss, e3, l3, c3⟩, s3⟩
      rw [ln] at l3
      rw [ln, ← lnm, List.take_length] at c3
      refine ⟨t, c, D, ss, rfl, T2.same s3, e3, by omega, fun new H4 hx nx fz T4 S4 => ?_⟩
      have S04 := (S1.trans S2).trans ((Same.b t s3).trans S4)
      have z4 := zL.b hT.tape S04
      have c4 := cc.b hT.tape S04
      refine ⟨_, rfl, _, rfl, three, fun q hq => ?_⟩
      have zq := Same.upd (o := .tup [.str "rename", .str old, .str new]) hq
      have dv : DhT t (upd H4 q (.tup [.str "rename", .str old, .str new])) (.ref q) (Ps.d (.rename old new)) := dh_tupT T4.tape (.cons (.str _) (.cons (.str _) (.cons (.str _) .nil))) hq
      have T5 := T4.same zq
      have S05 := S04.trans (Same.b t zq)
      have z5 := z4.same zq
      have c5 := c4.t (SameT.of zq)
      generalize upd H4 q (.tup [.str "rename", .str old, .str new]) = H5 at dv T5 S05 z5 c5 ⊢
      refine ⟨_, rfl, L, rfl, ⟨_, z5.sq⟩, fun D hD => lc_tup (K := K) (a := L) (xs := xs) (fun i H' => (∃ ys, H' D = some (.lst ys) ∧ Cols H' ys ((ps.take i).map fun p => (if p.1 = old then new else p.1, p.2))) ∧ Same H5 H') ⟨⟨[], upd_same, .nil⟩, Same.upd hD⟩ (fun i H' _ pr => (z5.same pr.2).sq) ?_ ?_⟩
      · rintro i y H6 hi ⟨⟨ys, e6, c6⟩, s6⟩
        obtain ⟨a, z, kk, rfl, ea, ep⟩ := c5.get _ _ hi
        have l6 := c6.len
        rw [List.length_map, List.length_take] at l6
        refine ⟨a, _, rfl, SqT.of (s6 _ _ ea), rfl, _, _, rfl, _, _, rfl, rfl, rfl, ?_⟩
        dsimp only [tYes]
        refine iteT ?_
        change teRen K _ _ _
        refine ⟨_, rfl, _, rfl, two, fun q hq => ⟨_, rfl, _, rfl, rfl, .inr ⟨_, rfl, q, _, _, .str (if z = old then new else z), rfl, rfl, SqL.of upd_same, ?_, _, rfl, two, fun p hp => ?_⟩⟩⟩
        · by_cases zx : z = old
          · rw [if_pos zx, show decide (V.str z = V.str old) = true by rw [zx]; exact decide_eq_true rfl]
            rfl
          · rw [if_neg zx, show decide (V.str z = V.str old) = false from decide_eq_false (fun h => zx (by injection h))]
            rfl
        · rw [List.take_add_one, ep, List.map_append]
          exact col_turn hD e6 c6 (by omega) s6 (Same.upd hq) hp
      rintro H6 ⟨⟨ys, e6, c6⟩, s6⟩
      rw [lx, List.take_length] at c6
      refine ⟨D, ys, rfl, SqL.of e6, fun r ob hr d1 d2 => ⟨two, fun s hs => ?_⟩⟩
      have zr := Same.upd (o := .frz ob (.tup ys)) hr
      have zs := Same.upd (o := .tup [.ref q, .ref r]) hs
      have zall := s6.trans (zr.trans zs)
      exact k s (.ref q) r (.rename old new) _ _ upd_same (dts dv zall) ⟨ys, ⟨ob, d1, d2, zs _ _ upd_same⟩, c6.t (SameT.of (zr.trans zs))⟩ (fun os => .rename om ⟨hx, nx⟩ fun n hn ne e => fz (by rw [e]; exact c3 n hn ne)) (T5.same zall) (S05.trans (Same.b t zall))
    refine ⟨_, rfl, rfl, _, rfl, ite2 (fun _ => ?_) (fun _ => ?_)⟩
    · exact ⟨_, rfl, _, rfl, t, c, L, ps, rfl, T1, ⟨xs, z1, c1⟩, cp, fun r v C p qs H2 e1 dv ca ld T2 S2 => k r v C p qs H2 e1 dv ca ld T2 (S1.trans S2)⟩
    refine ⟨_, rfl, _, rfl, t, c, L, _, xs, ps, rfl, .inr (.inr rfl), T1, z1.rd, c1, l8, fun v e H2 df xp T2 S2 => ⟨two, fun q hq => ⟨_, rfl, two, fun r hr => ?_⟩⟩⟩
    have zq := Same.upd (o := .tup [.str "keep", v]) hq
    exact fin (p := .keep e) (dh_tupT T2.tape (.cons (.str _) (.cons (DhF.t T1.tape df) .nil)) hq) (fun os => .keep xp) (T2.same zq) ((S1.trans S2).trans (Same.b t zq)) r hr
end
end
end K78
set_option Elab.async false
set_option linter.all false
set_option maxRecDepth 100000
set_option maxHeartbeats 4000000
namespace K78
open PySem PySem.Spec PyProof.Rows L2 Lc
/-! ## steps that leave the columns as they are; chooses; groups -/
def SamP (ps : CsL) (p : Ps) : Prop := (∀ os, Lead os ps p ps) ∧ p.more = []
def spSas : Sp := fun vs H Q _ => ∃ (t c L : Addr) (ps : CsL), vs = [.ref t, .ref L] ∧ TapeL c H t ∧ CA H L ps ∧ ColP ps ∧ ∀ (v : V) (p : Ps) (H' : Hp), DhT t H' v p.d → SamP ps p → TapeL c H' t → SameB t H H' → Q v H'
def spChs : Sp := fun vs H Q _ => ∃ (t c L : Addr) (ps : CsL) (lb : Str) (many : Int), vs = [.ref t, .ref L, .str lb, .int many] ∧ TapeL c H t ∧ CA H L ps ∧ ColP ps ∧ 1 ≤ many ∧ many ≤ 4 ∧ ∀ (v : V) (as : List (List Ps)) (H' : Hp), DhT t H' v (Stp.d (.ch lb as)) → (as.length : Int) = many → (∀ a ∈ as, a.length ≤ 2 ∧ ∀ p ∈ a, SamP ps p) → TapeL c H' t → SameB t H H' → Q v H'
abbrev teChs : TE := tCall spSas [] E0 (tCons (tVar 0) (tCons (tVar 1) tNil))
abbrev teGr : TE := tTup (tCons (tVar 4) (tCons (tDGet (tVar 2) (tVar 4)) tNil))
abbrev teGt (K : PySem.W.Frag) : TE := tTup (tCons (tOp (rIxT K) (tVar 11) (tC (.int 0))) (tCons (tC (.str "number")) tNil))
theorem noL_strT (ns : List Str) : noL (strT ns) = true := by
  unfold strT
  rw [noL]
  refine noLs_all.mpr fun d hd => ?_
  obtain ⟨w, _, rfl⟩ := List.mem_map.mp hd
  rfl
theorem Ps.Ok.noL {p : Ps} (h : p.Ok) : Lc.noL p.d = true := by
  cases p with
  | keep e => show Lc.noL (.tuple [_, e]) = true; rw [Lc.noL, noLs, noLs, noLs, Xf.noL (show Xf 8 e from h)]; rfl
  | set x e => show Lc.noL (.tuple [_, _, e]) = true; rw [Lc.noL, noLs, noLs, noLs, noLs, Xf.noL h.2]; rfl
  | select ns => show Lc.noL (.tuple [_, strT ns]) = true; rw [Lc.noL, noLs, noLs, noLs, noL_strT]; rfl
  | join t ks => show Lc.noL (.tuple [_, _, strT ks]) = true; rw [Lc.noL, noLs, noLs, noLs, noLs, noL_strT]; rfl
  | group ks ts =>
    show Lc.noL (.tuple [_, strT ks, .tuple (ts.map totS3)]) = true
    have : noLs (ts.map totS3) = true := noLs_all.mpr fun d hd => by
      obtain ⟨w, _, rfl⟩ := List.mem_map.mp hd
      rfl
    rw [Lc.noL, noLs, noLs, noLs, noLs, noL_strT, Lc.noL, this]
    rfl
  | _ => rfl
theorem SamP.ok {ps : CsL} {p : Ps} (h : SamP ps p) (c : ColP ps) : p.Ok ∧ p.Sm 3 := by
  have := (h.1 []).go c nofun
  exact ⟨this.1, this.2.1⟩
theorem noLs_ps {a : List Ps} (h : ∀ p ∈ a, p.Ok) : noLs (a.map Ps.d) = true := noLs_all.mpr fun d hd => by
  obtain ⟨p, hp, rfl⟩ := List.mem_map.mp hd
  exact (h p hp).noL
theorem dl_sameT {t : Addr} {H H' : Hp} (s : SameT H H') : SameT (dl t H) (dl t H') := fun b xs e => dl_at (dl_of e).1 (s b xs (dl_of e).2)
theorem at_last {xs : List V} {x : V} : atI (xs ++ [x]) (-1) = some x := by
  unfold atI
  have hl : (xs ++ [x]).length = xs.length + 1 := by rw [List.length_append]; rfl
  rw [show ixN (xs ++ [x]).length (-1) = some xs.length from by
    unfold ixN
    rw [hl, if_neg (by decide), if_pos (by omega)]
    exact congrArg some (by omega)]
  simp
theorem upd_keep {H H1 : Hp} {D : Addr} {o : HO} (hD : H D = none) (s : ∀ b o, H b = some o → H1 b = some o) : ∀ b u, H b = some u → upd H1 D o b = some u := fun b u e => by rw [upd_ne (ne_of_none e hD)]; exact s b u e
theorem updB {t : Addr} {H H1 : Hp} {D : Addr} {o : HO} (hD : H D = none) (s : SameB t H H1) : SameB t H (upd H1 D o) := fun b u n e => by rw [upd_ne (ne_of_none e hD)]; exact s b u n e
section
variable {P : Program} {w : World} {K : PySem.W.Frag} {mg : Str → Option Value} {base : Heap} {f : Addr} {fd : FuncData}
abbrev sSas : Stmt := top 90
abbrev nSas : List Str := ["_law_tape_here", "_law_columns_here", "_law_turn"]
abbrev pSas : List Str := ["_law_tape_here", "_law_columns_here"]
theorem scSas : FnScope nSas pSas (defScope sSas) := ⟨rfl, rfl, rfl, by decide +kernel, rfl, by decide +kernel, by decide +kernel⟩
section
variable {fA_ fB_ fC_ fD_ : Addr} {fdA_ fdB_ fdC_ fdD_ : FuncData}
theorem ok_Sas (F : Fun K "_law_same_step" "_law_same_step" sSas f fd) (T : Bt mg)
    (GA_ : FnOk P w K mg base CX0 1 fA_ fdA_ ["_law_tape_here", "_law_many"] (spDrawL)) (mA_ : mg "_law_draw" = some (.ref fA_)) (kA_ : PySem.W.keepIn K (.ref fA_) = true) (bA_ : Binds K fdA_ ["_law_tape_here", "_law_many"] [])
    (GB_ : FnOk P w K mg base CX0 6 fB_ fdB_ ["_law_tape_here", "_law_columns_here", "_law_kind", "_law_depth"] (spXp 3)) (mB_ : mg "_law_expression" = some (.ref fB_)) (kB_ : PySem.W.keepIn K (.ref fB_) = true) (bB_ : Binds K fdB_ ["_law_tape_here", "_law_columns_here", "_law_kind", "_law_depth"] [])
    (GC_ : FnOk P w K mg base CX0 2 fC_ fdC_ ["_law_tape_here"] (spSmp)) (mC_ : mg "_law_sample_step" = some (.ref fC_)) (kC_ : PySem.W.keepIn K (.ref fC_) = true) (bC_ : Binds K fdC_ ["_law_tape_here"] [])
    (GD_ : FnOk P w K mg base CX0 2 fD_ fdD_ ["_law_tape_here", "_law_columns_here"] (spSrt)) (mD_ : mg "_law_sort_step" = some (.ref fD_)) (kD_ : PySem.W.keepIn K (.ref fD_) = true) (bD_ : Binds K fdD_ ["_law_tape_here", "_law_columns_here"] []) : FnOk P w K mg base CX0 7 f fd pSas (spSas) := by
  refine F.ok scSas (fun vs H Q E h => ?_) (fun cdv A outer s H vs Q E hr h => ?_)
  · obtain ⟨t, c, L, ps, rfl, _⟩ := h
    rfl
  · obtain ⟨t, c, L, ps, rfl, hT, hL, cp, k⟩ := h
    have hrA_ : Room (1) _ := hr.mono (by first | decide | omega)
    have hrB_ : Room (6) _ := hr.mono (by first | decide | omega)
    have hrC_ : Room (2) _ := hr.mono (by first | decide | omega)
    have hrD_ : Room (2) _ := hr.mono (by first | decide | omega)
    refine ⟨_, (pss_cons (ps_set (i := 2) scSas.nd rfl (Or.inl rfl) (pe_call GA_ hrA_ (by rfl) mA_ kA_ bA_ .nil pass0 (pa_cons (pv 0) (pa_cons pe_int pa_nil))))
      (pss_cons (ps_if (pt_cmpR op_eq (pv 2) pe_int (nomark _)) (pss_one (ps_ret (pe_call GC_ hrC_ (by rfl) mC_ kC_ bC_ .nil pass0 (pa_cons (pv 0) pa_nil)))) pss_nil)
      (pss_cons (ps_if (pt_cmpR op_eq (pv 2) pe_int (nomark _)) (pss_one (ps_ret (pe_call GD_ hrD_ (by rfl) mD_ kD_ bD_ .nil pass0 (pa_cons (pv 0) (pa_cons (pv 1) pa_nil))))) pss_nil)
      (pss_cons (ps_if (pt_cmpR op_eq (pv 2) pe_int (nomark _)) (pss_one (ps_ret (pe_tup (pa_cons pe_str (pa_cons (pe_call GA_ hrA_ (by rfl) mA_ kA_ bA_ .nil pass0 (pa_cons (pv 0) (pa_cons pe_int pa_nil))) pa_nil))))) pss_nil)
      (pss_cons (ps_if (pt_cmpR op_eq (pv 2) pe_int (nomark _)) (pss_one (ps_ret (pe_tup (pa_cons pe_str pa_nil)))) pss_nil)
      (pss_one (ps_ret (pe_tup (pa_cons pe_str (pa_cons (pe_call GB_ hrB_ (by rfl) mB_ kB_ bB_ .nil pass0 (pa_cons (pv 0) (pa_cons (pv 1) (pa_cons pe_str (pa_cons pe_int pa_nil))))) pa_nil)))))))))), ?_⟩
    have two : 2 ≤ sizeLine := by decide
    have one : 1 ≤ sizeLine := by decide
    have three : 3 ≤ sizeLine := by decide
    have four : 4 ≤ sizeLine := by decide
    obtain ⟨xs, zL, cc⟩ := hL
    refine ⟨_, rfl, t, c, _, rfl, hT, by decide, big1000 (by decide) (by decide), fun u H1 u0 u5 T1 S1 => ?_⟩
    have z1 := zL.b hT.tape S1
    have c1 := cc.b hT.tape S1
    refine ⟨_, rfl, rfl, _, rfl, ite2 (fun _ => ?_) (fun _ => ?_)⟩
    · exact ⟨_, rfl, t, c, rfl, T1, fun v n w s H2 h1 h2 h3 h4 dv T2 S2 => k v (.sample n w s) H2 dv ⟨fun os => .sample h1 h2 h3 h4, rfl⟩ T2 (S1.trans S2)⟩
    refine ⟨_, rfl, rfl, _, rfl, ite2 (fun _ => ?_) (fun _ => ?_)⟩
    · exact ⟨_, rfl, _, rfl, t, c, L, ps, rfl, T1, ⟨xs, z1, c1⟩, cp, fun v a u H2 ha dv T2 S2 => k v (.sort a u) H2 dv ⟨fun os => .sort ha, rfl⟩ T2 (S1.trans S2)⟩
    refine ⟨_, rfl, rfl, _, rfl, ite2 (fun _ => ?_) (fun _ => ?_)⟩
    · refine ⟨_, rfl, t, c, _, rfl, T1, by decide, big1000 (by decide) (by decide), fun n H2 n0 n7 T2 S2 => ⟨two, fun r hr => ?_⟩⟩
      obtain ⟨n, rfl⟩ : ∃ m : Nat, n = m := ⟨n.toNat, by omega⟩
      exact k _ (.first n) _ (dh_tupT T2.tape (.cons (.str _) (.cons (.int _) .nil)) hr) ⟨fun os => .first (by omega), rfl⟩ (T2.same (Same.upd hr)) ((S1.trans S2).trans (Same.b t (Same.upd hr)))
    refine ⟨_, rfl, rfl, _, rfl, ite2 (fun _ => ?_) (fun _ => ?_)⟩
    · exact ⟨one, fun r hr => k _ .distinct _ (dh_tupT T1.tape (.cons (.str _) .nil) hr) ⟨fun os => .distinct, rfl⟩ (T1.same (Same.upd hr)) (S1.trans (Same.b t (Same.upd hr)))⟩
    exact ⟨_, rfl, _, rfl, t, c, L, _, xs, ps, rfl, .inr (.inr rfl), T1, z1.rd, c1, cp.l8, fun v e H2 df xp T2 S2 => ⟨two, fun r hr => k _ (.keep e) _ (dh_tupT T2.tape (.cons (.str _) (.cons (DhF.t T1.tape df) .nil)) hr) ⟨fun os => .keep xp, rfl⟩ (T2.same (Same.upd hr)) ((S1.trans S2).trans (Same.b t (Same.upd hr)))⟩⟩
end
abbrev sChs : Stmt := top 91
abbrev nChs : List Str := ["_law_tape_here", "_law_columns_here", "_law_label", "_law_many", "_law_lists", "_law_k", "_law_j"]
abbrev pChs : List Str := ["_law_tape_here", "_law_columns_here", "_law_label", "_law_many"]
theorem scChs : FnScope nChs pChs (defScope sChs) := ⟨rfl, rfl, rfl, by decide +kernel, rfl, by decide +kernel, by decide +kernel⟩
section
variable {fA_ fB_ : Addr} {fdA_ fdB_ : FuncData}
theorem ok_Chs (F : Fun K "_law_choose_step" "_law_choose_step" sChs f fd) (T : Bt mg)
    (GA_ : FnOk P w K mg base CX0 1 fA_ fdA_ ["_law_tape_here", "_law_many"] (spDrawL)) (mA_ : mg "_law_draw" = some (.ref fA_)) (kA_ : PySem.W.keepIn K (.ref fA_) = true) (bA_ : Binds K fdA_ ["_law_tape_here", "_law_many"] [])
    (GB_ : FnOk P w K mg base CX0 7 fB_ fdB_ ["_law_tape_here", "_law_columns_here"] (spSas)) (mB_ : mg "_law_same_step" = some (.ref fB_)) (kB_ : PySem.W.keepIn K (.ref fB_) = true) (bB_ : Binds K fdB_ ["_law_tape_here", "_law_columns_here"] []) : FnOk P w K mg base CX0 8 f fd pChs (spChs) := by
  refine F.ok scChs (fun vs H Q E h => ?_) (fun cdv A outer s H vs Q E hr h => ?_)
  · obtain ⟨t, c, L, ps, lb, many, rfl, _⟩ := h
    rfl
  · obtain ⟨t, c, L, ps, lb, many, rfl, hT, hL, cp, m1, m4, k⟩ := h
    have hrA_ : Room (1) _ := hr.mono (by first | decide | omega)
    have hrB_ : Room (7) _ := hr.mono (by first | decide | omega)
    refine ⟨_, (pss_cons (ps_set (i := 4) scChs.nd rfl (Or.inl rfl) (pe_lst pa_nil))
      (pss_cons (ps_for PassesOwn.never rfl (pi_range1 (by rfl) T.range (pa_cons (pv 3) pa_nil)) (pg_name (i := 5) scChs.nd rfl (.inl rfl)) (pss_one (ps_expr (pe_bm PySem.F.plainAttrs_list PySem.F.slot_list_append PySem.F.type_list_append mt_append (pv 4) (pa_cons (pe_callTy call_tuple_of (by rfl) T.tuple boot_tuple (pa_cons (pe_lc (own := [("_law_j", 6)]) (g := (gName 6)) (tt := tYes) (te := teChs) (by rfl) scChs.nd (pi_range1 (by rfl) T.range (pa_cons (pe_call GA_ hrA_ (by rfl) mA_ kA_ bA_ .nil pass0 (pa_cons (pv 0) (pa_cons pe_int pa_nil))) pa_nil)) (blkOk_by (own := [("_law_j", 6)]) (N := nChs) (sc := defScope sChs) (by decide +kernel)) (fun _ _ _ _ _ => (pg_name (i := 6) scChs.nd rfl (.inl rfl))) (fun _ _ _ _ _ => pts_nil) (fun _ _ _ _ _ => (pe_call GB_ hrB_ (by rfl) mB_ kB_ bB_ .nil pass0 (pa_cons (pv 0) (pa_cons (pv 1) pa_nil))))) pa_nil)) pa_nil)))))
      (pss_one (ps_ret (pe_tup (pa_cons pe_str (pa_cons (pv 2) (pa_cons (pe_callTy call_tuple_of (by rfl) T.tuple boot_tuple (pa_cons (pv 4) pa_nil)) pa_nil)))))))), ?_⟩
    have two : 2 ≤ sizeLine := by decide
    have one : 1 ≤ sizeLine := by decide
    have three : 3 ≤ sizeLine := by decide
    have four : 4 ≤ sizeLine := by decide
    refine ⟨Nat.zero_le _, fun G hG => ?_⟩
    have zG := Same.upd (o := .lst []) hG
    have nGt := hT.tape.ne hG
    obtain ⟨ys, hc⟩ := hT.list
    have nGc : G ≠ c := Ne.symm (ne_of_none hc hG)
    refine ⟨_, rfl, many, rfl, by omega, by omega, for_range (n := many.toNat) (fun i σ H' => (∃ (x5 : Option V) (vs : List V) (as : List (List Ps)), σ = [some (.ref t), some (.ref L), some (.str lb), some (.int many), some (.ref G), x5, none] ∧ H' G = some (.lst vs) ∧ DhAll (dl t H') vs (as.map altD) ∧ as.length = i ∧ (∀ a ∈ as, a.length ≤ 2 ∧ ∀ p ∈ a, SamP ps p)) ∧ TapeL c H' t ∧ SameB t H H') ⟨⟨none, [], [], rfl, upd_same, .nil, rfl, nofun⟩, hT.same zG, Same.b t zG⟩ ?_ ?_⟩
    · rintro i σ H1 hi ⟨⟨x5, vs, as, rfl, eG, dv, la, oka⟩, T1, S1⟩
      have lv : vs.length = as.length := by rw [dv.len, List.length_map]
      refine ⟨_, rfl, .inl ⟨rfl, _, SqL.of eG⟩, _, rfl, t, c, _, rfl, T1, by decide, big1000 (by decide) (by decide), fun d H2 d0 d3 T2 S2 => ⟨d, rfl, by omega, by omega, fun D hD => ?_⟩⟩
      have zD := Same.upd (o := .lst []) hD
      have nDt := T2.tape.ne hD
      obtain ⟨ys2, hc2⟩ := T2.list
      have nDc : D ≠ c := Ne.symm (ne_of_none hc2 hD)
      have eG2 := S2 _ _ nGt eG
      have nGD : G ≠ D := ne_of_none eG2 hD
      refine lc_range (lo := 0) (n := d.toNat) (fun j H' => (∃ (us : List V) (a : List Ps), H' D = some (.lst us) ∧ DhAll (dl t H') us (a.map Ps.d) ∧ a.length = j ∧ ∀ p ∈ a, SamP ps p) ∧ TapeL c H' t ∧ SameB t H2 H') ⟨⟨[], [], upd_same, .nil, rfl, nofun⟩, T2.same zD, Same.b t zD⟩ ?_ ?_
      · rintro j H3 hj ⟨⟨us, a, eD, du, lj, oks⟩, T3, S3⟩
        refine ⟨rfl, ?_⟩
        dsimp only [tYes]
        refine iteT ?_
        change teChs _ _ _
        refine ⟨_, rfl, _, rfl, t, c, L, ps, rfl, T3, ((hL.b hT.tape S1).b T1.tape S2).b T2.tape S3, cp, fun v p H4 dp sp T4 S4 => ?_⟩
        have eD4 := S4 _ _ nDt eD
        have lu : us.length = a.length := by rw [du.len, List.length_map]
        refine ⟨us, eD4, lt_size (by omega), ⟨us ++ [v], a ++ [p], upd_same, ?_, by rw [List.length_append, lj]; rfl, fun x hx => ?_⟩, T4.upd nDt nDc, updB hD (S3.trans S4)⟩
        · rw [List.map_append]
          have st := dl_sameT (t := t) (SameT.lst (o := .lst (us ++ [v])) eD4)
          exact (DhAll.t st (dtbA du S4) (noLs_ps fun p hp => ((oks p hp).ok cp).1)).append (.cons (Dh.t st dp (sp.ok cp).1.noL) .nil)
        · rcases List.mem_append.mp hx with hx | hx
          · exact oks x hx
          · rw [List.mem_singleton.mp hx]; exact sp
      rintro H3 ⟨⟨us, a, eD, du, lj, oks⟩, T3, S3⟩
      have eG3 := S3 _ _ nGt eG2
      refine ⟨D, us, rfl, .inl ⟨SqL.of eD, fun p hp => ⟨G, _, _, rfl, rfl, Same.upd hp _ _ eG3, lt_size (by omega), ?_⟩⟩⟩
      have zp := Same.upd (o := .tup us) hp
      have S13 := S2.trans (S3.trans (Same.b t zp))
      have nal : ∀ a : List Ps, (∀ p ∈ a, SamP ps p) → noL (altD a) = true := fun a h => by
        unfold altD
        rw [noL]
        exact noLs_ps fun p hp => ((h p hp).ok cp).1
      have st := dl_sameT (t := t) (SameT.lst (o := .lst (vs ++ [.ref p])) (zp _ _ eG3))
      refine ⟨⟨_, vs ++ [.ref p], as ++ [a], rfl, upd_same, ?_, by rw [List.length_append, la]; rfl, fun x hx => ?_⟩, (T3.same zp).upd nGt nGc, updB hG (S1.trans S13)⟩
      · rw [List.map_append]
        refine (DhAll.t st (dtbA dv S13) (noLs_all.mpr fun d hd => ?_)).append (.cons (Dh.t st (dh_tupT T3.tape du hp) (nal a oks)) .nil)
        obtain ⟨b, hb, rfl⟩ := List.mem_map.mp hd
        exact nal b (oka b hb).2
      · rcases List.mem_append.mp hx with hx | hx
        · exact oka x hx
        · rw [List.mem_singleton.mp hx]; exact ⟨by omega, oks⟩
    · rintro σ H1 ⟨⟨x5, vs, as, rfl, eG, dv, la, oka⟩, T1, S1⟩
      refine ⟨_, rfl, _, rfl, G, _, rfl, .inl ⟨SqL.of eG, fun p hp => ⟨three, fun r hr => ?_⟩⟩⟩
      have zp := Same.upd (o := .tup vs) hp
      have zr := Same.upd (o := .tup [.str "choose", .str lb, .ref p]) hr
      exact k _ as _ (dh_tupT (T1.same zp).tape (.cons (.str _) (.cons (.str _) (.cons (dh_tupT T1.tape dv hp) .nil))) hr) (by omega) oka ((T1.same zp).same zr) (S1.trans (Same.b t (zp.trans zr)))
end
abbrev sGrs : Stmt := top 89
abbrev nGrs : List Str := ["_law_tape_here", "_law_columns_here", "_law_kinds", "_law_keys", "_law_name_here", "_law_kind", "_law_names", "_law_totals", "_law_k", "_law_function", "_law_behind", "_law_total"]
abbrev pGrs : List Str := ["_law_tape_here", "_law_columns_here"]
theorem scGrs : FnScope nGrs pGrs (defScope sGrs) := ⟨rfl, rfl, rfl, by decide +kernel, rfl, by decide +kernel, by decide +kernel⟩
section
variable {fA_ fB_ fC_ : Addr} {fdA_ fdB_ fdC_ : FuncData}
theorem ok_Grs (F : Fun K "_law_group_step" "_law_group_step" sGrs f fd) (T : Bt mg)
    (GA_ : FnOk P w K mg base CX0 1 fA_ fdA_ ["_law_tape_here", "_law_many"] (spDrawL)) (mA_ : mg "_law_draw" = some (.ref fA_)) (kA_ : PySem.W.keepIn K (.ref fA_) = true) (bA_ : Binds K fdA_ ["_law_tape_here", "_law_many"] [])
    (GB_ : FnOk P w K mg base CX0 2 fB_ fdB_ ["_law_tape_here", "_law_items", "_law_many"] (spPk)) (mB_ : mg "_law_pick" = some (.ref fB_)) (kB_ : PySem.W.keepIn K (.ref fB_) = true) (bB_ : Binds K fdB_ ["_law_tape_here", "_law_items", "_law_many"] [])
    (GC_ : FnOk P w K mg base CX0 3 fC_ fdC_ ["_law_tape_here", "_law_taken"] (spFr)) (mC_ : mg "_law_fresh" = some (.ref fC_)) (kC_ : PySem.W.keepIn K (.ref fC_) = true) (bC_ : Binds K fdC_ ["_law_tape_here", "_law_taken"] []) : FnOk P w K mg base CX0 8 f fd pGrs (spKs) := by
  refine F.ok scGrs (fun vs H Q E h => ?_) (fun cdv A outer s H vs Q E hr h => ?_)
  · obtain ⟨t, c, L, ps, rfl, _⟩ := h
    rfl
  · obtain ⟨t, c, L, ps, rfl, hT, hL, cp, k⟩ := h
    have hrA_ : Room (1) _ := hr.mono (by first | decide | omega)
    have hrB_ : Room (2) _ := hr.mono (by first | decide | omega)
    have hrC_ : Room (3) _ := hr.mono (by first | decide | omega)
    refine ⟨_, (Evl.pss_cut (ps_set (i := 2) scGrs.nd rfl (Or.inr rfl) (pe_callTy (call_dictZ rfl) (by rfl) T.dict boot_dict (pa_cons (pv 1) pa_nil)))
      (pss_cons (ps_set (i := 3) scGrs.nd rfl (Or.inl rfl) (pe_lst pa_nil))
      (Evl.pss_cut (ps_if (pt_cmpR op_gt (pe_call GA_ hrA_ (by rfl) mA_ kA_ bA_ .nil pass0 (pa_cons (pv 0) (pa_cons pe_int pa_nil))) pe_int (nomark _)) (pss_one (ps_set (i := 3) scGrs.nd rfl (Or.inl rfl) (pe_call GB_ hrB_ (by rfl) mB_ kB_ bB_ .nil pass0 (pa_cons (pv 0) (pa_cons (pe_lc (own := [("_law_name_here", 4), ("_law_kind", 5)]) (g := (gTup K 2 (gCons (gName 4) (gCons (gName 5) gNil)))) (tt := tYes) (te := tVar 4) (by rfl) scGrs.nd (pi_tup (pv 1)) (blkOk_by (own := [("_law_name_here", 4), ("_law_kind", 5)]) (N := nGrs) (sc := defScope sGrs) (by decide +kernel)) (fun _ _ _ _ _ => (pg_tup rfl (pgs_cons (pg_name (i := 4) scGrs.nd rfl (.inl rfl)) (pgs_cons (pg_name (i := 5) scGrs.nd rfl (.inl rfl)) pgs_nil)))) (fun _ _ _ _ _ => pts_nil) (fun _ _ _ _ _ => (pv 4))) (pa_cons pe_int pa_nil)))))) pss_nil)
      (pss_cons (ps_set (i := 6) scGrs.nd rfl (Or.inl rfl) (pe_callTy call_list_of (by rfl) T.list boot_list (pa_cons (pv 3) pa_nil)))
      (pss_cons (ps_set (i := 7) scGrs.nd rfl (Or.inl rfl) (pe_lst pa_nil))
      (Evl.pss_cut (ps_for PassesOwn.never rfl (pi_range1 (by rfl) T.range (pa_cons (pe_op op_add pe_int (pe_call GA_ hrA_ (by rfl) mA_ kA_ bA_ .nil pass0 (pa_cons (pv 0) (pa_cons pe_int pa_nil)))) pa_nil)) (pg_name (i := 8) scGrs.nd rfl (.inl rfl)) (pss_cons (ps_set (i := 4) scGrs.nd rfl (Or.inl rfl) (pe_ix ix_tup (pe_ix ix_tup (pv 1) (pe_call GA_ hrA_ (by rfl) mA_ kA_ bA_ .nil pass0 (pa_cons (pv 0) (pa_cons (pe_callB call_len_seq (by rfl) T.len PySem.boot_len (pa_cons (pv 1) pa_nil)) pa_nil))) (fun _ _ => rfl)) pe_int (fun _ _ => rfl)))
      (pss_cons (ps_set (i := 9) scGrs.nd rfl (Or.inl rfl) (pe_ix ix_list (pe_lst (pa_cons pe_str (pa_cons pe_str (pa_cons pe_str (pa_cons pe_str (pa_cons pe_str (pa_cons pe_str pa_nil))))))) (pe_call GA_ hrA_ (by rfl) mA_ kA_ bA_ .nil pass0 (pa_cons (pv 0) (pa_cons pe_int pa_nil))) (fun _ _ => rfl)))
      (Evl.pss_cut (ps_if (pt_cmpR op_ne (pe_dget (hu_of hr) (pv 2) (pv 4) (fun _ _ => rfl)) pe_str (nomark _)) (pss_one (ps_set (i := 9) scGrs.nd rfl (Or.inl rfl) pe_str)) pss_nil)
      (pss_cons (ps_expr (pe_bm PySem.F.plainAttrs_list PySem.F.slot_list_append PySem.F.type_list_append mt_append (pv 6) (pa_cons (pe_call GC_ hrC_ (by rfl) mC_ kC_ bC_ .nil pass0 (pa_cons (pv 0) (pa_cons (pv 6) pa_nil))) pa_nil)))
      (pss_one (ps_expr (pe_bm PySem.F.plainAttrs_list PySem.F.slot_list_append PySem.F.type_list_append mt_append (pv 7) (pa_cons (pe_tup (pa_cons (pe_ix ix_list (pv 6) (pe_un un_neg pe_int) (fun _ _ => rfl)) (pa_cons (pv 9) (pa_cons (pv 4) pa_nil)))) pa_nil)))))))))
      (pss_cons (ps_set (i := 10) scGrs.nd rfl (Or.inl rfl) (pe_op op_cat (pe_lc (own := [("_law_name_here", 4)]) (g := (gName 4)) (tt := tYes) (te := teGr) (by rfl) scGrs.nd (pi_list (pv 3)) (blkOk_by (own := [("_law_name_here", 4)]) (N := nGrs) (sc := defScope sGrs) (by decide +kernel)) (fun _ _ _ _ _ => (pg_name (i := 4) scGrs.nd rfl (.inl rfl))) (fun _ _ _ _ _ => pts_nil) (fun _ _ _ _ _ => (pe_tup (pa_cons (pv 4) (pa_cons (pe_dget (hu_of hr) (pv 2) (pv 4) (fun _ _ => rfl)) pa_nil))))) (pe_lc (own := [("_law_total", 11)]) (g := (gName 11)) (tt := tYes) (te := teGt K) (by rfl) scGrs.nd (pi_list (pv 7)) (blkOk_by (own := [("_law_total", 11)]) (N := nGrs) (sc := defScope sGrs) (by decide +kernel)) (fun _ _ _ _ _ => (pg_name (i := 11) scGrs.nd rfl (.inl rfl))) (fun _ _ _ _ _ => pts_nil) (fun _ _ _ _ _ => (pe_tup (pa_cons (pe_ix ix_tup (pv 11) pe_int (fun _ _ => rfl)) (pa_cons pe_str pa_nil)))))))
      (pss_one (ps_ret (pe_tup (pa_cons (pe_tup (pa_cons pe_str (pa_cons (pe_callTy call_tuple_of (by rfl) T.tuple boot_tuple (pa_cons (pv 3) pa_nil)) (pa_cons (pe_callTy call_tuple_of (by rfl) T.tuple boot_tuple (pa_cons (pv 7) pa_nil)) pa_nil)))) (pa_cons (pe_callTy call_tupleZ (by rfl) T.tuple boot_tuple (pa_cons (pv 10) pa_nil)) pa_nil)))))))))))), ?_⟩
    have two : 2 ≤ sizeLine := by decide
    have one : 1 ≤ sizeLine := by decide
    have three : 3 ≤ sizeLine := by decide
    have four : 4 ≤ sizeLine := by decide
    obtain ⟨xs, zL, cc⟩ := hL
    have l8 := cp.l8
    have l1 := cp.l1
    have lx := cc.len
    have lnm : (nms ps).length = ps.length := List.length_map _
    have ln : (vS (nms ps)).length = ps.length := by rw [List.length_map, lnm]
    refine ⟨fun σ H' => ∃ d : Addr, σ = [some (.ref t), some (.ref L), some (.ref d), none, none, none, none, none, none, none, none, none] ∧ H' d = some (.dK (dkc ps)) ∧ H d = none ∧ Same H H', ?_, ?_⟩
    · obtain ⟨as, ex, pr⟩ := cols_refs (K := K) cc
      refine ⟨_, rfl, L, as, dkc ps, rfl, by rw [← ex]; exact zL, pr, fun d hd => ?_⟩
      rw [dkc_merge cp.nd]
      exact ⟨d, rfl, upd_same, hd, Same.upd hd⟩
    rintro σ H1 ⟨d, rfl, ed, hd, s1⟩
    have T1 := hT.same s1
    have nd := hT.tape.ne hd
    have S1 := Same.b t s1
    refine ⟨Nat.zero_le _, fun G0 hG0 => ?_⟩
    have zG := Same.upd (o := .lst []) hG0
    refine ⟨fun σ H' => ∃ (G : Addr) (gs : List Str), σ = [some (.ref t), some (.ref L), some (.ref d), some (.ref G), none, none, none, none, none, none, none, none] ∧ H' G = some (.lst (vS gs)) ∧ G ≠ t ∧ (∀ g ∈ gs, g ∈ nms ps) ∧ gs.Nodup ∧ gs.length ≤ 3 ∧ H' d = some (.dK (dkc ps)) ∧ TapeL c H' t ∧ SameB t H H', ?_, ?_⟩
    · refine ⟨_, rfl, t, c, _, rfl, T1.same zG, by decide, big1000 (by decide) (by decide), fun u H2 u0 u5 T2 S2 => ⟨_, _, rfl, rfl, _, rfl, ite2 (fun _ => ?_) (fun _ => ?_)⟩⟩
      · have S02 := (S1.trans (Same.b t zG)).trans S2
        have z2 := zL.b hT.tape S02
        have c2 := cc.b hT.tape S02
        refine ⟨_, rfl, _, rfl, L, rfl, ⟨_, z2.sq⟩, fun W hW => lc_tup (K := K) (a := L) (xs := xs) (fun i H' => H' W = some (.lst (vS ((nms ps).take i))) ∧ Same H2 H') ⟨upd_same, Same.upd hW⟩ (fun i H' _ pr => (z2.same pr.2).sq) ?_ ?_⟩
        · rintro i x H3 hx ⟨hW1, s3⟩
          obtain ⟨a, z, kk, rfl, ea, ep⟩ := c2.get _ _ hx
          refine ⟨a, _, rfl, SqT.of (s3 _ _ ea), rfl, _, _, rfl, _, _, rfl, rfl, rfl, ?_⟩
          dsimp only [tYes]
          exact iteT ⟨_, rfl, nm_turn hW hW1 ep cp.l8 s3⟩
        rintro H3 ⟨hW1, s3⟩
        rw [show xs.length = (nms ps).length by rw [lx, lnm], List.take_length] at hW1
        have T3 := T2.same s3
        refine ⟨t, c, W, nms ps, _, rfl, T3, hW1, cp.nd, by omega, by decide, by decide, fun G gs H4 eG gG gin gnd gne gl T4 S4 => ?_⟩
        have S04 := (S02.trans (Same.b t s3)).trans S4
        exact ⟨G, gs, rfl, eG, T3.tape.ne gG, gin, gnd, by omega, S4 _ _ nd (s3 _ _ (S2 _ _ nd (zG _ _ ed))), T4, S04⟩
      · exact ⟨G0, [], rfl, S2 _ _ (T1.tape.ne hG0) upd_same, T1.tape.ne hG0, nofun, List.nodup_nil, Nat.zero_le _, S2 _ _ nd (zG _ _ ed), T2, (S1.trans (Same.b t zG)).trans S2⟩
    clear ed T1 S1 s1 zG hG0 hd
    rintro σ H1 ⟨G, gs, rfl, eG, nG, gin, gnd, gl, ed, T1, S1⟩
    refine ⟨_, rfl, G, _, rfl, .inl (SqL.of eG), fun N hN => ⟨Nat.zero_le _, fun Z hZ => ?_⟩⟩
    have zN := Same.upd (o := .lst (vS gs)) hN
    have zZ := Same.upd (o := .lst []) hZ
    have eN2 := zZ _ _ (show upd H1 N (.lst (vS gs)) N = some (.lst (vS gs)) from upd_same)
    have nNZ : N ≠ Z := ne_of_none (show upd H1 N (.lst (vS gs)) N = some (.lst (vS gs)) from upd_same) hZ
    have eZ2 : upd (upd H1 N (.lst (vS gs))) Z (.lst []) Z = some (.lst []) := upd_same
    have gZ := Same.gone zN hZ
    have nNt := T1.tape.ne hN
    have nZt := T1.tape.ne gZ
    obtain ⟨yy, hc⟩ := T1.list
    have nNc : N ≠ c := Ne.symm (ne_of_none hc hN)
    have nZc : Z ≠ c := Ne.symm (ne_of_none hc gZ)
    have z2 := zN.trans zZ
    have T2 := T1.same z2
    have S12 := Same.b t z2
    generalize upd (upd H1 N (.lst (vS gs))) Z (.lst []) = H2 at eN2 eZ2 z2 T2 S12 ⊢
    clear zN zZ
    let M := fun (i : Nat) (σ : L2.St) (H' : Hp) => (∃ (x4 x8 x9 : Option V) (us : List V) (ts : List (Str × Str × Str)), σ = [some (.ref t), some (.ref L), some (.ref d), some (.ref G), x4, none, some (.ref N), some (.ref Z), x8, x9, none, none] ∧ H' N = some (.lst (vS (gs ++ ts.map (·.1)))) ∧ H' Z = some (.lst us) ∧ DhAll (dl t H') us (ts.map totS3) ∧ ts.length = i ∧ (gs ++ ts.map (·.1)).Nodup ∧ ∀ x ∈ ts, (Sh 12 x.1 ∧ nmS x.1) ∧ x.2.1 ∈ fnS ∧ x.2.2 ∈ nms ps ∧ (x.2.1 ≠ "count" → kdOf ps x.2.2 = "number")) ∧ TapeL c H' t ∧ SameB t H1 H'
    have fnA : ∀ x : V, x ∈ ([.str "count", .str "sum", .str "mean", .str "median", .str "least", .str "greatest"] : List V) → ∃ g, x = .str g ∧ g ∈ fnS := fun x hx => by
      simp only [List.mem_cons, List.not_mem_nil, or_false] at hx
      rcases hx with rfl | rfl | rfl | rfl | rfl | rfl <;> exact ⟨_, rfl, by unfold fnS; simp⟩
    refine ⟨fun σ H' => ∃ i, 1 ≤ i ∧ i ≤ 3 ∧ M i σ H', ?_, ?_⟩
    · refine ⟨_, rfl, t, c, _, rfl, T2, by decide, big1000 (by decide) (by decide), fun u H3 u0 u3 T3 S3 => ⟨_, _, rfl, rfl, 1 + u, rfl, by omega, by omega, for_range (n := (1 + u).toNat) M ⟨⟨none, none, none, [], [], rfl, by rw [List.map_nil, List.append_nil]; exact S3 _ _ nNt eN2, S3 _ _ nZt eZ2, .nil, rfl, by rw [List.map_nil, List.append_nil]; exact gnd, nofun⟩, T3, S12.trans S3⟩ ?_ ?_⟩⟩
      · clear eN2 eZ2 z2 T2 S12 T3 S3
        rintro i σ H3 hi ⟨⟨x4, x8, x9, us, ts, rfl, eN, eZ, du, lt, ndt, okt⟩, T3, S3⟩
        have i3 : i < 3 := by omega
        have lN : (gs ++ ts.map (·.1)).length ≤ 6 := by rw [List.length_append, List.length_map]; omega
        have S03 := S1.trans S3
        have z3 := zL.b hT.tape S03
        refine ⟨_, rfl, _, rfl, _, rfl, L, _, rfl, .inr z3.sq, t, c, _, rfl, T3, by omega, big1000 (by omega) (by omega), fun j H4 j0 j1 T4 S4 => ?_⟩
        have z4 := z3.b T3.tape S4
        have c4 := (cc.b hT.tape S03).b T3.tape S4
        obtain ⟨y, hy⟩ : ∃ y, xs[j.toNat]? = some y := ⟨_, List.getElem?_eq_getElem (by omega)⟩
        obtain ⟨a, z, kk, rfl, ea, ep⟩ := c4.get _ _ hy
        have zm : z ∈ nms ps := List.mem_map_of_mem (f := (·.1)) (List.mem_of_getElem? ep)
        refine ⟨L, xs, _, .ref a, rfl, rfl, z4.sq, at_of (j := j.toNat) (by omega) hy, a, _, _, .str z, rfl, rfl, SqT.of ea, rfl, ?_⟩
        refine ⟨by show 6 ≤ sizeLine; decide, fun Y hY => ?_⟩
        have zY := Same.upd (o := .lst [.str "count", .str "sum", .str "mean", .str "median", .str "least", .str "greatest"]) hY
        have nY := T4.tape.ne hY
        refine ⟨_, rfl, t, c, _, rfl, T4.same zY, by decide, big1000 (by decide) (by decide), fun w H5 w0 w6 T5 S5 => ?_⟩
        obtain ⟨x, hx⟩ : ∃ x, ([.str "count", .str "sum", .str "mean", .str "median", .str "least", .str "greatest"] : List V)[w.toNat]? = some x := ⟨_, List.getElem?_eq_getElem (by show w.toNat < 6; omega)⟩
        obtain ⟨fn, rfl, hfn⟩ := fnA x (List.mem_of_getElem? hx)
        refine ⟨Y, _, _, .str fn, rfl, rfl, SqL.of (S5 _ _ nY upd_same), at_of (j := w.toNat) (by omega) hx, ?_⟩
        have S35 := S4.trans ((Same.b t zY).trans S5)
        have eN5 := S35 _ _ nNt eN
        have eZ5 := S35 _ _ nZt eZ
        have ed5 := S35 _ _ nd (S3 _ _ nd ed)
        have du5 := dtbA du S35
        refine ⟨fun σ H' => ∃ fn, σ = [some (.ref t), some (.ref L), some (.ref d), some (.ref G), some (.str z), none, some (.ref N), some (.ref Z), some (.int ((0 : Int) + (i : Int))), some (.str fn), none, none] ∧ H' = H5 ∧ fn ∈ fnS ∧ (fn ≠ "count" → kdOf ps z = "number"), ?_, ?_⟩
        · have q := DGet.k (k := (Sum.inr z : Key)) ed5
          rw [dkc_in zm] at q
          refine ⟨_, rfl, _, rfl, d, _, rfl, q, rfl, _, rfl, ?_⟩
          by_cases e : kdOf ps z = "number"
          · rw [show decide (V.str (kdOf ps z) = V.str "number") = true by rw [e]; exact decide_eq_true rfl]
            exact iteF ⟨fn, rfl, rfl, hfn, fun _ => e⟩
          · rw [show decide (V.str (kdOf ps z) = V.str "number") = false from decide_eq_false (fun h => e (by injection h))]
            exact iteT ⟨"count", rfl, rfl, by unfold fnS; simp, fun h => absurd rfl h⟩
        clear hfn hx fn
        rintro σ H ⟨fn, rfl, rfl, hfn, hcn⟩
        refine ⟨_, rfl, .inl ⟨rfl, _, SqL.of eN5⟩, _, rfl, _, rfl, t, c, N, gs ++ ts.map (·.1), rfl, T5, eN5, by omega, fun x H6 hx nx fz T6 S6 => ?_⟩
        have eN6 := S6 _ _ nNt eN5
        have eZ6 := S6 _ _ nZt eZ5
        refine ⟨N, _, _, rfl, rfl, eN6, by rw [List.length_map]; exact lt_size (by omega), ?_⟩
        have st1 := dl_sameT (t := t) (SameT.lst (o := .lst (vS (gs ++ ts.map (·.1)) ++ [.str x])) eN6)
        have ntot : noLs (ts.map totS3) = true := noLs_all.mpr fun d hd => by
          obtain ⟨w, _, rfl⟩ := List.mem_map.mp hd
          rfl
        have du7 := DhAll.t st1 (dtbA du5 S6) ntot
        have eZ7 : upd H6 N (.lst (vS (gs ++ ts.map (·.1)) ++ [.str x])) Z = some (.lst us) := by rw [upd_ne (Ne.symm nNZ)]; exact eZ6
        have eN7 : upd H6 N (.lst (vS (gs ++ ts.map (·.1)) ++ [.str x])) N = some (.lst (vS (gs ++ ts.map (·.1)) ++ [.str x])) := upd_same
        have T7 := T6.upd (o := .lst (vS (gs ++ ts.map (·.1)) ++ [.str x])) nNt nNc
        have S7 : SameB t H1 (upd H6 N (.lst (vS (gs ++ ts.map (·.1)) ++ [.str x]))) := updB hN (S3.trans (S35.trans S6))
        generalize upd H6 N (.lst (vS (gs ++ ts.map (·.1)) ++ [.str x])) = H7 at du7 eZ7 eN7 T7 S7 ⊢
        refine ⟨_, rfl, .inl ⟨rfl, _, SqL.of eZ7⟩, _, rfl, _, rfl, N, _, _, .str x, rfl, rfl, SqL.of eN7, at_last, _, rfl, _, rfl, three, fun q hq => ?_⟩
        have zq := Same.upd (o := .tup [.str x, .str fn, .str z]) hq
        have eZ8 := zq _ _ eZ7
        have lu : us.length = ts.length := by rw [du7.len, List.length_map]
        refine ⟨Z, _, _, rfl, rfl, eZ8, lt_size (by omega), ?_⟩
        have st2 := dl_sameT (t := t) (SameT.lst (o := .lst (us ++ [.ref q])) eZ8)
        refine ⟨⟨_, _, _, us ++ [.ref q], ts ++ [(x, fn, z)], rfl, ?_, upd_same, ?_, by rw [List.length_append, lt]; rfl, ?_, fun y hy => ?_⟩, (T7.same zq).upd nZt nZc, updB gZ (S7.trans (Same.b t zq))⟩
        · rw [upd_ne nNZ, zq _ _ eN7, List.map_append, ← List.append_assoc]
          unfold vS
          rw [List.map_append (l₁ := gs ++ ts.map (·.1))]
          rfl
        · rw [List.map_append]
          exact (DhAll.t st2 (dtsA du7 zq) ntot).append (.cons (Dh.t st2 (dh_tupT T7.tape (.cons (.str _) (.cons (.str _) (.cons (.str _) .nil))) hq) rfl) .nil)
        · rw [List.map_append, ← List.append_assoc, List.nodup_append]
          exact ⟨ndt, List.nodup_cons.mpr ⟨nofun, List.nodup_nil⟩, fun a ha b hb e => fz (by rw [List.map_singleton, List.mem_singleton] at hb; rw [← show a = x from e.trans hb]; exact ha)⟩
        · rcases List.mem_append.mp hy with hy | hy
          · exact okt y hy
          · rw [List.mem_singleton.mp hy]; exact ⟨⟨hx, nx⟩, hfn, zm, hcn⟩
      · intro σ H3 m3
        exact ⟨(1 + u).toNat, by omega, by omega, m3⟩
    clear eN2 eZ2 z2 T2 S12
    rintro σ H2 ⟨i, i1, i3, ⟨x4, x8, x9, us, ts, rfl, eN, eZ, du, lt, ndt, okt⟩, T2, S2⟩
    have lu : us.length = ts.length := by rw [du.len, List.length_map]
    have eG2 := S2 _ _ nG eG
    have ed2 := S2 _ _ nd ed
    -- the columns behind it
    refine ⟨_, rfl, G, rfl, ⟨_, SqL.of eG2⟩, fun D hD => lc_list (K := K) (a := G) (xs := vS gs) (fun i H' => (∃ ys, H' D = some (.lst ys) ∧ Cols H' ys ((gs.take i).map fun n => (n, kdOf ps n))) ∧ Same H2 H') ⟨⟨[], upd_same, .nil⟩, Same.upd hD⟩ (fun i H' _ pr => SqL.of (pr.2 _ _ eG2)) ?_ ?_⟩
    · rintro i y H5 hi ⟨⟨ys, e5, c5⟩, s5⟩
      rw [List.getElem?_map] at hi
      obtain ⟨g, eg, rfl⟩ := Option.map_eq_some_iff.mp hi
      have l5 := c5.len
      rw [List.length_map, List.length_take] at l5
      have q := DGet.k (k := (Sum.inr g : Key)) (s5 _ _ ed2)
      rw [dkc_in (gin g (List.mem_of_getElem? eg))] at q
      refine ⟨rfl, ?_⟩
      dsimp only [tYes]
      refine iteT ?_
      change teGr _ _ _
      refine ⟨_, rfl, _, rfl, _, rfl, d, _, rfl, q, two, fun p hp => ?_⟩
      rw [List.take_add_one, eg, List.map_append]
      exact col_turn hD e5 c5 (by omega) s5 (Same.refl _) hp
    rintro H3 ⟨⟨ys, e3, c3⟩, s3⟩
    rw [List.length_map, List.take_length] at c3
    have eZ3 := s3 _ _ eZ
    have du3 := dtsA du s3
    refine ⟨_, rfl, Z, rfl, ⟨_, SqL.of eZ3⟩, fun D2 hD2 => lc_list (K := K) (a := Z) (xs := us) (fun i H' => (∃ ys, H' D2 = some (.lst ys) ∧ Cols H' ys ((ts.take i).map fun t => (t.1, ("number" : Str)))) ∧ Same H3 H') ⟨⟨[], upd_same, .nil⟩, Same.upd hD2⟩ (fun i H' _ pr => SqL.of (pr.2 _ _ eZ3)) ?_ ?_⟩
    · rintro i y H5 hi ⟨⟨ys, e5, c5⟩, s5⟩
      obtain ⟨dd, edd, hdd⟩ := du3.get i y hi
      rw [List.getElem?_map] at edd
      obtain ⟨tt, et, rfl⟩ := Option.map_eq_some_iff.mp edd
      obtain ⟨q, rfl, eq⟩ := totS3_dh hdd
      have l5 := c5.len
      rw [List.length_map, List.length_take] at l5
      refine ⟨rfl, ?_⟩
      dsimp only [tYes]
      refine iteT ?_
      change teGt K _ _ _
      refine ⟨_, rfl, q, _, _, .str tt.1, rfl, rfl, SqT.of (s5 _ _ (dl_of eq).2), rfl, two, fun p hp => ?_⟩
      rw [List.take_add_one, et, List.map_append]
      exact col_turn hD2 e5 c5 (by omega) s5 (Same.refl _) hp
    rintro H4 ⟨⟨ws, e4, c4⟩, s4⟩
    rw [lu, List.take_length] at c4
    have lys := c3.len
    have lws := c4.len
    rw [List.length_map] at lys lws
    refine ⟨D, D2, ys, ws, rfl, rfl, s4 _ _ e3, e4, by rw [lys, lws]; exact Nat.le_trans (show _ ≤ 6 by omega) (by decide), fun B hB => ?_⟩
    have zB := Same.upd (o := .lst (ys ++ ws)) hB
    have eB : upd H4 B (.lst (ys ++ ws)) B = some (.lst (ys ++ ws)) := upd_same
    have s24 := s3.trans (s4.trans zB)
    have c5 : Cols (upd H4 B (.lst (ys ++ ws))) (ys ++ ws) (gs.map (fun n => (n, kdOf ps n)) ++ ts.map fun t => (t.1, ("number" : Str))) := (c3.t (SameT.of (s4.trans zB))).app (c4.t (SameT.of zB))
    have du5 := dtsA du s24
    have T5 := T2.same s24
    have S5 := S2.trans (Same.b t s24)
    have eG5 := s24 _ _ eG2
    have eZ5 := s24 _ _ eZ
    generalize upd H4 B (.lst (ys ++ ws)) = H5 at eB c5 du5 T5 S5 eG5 eZ5 ⊢
    refine ⟨_, rfl, G, _, rfl, .inl ⟨SqL.of eG5, fun p hp => ⟨_, rfl, Z, _, rfl, .inl ⟨SqL.of (Same.upd hp _ _ eZ5), fun q hq => ⟨three, fun r hr => ?_⟩⟩⟩⟩⟩
    have zp := Same.upd (o := .tup (vS gs)) hp
    have zq := Same.upd (o := .tup us) hq
    have zr := Same.upd (o := .tup [.str "group", .ref p, .ref q]) hr
    have T6 := T5.same zp
    have T7 := T6.same zq
    have dv : DhT t (upd (upd (upd H5 p (.tup (vS gs))) q (.tup us)) r (.tup [.str "group", .ref p, .ref q])) (.ref r) (Ps.d (.group gs ts)) := dh_tupT T7.tape (.cons (.str _) (.cons (dts (dh_tupT (vs := vS gs) T5.tape (strsA gs) hp) zq) (.cons (dh_tupT T6.tape (dtsA du5 zp) hq) .nil))) hr
    have z3 := zp.trans (zq.trans zr)
    have eB8 := z3 _ _ eB
    have T8 := T5.same z3
    have c8 := c5.t (SameT.of z3)
    have S8 := S5.trans (Same.b t z3)
    generalize upd (upd (upd H5 p (.tup (vS gs))) q (.tup us)) r (.tup [.str "group", .ref p, .ref q]) = H8 at dv eB8 T8 c8 S8 ⊢
    refine ⟨_, rfl, B, _, rfl, SqL.of eB8, fun C ob hC d1 d2 => ⟨two, fun s hs => ?_⟩⟩
    have zC := Same.upd (o := .frz ob (.tup (ys ++ ws))) hC
    have zs := Same.upd (o := .tup [.ref r, .ref C]) hs
    have zall := zC.trans zs
    have tl' : 1 ≤ ts.length ∧ ts.length ≤ 6 := ⟨by omega, by omega⟩
    exact k s (.ref r) C (.group gs ts) _ _ upd_same (dts dv zall) ⟨ys ++ ws, ⟨ob, d1, d2, zs _ _ upd_same⟩, c8.t (SameT.of zall)⟩ (fun os => .group gin ⟨fun x hx => (cp.nm (gin x hx)).2, fun x hx => ⟨(okt x hx).1.2, (okt x hx).2.1, (cp.nm (okt x hx).2.2.1).2⟩, ndt, gl, tl', by omega⟩ fun x hx => ⟨(okt x hx).1.1, (okt x hx).2.2⟩) (T8.same zall) ((S1.trans S8).trans (Same.b t zall))
end
end
end K78
set_option Elab.async false
set_option linter.all false
set_option maxRecDepth 100000
set_option maxHeartbeats 4000000
namespace K78
open PySem PySem.Spec PyProof.Rows L2 Lc
/-! ## joins and unions -/
section
variable {X : Cx}
def rInDk (neg : Bool) : R2 := fun x y H Q => ∃ a o, y = .ref a ∧ DGet H a x o ∧ Q (.bl (if neg then !o.isSome else o.isSome)) H
theorem op_inDk (hu : X.A.units + 1 < cLine) : OpR X (compareOp .In) (rInDk false) := by
  intro pins s σ H x y v u Q I rx ry h
  obtain ⟨a, o, rfl, g, q⟩ := h
  obtain rfl : u = Value.ref a := ry
  exact d_in hu I g rx fun s' I' => ⟨.bl o.isSome, H, I', rfl, q⟩
end
abbrev ttM1 : TT := tTest (tOp (rInDk false) (tVar 10) (tVar 8))
abbrev ttM2 : TT := tTest (tOp rEq (tDGet2 (tVar 8) (tVar 10) (tC (.str ""))) (tVar 11))
abbrev ttM3 (K : PySem.W.Frag) : TT := tTest (tOp (rIn K true) (tOp (rIxT K) (tVar 14) (tC (.int 0))) (tVar 9))
abbrev Oth : Type := List (Str × CsL × Nat)
inductive OthAt (H : Hp) : List (Key × V) → Oth → Prop
  | nil : OthAt H [] []
  | cons {n : Str} {cs : CsL} {b : Nat} {q C : Addr} {kvs : List (Key × V)} {os : Oth} (e : H q = some (.tup [.ref C, .int (b : Int)])) (ca : CA H C cs) (r : OthAt H kvs os) : OthAt H ((Sum.inr n, .ref q) :: kvs) ((n, cs, b) :: os)
theorem OthAt.b {t : Addr} {H H' : Hp} (T : Tape H t) (s : SameB t H H') : ∀ {kvs : List (Key × V)} {os : Oth}, OthAt H kvs os → OthAt H' kvs os
  | _, _, .nil => .nil
  | _, _, .cons e ca r => .cons (SameT.b T s _ _ e) (ca.b T s) (OthAt.b T s r)
theorem OthAt.keys {H : Hp} : ∀ {kvs : List (Key × V)} {os : Oth}, OthAt H kvs os → kvs.map (·.1) = (os.map (·.1)).map Sum.inr
  | _, _, .nil => rfl
  | _, _, .cons e ca r => by
    rw [List.map_cons, List.map_cons, List.map_cons, OthAt.keys r]
theorem OthAt.get {H : Hp} {x : Str} : ∀ {kvs : List (Key × V)} {os : Oth}, OthAt H kvs os → x ∈ os.map (·.1) → ∃ q C cs b, valV kvs (Sum.inr x : Key) = some (.ref q) ∧ H q = some (.tup [.ref C, .int ((b : Nat) : Int)]) ∧ CA H C cs ∧ (x, cs, b) ∈ os
  | _, _, .nil, h => by cases h
  | _, _, .cons (n := n) (cs := cs) (b := b) (q := q) (C := C) e ca r, h => by
    by_cases z : n = x
    · subst z
      exact ⟨q, C, cs, b, valV_pos rfl, e, ca, List.mem_cons_self⟩
    · rw [List.map_cons] at h
      rcases List.mem_cons.mp h with h | h
      · exact absurd h.symm z
      · obtain ⟨q', C', cs', b', h1, h2, h3, h4⟩ := OthAt.get r h
        exact ⟨q', C', cs', b', by rw [valV_neg (fun w => z (by injection w))]; exact h1, h2, h3, List.mem_cons_of_mem _ h4⟩
abbrev ldO (os : Oth) : List (Str × CsL) := os.map fun o => (o.1, o.2.1)
def spMt : Sp := fun vs H Q _ => ∃ (t c L O : Addr) (ps : CsL) (kvs : List (Key × V)) (os : Oth) (bd : Nat), vs = [.ref t, .ref L, .ref O, .int (bd : Int)] ∧ TapeL c H t ∧ CA H L ps ∧ ColP ps ∧ H O = some (.dK kvs) ∧ OthAt H kvs os ∧ os ≠ [] ∧ os.length ≤ 10 ∧ (∀ o ∈ os, ColP o.2.1 ∧ o.2.2 ≤ 1000) ∧ bd ≤ 1000 ∧ (∀ H', TapeL c H' t → SameB t H H' → Q .non H') ∧
  ∀ (r : Addr) (v : V) (C : Addr) (b : Nat) (p : Ps) (qs : CsL) (H' : Hp), H' r = some (.tup [v, .ref C, .int (b : Int)]) → DhT t H' v p.d → CA H' C qs → Lead (ldO os) ps p qs → b ≤ 1000 → TapeL c H' t → SameB t H H' → Q (.ref r) H'
theorem can_str {n : Nat} {x : Str} (h : Sh n x) : (PyData.str x).canLay0 = true := by
  show x.cps.all (· < 0x110000) = true
  rw [Array.all_eq_true]
  intro i hi
  have := h.ok x.cps[i] (by simp)
  simpa using this
theorem cans_all {ds : List PyData} (h : ∀ d ∈ ds, d.canLay0 = true) : PyData.canLayAll0 ds = true := by
  induction ds with
  | nil => rfl
  | cons d ds ih => simp [PyData.canLayAll0, h d List.mem_cons_self, ih fun x hx => h x (List.mem_cons_of_mem _ hx)]
theorem cols_depth (ps : CsL) : PyData.depthAll (ps.map colP) ≤ 1 ∧ PyData.hasDictAll (ps.map colP) = false := by
  induction ps with
  | nil => exact ⟨Nat.zero_le _, rfl⟩
  | cons p ps ih =>
    refine ⟨?_, ?_⟩
    · simp only [List.map_cons, PyData.depthAll, colP, PyData.depth]
      have := ih.1
      omega
    · rw [List.map_cons, PyData.hasDictAll, ih.2]
      rfl
theorem shp_ps {ps : CsL} (h : ColP ps) : SeqAt.shaped (.tuple (ps.map colP)) = true := by
  obtain ⟨h1, h2⟩ := cols_depth ps
  refine Bool.and_eq_true_iff.mpr ⟨?_, decide_eq_true ?_⟩
  · show PyData.canLayAll0 (ps.map colP) = true
    refine cans_all fun d hd => ?_
    obtain ⟨p, hp, rfl⟩ := List.mem_map.mp hd
    obtain ⟨h1, _, h3⟩ := h.ok p hp
    refine cans_all fun d hd => ?_
    simp only [List.mem_cons, List.not_mem_nil, or_false] at hd
    rcases hd with rfl | rfl
    · exact can_str h1
    · exact can_str h3.sh
  · simp only [PyData.depth]
    omega
theorem eqv_cols : ∀ ps qs : CsL, PyData.eqvAll (ps.map colP) (qs.map colP) = decide (ps = qs)
  | [], [] => rfl
  | [], q :: qs => rfl
  | p :: ps, [] => rfl
  | (a, b) :: ps, (c, d) :: qs => by
    rw [List.map_cons, List.map_cons, PyData.eqvAll, eqv_cols ps qs]
    show (PyData.eqv (.tuple [.str a, .str b]) (.tuple [.str c, .str d]) && decide (ps = qs)) = _
    simp only [PyData.eqv, PyData.eqvAll, Bool.and_true]
    by_cases h1 : a = c
    · by_cases h2 : b = d
      · subst h1; subst h2
        simp
      · have : (b == d) = false := beq_eq_false_iff_ne.mpr h2
        rw [this]
        simp [h2]
    · have : (a == c) = false := beq_eq_false_iff_ne.mpr h1
      rw [this]
      simp [h1]
theorem eqv_strs : ∀ a b : List Str, PyData.eqvAll (a.map PyData.str) (b.map PyData.str) = decide (a = b)
  | [], [] => rfl
  | [], _ :: _ => rfl
  | _ :: _, [] => rfl
  | x :: a, y :: b => by
    rw [List.map_cons, List.map_cons, PyData.eqvAll, eqv_strs a b]
    simp only [PyData.eqv]
    by_cases h1 : x = y
    · subst h1
      simp
    · have : (x == y) = false := beq_eq_false_iff_ne.mpr h1
      rw [this]
      simp [h1]
theorem strs_depth (ns : List Str) : PyData.depthAll (ns.map PyData.str) = 0 := by
  induction ns with
  | nil => rfl
  | cons p ps ih => simp only [List.map_cons, PyData.depthAll, PyData.depth, ih]; omega
theorem shp_strs {ns : List Str} (h : ∀ n ∈ ns, Sh 12 n) : SeqAt.shaped (.list (ns.map PyData.str)) = true := by
  refine Bool.and_eq_true_iff.mpr ⟨?_, decide_eq_true ?_⟩
  · refine cans_all fun d hd => ?_
    obtain ⟨p, hp, rfl⟩ := List.mem_map.mp hd
    exact can_str (h p hp)
  · simp only [PyData.depth, strs_depth]
    omega
theorem dp_strs {K : PySem.W.Frag} {H : Hp} : ∀ ns : List Str, DpAll K H (vS ns) (ns.map PyData.str)
  | [] => .nil
  | n :: ns => .cons (.str _) (dp_strs ns)
theorem dp_cols {K : PySem.W.Frag} {H : Hp} : ∀ {xs : List V} {ps : CsL}, Cols H xs ps → DpAll K H xs (ps.map colP)
  | _, _, .nil => .nil
  | _, _, .cons e r => .cons (.tup (SqT.of e) (.cons (.str _) (.cons (.str _) .nil))) (dp_cols r)
/-- the names that both have; those whose kinds are alike -/
def shN (ps cs : CsL) : List Str := (cs.filter fun p => decide (p.1 ∈ nms ps)).map (·.1)
def alN (ps cs : CsL) : List Str := (cs.filter fun p => decide (p.1 ∈ nms ps ∧ kdOf ps p.1 = p.2)).map (·.1)
def moC (ps cs : CsL) : CsL := cs.filter fun p => decide (p.1 ∉ nms ps)
theorem shN_mem {ps cs : CsL} {x : Str} : x ∈ shN ps cs ↔ x ∈ nms cs ∧ x ∈ nms ps := by
  unfold shN
  constructor
  · intro h
    obtain ⟨p, hp, rfl⟩ := List.mem_map.mp h
    obtain ⟨h1, h2⟩ := List.mem_filter.mp hp
    exact ⟨List.mem_map_of_mem h1, of_decide_eq_true h2⟩
  · rintro ⟨h1, h2⟩
    obtain ⟨p, hp, rfl⟩ := List.mem_map.mp h1
    exact List.mem_map_of_mem (List.mem_filter.mpr ⟨hp, decide_eq_true h2⟩)
theorem shN_kind {ps cs : CsL} (hc : (nms cs).Nodup) (e : shN ps cs = alN ps cs) {x : Str} (h : x ∈ shN ps cs) : kdOf ps x = kdOf cs x := by
  rw [e] at h
  unfold alN at h
  obtain ⟨p, hp, rfl⟩ := List.mem_map.mp h
  obtain ⟨h1, h2⟩ := List.mem_filter.mp hp
  rw [(of_decide_eq_true h2).2, kdOf_mem hc h1]
theorem shN_nd {ps cs : CsL} (hc : (nms cs).Nodup) : (shN ps cs).Nodup := (List.filter_sublist.map _).nodup hc
theorem fil_take {α : Type} {l : List α} {i : Nat} {x : α} (f : α → Bool) (h : l[i]? = some x) : (l.take (i + 1)).filter f = (l.take i).filter f ++ (if f x = true then [x] else []) := by
  rw [List.take_add_one, h, List.filter_append]
  show _ ++ List.filter f [x] = _
  rw [List.filter_cons]
  cases f x <;> rfl
/-- one turn of a filtered comprehension over columns: the names -/
theorem fnm_turn {H H1 : Hp} {D : Addr} {cs : CsL} {i : Nat} {z kk : Str} {f : Str × Str → Bool} (hD : H D = none) (hD1 : H1 D = some (.lst (vS (((cs.take i).filter f).map (·.1))))) (ep : cs[i]? = some (z, kk)) (l8 : cs.length ≤ 8) (s1 : Same H H1) (hf : f (z, kk) = true) : ∃ acc, H1 D = some (.lst acc) ∧ acc.length < sizeLine ∧ (upd H1 D (.lst (acc ++ [.str z])) D = some (.lst (vS (((cs.take (i + 1)).filter f).map (·.1)))) ∧ Same H (upd H1 D (.lst (acc ++ [.str z])))) := by
  refine ⟨_, hD1, ?_, ?_, fun b o e => by rw [upd_ne (ne_of_none e hD)]; exact s1 b o e⟩
  · rw [List.length_map, List.length_map]
    have := List.length_filter_le f (cs.take i)
    rw [List.length_take] at this
    exact lt_size (by omega)
  · rw [upd_same, fil_take f ep, hf]
    unfold vS
    rw [if_pos rfl, List.map_append, List.map_append]
    rfl
theorem fnm_skip {H1 : Hp} {D : Addr} {cs : CsL} {i : Nat} {x : Str × Str} {f : Str × Str → Bool} (hD1 : H1 D = some (.lst (vS (((cs.take i).filter f).map (·.1))))) (ep : cs[i]? = some x) (hf : f x = false) : H1 D = some (.lst (vS (((cs.take (i + 1)).filter f).map (·.1)))) := by
  rw [hD1, fil_take f ep, hf]
  simp
section
variable {P : Program} {w : World} {K : PySem.W.Frag} {mg : Str → Option Value} {base : Heap} {f : Addr} {fd : FuncData}
abbrev sMt : Stmt := top 88
abbrev nMt : List Str := ["_law_tape_here", "_law_columns_here", "_law_others", "_law_bound", "_law_keys", "_law_other", "_law_theirs", "_law_size", "_law_mine", "_law_shared", "_law_name_here", "_law_kind", "_law_alike", "_law_more", "_law_part"]
abbrev pMt : List Str := ["_law_tape_here", "_law_columns_here", "_law_others", "_law_bound"]
theorem scMt : FnScope nMt pMt (defScope sMt) := ⟨rfl, rfl, rfl, by decide +kernel, rfl, by decide +kernel, by decide +kernel⟩
section
variable {fA_ : Addr} {fdA_ : FuncData}
theorem ok_Mt (F : Fun K "_law_meeting_step" "_law_meeting_step" sMt f fd) (T : Bt mg) (mS : mg "sorted" = none)
    (GA_ : FnOk P w K mg base CX0 1 fA_ fdA_ ["_law_tape_here", "_law_many"] (spDrawL)) (mA_ : mg "_law_draw" = some (.ref fA_)) (kA_ : PySem.W.keepIn K (.ref fA_) = true) (bA_ : Binds K fdA_ ["_law_tape_here", "_law_many"] []) : FnOk P w K mg base CX0 4 f fd pMt (spMt) := by
  refine F.ok scMt (fun vs H Q E h => ?_) (fun cdv A outer s H vs Q E hr h => ?_)
  · obtain ⟨t, c, L, O, ps, kvs, os, bd, rfl, _⟩ := h
    rfl
  · obtain ⟨t, c, L, O, ps, kvs, os, bd, rfl, hT, hL, cp, hO, ho, one_, ten, okO, bd1, kn, k⟩ := h
    have hrA_ : Room (1) _ := hr.mono (by first | decide | omega)
    refine ⟨_, (Evl.pss_cut (ps_if (pt_not (pt_truth (pv 2) (fun _ => rfl))) (pss_one (ps_ret pe_non)) pss_nil)
      (pss_cons (ps_set (i := 4) scMt.nd rfl (Or.inl rfl) (pe_callB (call_sortedD rfl) (by rfl) mS (by decide +kernel) (pa_cons (pv 2) pa_nil)))
      (pss_cons (ps_set (i := 5) scMt.nd rfl (Or.inl rfl) (pe_ix ix_list (pv 4) (pe_call GA_ hrA_ (by rfl) mA_ kA_ bA_ .nil pass0 (pa_cons (pv 0) (pa_cons (pe_callB call_len_seq (by rfl) T.len PySem.boot_len (pa_cons (pv 4) pa_nil)) pa_nil))) (fun _ _ => rfl)))
      (pss_cons (ps_set (i := 6) scMt.nd rfl (Or.inl rfl) (pe_ix ix_tup (pe_dget (hu_of hr) (pv 2) (pv 5) (fun _ _ => rfl)) pe_int (fun _ _ => rfl)))
      (pss_cons (ps_set (i := 7) scMt.nd rfl (Or.inl rfl) (pe_ix ix_tup (pe_dget (hu_of hr) (pv 2) (pv 5) (fun _ _ => rfl)) pe_int (fun _ _ => rfl)))
      (Evl.pss_cut (ps_if (PW.pt (pw_and (pt_cmpR (op_eqD hr.units) (pv 6) (pv 1) (nomark _)) (pw_and (pt_cmpR op_le (pe_op op_add (pv 3) (pv 7)) pe_int (nomark _)) (pw_and1 (pt_cmpR op_eq (pe_call GA_ hrA_ (by rfl) mA_ kA_ bA_ .nil pass0 (pa_cons (pv 0) (pa_cons pe_int pa_nil))) pe_int (nomark _)))))) (pss_one (ps_ret (pe_tup (pa_cons (pe_tup (pa_cons pe_str (pa_cons (pv 5) pa_nil))) (pa_cons (pv 1) (pa_cons (pe_op op_add (pv 3) (pv 7)) pa_nil)))))) pss_nil)
      (pss_cons (ps_set (i := 8) scMt.nd rfl (Or.inr rfl) (pe_callTy (call_dictZ rfl) (by rfl) T.dict boot_dict (pa_cons (pv 1) pa_nil)))
      (Evl.pss_cut (ps_set (i := 9) scMt.nd rfl (Or.inr rfl) (pe_lc (own := [("_law_name_here", 10), ("_law_kind", 11)]) (g := (gTup K 2 (gCons (gName 10) (gCons (gName 11) gNil)))) (tt := ttM1) (te := tVar 10) (by rfl) scMt.nd (pi_tup (pv 6)) (blkOk_by (own := [("_law_name_here", 10), ("_law_kind", 11)]) (N := nMt) (sc := defScope sMt) (by decide +kernel)) (fun _ _ _ _ _ => (pg_tup rfl (pgs_cons (pg_name (i := 10) scMt.nd rfl (.inl rfl)) (pgs_cons (pg_name (i := 11) scMt.nd rfl (.inl rfl)) pgs_nil)))) (fun _ _ _ _ _ => (pts_one (pt_cmpR (op_inDk (hu_of hr)) (pv 10) (pv 8) (by rfl)))) (fun _ _ _ _ _ => (pv 10))))
      (Evl.pss_cut (ps_setLc (i := 12) (own := [("_law_name_here", 10), ("_law_kind", 11)]) (g := (gTup K 2 (gCons (gName 10) (gCons (gName 11) gNil)))) (tt := ttM2) (te := tVar 10) (by rfl) scMt.nd rfl rfl (sw_true rfl rfl rfl (by decide +kernel)) (pi_tup (pv 6)) (blkOk_by (own := [("_law_name_here", 10), ("_law_kind", 11)]) (N := nMt) (sc := defScope sMt) (by decide +kernel)) (fun _ _ _ _ _ => (pg_tup rfl (pgs_cons (pg_name (i := 10) scMt.nd rfl (.inl rfl)) (pgs_cons (pg_name (i := 11) scMt.nd rfl (.inl rfl)) pgs_nil)))) (fun _ _ _ _ _ => (pts_one (pt_cmpR op_eq (pe_dget2 (hu_of hr) (pv 8) (pv 10) pe_str ⟨rfl, rfl, rfl, rfl⟩) (pv 11) (nomark _)))) (fun _ _ _ _ _ => (pv 10)))
      (Evl.pss_cut (ps_set (i := 13) scMt.nd rfl (Or.inl rfl) (pe_callTy call_tuple_of (by rfl) T.tuple boot_tuple (pa_cons (pe_lc (own := [("_law_part", 14)]) (g := (gName 14)) (tt := ttM3 K) (te := tVar 14) (by rfl) scMt.nd (pi_tup (pv 6)) (blkOk_by (own := [("_law_part", 14)]) (N := nMt) (sc := defScope sMt) (by decide +kernel)) (fun _ _ _ _ _ => (pg_name (i := 14) scMt.nd rfl (.inl rfl))) (fun _ _ _ _ _ => (pts_one (pt_cmpR op_notIn_seq (pe_ix ix_tup (pv 14) pe_int (fun _ _ => rfl)) (pv 9) (by rfl)))) (fun _ _ _ _ _ => (pv 14))) pa_nil)))
      (Evl.pss_cut (ps_if (PW.pt (pw_or (pt_cmpR (op_neD hr.units) (pv 9) (pv 12) (nomark _)) (pw_or (pt_not (pt_truth (pv 9) (fun _ => rfl))) (pw_or (pt_cmpR op_gt (pe_callB call_len_seq (by rfl) T.len PySem.boot_len (pa_cons (pv 9) pa_nil)) pe_int (nomark _)) (pw_or (pt_cmpR op_gt (pe_op op_add (pe_callB call_len_seq (by rfl) T.len PySem.boot_len (pa_cons (pv 1) pa_nil)) (pe_callB call_len_seq (by rfl) T.len PySem.boot_len (pa_cons (pv 13) pa_nil))) pe_int (nomark _)) (pw_or1 (pt_cmpR op_gt (pe_op op_mul (pv 3) (pv 7)) pe_int (nomark _)))))))) (pss_one (ps_ret pe_non)) pss_nil)
      (Evl.pss_cut (ps_if (pt_cmpR op_eq (pe_call GA_ hrA_ (by rfl) mA_ kA_ bA_ .nil pass0 (pa_cons (pv 0) (pa_cons pe_int pa_nil))) pe_int (nomark _)) (pss_one (ps_set (i := 9) scMt.nd rfl (Or.inr rfl) (pe_revL (pv 9)))) pss_nil)
      (pss_one (ps_ret (pe_tup (pa_cons (pe_tup (pa_cons pe_str (pa_cons (pv 5) (pa_cons (pe_callTy call_tuple_of (by rfl) T.tuple boot_tuple (pa_cons (pv 9) pa_nil)) pa_nil)))) (pa_cons (pe_op op_catZ (pv 1) (pv 13)) (pa_cons (pe_op op_mul (pv 3) (pv 7)) pa_nil)))))))))))))))))), ?_⟩
    have two : 2 ≤ sizeLine := by decide
    have one : 1 ≤ sizeLine := by decide
    have three : 3 ≤ sizeLine := by decide
    have four : 4 ≤ sizeLine := by decide
    obtain ⟨xs, zL, cc⟩ := hL
    have l8 := cp.l8
    have l1 := cp.l1
    have lx := cc.len
    have nO : O ≠ t := by
      intro z
      obtain ⟨_, _, _, _, _, h1, _⟩ := hT.tape
      rw [z, h1] at hO
      cases hO
    refine ⟨fun σ H' => H' = H ∧ σ = [some (.ref t), some (.ref L), some (.ref O), some (.int (bd : Int)), none, none, none, none, none, none, none, none, none, none, none], ?_, ?_⟩
    · refine ⟨_, rfl, _, .inr (.inr ⟨kvs, hO, rfl⟩), ?_⟩
      have ne : kvs ≠ [] := fun e => by
        have := ho.keys
        rw [e] at this
        cases os with
        | nil => exact one_ rfl
        | cons _ _ => cases this
      cases kvs with
      | nil => exact absurd rfl ne
      | cons a b => exact iteF ⟨rfl, rfl⟩
    rintro σ H1 ⟨rfl, rfl⟩
    refine ⟨_, rfl, O, kvs, os.map (·.1), rfl, .inl hO, ho.keys, by rw [List.length_map]; omega, fun ys p pm _ hp => ?_⟩
    have zp := Same.upd (o := .lst (vS ys)) hp
    have ep : upd H1 p (.lst (vS ys)) p = some (.lst (vS ys)) := upd_same
    have np := hT.tape.ne hp
    have ly : ys.length = os.length := by rw [pm.length_eq, List.length_map]
    have l0 : 0 < os.length := List.length_pos_iff.mpr one_
    have lyv : (vS ys).length = os.length := by rw [List.length_map, ly]
    refine ⟨_, rfl, _, rfl, _, rfl, p, _, rfl, .inl (SqL.of ep), t, c, _, rfl, hT.same zp, by rw [lyv]; omega, big1000 (by omega) (by rw [lyv]; omega), fun j H2 j0 j1 T2 S2 => ?_⟩
    rw [lyv] at j1
    obtain ⟨x, ex⟩ : ∃ x, ys[j.toNat]? = some x := ⟨_, List.getElem?_eq_getElem (by omega)⟩
    have hx : x ∈ os.map (·.1) := pm.mem_iff.mp (List.mem_of_getElem? ex)
    refine ⟨p, _, _, .str x, rfl, rfl, SqL.of (S2 _ _ np ep), at_of (j := j.toNat) (by omega) (by rw [List.getElem?_map, ex]; rfl), ?_⟩
    have S02 := (Same.b t zp).trans S2
    obtain ⟨q, C, cs, b, v1, eq, hC, mo⟩ := (ho.b hT.tape S02).get hx
    have hO2 := S02 _ _ nO hO
    have g := DGet.k (k := (Sum.inr x : Key)) hO2
    rw [v1] at g
    refine ⟨_, rfl, _, rfl, O, _, rfl, g, q, _, _, .ref C, rfl, rfl, SqT.of eq, rfl, ?_⟩
    refine ⟨_, rfl, _, rfl, O, _, rfl, g, q, _, _, .int b, rfl, rfl, SqT.of eq, rfl, ?_⟩
    obtain ⟨cq, b1000⟩ := okO _ mo
    have cq : ColP cs := cq
    have b1000 : b ≤ 1000 := b1000
    have c8 := cq.l8
    obtain ⟨ws, zC, wc⟩ := hC
    have lw := wc.len
    have mld : (x, cs) ∈ ldO os := List.mem_map_of_mem (f := fun o : Str × CsL × Nat => (o.1, o.2.1)) mo
    have z2 := zL.b hT.tape S02
    have c2 := cc.b hT.tape S02
    clear g v1 hO2 hx ex ep eq j0 j1 zp S2
    let M := fun (x8 x9 x12 x13 : Option V) (σ : L2.St) => σ = [some (.ref t), some (.ref L), some (.ref O), some (.int (bd : Int)), some (.ref p), some (.str x), some (.ref C), some (.int (b : Int)), x8, x9, none, none, x12, x13, none]
    refine ⟨fun σ H' => M none none none none σ ∧ TapeL c H' t ∧ SameB t H2 H', ?_, ?_⟩
    · refine ⟨_, rfl, _, rfl, _, _, .tup zC.sq (dp_cols wc), .tup z2.sq (dp_cols c2), shp_ps cq, shp_ps cp, _, rfl, ?_⟩
      rw [show PyData.eqv (.tuple (cs.map colP)) (.tuple (ps.map colP)) = decide (cs = ps) by rw [PyData.eqv, eqv_cols]]
      refine ite2 (fun y => ?_) (fun _ => iteF ⟨rfl, T2, SameB.refl _ _⟩)
      have y := of_decide_eq_true y
      refine ⟨_, rfl, _, rfl, _, _, rfl, rfl, _, _, rfl, rfl, _, rfl, ite2 (fun w => ?_) (fun _ => iteF ⟨rfl, T2, SameB.refl _ _⟩)⟩
      have w := of_decide_eq_true w
      refine ⟨_, rfl, t, c, _, rfl, T2, by decide, big1000 (by decide) (by decide), fun d H3 _ _ T3 S3 => ⟨rfl, _, rfl, ite2 (fun _ => ?_) (fun _ => ⟨rfl, T3, S3⟩)⟩⟩
      refine ⟨_, rfl, two, fun q hq => ⟨_, rfl, _, rfl, _, rfl, _, _, rfl, rfl, three, fun r hr => ?_⟩⟩
      have zq := Same.upd (o := .tup [.str "union", .str x]) hq
      have zr := Same.upd (o := .tup [.ref q, .ref L, .int ((bd : Int) + (b : Int))]) hr
      have zall := zq.trans zr
      subst y
      exact k r (.ref q) L (bd + b) (.union x) cs _ upd_same (dts (dh_tupT T3.tape (.cons (.str _) (.cons (.str _) .nil)) hq) zr) ⟨xs, (z2.b T2.tape S3).same zall, (c2.b T2.tape S3).t (SameT.of zall)⟩ (.union mld) (by omega) (T3.same zall) (S02.trans (S3.trans (Same.b t zall)))
    clear z2 c2
    rintro σ H3 ⟨rfl, T3, S3⟩
    have S03 := S02.trans S3
    have z3 := zL.b hT.tape S03
    have c3 := cc.b hT.tape S03
    have zC3 := zC.b T2.tape S3
    have wc3 := wc.b T2.tape S3
    clear S02 S3 T2 zC wc
    obtain ⟨as, exs, pr⟩ := cols_refs (K := K) c3
    have z3' := z3
    rw [exs] at z3'
    refine ⟨_, rfl, L, as, dkc ps, rfl, z3', pr, fun d hd => ?_⟩
    rw [dkc_merge cp.nd]
    have zd := Same.upd (o := .dK (dkc ps)) hd
    have ed : upd H3 d (.dK (dkc ps)) d = some (.dK (dkc ps)) := upd_same
    have T4 := T3.same zd
    have S04 := S03.trans (Same.b t zd)
    have zC4 := zC3.same zd
    have wc4 := wc3.t (SameT.of zd)
    have z4 := z3.same zd
    have c4 := c3.t (SameT.of zd)
    clear z3 z3' c3 zC3 wc3 S03 T3
    generalize upd H3 d (.dK (dkc ps)) = H4 at ed T4 S04 zC4 wc4 z4 c4 ⊢
    clear zd hd pr exs as
    refine ⟨fun σ H' => ∃ D : Addr, M (some (.ref d)) (some (.ref D)) none none σ ∧ H' D = some (.lst (vS (shN ps cs))) ∧ Same H4 H', ?_, ?_⟩
    · refine ⟨_, rfl, C, rfl, ⟨_, zC4.sq⟩, fun D hD => lc_tup (K := K) (a := C) (xs := ws) (fun i H' => H' D = some (.lst (vS (((cs.take i).filter fun p => decide (p.1 ∈ nms ps)).map (·.1)))) ∧ Same H4 H') ⟨upd_same, Same.upd hD⟩ (fun i H' _ pr => (zC4.same pr.2).sq) ?_ ?_⟩
      · rintro i y H5 hy ⟨e5, s5⟩
        obtain ⟨a, z, kk, rfl, ea, ep⟩ := wc4.get _ _ hy
        refine ⟨a, _, rfl, SqT.of (s5 _ _ ea), rfl, _, _, rfl, _, _, rfl, rfl, rfl, ?_⟩
        change ttM1 _ _ _
        have g := DGet.k (k := (Sum.inr z : Key)) (s5 _ _ ed)
        by_cases m : z ∈ nms ps
        · rw [dkc_in m] at g
          exact ⟨_, rfl, _, rfl, d, _, rfl, g, _, rfl, iteT ⟨_, rfl, fnm_turn hD e5 ep c8 s5 (decide_eq_true m)⟩⟩
        · rw [dkc_no m] at g
          exact ⟨_, rfl, _, rfl, d, _, rfl, g, _, rfl, iteF ⟨fnm_skip e5 ep (decide_eq_false m), s5⟩⟩
      rintro H5 ⟨e5, s5⟩
      rw [lw, List.take_length] at e5
      exact ⟨D, rfl, e5, s5⟩
    rintro σ H5 ⟨D, rfl, eD, s5⟩
    refine ⟨fun σ H' => ∃ D2 : Addr, M (some (.ref d)) (some (.ref D)) (some (.ref D2)) none σ ∧ H' D2 = some (.lst (vS (alN ps cs))) ∧ Same H5 H', ?_, ?_⟩
    · have zC5 := zC4.same s5
      refine ⟨_, rfl, C, rfl, ⟨_, zC5.sq⟩, fun D2 hD => lc_tup (K := K) (a := C) (xs := ws) (fun i H' => H' D2 = some (.lst (vS (((cs.take i).filter fun p => decide (p.1 ∈ nms ps ∧ kdOf ps p.1 = p.2)).map (·.1)))) ∧ Same H5 H') ⟨upd_same, Same.upd hD⟩ (fun i H' _ pr => (zC5.same pr.2).sq) ?_ ?_⟩
      · rintro i y H6 hy ⟨e6, s6⟩
        obtain ⟨a, z, kk, rfl, ea, ep⟩ := wc4.get _ _ hy
        have s46 := s5.trans s6
        refine ⟨a, _, rfl, SqT.of (s46 _ _ ea), rfl, _, _, rfl, _, _, rfl, rfl, rfl, ?_⟩
        change ttM2 _ _ _
        have g := DGet.k (k := (Sum.inr z : Key)) (s46 _ _ ed)
        have nk : ¬ ("" : Str) = kk := fun e => by
          rcases (cq.ok _ (List.mem_of_getElem? ep)).2.2 with h | h | h <;> (rw [show kk = _ from h] at e; revert e; decide +kernel)
        by_cases m : z ∈ nms ps
        · rw [dkc_in m] at g
          refine ⟨_, rfl, d, rfl, .inl ⟨_, .inl (s46 _ _ ed)⟩, _, rfl, _, g, _, rfl, rfl, _, rfl, ?_⟩
          show if decide (V.str (kdOf ps z) = V.str kk) = true then _ else _
          by_cases e : kdOf ps z = kk
          · rw [show decide (V.str (kdOf ps z) = V.str kk) = true by rw [e]; exact decide_eq_true rfl]
            exact iteT ⟨_, rfl, fnm_turn hD e6 ep c8 s6 (decide_eq_true ⟨m, e⟩)⟩
          · rw [show decide (V.str (kdOf ps z) = V.str kk) = false from decide_eq_false (fun h => e (by injection h))]
            exact iteF ⟨fnm_skip e6 ep (decide_eq_false fun h => e h.2), s6⟩
        · rw [dkc_no m] at g
          refine ⟨_, rfl, d, rfl, .inl ⟨_, .inl (s46 _ _ ed)⟩, _, rfl, _, g, _, rfl, rfl, _, rfl, ?_⟩
          show if decide (V.str "" = V.str kk) = true then _ else _
          rw [show decide (V.str "" = V.str kk) = false from decide_eq_false (fun h => nk (by injection h))]
          exact iteF ⟨fnm_skip e6 ep (decide_eq_false fun h => m h.1), s6⟩
      rintro H6 ⟨e6, s6⟩
      rw [lw, List.take_length] at e6
      exact ⟨D2, rfl, e6, s6⟩
    rintro σ H6 ⟨D2, rfl, eD2, s6⟩
    have s46 := s5.trans s6
    have eD6 := s6 _ _ eD
    have fl : (vS (shN ps cs)).all flatV = true := by simp [flatV]
    refine ⟨fun σ H' => ∃ (p3 : Addr) (ms : List V), M (some (.ref d)) (some (.ref D)) (some (.ref D2)) (some (.ref p3)) σ ∧ H' p3 = some (.tup ms) ∧ Cols H' ms (moC ps cs) ∧ Same H6 H', ?_, ?_⟩
    · have zC6 := zC4.same s46
      have wc6 := wc4.t (SameT.of s46)
      refine ⟨_, rfl, C, rfl, ⟨_, zC6.sq⟩, fun D3 hD => lc_tup (K := K) (a := C) (xs := ws) (fun i H' => (∃ ms, H' D3 = some (.lst ms) ∧ Cols H' ms ((cs.take i).filter fun p => decide (p.1 ∉ nms ps))) ∧ Same H6 H') ⟨⟨[], upd_same, .nil⟩, Same.upd hD⟩ (fun i H' _ pr => (zC6.same pr.2).sq) ?_ ?_⟩
      · rintro i y H7 hy ⟨⟨ms, e7, m7⟩, s7⟩
        obtain ⟨a, z, kk, rfl, ea, ep⟩ := wc6.get _ _ hy
        have zc : z ∈ nms cs := List.mem_map_of_mem (f := (·.1)) (List.mem_of_getElem? ep)
        refine ⟨rfl, ?_⟩
        change ttM3 K _ _ _
        refine ⟨_, rfl, a, _, _, .str z, rfl, rfl, SqT.of (s7 _ _ ea), rfl, _, rfl, D, _, rfl, .inl (SqL.of (s7 _ _ eD6)), rfl, fl, _, rfl, ?_⟩
        rw [if_pos rfl, in_strs]
        have lm : ms.length ≤ 8 := by
          have := m7.len
          have := List.length_filter_le (fun p : Str × Str => decide (p.1 ∉ nms ps)) (cs.take i)
          rw [List.length_take] at this
          omega
        by_cases m : z ∈ nms ps
        · rw [decide_eq_true (shN_mem.mpr ⟨zc, m⟩)]
          refine iteF ⟨⟨ms, e7, ?_⟩, s7⟩
          rw [fil_take _ ep, show decide ((z, kk).1 ∉ nms ps) = false from decide_eq_false (fun h => h m)]
          simpa using m7
        · rw [decide_eq_false (fun h => m (shN_mem.mp h).2)]
          refine iteT ⟨_, rfl, ms, e7, lt_size (by omega), ⟨ms ++ [.ref a], upd_same, ?_⟩, fun b o e => by rw [upd_ne (ne_of_none e hD)]; exact s7 b o e⟩
          rw [fil_take _ ep, show decide ((z, kk).1 ∉ nms ps) = true from decide_eq_true m]
          exact (m7.app (.cons (s7 _ _ ea) .nil)).t (SameT.lst e7)
      rintro H7 ⟨⟨ms, e7, m7⟩, s7⟩
      rw [lw, List.take_length] at m7
      exact ⟨D3, ms, rfl, .inl ⟨SqL.of e7, fun p3 hp3 => ⟨p3, ms, rfl, upd_same, m7.t (SameT.of (Same.upd hp3)), s7.trans (Same.upd hp3)⟩⟩⟩
    rintro σ H7 ⟨p3, ms, rfl, ep3, m7, s7⟩
    have s47 := s46.trans s7
    have lms := m7.len
    have eD7 := s7 _ _ eD6
    have eD27 := s7 _ _ eD2
    have T7 := T4.same s47
    have S07 := S04.trans (Same.b t s47)
    have z7 := z4.same s47
    have c7 := c4.t (SameT.of s47)
    have shs : ∀ n ∈ shN ps cs, Sh 12 n := fun n hn => (cp.nm (shN_mem.mp hn).2).1
    have als : ∀ n ∈ alN ps cs, Sh 12 n := fun n hn => by
      unfold alN at hn
      obtain ⟨p, hp, rfl⟩ := List.mem_map.mp hn
      exact (cq.ok p (List.mem_filter.mp hp).1).1
    clear z4 c4 T4 S04 zC4 wc4 ed s5 s6 s7 s46 s47 eD eD2 eD6
    refine ⟨fun σ H' => M (some (.ref d)) (some (.ref D)) (some (.ref D2)) (some (.ref p3)) σ ∧ H' = H7 ∧ shN ps cs = alN ps cs ∧ shN ps cs ≠ [] ∧ (shN ps cs).length ≤ 3 ∧ ps.length + (moC ps cs).length ≤ 8 ∧ bd * b ≤ 1000, ?_, ?_⟩
    · have out := kn H7 T7 S07
      refine ⟨_, rfl, _, rfl, _, _, .lst (SqL.of eD7) (dp_strs _), .lst (SqL.of eD27) (dp_strs _), shp_strs shs, shp_strs als, _, rfl, ?_⟩
      rw [show PyData.eqv (.list ((shN ps cs).map PyData.str)) (.list ((alN ps cs).map PyData.str)) = decide (shN ps cs = alN ps cs) by rw [PyData.eqv, eqv_strs]]
      by_cases e1 : shN ps cs = alN ps cs
      · rw [decide_eq_true e1]
        refine iteF ⟨_, rfl, _, .inl ⟨_, SqL.of eD7, rfl⟩, ?_⟩
        by_cases e2 : shN ps cs = []
        · rw [e2]
          exact iteT (iteT out)
        · show if (!(!(vS (shN ps cs)).isEmpty)) = true then _ else _
          rw [show (!(!(vS (shN ps cs)).isEmpty)) = false by
            cases h : shN ps cs with
            | nil => exact absurd h e2
            | cons a b => rfl]
          refine iteF ⟨_, rfl, D, _, rfl, .inl (SqL.of eD7), _, _, rfl, rfl, _, rfl, ite2 (fun _ => iteT out) (fun e3 => ?_)⟩
          have e3 : ¬ (3 : Int) < ((vS (shN ps cs)).length : Int) := fun h => e3 (decide_eq_true h)
          rw [List.length_map] at e3
          refine ⟨_, rfl, L, _, rfl, .inr z7.sq, _, rfl, p3, _, rfl, .inr (SqT.of ep3), _, _, rfl, rfl, _, _, rfl, rfl, _, rfl, ite2 (fun _ => iteT out) (fun e4 => ?_)⟩
          have e4 : ¬ (8 : Int) < (xs.length : Int) + (ms.length : Int) := fun h => e4 (decide_eq_true h)
          refine ⟨_, rfl, _, rfl, _, _, rfl, rfl, .inl ⟨by omega, by omega⟩, _, _, rfl, rfl, _, rfl, ite2 (fun _ => out) (fun e5 => ?_)⟩
          have e5 : ¬ (1000 : Int) < (bd : Int) * (b : Int) := fun h => e5 (decide_eq_true h)
          rw [← Int.natCast_mul] at e5
          exact ⟨rfl, rfl, e1, e2, by omega, by omega, by omega⟩
      · rw [decide_eq_false e1]
        exact iteT (iteT out)
    rintro σ H ⟨rfl, rfl, e1, e2, e3, e4, e5⟩
    have n3 : p3 ≠ t := T7.tape.neT ep3
    have nD : D ≠ t := ne_tape T7.tape eD7
    refine ⟨fun σ H' => ∃ (E : Addr) (ks : List Str), M (some (.ref d)) (some (.ref E)) (some (.ref D2)) (some (.ref p3)) σ ∧ H' E = some (.lst (vS ks)) ∧ ks.Nodup ∧ ks.length = (shN ps cs).length ∧ (∀ k, k ∈ ks ↔ k ∈ shN ps cs) ∧ TapeL c H' t ∧ SameB t H H', ?_, ?_⟩
    · refine ⟨_, rfl, t, c, _, rfl, T7, by decide, big1000 (by decide) (by decide), fun u H8 _ _ T8 S8 => ⟨rfl, _, rfl, ite2 (fun _ => ?_) (fun _ => ?_)⟩⟩
      · refine ⟨_, rfl, D, _, rfl, SqL.of (S8 _ _ nD eD7), fun E hE => ?_⟩
        have zE := Same.upd (o := .lst (vS (shN ps cs)).reverse) hE
        exact ⟨E, (shN ps cs).reverse, rfl, by rw [upd_same]; unfold vS; rw [List.map_reverse], (List.reverse_perm _).nodup_iff.mpr (shN_nd cq.nd), List.length_reverse, fun k => List.mem_reverse, T8.same zE, S8.trans (Same.b t zE)⟩
      · exact ⟨D, shN ps cs, rfl, S8 _ _ nD eD7, shN_nd cq.nd, rfl, fun k => Iff.rfl, T8, S8⟩
    rintro σ H8 ⟨E, ks, rfl, eE, kd, kl, km, T8, S8⟩
    have z8 := z7.b T7.tape S8
    have c8' := c7.b T7.tape S8
    have m8 := m7.b T7.tape S8
    have ep8 := S8 _ _ n3 ep3
    have S08 := S07.trans S8
    have lnz : 1 ≤ ks.length := by
      rw [kl]
      exact List.length_pos_iff.mpr e2
    have ld : Lead (ldO os) ps (.join x ks) (ps ++ moC ps cs) := .join mld kd lnz (by omega) (fun k => (km k).trans shN_mem) (fun k hk => shN_kind cq.nd e1 ((km k).mp hk)) e4
    refine ⟨_, rfl, _, rfl, E, _, rfl, .inl ⟨SqL.of eE, fun p4 hp4 => ⟨three, fun q hq => ?_⟩⟩⟩
    have z4 := Same.upd (o := .tup (vS ks)) hp4
    have zq := Same.upd (o := .tup [.str "join", .str x, .ref p4]) hq
    have z4q := z4.trans zq
    have dv : DhT t (upd (upd H8 p4 (.tup (vS ks))) q (.tup [.str "join", .str x, .ref p4])) (.ref q) (Ps.d (.join x ks)) := dh_tupT (T8.same z4).tape (.cons (.str _) (.cons (.str _) (.cons (dh_tupT (vs := vS ks) T8.tape (strsA ks) hp4) .nil))) hq
    have z9 := z8.same z4q
    have c9 := c8'.t (SameT.of z4q)
    have m9 := m8.t (SameT.of z4q)
    have ep9 := z4q _ _ ep8
    have T9 := T8.same z4q
    have S9 := S08.trans (Same.b t z4q)
    generalize upd (upd H8 p4 (.tup (vS ks))) q (.tup [.str "join", .str x, .ref p4]) = H9 at dv z9 c9 m9 ep9 T9 S9 ⊢
    have fin : ∀ {H' : Hp} {C' : Addr}, Same H9 H' → CA H' C' (ps ++ moC ps cs) → ∀ r, H' r = none → Q (.ref r) (upd H' r (.tup [.ref q, .ref C', .int ((bd : Int) * (b : Int))])) := fun {H' C'} s ca r hr => by
      have zr := Same.upd (o := .tup [.ref q, .ref C', .int ((bd : Int) * (b : Int))]) hr
      have sr := s.trans zr
      exact k r (.ref q) C' (bd * b) (.join x ks) _ _ (by rw [upd_same, Int.natCast_mul]) (dts dv sr) (ca.same zr) ld e5 (T9.same sr) (S9.trans (Same.b t sr))
    have xne : xs ≠ [] := fun z => by rw [z] at lx; change 0 = _ at lx; omega
    have mt_ : ∀ {H' : Hp} {C' : Addr}, Same H9 H' → CA H' C' (ps ++ moC ps cs) → ∀ r, H' r = none → Q (.ref r) (upd H' r (.tup [.ref q, .ref C', .int ((bd : Int) * (b : Int))])) := fin
    refine ⟨_, rfl, _, rfl, L, p3, xs, ms, rfl, rfl, z9.sq, SqT.of ep9, xne, Nat.le_trans (show _ ≤ 8 by omega) (by decide), fun z => ?_, fun _ r ob hr d1 d2 => ?_⟩
    · subst z
      have : moC ps cs = [] := List.length_eq_zero_iff.mp (by rw [← lms]; rfl)
      refine ⟨_, rfl, _, rfl, _, _, rfl, rfl, .inl ⟨by omega, by omega⟩, three, fun r hr => fin (Same.refl _) ?_ r hr⟩
      rw [this, List.append_nil]
      exact ⟨xs, z9, c9⟩
    · have zr := Same.upd (o := .frz ob (.tup (xs ++ ms))) hr
      exact ⟨_, rfl, _, rfl, _, _, rfl, rfl, .inl ⟨by omega, by omega⟩, three, fun s hs => fin zr ⟨xs ++ ms, ⟨ob, d1, d2, upd_same⟩, (c9.app m9).t (SameT.of zr)⟩ s hs⟩
end
end
end K78
set_option Elab.async false
set_option linter.all false
set_option maxRecDepth 100000
set_option maxHeartbeats 4000000
namespace K78
open PySem PySem.Spec PyProof.Rows L2 Lc
/-! ## drawn steps, one behind another -/
inductive Leads (os : List (Str × CsL)) (ps : CsL) : List Ps → CsL → Prop
  | nil : Leads os ps [] ps
  | snoc {a : List Ps} {qs rs : CsL} {p : Ps} (h : Leads os ps a qs) (l : Lead os qs p rs) : Leads os ps (a ++ [p]) rs
theorem Leads.go {os : List (Str × CsL)} {ps qs : CsL} {a : List Ps} (h : Leads os ps a qs) (c : ColP ps) (ho : ∀ o ∈ os, nmS o.1 ∧ ColP o.2) : (∀ p ∈ a, p.Ok ∧ p.Sm 3) ∧ ColP qs := by
  induction h with
  | nil => exact ⟨nofun, c⟩
  | snoc h l ih =>
    obtain ⟨i1, i2⟩ := ih
    obtain ⟨h1, h2, h3⟩ := l.go i2 ho
    refine ⟨fun p hp => ?_, h3⟩
    rcases List.mem_append.mp hp with hp | hp
    · exact i1 p hp
    · rw [List.mem_singleton.mp hp]; exact ⟨h1, h2⟩
def spStp : Sp := fun vs H Q _ => ∃ (t c L O : Addr) (ps : CsL) (kvs : List (Key × V)) (os : Oth) (bd : Nat) (many : Int), vs = [.ref t, .ref L, .ref O, .int (bd : Int), .int many] ∧ TapeL c H t ∧ CA H L ps ∧ ColP ps ∧ H O = some (.dK kvs) ∧ OthAt H kvs os ∧ os ≠ [] ∧ os.length ≤ 10 ∧ (∀ o ∈ os, nmS o.1 ∧ ColP o.2.1 ∧ o.2.2 ≤ 1000) ∧ bd ≤ 1000 ∧ 0 ≤ many ∧ many ≤ 60 ∧
  ∀ (r : Addr) (v : V) (C : Addr) (b : Nat) (a : List Ps) (qs : CsL) (H' : Hp), H' r = some (.tup [v, .ref C, .int (b : Int)]) → DhT t H' v (.tuple (a.map Ps.d)) → CA H' C qs → Leads (ldO os) ps a qs → (a.length : Int) ≤ many → b ≤ 1000 → TapeL c H' t → SameB t H H' → Q (.ref r) H'
section
variable {P : Program} {w : World} {K : PySem.W.Frag} {mg : Str → Option Value} {base : Heap} {f : Addr} {fd : FuncData}
abbrev sStp_ : Stmt := top 92
abbrev nStp_ : List Str := ["_law_tape_here", "_law_columns_here", "_law_others", "_law_bound", "_law_many", "_law_steps_here", "_law_k", "_law_turn", "_law_found"]
abbrev pStp_ : List Str := ["_law_tape_here", "_law_columns_here", "_law_others", "_law_bound", "_law_many"]
theorem scStp_ : FnScope nStp_ pStp_ (defScope sStp_) := ⟨rfl, rfl, rfl, by decide +kernel, rfl, by decide +kernel, by decide +kernel⟩
section
variable {fA_ fB_ fC_ fD_ fE_ : Addr} {fdA_ fdB_ fdC_ fdD_ fdE_ : FuncData}
theorem ok_Stp_ (F : Fun K "_law_steps" "_law_steps" sStp_ f fd) (T : Bt mg)
    (GA_ : FnOk P w K mg base CX0 1 fA_ fdA_ ["_law_tape_here", "_law_many"] (spDrawL)) (mA_ : mg "_law_draw" = some (.ref fA_)) (kA_ : PySem.W.keepIn K (.ref fA_) = true) (bA_ : Binds K fdA_ ["_law_tape_here", "_law_many"] [])
    (GB_ : FnOk P w K mg base CX0 4 fB_ fdB_ ["_law_tape_here", "_law_columns_here", "_law_others", "_law_bound"] (spMt)) (mB_ : mg "_law_meeting_step" = some (.ref fB_)) (kB_ : PySem.W.keepIn K (.ref fB_) = true) (bB_ : Binds K fdB_ ["_law_tape_here", "_law_columns_here", "_law_others", "_law_bound"] [])
    (GC_ : FnOk P w K mg base CX0 8 fC_ fdC_ ["_law_tape_here", "_law_columns_here"] (spKs)) (mC_ : mg "_law_group_step" = some (.ref fC_)) (kC_ : PySem.W.keepIn K (.ref fC_) = true) (bC_ : Binds K fdC_ ["_law_tape_here", "_law_columns_here"] [])
    (GD_ : FnOk P w K mg base CX0 7 fD_ fdD_ ["_law_tape_here", "_law_columns_here"] (spSas)) (mD_ : mg "_law_same_step" = some (.ref fD_)) (kD_ : PySem.W.keepIn K (.ref fD_) = true) (bD_ : Binds K fdD_ ["_law_tape_here", "_law_columns_here"] [])
    (GE_ : FnOk P w K mg base CX0 8 fE_ fdE_ ["_law_tape_here", "_law_columns_here"] (spKs)) (mE_ : mg "_law_keeping_step" = some (.ref fE_)) (kE_ : PySem.W.keepIn K (.ref fE_) = true) (bE_ : Binds K fdE_ ["_law_tape_here", "_law_columns_here"] []) : FnOk P w K mg base CX0 9 f fd pStp_ (spStp) := by
  refine F.ok scStp_ (fun vs H Q E h => ?_) (fun cdv A outer s H vs Q E hr h => ?_)
  · obtain ⟨t, c, L, O, ps, kvs, os, bd, many, rfl, _⟩ := h
    rfl
  · obtain ⟨t, c, L, O, ps, kvs, os, bd, many, rfl, hT, hL, cp, hO, ho, one_, ten, okO, bd1, my0, my1, k⟩ := h
    have hrA_ : Room (1) _ := hr.mono (by first | decide | omega)
    have hrB_ : Room (4) _ := hr.mono (by first | decide | omega)
    have hrC_ : Room (8) _ := hr.mono (by first | decide | omega)
    have hrD_ : Room (7) _ := hr.mono (by first | decide | omega)
    have hrE_ : Room (8) _ := hr.mono (by first | decide | omega)
    refine ⟨_, (pss_cons (ps_set (i := 5) scStp_.nd rfl (Or.inl rfl) (pe_lst pa_nil))
      (pss_cons (ps_for PassesOwn.never rfl (pi_range1 (by rfl) T.range (pa_cons (pe_call GA_ hrA_ (by rfl) mA_ kA_ bA_ .nil pass0 (pa_cons (pv 0) (pa_cons (pe_op op_add (pv 4) pe_int) pa_nil))) pa_nil)) (pg_name (i := 6) scStp_.nd rfl (.inl rfl)) (pss_cons (ps_set (i := 7) scStp_.nd rfl (Or.inl rfl) (pe_call GA_ hrA_ (by rfl) mA_ kA_ bA_ .nil pass0 (pa_cons (pv 0) (pa_cons pe_int pa_nil))))
      (pss_cons (ps_set (i := 8) scStp_.nd rfl (Or.inl rfl) pe_non)
      (Evl.pss_cut (ps_if (pt_cmpR op_lt (pv 7) pe_int (nomark _)) (pss_one (ps_set (i := 8) scStp_.nd rfl (Or.inl rfl) (pe_call GB_ hrB_ (by rfl) mB_ kB_ bB_ .nil pass0 (pa_cons (pv 0) (pa_cons (pv 1) (pa_cons (pv 2) (pa_cons (pv 3) pa_nil))))))) pss_nil)
      (Evl.pss_cut (ps_if (pt_cmpR op_notN (pv 8) pe_non (nomark _)) (pss_one (ps_set (i := 3) scStp_.nd rfl (Or.inl rfl) (pe_ix ix_tup (pv 8) pe_int (fun _ _ => rfl)))) (pss_one (ps_if (pt_cmpR op_eq (pv 7) pe_int (nomark _)) (pss_one (ps_set (i := 8) scStp_.nd rfl (Or.inl rfl) (pe_call GC_ hrC_ (by rfl) mC_ kC_ bC_ .nil pass0 (pa_cons (pv 0) (pa_cons (pv 1) pa_nil))))) (pss_one (ps_if (pt_cmpR op_eq (pv 7) pe_int (nomark _)) (pss_one (ps_set (i := 8) scStp_.nd rfl (Or.inl rfl) (pe_tup (pa_cons (pe_call GD_ hrD_ (by rfl) mD_ kD_ bD_ .nil pass0 (pa_cons (pv 0) (pa_cons (pv 1) pa_nil))) (pa_cons (pv 1) pa_nil))))) (pss_one (ps_set (i := 8) scStp_.nd rfl (Or.inl rfl) (pe_call GE_ hrE_ (by rfl) mE_ kE_ bE_ .nil pass0 (pa_cons (pv 0) (pa_cons (pv 1) pa_nil))))))))))
      (pss_cons (ps_expr (pe_bm PySem.F.plainAttrs_list PySem.F.slot_list_append PySem.F.type_list_append mt_append (pv 5) (pa_cons (pe_ix ix_tup (pv 8) pe_int (fun _ _ => rfl)) pa_nil)))
      (pss_one (ps_set (i := 1) scStp_.nd rfl (Or.inl rfl) (pe_ix ix_tup (pv 8) pe_int (fun _ _ => rfl))))))))))
      (pss_one (ps_ret (pe_tup (pa_cons (pe_callTy call_tuple_of (by rfl) T.tuple boot_tuple (pa_cons (pv 5) pa_nil)) (pa_cons (pv 1) (pa_cons (pv 3) pa_nil)))))))), ?_⟩
    have two : 2 ≤ sizeLine := by decide
    have one : 1 ≤ sizeLine := by decide
    have three : 3 ≤ sizeLine := by decide
    have four : 4 ≤ sizeLine := by decide
    have ldn : ∀ o ∈ ldO os, nmS o.1 ∧ ColP o.2 := fun o ho => by
      obtain ⟨x, hx, rfl⟩ := List.mem_map.mp ho
      exact ⟨(okO x hx).1, (okO x hx).2.1⟩
    have nO : O ≠ t := by
      intro z
      obtain ⟨_, _, _, _, _, h1, _⟩ := hT.tape
      rw [z, h1] at hO
      cases hO
    refine ⟨Nat.zero_le _, fun G hG => ?_⟩
    have zG := Same.upd (o := .lst []) hG
    have nGt := hT.tape.ne hG
    obtain ⟨ys, hc⟩ := hT.list
    have nGc : G ≠ c := Ne.symm (ne_of_none hc hG)
    have hT1 := hT.same zG
    have eG0 : upd H G (.lst []) G = some (.lst []) := upd_same
    have S1 := Same.b t zG
    generalize upd H G (.lst []) = H1 at hT1 eG0 S1 ⊢
    refine ⟨_, rfl, _, rfl, _, _, rfl, rfl, t, c, _, rfl, hT1, by omega, big1000 (by omega) (by omega), fun n H2 n0 n1 T2 S2 => ⟨n, rfl, by omega, by omega, for_range (n := n.toNat) (fun i σ H' => (∃ (C : Addr) (b : Nat) (us : List V) (a : List Ps) (qs : CsL) (x6 x7 x8 : Option V), σ = [some (.ref t), some (.ref C), some (.ref O), some (.int (b : Int)), some (.int many), some (.ref G), x6, x7, x8] ∧ H' G = some (.lst us) ∧ DhAll (dl t H') us (a.map Ps.d) ∧ CA H' C qs ∧ Leads (ldO os) ps a qs ∧ a.length = i ∧ b ≤ 1000) ∧ TapeL c H' t ∧ SameB t H H') ⟨⟨L, bd, [], [], ps, none, none, none, rfl, S2 _ _ nGt eG0, .nil, hL.b hT.tape (S1.trans S2), .nil, rfl, bd1⟩, T2, S1.trans S2⟩ ?_ ?_⟩⟩
    · clear eG0 S1 S2 T2 zG hT1
      rintro i σ H3 hi ⟨⟨C, b, us, a, qs, x6, x7, x8, rfl, eG, du, hC, lds, la, b1⟩, T3, S3⟩
      obtain ⟨okp, cq⟩ := lds.go cp ldn
      have nlp := noLs_ps fun p hp => (okp p hp).1
      have lu : us.length = a.length := by rw [du.len, List.length_map]
      have iv : ((0 : Int) + (i : Int)) = (i : Int) := Int.zero_add _
      refine ⟨_, rfl, t, c, _, rfl, T3, by decide, big1000 (by decide) (by decide), fun u H4 u0 u8 T4 S4 => ?_⟩
      have S34 := S3.trans S4
      have hC4 := hC.b T3.tape S4
      have M0 : ∀ {H' : Hp}, SameB t H4 H' → H' G = some (.lst us) ∧ DhAll (dl t H') us (a.map Ps.d) := fun s => ⟨s _ _ nGt (S4 _ _ nGt eG), dtbA (dtbA du S4) s⟩
      let R := fun (f : Option V) (bb : V) (σ : L2.St) => σ = [some (.ref t), some (.ref C), some (.ref O), some bb, some (.int many), some (.ref G), some (.int ((0 : Int) + (i : Int))), some (.int u), f]
      refine ⟨fun σ H' => (R (some .non) (.int b) σ ∧ TapeL c H' t ∧ SameB t H4 H') ∨ ∃ (r : Addr) (v : V) (C' : Addr) (b' : Nat) (p : Ps) (rs : CsL), R (some (.ref r)) (.int b) σ ∧ H' r = some (.tup [v, .ref C', .int (b' : Int)]) ∧ DhT t H' v p.d ∧ CA H' C' rs ∧ Lead (ldO os) qs p rs ∧ b' ≤ 1000 ∧ TapeL c H' t ∧ SameB t H4 H', ?_, ?_⟩
      · refine ⟨_, rfl, _, _, rfl, rfl, _, rfl, ite2 (fun _ => ?_) (fun _ => .inl ⟨rfl, T4, SameB.refl _ _⟩)⟩
        exact ⟨_, rfl, _, rfl, _, rfl, _, rfl, t, c, C, O, qs, kvs, os, b, rfl, T4, hC4, cq, S34 _ _ nO hO, ho.b hT.tape S34, one_, ten, fun o ho => (okO o ho).2, b1, fun H5 T5 S5 => .inl ⟨rfl, T5, S5⟩, fun r v C' b' p rs H5 er dv ca ld b1 T5 S5 => .inr ⟨r, v, C', b', p, rs, rfl, er, dv, ca, ld, b1, T5, S5⟩⟩
      rintro σ H5 hM
      refine ⟨fun σ H' => ∃ (r : Addr) (v : V) (C' : Addr) (rest : List V) (b' : Nat) (p : Ps) (rs : CsL), R (some (.ref r)) (.int b') σ ∧ H' r = some (.tup (v :: .ref C' :: rest)) ∧ DhT t H' v p.d ∧ CA H' C' rs ∧ Lead (ldO os) qs p rs ∧ b' ≤ 1000 ∧ TapeL c H' t ∧ SameB t H4 H', ?_, ?_⟩
      · rcases hM with ⟨rfl, T5, S5⟩ | ⟨r, v, C', b', p, rs, rfl, er, dv, ca, ld, b1', T5, S5⟩
        · have hC5 := hC4.b T4.tape S5
          refine ⟨_, rfl, rfl, _, rfl, iteF ⟨_, rfl, rfl, _, rfl, ite2 (fun _ => ?_) (fun _ => ?_)⟩⟩
          · exact ⟨_, rfl, _, rfl, t, c, C, qs, rfl, T5, hC5, cq, fun r v C' p rs H6 er dv ca ld T6 S6 => ⟨r, v, C', [], b, p, rs, rfl, er, dv, ca, ld _, b1, T6, S5.trans S6⟩⟩
          refine ⟨_, rfl, rfl, _, rfl, ite2 (fun _ => ?_) (fun _ => ?_)⟩
          · refine ⟨_, rfl, _, rfl, t, c, C, qs, rfl, T5, hC5, cq, fun v p H6 dv sp T6 S6 => ⟨_, rfl, two, fun r hr => ?_⟩⟩
            have zr := Same.upd (o := .tup [v, .ref C]) hr
            exact ⟨r, v, C, [], b, p, qs, rfl, upd_same, dts dv zr, (hC5.b T5.tape S6).same zr, sp.1 _, b1, T6.same zr, (S5.trans S6).trans (Same.b t zr)⟩
          · exact ⟨_, rfl, _, rfl, t, c, C, qs, rfl, T5, hC5, cq, fun r v C' p rs H6 er dv ca ld T6 S6 => ⟨r, v, C', [], b, p, rs, rfl, er, dv, ca, ld _, b1, T6, S5.trans S6⟩⟩
        · exact ⟨_, rfl, rfl, _, rfl, iteT ⟨_, rfl, r, _, _, .int (b' : Int), rfl, rfl, SqT.of er, rfl, r, v, C', _, b', p, rs, rfl, er, dv, ca, ld, b1', T5, S5⟩⟩
      clear hM
      rintro σ H6 ⟨r, v, C', rest, b', p, rs, rfl, er, dv, ca, ld, b1', T6, S6⟩
      obtain ⟨eG6, du6⟩ := M0 S6
      obtain ⟨okp1, _, _⟩ := ld.go cq ldn
      refine ⟨_, rfl, .inl ⟨rfl, _, SqL.of eG6⟩, _, rfl, r, _, _, v, rfl, rfl, SqT.of er, at_of (j := 0) rfl rfl, G, _, _, rfl, rfl, eG6, lt_size (by omega), ?_⟩
      have stt := SameT.lst (o := .lst (us ++ [v])) eG6
      have st := dl_sameT (t := t) stt
      have er7 := stt _ _ er
      have du7 := (DhAll.t st du6 nlp).append (.cons (Dh.t st dv okp1.noL) .nil)
      have ca7 : CA (upd H6 G (.lst (us ++ [v]))) C' rs := by
        obtain ⟨xs, ⟨ob, d1, d2, e⟩, cc⟩ := ca
        exact ⟨xs, ⟨ob, d1, d2, by rw [upd_ne (ne_of e eG6 nofun)]; exact e⟩, cc.t stt⟩
      have T7 := T6.upd (o := .lst (us ++ [v])) nGt nGc
      have S7 : SameB t H (upd H6 G (.lst (us ++ [v]))) := updB hG (S34.trans S6)
      have eG7 : upd H6 G (.lst (us ++ [v])) G = some (.lst (us ++ [v])) := upd_same
      generalize upd H6 G (.lst (us ++ [v])) = H7 at er7 du7 ca7 T7 S7 eG7 ⊢
      exact ⟨_, rfl, r, _, _, .ref C', rfl, rfl, SqT.of er7, at_of (j := 1) rfl rfl, ⟨C', b', us ++ [v], a ++ [p], rs, _, _, _, rfl, eG7, by rw [List.map_append]; exact du7, ca7, .snoc lds ld, by rw [List.length_append, la]; rfl, b1'⟩, T7, S7⟩
    · rintro σ H3 ⟨⟨C, b, us, a, qs, x6, x7, x8, rfl, eG, du, hC, lds, la, b1⟩, T3, S3⟩
      refine ⟨_, rfl, G, _, rfl, .inl ⟨SqL.of eG, fun p hp => ⟨_, rfl, _, rfl, three, fun r hr => ?_⟩⟩⟩
      have zp := Same.upd (o := .tup us) hp
      have zr := Same.upd (o := .tup [.ref p, .ref C, .int (b : Int)]) hr
      exact k r (.ref p) C b a qs _ upd_same (dts (dh_tupT T3.tape du hp) zr) (hC.same (zp.trans zr)) lds (by omega) b1 ((T3.same zp).same zr) (S3.trans (Same.b t (zp.trans zr)))
end
end
end K78
set_option Elab.async false
set_option linter.all false
set_option maxRecDepth 100000
set_option maxHeartbeats 4000000
namespace K78
open PySem PySem.Spec PyProof.Rows L2 Lc
/-! ## how long expressions are when they are shown -/
theorem tm_int {i : Int} (h : i.natAbs ≤ 10000000000000000000000000000000000000000) : Tm 0 2000 (.int i) := by
  have b : i.natAbs < 2 ^ 1000 := Nat.lt_of_le_of_lt h (Nat.lt_of_lt_of_le (show 10000000000000000000000000000000000000000 < 2 ^ 140 by decide) (Nat.pow_le_pow_right (by decide) (by decide)))
  obtain ⟨h1, h2⟩ := num_len b
  exact ⟨h1, rfl, Nat.le_refl _, Nat.le_trans h2 (by decide)⟩
theorem tm_txt {x : Str} (h : Sh 100 x) : Tm 0 2000 (.str x) := by
  refine ⟨rfl, rfl, Nat.le_refl _, ?_⟩
  show (reprText x).length ≤ 2000
  have := StrLaws.reprText_len x (fun c hc => Nat.lt_trans (h.ok c hc) (by decide))
  have e := lenL x
  have := h.len
  omega
theorem tm_nonB : Tm 0 2000 .none ∧ ∀ b : Bool, Tm 0 2000 (.bool b) := ⟨⟨rfl, rfl, Nat.le_refl _, by decide +kernel⟩, fun b => ⟨rfl, rfl, Nat.le_refl _, by cases b <;> decide +kernel⟩⟩
theorem Vk.tm {k : Str} {d : PyData} (h : Vk k d) : Tm 1 4100 d := by
  cases h with
  | non => exact tm_nonB.1.mono (by decide) (by decide)
  | flag b => exact (tm_nonB.2 b).mono (by decide) (by decide)
  | word h _ => exact (tm_txt (h.mono (by decide))).mono (by decide) (by decide)
  | @num n d _ h1 h2 =>
    exact (tm_tup (k := 0) (n := 2000) (fun x hx => by simp at hx; rcases hx with rfl | rfl; exact tm_int h1; exact tm_int h2)).mono (by decide) (by show 2000 * 2 + 2 * 2 + 4 ≤ 4100; decide)
/-- by the sum of the parts -/
theorem tm_tupS {k n : Nat} {ds : List PyData} (h : ∀ d ∈ ds, ∃ m, Tm k m d) (s : ((PyData.shownAll ds).map (·.length)).sum ≤ n) : Tm (k + 1) (n + 2 * ds.length + 4) (.tuple ds) := by
  have key : PyData.showableAll ds = true ∧ PyData.hasDictAll ds = false ∧ PyData.depthAll ds ≤ k ∧ (PyData.shownAll ds).length = ds.length := by
    clear s
    induction ds with
    | nil => exact ⟨rfl, rfl, Nat.zero_le _, rfl⟩
    | cons d ds ih =>
      obtain ⟨h1, h2, h3, h4⟩ := ih fun x hx => h x (List.mem_cons_of_mem _ hx)
      obtain ⟨m, hd⟩ := h d List.mem_cons_self
      refine ⟨by simp [PyData.showableAll, hd.sh, h1], by simp [PyData.hasDictAll, hd.nd, h2], ?_, by simp [PyData.shownAll, h4]⟩
      simp only [PyData.depthAll]
      have := hd.dz
      omega
  obtain ⟨h1, h2, h3, h4⟩ := key
  refine ⟨by simpa [PyData.showable] using h1, by simpa [PyData.hasDict] using h2, ?_, ?_⟩
  · simp only [PyData.depth]
    omega
  · have := tupleText_len_le (PyData.shownAll ds)
    simp only [PyData.shown]
    omega
theorem tm_word {w : Str} {os : List PyData} {k m : Nat} (hw : (PyData.str w).shown.length ≤ 20) (ho : ∀ o ∈ os, Tm k m o) : Tm (k + 1) (m * os.length + 2 * os.length + 26) (.tuple (.str w :: os)) := by
  have tw : Tm 0 20 (.str w) := ⟨rfl, rfl, Nat.le_refl _, hw⟩
  have a := (tm_all ho).2.2.2.1
  refine (tm_tupS (k := k) (n := 20 + m * os.length) (fun d hd => ?_) ?_).mono (Nat.le_refl _) (by rw [List.length_cons]; omega)
  · rcases List.mem_cons.mp hd with rfl | hd
    · exact ⟨20, tw.mono (Nat.zero_le _) (Nat.le_refl _)⟩
    · exact ⟨m, ho d hd⟩
  · simp only [PyData.shownAll, List.map_cons, List.sum_cons]
    have := tw.ln
    omega
def szX : Nat → Nat
  | 0 => 0
  | n + 1 => 3 * szX n + 4200
theorem opsV_len {w : Str} {ops : List V} (h : opsV w = some ops) : (PyData.str w).shown.length ≤ 20 := by
  have key : ∀ x os, opsV x = some os → (PyData.str x).shown.length ≤ 20 := by
    refine opsV_all ?_ ?_ ?_ ?_ ?_ ?_ ?_ ?_ ?_ ?_ ?_ <;> decide +kernel
  exact key w ops h
theorem xf_tm {n : Nat} {d : PyData} (h : Xf n d) : Tm (n + 1) (szX n) d := by
  induction h with
  | @col n z h hn =>
    have t := (tm_txt (h.mono (show 12 ≤ 100 by decide))).mono (show 0 ≤ 1 by decide) (show 2000 ≤ 4100 by decide)
    refine (tm_word (w := "column") (k := 1) (m := 4100) (by decide +kernel) (fun o ho => by rw [List.mem_singleton.mp ho]; exact t)).mono (by omega) ?_
    show 4100 * 1 + 2 * 1 + 26 ≤ 3 * szX n + 4200
    omega
  | @val n k d h _ =>
    refine (tm_word (w := "value") (k := 1) (m := 4100) (by decide +kernel) (fun o ho => by rw [List.mem_singleton.mp ho]; exact h.tm)).mono (by omega) ?_
    show 4100 * 1 + 2 * 1 + 26 ≤ 3 * szX n + 4200
    omega
  | @op n w os ops h l ho ih =>
    have l3 := (opsV_words h).2.2.2.1
    rw [l] at l3
    refine (tm_word (k := n + 1) (m := szX n) (opsV_len h) ih).mono (by omega) ?_
    show szX n * os.length + 2 * os.length + 26 ≤ 3 * szX n + 4200
    have : szX n * os.length ≤ szX n * 3 := Nat.mul_le_mul_left _ l3
    omega
/-! ## what is drawn as a whole -/
def spRp : Sp := fun vs H Q _ => ∃ (l : LN), vs = [.str (TS l)] ∧ LsOk (spl 10 l) ∧ l.length ≤ 200000 ∧ ∃ ds n, pipeM (spl 10 l) = .ok ds n ∧ ∀ v H', Same H H' → Dh H' v (.tuple [.str (TS (cutp frL (hdW (spl 10 l)))), .tuple ds]) → Q v H'
theorem rp_quiet {P : Program} {w : World} {K : PySem.W.Frag} {mg : Str → Option Value} {base : Heap} {k : Nat} {f C : Addr} {fd : FuncData} {ps : List Str} (F : FnOk P w K mg base (L2.CX P w) k f fd ps (spPl C)) : FnOk P w K mg base CX0 k f fd ps spRp := by
  have h : ∀ vs H Q E, spRp vs H Q E → spPl C vs H Q (fun _ _ _ => False) := by
    rintro vs H Q E ⟨l, rfl, ok, ll, ds, n, e, kk⟩
    refine ⟨_, rfl, .inr ⟨l, rfl, ok, ll, fun ds' n' e' v H' s d => kk v H' s ?_, fun m hm => ?_⟩⟩
    · rw [e] at e'
      injection e' with e1 e2
      rw [e1]
      exact d
    · rw [e] at hm
      cases hm
  refine ⟨fun vs H Q E z => F.len _ _ _ _ (h vs H Q E z), fun A outer s H args us vs Q E a b c d z => ?_⟩
  refine codeAny_mono (F.run A outer s H args us vs Q (fun _ _ _ => False) a b c d (h vs H Q E z)) fun r s' hq => ?_
  match r, hq with
  | .error e, hq =>
    obtain ⟨_, _, _, _, _, _, _, _, _, _, _, _, hE⟩ := hq
    exact hE.elim
  | .ok (.ret u), hq => exact hq
  | .ok .next, hq => exact False.elim hq
  | .ok .brk, hq => exact False.elim hq
  | .ok .cont, hq => exact False.elim hq
/-! ### how long it is when it is shown -/
theorem tm_name {x : Str} (h : nmS x) : Tm 0 2000 (.str x) := by
  have a := name_signs h
  refine tm_txt (x := x) ⟨?_, fun c hc => ?_⟩
  · have : x.cps.toList.length ≤ 12 := a.2.1
    omega
  · have := a.2.2.1 c hc
    omega
theorem tm_nat {n : Nat} (h : n ≤ 1000000000) : Tm 0 2000 (.int n) := tm_int (by omega)
theorem tm_lit {x : Str} (h : (PyData.str x).shown.length ≤ 2000) : Tm 0 2000 (.str x) := ⟨rfl, rfl, Nat.le_refl _, h⟩
theorem tm_strT {ns : List Str} (h : ∀ x ∈ ns, nmS x) {m : Nat} (l : ns.length ≤ m) : Tm 1 (2000 * m + 2 * m + 4) (strT ns) := by
  refine (tm_tup (k := 0) (n := 2000) (fun d hd => ?_)).mono (Nat.le_refl _) (by rw [List.length_map]; omega)
  obtain ⟨z, hz, rfl⟩ := List.mem_map.mp hd
  exact tm_name (h z hz)
theorem _root_.Lc.Tm.up {k n : Nat} {d : PyData} (h : Tm k n d) (a : k ≤ 4 := by decide) (b : n ≤ 54600 := by decide) : Tm 4 54600 d := h.mono a b
theorem tm_tup' {k n m : Nat} {ds : List PyData} (h : ∀ d ∈ ds, Tm k n d) {j : Nat} (l : ds.length ≤ j) (e : n * j + 2 * j + 4 ≤ m) : Tm (k + 1) m (.tuple ds) := (tm_tup h).mono (Nat.le_refl _) (by
  have : n * ds.length ≤ n * j := Nat.mul_le_mul_left _ l
  omega)
theorem ps_tm {p : Ps} (h : p.Ok) (sm : p.Sm 3) : Tm 5 218420 p.d := by
  have lit : ∀ {w : Str}, (PyData.str w).shown.length ≤ 2000 → Tm 4 54600 (.str w) := fun h => (tm_lit h).up
  have nm : ∀ {x : Str}, nmS x → Tm 4 54600 (.str x) := fun h => (tm_name h).up
  have nt : ∀ {n : Nat}, n ≤ 1000000000 → Tm 4 54600 (.int n) := fun h => (tm_nat h).up
  have e3 : szX 3 = 54600 := by decide +kernel
  have xp : ∀ {e : PyData}, Xf 3 e → Tm 4 54600 e := fun h => by
    have := xf_tm h
    rw [e3] at this
    exact this
  have go : ∀ {ds : List PyData}, (∀ d ∈ ds, Tm 4 54600 d) → ds.length ≤ 4 → Tm 5 218420 (.tuple ds) := fun h l => tm_tup' h l (by decide)
  cases p with
  | keep e => exact go (fun d hd => by simp only [List.mem_cons, List.not_mem_nil, or_false] at hd; rcases hd with rfl | rfl; exact lit (by decide +kernel); exact xp (sm _ (.inr rfl))) (by show 2 ≤ 4; decide)
  | set x e => exact go (fun d hd => by simp only [List.mem_cons, List.not_mem_nil, or_false] at hd; rcases hd with rfl | rfl | rfl; exact lit (by decide +kernel); exact nm h.1; exact xp (sm _ (.inl ⟨_, rfl⟩))) (by show 3 ≤ 4; decide)
  | select ns => exact go (fun d hd => by simp only [List.mem_cons, List.not_mem_nil, or_false] at hd; rcases hd with rfl | rfl; exact lit (by decide +kernel); exact (tm_strT h.1 h.2.2.2).up) (by show 2 ≤ 4; decide)
  | rename a b => exact go (fun d hd => by simp only [List.mem_cons, List.not_mem_nil, or_false] at hd; rcases hd with rfl | rfl | rfl; exact lit (by decide +kernel); exact nm h.1; exact nm h.2) (by show 3 ≤ 4; decide)
  | sort a u => exact go (fun d hd => by simp only [List.mem_cons, List.not_mem_nil, or_false] at hd; rcases hd with rfl | rfl | rfl; exact lit (by decide +kernel); exact nm h; exact lit (by cases u <;> decide +kernel)) (by show 3 ≤ 4; decide)
  | first n => exact go (fun d hd => by simp only [List.mem_cons, List.not_mem_nil, or_false] at hd; rcases hd with rfl | rfl; exact lit (by decide +kernel); exact nt (Nat.le_trans h (by decide))) (by show 2 ≤ 4; decide)
  | sample n w s =>
    obtain ⟨h1, h2, h3, h4⟩ := h
    exact go (fun d hd => by simp only [List.mem_cons, List.not_mem_nil, or_false] at hd; rcases hd with rfl | rfl | rfl | rfl; exact lit (by decide +kernel); exact nt (by omega); exact nt (by omega); exact nt h4) (by show 4 ≤ 4; decide)
  | join t ks => exact go (fun d hd => by simp only [List.mem_cons, List.not_mem_nil, or_false] at hd; rcases hd with rfl | rfl | rfl; exact lit (by decide +kernel); exact nm h.1; exact (tm_strT h.2.1 h.2.2.2.2).up) (by show 3 ≤ 4; decide)
  | union t => exact go (fun d hd => by simp only [List.mem_cons, List.not_mem_nil, or_false] at hd; rcases hd with rfl | rfl; exact lit (by decide +kernel); exact nm h) (by show 2 ≤ 4; decide)
  | distinct => exact go (fun d hd => by rw [List.mem_singleton.mp hd]; exact lit (by decide +kernel)) (by show 1 ≤ 4; decide)
  | group ks ts =>
    have fnl : ∀ {f : Str}, f ∈ fnS → (PyData.str f).shown.length ≤ 2000 := fun hf => by
      have : ∀ g ∈ fnS, (PyData.str g).shown.length ≤ 2000 := by decide +kernel
      exact this _ hf
    have tt : Tm 2 36100 (.tuple (ts.map totS3)) := tm_tup' (k := 1) (n := 6010) (fun d hd => by
      obtain ⟨t, ht, rfl⟩ := List.mem_map.mp hd
      obtain ⟨t1, t2, t3⟩ := h.t t ht
      exact tm_tup' (k := 0) (n := 2000) (fun d hd => by simp only [List.mem_cons, List.not_mem_nil, or_false] at hd; rcases hd with rfl | rfl | rfl; exact tm_name t1; exact tm_lit (fnl t2); exact tm_name t3) (j := 3) (Nat.le_refl 3) (by decide)) (j := 6) (by rw [List.length_map]; exact h.tl.2) (by decide)
    exact go (fun d hd => by simp only [List.mem_cons, List.not_mem_nil, or_false] at hd; rcases hd with rfl | rfl | rfl; exact lit (by decide +kernel); exact (tm_strT h.k h.kl).up; exact tt.up) (by show 3 ≤ 4; decide)
def Stp.Sz : Stp → Prop
  | .pl _ => True
  | .ch _ as => ∀ a ∈ as, a.length ≤ 2
theorem stp_tm {s : Stp} (h : s.Ok1) (sm : s.Sm 3) (sz : s.Sz) : Tm 8 1751450 s.d := by
  cases s with
  | pl p => exact (ps_tm h sm).mono (by decide) (by decide)
  | ch lb as =>
    obtain ⟨h1, h2, h3⟩ := h
    have t1 : Tm 7 1747430 (.tuple (as.map altD)) := tm_tup' (k := 6) (n := 436850) (fun d hd => by
      obtain ⟨a, ha, rfl⟩ := List.mem_map.mp hd
      exact tm_tup' (k := 5) (n := 218420) (fun d hd => by
        obtain ⟨p, hp, rfl⟩ := List.mem_map.mp hd
        exact ps_tm ((h3 a ha).2 p hp) (sm a ha p hp)) (j := 2) (by rw [List.length_map]; exact sz a ha) (by decide)) (j := 4) (by rw [List.length_map]; exact h2) (by decide)
    have t2 := tm_name h1
    have t3 : Tm 0 2000 (.str "choose") := tm_lit (by decide +kernel)
    refine (tm_tupS (k := 7) (n := 2000 + 2000 + 1747430) (fun d hd => ?_) ?_).mono (Nat.le_refl _) (by show 1751430 + 2 * 3 + 4 ≤ _; decide)
    · simp only [List.mem_cons, List.not_mem_nil, or_false] at hd
      rcases hd with rfl | rfl | rfl
      · exact ⟨_, t3.mono (by decide) (Nat.le_refl _)⟩
      · exact ⟨_, t2.mono (by decide) (Nat.le_refl _)⟩
      · exact ⟨_, t1⟩
    · simp only [PyData.shownAll, List.map_cons, List.map_nil, List.sum_cons, List.sum_nil]
      have := t1.ln
      have := t2.ln
      have := t3.ln
      omega
def szS : Stp → Nat
  | .pl _ => 218420
  | .ch _ _ => 1751450
theorem stp_tm' {s : Stp} (h : s.Ok1) (sm : s.Sm 3) (sz : s.Sz) : Tm 8 (szS s) s.d := by
  cases s with
  | pl p => exact (ps_tm h sm).mono (by decide) (Nat.le_refl _)
  | ch lb as => exact stp_tm (s := .ch lb as) h sm sz
structure PD (ss : List Stp) : Prop where
  len : ss.length ≤ 10
  tot : (ss.map szS).sum ≤ 7000000
  st : ∀ s ∈ ss, s.Ok1 ∧ s.Sm 3
  sz : ∀ s ∈ ss, s.Sz
  ok : StsOk [] ss
  ln : ((ss.map Stp.ln).flatten).length ≤ 99
theorem PD.pp {ss : List Stp} (h : PD ss) {src : Str} (hs : nmS src) : PpOk src ss := ⟨hs, h.len, h.st⟩
theorem PD.shw {K : PySem.W.Frag} {H : Hp} {ss : List Stp} (h : PD ss) {src : Str} (hs : nmS src) {v : V} (dv : Dh H v (pipeD src ss)) : Shw K H v (pipeD src ss).shown := by
  have key : ∀ l : List Stp, (∀ s ∈ l, s ∈ ss) → ((PyData.shownAll (l.map Stp.d)).map (·.length)).sum ≤ (l.map szS).sum := fun l => by
    induction l with
    | nil => intro _; exact Nat.le_refl _
    | cons s r ih =>
      intro hl
      have := ih fun x hx => hl x (List.mem_cons_of_mem _ hx)
      have m := hl s List.mem_cons_self
      have := (stp_tm' (h.st s m).1 (h.st s m).2 (h.sz s m)).ln
      simp only [List.map_cons, PyData.shownAll, List.sum_cons]
      omega
  have t1 : Tm 9 7000024 (.tuple (ss.map Stp.d)) := (tm_tupS (k := 8) (n := 7000000) (fun d hd => by
    obtain ⟨s, hs', rfl⟩ := List.mem_map.mp hd
    exact ⟨_, stp_tm' (h.st s hs').1 (h.st s hs').2 (h.sz s hs')⟩) (Nat.le_trans (key ss fun _ h => h) h.tot)).mono (Nat.le_refl _) (by rw [List.length_map]; have := h.len; omega)
  have t2 := tm_name hs
  have t : Tm 10 7002050 (pipeD src ss) := by
    refine (tm_tupS (k := 9) (n := 7002024) (ds := [.str src, .tuple (ss.map Stp.d)]) (fun d hd => ?_) ?_).mono (Nat.le_refl _) (by show 7002024 + 2 * 2 + 4 ≤ _; decide)
    · simp only [List.mem_cons, List.not_mem_nil, or_false] at hd
      rcases hd with rfl | rfl
      · exact ⟨_, t2.mono (by decide) (Nat.le_refl _)⟩
      · exact ⟨_, t1⟩
    · simp only [PyData.shownAll, List.map_cons, List.map_nil, List.sum_cons, List.sum_nil]
      have := t1.ln
      have := t2.ln
      omega
  exact dv.shw t.sh t.nd (Nat.le_trans t.dz (by decide)) (Nat.le_trans t.ln (by decide))
theorem PD.back {ss : List Stp} (h : PD ss) {src : Str} (hs : nmS src) : LsOk (spl 10 (jn 10 (pipeLn src ss))) ∧ (jn 10 (pipeLn src ss)).length ≤ 200000 ∧ ∃ n, pipeM (spl 10 (jn 10 (pipeLn src ss))) = .ok (ss.map Stp.d) n ∧ TS (cutp frL (hdW (spl 10 (jn 10 (pipeLn src ss))))) = src := by
  obtain ⟨L1, L2, L3⟩ := (h.pp hs).lens
  have e : spl 10 (jn 10 (pipeLn src ss)) = pipeLn src ss := spl_jn (List.cons_ne_nil _ _) fun w hw => (L1 w hw).2
  have ll : (pipeLn src ss).length ≤ 100 := by
    have := h.ln
    unfold pipeLn
    rw [List.length_cons]
    omega
  rw [e]
  refine ⟨⟨fun l hl => (L1 l hl).1, ll⟩, ?_, ?_⟩
  · have := jn_leB (c := 10) (b := 1500) (pipeLn src ss) fun l hl => (L1 l hl).1.2.1
    omega
  · obtain ⟨n, hn⟩ := pipe_back hs h.len h.ok
    refine ⟨n, hn, ?_⟩
    show TS (cutp frL (frL ++ CL src)) = src
    rw [cutp_app, ts_cl]
/-! ### plain steps, then chooses -/
abbrev Ch : Type := Str × List (List Ps)
def mkC (c : Ch) : Stp := .ch c.1 c.2
def ChOk (c : Ch) : Prop := nmS c.1 ∧ 2 ≤ c.2.length ∧ c.2.length ≤ 4 ∧ ∀ a ∈ c.2, a.length ≤ 2 ∧ ∀ p ∈ a, p.Ok ∧ p.Sm 3 ∧ p.more = []
theorem ChOk.alt {c : Ch} (h : ChOk c) : ∀ a ∈ c.2, AltOk a := fun a ha => ⟨Nat.le_trans (h.2.2.2 a ha).1 (by decide), fun p hp => ((h.2.2.2 a ha).2 p hp).1⟩
theorem getN_no {nu : Nu} {x : LN} {d : Nat} (h : x ∉ nu.map (·.1)) : getN nu x d = d := by
  unfold getN
  rw [List.find?_eq_none.mpr fun e he => by
    have : ¬ e.1 = x := fun z => h (by rw [← z]; exact List.mem_map_of_mem he)
    simpa using this]
  rfl
theorem putN_no {nu : Nu} {x : LN} {n : Nat} (h : x ∉ nu.map (·.1)) : putN nu x n = nu ++ [(x, n)] := by
  unfold putN
  rw [if_neg]
  rw [Bool.not_eq_true, List.any_eq_false]
  intro e he
  have : ¬ e.1 = x := fun z => h (by rw [← z]; exact List.mem_map_of_mem he)
  simpa using this
theorem sts_ch : ∀ (chs : List Ch) (nu : Nu), (chs.map (·.1)).Nodup → (∀ c ∈ chs, CL c.1 ∉ nu.map (·.1)) → (∀ c ∈ chs, ChOk c) → StsOk nu (chs.map mkC)
  | [], _, _, _, _ => trivial
  | c :: chs, nu, nd, nn, ok => by
    rw [List.map_cons, List.nodup_cons] at nd
    have nc := nn c List.mem_cons_self
    have oc := ok c List.mem_cons_self
    refine ⟨oc.1, oc.alt, by rw [getN_no nc]; exact oc.2.1, by rw [getN_no nc]; exact oc.2.2.1, ?_⟩
    rw [putN_no nc]
    refine sts_ch chs _ nd.2 (fun x hx => ?_) fun x hx => ok x (List.mem_cons_of_mem _ hx)
    rw [List.map_append]
    intro m
    rcases List.mem_append.mp m with m | m
    · exact nn x (List.mem_cons_of_mem _ hx) m
    · rw [List.map_singleton, List.mem_singleton] at m
      have : x.1 = c.1 := by rw [← ts_cl x.1, ← ts_cl c.1, m]
      exact nd.1 (by rw [← this]; exact List.mem_map_of_mem hx)
theorem sts_pl : ∀ (a : List Ps) (nu : Nu) (r : List Stp), (∀ p ∈ a, p.Ok) → StsOk nu r → StsOk nu (a.map Stp.pl ++ r)
  | [], _, _, _, h => h
  | p :: a, nu, r, ok, h => ⟨ok p List.mem_cons_self, sts_pl a nu r (fun q hq => ok q (List.mem_cons_of_mem _ hq)) h⟩
theorem fl_len {α : Type} {f : α → List LN} {n : Nat} : ∀ {l : List α}, (∀ x ∈ l, (f x).length ≤ n) → ((l.map f).flatten).length ≤ l.length * n
  | [], _ => Nat.zero_le _
  | x :: l, h => by
    have := fl_len (f := f) (n := n) (l := l) fun y hy => h y (List.mem_cons_of_mem _ hy)
    have := h x List.mem_cons_self
    rw [List.map_cons, List.flatten_cons, List.length_append, List.length_cons, Nat.succ_mul]
    omega
theorem ch_len {c : Ch} (h : ChOk c) : (mkC c).ln.length ≤ 13 := by
  have key : ((c.2.map altLn).flatten).length ≤ c.2.length * 3 := fl_len fun a ha => by
    obtain ⟨a2, ap⟩ := h.2.2.2 a ha
    have : (inner a).length ≤ a.length * 1 := fl_len fun p hp => by
      unfold Ps.lnA Ps.ln
      rw [List.length_map, List.length_cons, List.length_map, (ap p hp).2.2]
      exact Nat.le_refl _
    unfold altLn
    rw [List.length_cons]
    omega
  have := h.2.2.1
  show ((c.2.map altLn).flatten).length + 1 ≤ 13
  omega
abbrev mkS (a : List Ps) (chs : List Ch) : List Stp := a.map Stp.pl ++ chs.map mkC
theorem pd_of {a : List Ps} {chs : List Ch} (ha : ∀ p ∈ a, p.Ok ∧ p.Sm 3) (la : a.length ≤ 7) (hc : ∀ c ∈ chs, ChOk c) (nd : (chs.map (·.1)).Nodup) (lc : chs.length ≤ 3) : PD (mkS a chs) := by
  refine ⟨by rw [List.length_append, List.length_map, List.length_map]; omega, ?_, ?_, ?_, sts_pl a [] _ (fun p hp => (ha p hp).1) (sts_ch chs [] nd (fun _ _ => nofun) hc), ?_⟩
  · have h1 : ∀ l : List Ps, ((l.map Stp.pl).map szS).sum = l.length * 218420 := fun l => by
      induction l with
      | nil => rfl
      | cons x r ih =>
        rw [List.map_cons, List.map_cons, List.sum_cons, ih, List.length_cons, Nat.succ_mul]
        show 218420 + _ = _
        omega
    have h2 : ∀ l : List Ch, ((l.map mkC).map szS).sum = l.length * 1751450 := fun l => by
      induction l with
      | nil => rfl
      | cons x r ih =>
        rw [List.map_cons, List.map_cons, List.sum_cons, ih, List.length_cons, Nat.succ_mul]
        show 1751450 + _ = _
        omega
    rw [List.map_append, List.sum_append, h1, h2]
    omega
  · intro s hs
    rcases List.mem_append.mp hs with hs | hs
    · obtain ⟨p, hp, rfl⟩ := List.mem_map.mp hs
      exact ha p hp
    · obtain ⟨c, hc', rfl⟩ := List.mem_map.mp hs
      have o := hc c hc'
      exact ⟨⟨o.1, o.2.2.1, o.alt⟩, fun a ha p hp => ((o.2.2.2 a ha).2 p hp).2.1⟩
  · intro s hs
    rcases List.mem_append.mp hs with hs | hs
    · obtain ⟨p, hp, rfl⟩ := List.mem_map.mp hs
      trivial
    · obtain ⟨c, hc', rfl⟩ := List.mem_map.mp hs
      exact fun a ha => ((hc c hc').2.2.2 a ha).1
  · rw [List.map_append, List.map_map, List.map_map, List.flatten_append, List.length_append]
    have h1 : ((a.map (Stp.ln ∘ Stp.pl)).flatten).length ≤ a.length * 7 := fl_len fun p hp => ln_len (ha p hp).1
    have h2 : ((chs.map (Stp.ln ∘ mkC)).flatten).length ≤ chs.length * 13 := fl_len fun c hc' => ch_len (hc c hc')
    omega
end K78
set_option Elab.async false
set_option linter.all false
set_option maxRecDepth 100000
set_option maxHeartbeats 4000000
namespace K78
open PySem PySem.Spec PyProof.Rows L2 Lc
/-! ## the law -/
abbrev teLw (K : PySem.W.Frag) : TE := tOp (rIxT K) (tVar 4) (tC (.int 0))
def spLaw (K : PySem.W.Frag) : Sp := fun vs H Q _ => ∃ (a : Addr) (ns : List Int), vs = [.ref a] ∧ SqL K H a (ns.map V.int) ∧ ∀ H', Q (.bl true) H'
def LB : List Str := ["x", "b0", "longlonglong"]
theorem LB_nd : LB.Nodup := by unfold LB; decide +kernel
theorem LB_nm : ∀ x ∈ LB, nmS x := by unfold LB nmS; decide +kernel
theorem mkS_snoc (a : List Ps) (chs : List Ch) (c : Ch) : (mkS a (chs ++ [c])).map Stp.d = (mkS a chs).map Stp.d ++ [Stp.d (mkC c)] := by
  show (a.map Stp.pl ++ (chs ++ [c]).map mkC).map Stp.d = (a.map Stp.pl ++ chs.map mkC).map Stp.d ++ _
  rw [List.map_append (l₁ := chs), ← List.append_assoc, List.map_append]
  rfl
theorem mkS_d (a : List Ps) : (mkS a []).map Stp.d = a.map Ps.d := by
  show (a.map Stp.pl ++ []).map Stp.d = _
  rw [List.append_nil, List.map_map]
  rfl
theorem SamP.chok {ps : CsL} {as : List (List Ps)} (c : ColP ps) (h : ∀ a ∈ as, a.length ≤ 2 ∧ ∀ p ∈ a, SamP ps p) : ∀ a ∈ as, a.length ≤ 2 ∧ ∀ p ∈ a, p.Ok ∧ p.Sm 3 ∧ p.more = [] := fun a ha => ⟨(h a ha).1, fun p hp => by
  have sp := (h a ha).2 p hp
  exact ⟨(sp.ok c).1, (sp.ok c).2, sp.2⟩⟩
/-- the choose of the last turn -/
def fiveS (g : Ps) (n : Nat) : List Stp := [.ch "x" [[g], [.first n, g]], .pl .distinct]
theorem pd_five {g : Ps} {n : Nat} (hg : g.Ok ∧ g.Sm 3) (hn : n ≤ 1000) : PD (fiveS g n) := by
  have fo : (Ps.first n).Ok := hn
  have fs : (Ps.first n).Sm 3 := fun e he => by
    rcases he with ⟨x, he⟩ | he <;> cases he
  have a1 : ∀ a ∈ ([[g], [.first n, g]] : List (List Ps)), a.length ≤ 2 ∧ ∀ p ∈ a, p.Ok ∧ p.Sm 3 := fun a ha => by
    simp only [List.mem_cons, List.not_mem_nil, or_false] at ha
    rcases ha with rfl | rfl
    · exact ⟨by show 1 ≤ 2; decide, fun p hp => by rw [List.mem_singleton.mp hp]; exact hg⟩
    · refine ⟨by show 2 ≤ 2; decide, fun p hp => ?_⟩
      simp only [List.mem_cons, List.not_mem_nil, or_false] at hp
      rcases hp with rfl | rfl
      · exact ⟨fo, fs⟩
      · exact hg
  have alt : ∀ a ∈ ([[g], [.first n, g]] : List (List Ps)), AltOk a := fun a ha => ⟨Nat.le_trans (a1 a ha).1 (by decide), fun p hp => ((a1 a ha).2 p hp).1⟩
  have nx : nmS "x" := by unfold nmS; decide +kernel
  refine ⟨by show 2 ≤ 10; decide, by show 1751450 + (218420 + 0) ≤ _; decide, ?_, ?_, ⟨nx, alt, by show 2 ≤ 2; decide, by show 2 ≤ 4; decide, trivial, trivial⟩, ?_⟩
  · intro s hs
    unfold fiveS at hs
    simp only [List.mem_cons, List.not_mem_nil, or_false] at hs
    rcases hs with rfl | rfl
    · exact ⟨⟨nx, by show 2 ≤ 4; decide, alt⟩, fun a ha p hp => ((a1 a ha).2 p hp).2⟩
    · exact ⟨trivial, fun e he => by rcases he with ⟨x, he⟩ | he <;> cases he⟩
  · intro s hs
    unfold fiveS at hs
    simp only [List.mem_cons, List.not_mem_nil, or_false] at hs
    rcases hs with rfl | rfl
    · exact fun a ha => (a1 a ha).1
    · trivial
  · have h1 : (([[g], [.first n, g]] : List (List Ps)).map altLn).flatten.length ≤ 2 * 29 := fl_len fun a ha => alt_len (alt a ha)
    have h2 : (Stp.ln (.pl .distinct)).length ≤ 7 := ln_len (p := .distinct) trivial
    show ((Stp.ln (.ch "x" [[g], [.first n, g]])) ++ ((Stp.ln (.pl .distinct)) ++ [])).length ≤ 99
    rw [List.length_append, List.length_append]
    show (_ + 1) + (_ + 0) ≤ 99
    omega
section
variable {P : Program} {w : World} {K : PySem.W.Frag} {mg : Str → Option Value} {base : Heap} {f : Addr} {fd : FuncData}
abbrev sLaw : Stmt := top 97
abbrev nLaw : List Str := ["_law_script", "_law_tape_here", "_law_first", "_law_second", "_law_part", "_law_names", "_law_others", "_law_turn", "_law_steps_here", "_law_columns_here", "_law_bound", "_law_labels", "_law_label", "_law_at", "_law_many", "_law_group", "_law_lists", "_law_pipeline", "_law_kept", "_law_text_here"]
abbrev pLaw : List Str := ["_law_script"]
theorem scLaw : FnScope nLaw pLaw (defScope sLaw) := ⟨rfl, rfl, rfl, by decide +kernel, rfl, by decide +kernel, by decide +kernel⟩
section
variable {fA_ fB_ fC_ fD_ fE_ fF_ fG_ fH_ fI_ fJ_ : Addr} {fdA_ fdB_ fdC_ fdD_ fdE_ fdF_ fdG_ fdH_ fdI_ fdJ_ : FuncData}
theorem ok_Law (F : Fun K "law" "law" sLaw f fd) (T : Bt mg)
    (GA_ : FnOk P w K mg base CX0 1 fA_ fdA_ ["_law_script"] (spTape K)) (mA_ : mg "_law_tape" = some (.ref fA_)) (kA_ : PySem.W.keepIn K (.ref fA_) = true) (bA_ : Binds K fdA_ ["_law_script"] [])
    (GB_ : FnOk P w K mg base CX0 4 fB_ fdB_ ["_law_tape_here", "_law_lead", "_law_many", "_law_taken"] (spCls)) (mB_ : mg "_law_columns" = some (.ref fB_)) (kB_ : PySem.W.keepIn K (.ref fB_) = true) (bB_ : Binds K fdB_ ["_law_tape_here", "_law_lead", "_law_many", "_law_taken"] [])
    (GC_ : FnOk P w K mg base CX0 3 fC_ fdC_ ["_law_tape_here", "_law_taken"] (spFr)) (mC_ : mg "_law_fresh" = some (.ref fC_)) (kC_ : PySem.W.keepIn K (.ref fC_) = true) (bC_ : Binds K fdC_ ["_law_tape_here", "_law_taken"] [])
    (GD_ : FnOk P w K mg base CX0 9 fD_ fdD_ ["_law_tape_here", "_law_columns_here", "_law_others", "_law_bound", "_law_many"] (spStp)) (mD_ : mg "_law_steps" = some (.ref fD_)) (kD_ : PySem.W.keepIn K (.ref fD_) = true) (bD_ : Binds K fdD_ ["_law_tape_here", "_law_columns_here", "_law_others", "_law_bound", "_law_many"] [])
    (GE_ : FnOk P w K mg base CX0 1 fE_ fdE_ ["_law_tape_here", "_law_many"] (spDrawL)) (mE_ : mg "_law_draw" = some (.ref fE_)) (kE_ : PySem.W.keepIn K (.ref fE_) = true) (bE_ : Binds K fdE_ ["_law_tape_here", "_law_many"] [])
    (GF_ : FnOk P w K mg base CX0 8 fF_ fdF_ ["_law_tape_here", "_law_columns_here", "_law_label", "_law_many"] (spChs)) (mF_ : mg "_law_choose_step" = some (.ref fF_)) (kF_ : PySem.W.keepIn K (.ref fF_) = true) (bF_ : Binds K fdF_ ["_law_tape_here", "_law_columns_here", "_law_label", "_law_many"] [])
    (GG_ : FnOk P w K mg base CX0 8 fG_ fdG_ ["_law_tape_here", "_law_columns_here"] (spKs)) (mG_ : mg "_law_group_step" = some (.ref fG_)) (kG_ : PySem.W.keepIn K (.ref fG_) = true) (bG_ : Binds K fdG_ ["_law_tape_here", "_law_columns_here"] [])
    (GH_ : FnOk P w K mg base CX0 15 fH_ fdH_ ["pipeline"] (spShp)) (mH_ : mg "show_pipeline" = some (.ref fH_)) (kH_ : PySem.W.keepIn K (.ref fH_) = true) (bH_ : Binds K fdH_ ["pipeline"] [])
    (GI_ : FnOk P w K mg base CX0 12 fI_ fdI_ ["_law_pipeline"] (spShp)) (mI_ : mg "_law_text" = some (.ref fI_)) (kI_ : PySem.W.keepIn K (.ref fI_) = true) (bI_ : Binds K fdI_ ["_law_pipeline"] [])
    (GJ_ : FnOk P w K mg base CX0 30 fJ_ fdJ_ ["text"] (spRp)) (mJ_ : mg "read_pipeline" = some (.ref fJ_)) (kJ_ : PySem.W.keepIn K (.ref fJ_) = true) (bJ_ : Binds K fdJ_ ["text"] []) : FnG P w K mg base 31 f fd pLaw (spLaw K) := by
  refine Lc.Fun.okG F scLaw (fun vs H Q E h => ?_) (fun cdv A outer s H vs Q E hg hr h => ?_)
  · obtain ⟨a0, ns, rfl, _⟩ := h
    rfl
  · obtain ⟨a0, ns, rfl, hS, k⟩ := h
    have hrA_ : Room (1) _ := hr.mono (by first | decide | omega)
    have hrB_ : Room (4) _ := hr.mono (by first | decide | omega)
    have hrC_ : Room (3) _ := hr.mono (by first | decide | omega)
    have hrD_ : Room (9) _ := hr.mono (by first | decide | omega)
    have hrE_ : Room (1) _ := hr.mono (by first | decide | omega)
    have hrF_ : Room (8) _ := hr.mono (by first | decide | omega)
    have hrG_ : Room (8) _ := hr.mono (by first | decide | omega)
    have hrH_ : Room (15) _ := hr.mono (by first | decide | omega)
    have hrI_ : Room (12) _ := hr.mono (by first | decide | omega)
    have hrJ_ : Room (30) _ := hr.mono (by first | decide | omega)
    refine ⟨_, (pss_cons (ps_set (i := 1) scLaw.nd rfl (Or.inl rfl) (pe_call GA_ hrA_ (by rfl) mA_ kA_ bA_ .nil pass0 (pa_cons (pv 0) pa_nil)))
      (Evl.pss_cut (ps_set (i := 2) scLaw.nd rfl (Or.inl rfl) (pe_call GB_ hrB_ (by rfl) mB_ kB_ bB_ .nil pass0 (pa_cons (pv 1) (pa_cons (pe_tup (pa_cons pe_str (pa_cons pe_str pa_nil))) (pa_cons pe_int (pa_cons (pe_tup pa_nil) pa_nil))))))
      (Evl.pss_cut (ps_set (i := 3) scLaw.nd rfl (Or.inl rfl) (pe_op op_catZ (pe_tup (pa_cons (pe_ix ix_tup (pv 2) pe_int (fun _ _ => rfl)) pa_nil)) (pe_call GB_ hrB_ (by rfl) mB_ kB_ bB_ .nil pass0 (pa_cons (pv 1) (pa_cons (pe_tup (pa_cons pe_str pa_nil)) (pa_cons pe_int (pa_cons (pe_lc (own := [("_law_part", 4)]) (g := (gName 4)) (tt := tYes) (te := teLw K) (by rfl) scLaw.nd (pi_tup (pv 2)) (blkOk_by (own := [("_law_part", 4)]) (N := nLaw) (sc := defScope sLaw) (by decide +kernel)) (fun _ _ _ _ _ => (pg_name (i := 4) scLaw.nd rfl (.inl rfl))) (fun _ _ _ _ _ => pts_nil) (fun _ _ _ _ _ => (pe_ix ix_tup (pv 4) pe_int (fun _ _ => rfl)))) pa_nil)))))))
      (pss_cons (ps_set (i := 5) scLaw.nd rfl (Or.inl rfl) (pe_lst (pa_cons (pe_call GC_ hrC_ (by rfl) mC_ kC_ bC_ .nil pass0 (pa_cons (pv 1) (pa_cons (pe_lst pa_nil) pa_nil))) pa_nil)))
      (Evl.pss_cut (ps_expr (pe_bm PySem.F.plainAttrs_list PySem.F.slot_list_append PySem.F.type_list_append mt_append (pv 5) (pa_cons (pe_call GC_ hrC_ (by rfl) mC_ kC_ bC_ .nil pass0 (pa_cons (pv 1) (pa_cons (pv 5) pa_nil))) pa_nil)))
      (Evl.pss_cut (ps_set (i := 6) scLaw.nd rfl (Or.inl rfl) (pe_callTy (call_dictP rfl) (by rfl) T.dict boot_dict (pa_cons (pe_lst (pa_cons (pe_tup (pa_cons (pe_ix ix_list (pv 5) pe_int (fun _ _ => rfl)) (pa_cons (pe_tup (pa_cons (pv 2) (pa_cons pe_int pa_nil))) pa_nil))) (pa_cons (pe_tup (pa_cons (pe_ix ix_list (pv 5) pe_int (fun _ _ => rfl)) (pa_cons (pe_tup (pa_cons (pv 3) (pa_cons pe_int pa_nil))) pa_nil))) pa_nil))) pa_nil)))
      (Evl.pss_cut (ps_for PassesOwn.never rfl (pi_range1 (by rfl) T.range (pa_cons pe_int pa_nil)) (pg_name (i := 7) scLaw.nd rfl (.inl rfl)) (pss_cons (ps_asg (pe_call GD_ hrD_ (by rfl) mD_ kD_ bD_ .nil pass0 (pa_cons (pv 1) (pa_cons (pv 2) (pa_cons (pv 6) (pa_cons pe_int (pa_cons pe_int pa_nil)))))) (pg_tup rfl (pgs_cons (pg_name (i := 8) scLaw.nd rfl (.inl rfl)) (pgs_cons (pg_name (i := 9) scLaw.nd rfl (.inl rfl)) (pgs_cons (pg_name (i := 10) scLaw.nd rfl (.inl rfl)) pgs_nil)))))
      (pss_cons (ps_set (i := 11) scLaw.nd rfl (Or.inl rfl) (pe_slice sl_list (pe_lst (pa_cons pe_str (pa_cons pe_str (pa_cons pe_str pa_nil)))) po_none (po_some (pe_call GE_ hrE_ (by rfl) mE_ kE_ bE_ .nil pass0 (pa_cons (pv 1) (pa_cons pe_int pa_nil))))))
      (Evl.pss_cut (ps_for PassesOwn.never rfl (pi_list (pv 11)) (pg_name (i := 12) scLaw.nd rfl (.inl rfl)) (pss_cons (ps_set (i := 13) scLaw.nd rfl (Or.inl rfl) (pe_call GE_ hrE_ (by rfl) mE_ kE_ bE_ .nil pass0 (pa_cons (pv 1) (pa_cons (pe_op op_add (pe_callB call_len_seq (by rfl) T.len PySem.boot_len (pa_cons (pv 8) pa_nil)) pe_int) pa_nil))))
      (pss_one (ps_if (pt_cmpR op_eq (pv 13) (pe_callB call_len_seq (by rfl) T.len PySem.boot_len (pa_cons (pv 8) pa_nil)) (nomark _)) (pss_cons (ps_set (i := 14) scLaw.nd rfl (Or.inl rfl) (pe_op op_add pe_int (pe_call GE_ hrE_ (by rfl) mE_ kE_ bE_ .nil pass0 (pa_cons (pv 1) (pa_cons pe_int pa_nil)))))
      (pss_one (ps_set (i := 8) scLaw.nd rfl (Or.inl rfl) (pe_op op_catA (pv 8) (pe_tup (pa_cons (pe_call GF_ hrF_ (by rfl) mF_ kF_ bF_ .nil pass0 (pa_cons (pv 1) (pa_cons (pv 9) (pa_cons (pv 12) (pa_cons (pv 14) pa_nil))))) pa_nil)))))) pss_nil))))
      (Evl.pss_cut (ps_if (pt_cmpR op_eq (pv 7) pe_int (nomark _)) (pss_cons (ps_set (i := 15) scLaw.nd rfl (Or.inl rfl) (pe_ix ix_tup (pe_call GG_ hrG_ (by rfl) mG_ kG_ bG_ .nil pass0 (pa_cons (pv 1) (pa_cons (pv 2) pa_nil))) pe_int (fun _ _ => rfl)))
      (pss_cons (ps_set (i := 16) scLaw.nd rfl (Or.inl rfl) (pe_tup (pa_cons (pe_tup (pa_cons (pv 15) pa_nil)) (pa_cons (pe_tup (pa_cons (pe_tup (pa_cons pe_str (pa_cons (pe_call GE_ hrE_ (by rfl) mE_ kE_ bE_ .nil pass0 (pa_cons (pv 1) (pa_cons pe_int pa_nil))) pa_nil))) (pa_cons (pv 15) pa_nil))) pa_nil))))
      (pss_one (ps_set (i := 8) scLaw.nd rfl (Or.inl rfl) (pe_tup (pa_cons (pe_tup (pa_cons pe_str (pa_cons pe_str (pa_cons (pv 16) pa_nil)))) (pa_cons (pe_tup (pa_cons pe_str pa_nil)) pa_nil))))))) pss_nil)
      (pss_cons (ps_set (i := 17) scLaw.nd rfl (Or.inl rfl) (pe_tup (pa_cons (pe_ix ix_list (pv 5) pe_int (fun _ _ => rfl)) (pa_cons (pv 8) pa_nil))))
      (pss_cons (ps_set (i := 18) scLaw.nd rfl (Or.inl rfl) (pe_callB (call_reprV hg hr.units) (by rfl) T.repr boot_repr (pa_cons (pv 17) pa_nil)))
      (pss_cons (ps_set (i := 19) scLaw.nd rfl (Or.inl rfl) (pe_call GH_ hrH_ (by rfl) mH_ kH_ bH_ .nil pass0 (pa_cons (pv 17) pa_nil)))
      (pss_one (ps_if (PW.pt (pw_or (pt_cmpR op_ne (pv 19) (pe_call GI_ hrI_ (by rfl) mI_ kI_ bI_ .nil pass0 (pa_cons (pv 17) pa_nil)) (nomark _)) (pw_or (pt_cmpR op_ne (pe_callB (call_reprV hg hr.units) (by rfl) T.repr boot_repr (pa_cons (pv 17) pa_nil)) (pv 18) (nomark _)) (pw_or1 (pt_cmpR op_ne (pe_callB (call_reprV hg hr.units) (by rfl) T.repr boot_repr (pa_cons (pe_call GJ_ hrJ_ (by rfl) mJ_ kJ_ bJ_ .nil pass0 (pa_cons (pv 19) pa_nil)) pa_nil)) (pv 18) (nomark _)))))) (pss_one (ps_ret pe_bl)) pss_nil))))))))))
      (pss_one (ps_ret (pe_cmpR op_eq (pe_call GH_ hrH_ (by rfl) mH_ kH_ bH_ .nil pass0 (pa_cons (pe_tup (pa_cons (pe_ix ix_list (pv 5) pe_int (fun _ _ => rfl)) (pa_cons (pe_tup pa_nil) pa_nil))) pa_nil)) (pe_op op_add_str pe_str (pe_ix ix_list (pv 5) pe_int (fun _ _ => rfl))) (nomark _))))))))))), ?_⟩
    have two : 2 ≤ sizeLine := by decide
    have one : 1 ≤ sizeLine := by decide
    have three : 3 ≤ sizeLine := by decide
    have four : 4 ≤ sizeLine := by decide
    refine ⟨_, rfl, a0, ns, rfl, hS, fun t H1 s1 nt T1 => ?_⟩
    obtain ⟨c, T1⟩ := T1
    have T1 : TapeL c H1 t := T1
    clear s1 nt hS
    let E1 := fun (x2 x3 x5 x6 : Option V) (σ : L2.St) => σ = [some (.ref a0), some (.ref t), x2, x3, none, x5, x6, none, none, none, none, none, none, none, none, none, none, none, none, none]
    refine ⟨fun σ H' => ∃ (L : Addr) (ps : CsL), E1 (some (.ref L)) none none none σ ∧ CA H' L ps ∧ ColP ps ∧ ps.length ≤ 5 ∧ TapeL c H' t, ?_, ?_⟩
    · refine ⟨_, rfl, two, fun p1 hp1 => ⟨Nat.zero_le _, fun p2 hp2 => ?_⟩⟩
      have z1 := Same.upd (o := .tup [.str "word", .str "number"]) hp1
      have z2 := Same.upd (o := .tup []) hp2
      exact ⟨t, c, p1, p2, 3, ["word", "number"], [], rfl, T1.same (z1.trans z2), .inl (z2 _ _ upd_same), .inl upd_same, by decide, by decide, by decide, by decide, fun k hk => by simp only [List.mem_cons, List.not_mem_nil, or_false] at hk; rcases hk with rfl | rfl; exact .inr (.inl rfl); exact .inl rfl, fun L xs ps H2 hL hc ho nd _ l1 l6 T2 S2 => ⟨L, ps, rfl, ⟨xs, hL, hc⟩, ⟨ho, nd, Nat.le_trans (by decide) l1, Nat.le_trans l6 (by decide)⟩, l6, T2⟩⟩
    clear T1
    rintro σ H2 ⟨L, ps, rfl, hL, cp, p5, T2⟩
    obtain ⟨xs, zL, cc⟩ := hL
    have lx := cc.len
    have l1 := cp.l1
    refine ⟨fun σ H' => ∃ (M : Addr) (qs : CsL), E1 (some (.ref L)) (some (.ref M)) none none σ ∧ CA H' L ps ∧ CA H' M qs ∧ ColP qs ∧ TapeL c H' t, ?_, ?_⟩
    · obtain ⟨x0, hx0⟩ : ∃ x0, xs[0]? = some x0 := ⟨_, List.getElem?_eq_getElem (by omega)⟩
      obtain ⟨a, z, kk, rfl, ea, ep⟩ := cc.get _ _ hx0
      refine ⟨_, rfl, L, xs, _, .ref a, rfl, rfl, zL.sq, at_of (j := 0) rfl hx0, one, fun p hp => ?_⟩
      have zp := Same.upd (o := .tup [.ref a]) hp
      have e3 : upd H2 p (.tup [.ref a]) p = some (.tup [.ref a]) := upd_same
      have z3 := zL.same zp
      have c3 := cc.t (SameT.of zp)
      have T3 := T2.same zp
      have ea3 := zp _ _ ea
      generalize upd H2 p (.tup [.ref a]) = H3 at e3 z3 c3 T3 ea3 ⊢
      refine ⟨_, rfl, one, fun p3 hp3 => ?_⟩
      have zp3 := Same.upd (o := .tup [.str "number"]) hp3
      have e33 : upd H3 p3 (.tup [.str "number"]) p3 = some (.tup [.str "number"]) := upd_same
      have z4 := z3.same zp3
      have c4 := c3.t (SameT.of zp3)
      have T4 := T3.same zp3
      have e4 := zp3 _ _ e3
      have ea4 := zp3 _ _ ea3
      generalize upd H3 p3 (.tup [.str "number"]) = H4 at e33 z4 c4 T4 e4 ea4 ⊢
      refine ⟨_, rfl, L, rfl, ⟨_, z4.sq⟩, fun D hD => lc_tup (K := K) (a := L) (xs := xs) (fun i H' => H' D = some (.lst (vS ((nms ps).take i))) ∧ Same H4 H') ⟨upd_same, Same.upd hD⟩ (fun i H' _ pr => (z4.same pr.2).sq) ?_ ?_⟩
      · rintro i x H5 hx ⟨e5, s5⟩
        obtain ⟨b, z', k', rfl, eb, ep'⟩ := c4.get _ _ hx
        refine ⟨rfl, ?_⟩
        dsimp only [tYes]
        refine iteT ?_
        change teLw K _ _ _
        exact ⟨_, rfl, b, _, _, .str z', rfl, rfl, SqT.of (s5 _ _ eb), rfl, nm_turn hD e5 ep' cp.l8 s5⟩
      rintro H5 ⟨e5, s5⟩
      rw [lx, ← show (nms ps).length = ps.length from List.length_map _, List.take_length] at e5
      refine ⟨t, c, p3, D, 1, ["number"], nms ps, rfl, T4.same s5, .inl (s5 _ _ e33), .inr e5, by rw [List.length_map]; exact cp.l8, by decide, by decide, by decide, fun k hk => by rw [List.mem_singleton.mp hk]; exact .inl rfl, fun R ys rs H6 hR hc ho nd ntk r1 r2 T6 S6 => ?_⟩
      have e6 := S6 _ _ (T4.tape.neT e4 |> fun h => h) (s5 _ _ e4)
      have z6 := (z4.same s5).b (T4.same s5).tape S6
      have c6 := (c4.t (SameT.of s5)).b (T4.same s5).tape S6
      have ea6 := SameT.b (T4.same s5).tape S6 _ _ (s5 _ _ ea4)
      have lys := hc.len
      have r2 : rs.length ≤ 2 := r2
      have r1 : 1 ≤ rs.length := r1
      have hz := cp.ok _ (List.mem_of_getElem? ep)
      have zm : z ∈ nms ps := List.mem_map_of_mem (f := (·.1)) (List.mem_of_getElem? ep)
      refine ⟨p, R, [.ref a], ys, rfl, rfl, SqT.of e6, hR.sq, List.cons_ne_nil _ _, Nat.le_trans (show 1 + _ ≤ 3 by omega) (by decide), fun e => by rw [e] at lys; change 0 = _ at lys; omega, fun _ M ob hM d1 d2 => ?_⟩
      have zM := Same.upd (o := .frz ob (.tup ([.ref a] ++ ys))) hM
      refine ⟨M, [(z, kk)] ++ rs, rfl, ⟨xs, z6.same zM, c6.t (SameT.of zM)⟩, ⟨_, ⟨ob, d1, d2, upd_same⟩, (Cols.cons (zM _ _ ea6) .nil).app (hc.t (SameT.of zM))⟩, ⟨fun q hq => ?_, ?_, by show 1 ≤ rs.length + 1; omega, by show rs.length + 1 ≤ 8; omega⟩, T6.same zM⟩
      · rcases List.mem_append.mp hq with hq | hq
        · rw [List.mem_singleton.mp hq]; exact hz
        · exact ho q hq
      · show (z :: rs.map (·.1)).Nodup
        rw [List.nodup_cons]
        refine ⟨fun m => ?_, nd⟩
        obtain ⟨q, hq, e⟩ := List.mem_map.mp m
        exact ntk q hq (by rw [e]; exact zm)
    clear zL cc lx T2
    rintro σ H3 ⟨M, qs, rfl, hL, hM, cq, T3⟩
    refine ⟨_, rfl, Nat.zero_le _, fun e0 he0 => ?_⟩
    have z0 := Same.upd (o := .lst []) he0
    refine ⟨t, c, e0, [], rfl, T3.same z0, upd_same, by decide, fun x H4 hx nx _ T4 S4 => ⟨one, fun N hN => ?_⟩⟩
    have zN := Same.upd (o := .lst [.str x]) hN
    have hL4 := ((hL.same z0).b (T3.same z0).tape S4).same zN
    have hM4 := ((hM.same z0).b (T3.same z0).tape S4).same zN
    have T5 := T4.same zN
    have nN := T4.tape.ne hN
    obtain ⟨yy, hc⟩ := T4.list
    have nNc : N ≠ c := Ne.symm (ne_of_none hc hN)
    have eN : upd H4 N (.lst [.str x]) N = some (.lst (vS [x])) := upd_same
    generalize upd H4 N (.lst [.str x]) = H5 at hL4 hM4 T5 eN ⊢
    refine ⟨fun σ H' => ∃ y : Str, E1 (some (.ref L)) (some (.ref M)) (some (.ref N)) none σ ∧ CA H' L ps ∧ CA H' M qs ∧ H' N = some (.lst [.str x, .str y]) ∧ nmS y ∧ x ≠ y ∧ TapeL c H' t, ?_, ?_⟩
    · refine ⟨_, rfl, .inl ⟨rfl, _, SqL.of eN⟩, _, rfl, _, rfl, t, c, N, [x], rfl, T5, eN, by show 1 < 36; decide, fun y H6 hy ny fz T6 S6 => ?_⟩
      have e6 := S6 _ _ nN eN
      have caN : ∀ {C : Addr} {rs : CsL}, CA H6 C rs → CA (upd H6 N (.lst (vS [x] ++ [.str y]))) C rs := fun {C rs} ca => by
        obtain ⟨xs, ⟨ob, d1, d2, e⟩, cc⟩ := ca
        exact ⟨xs, ⟨ob, d1, d2, by rw [upd_ne (ne_of e e6 nofun)]; exact e⟩, cc.t (SameT.lst e6)⟩
      exact ⟨N, _, _, rfl, rfl, e6, lt_size (by show 1 ≤ 1000; decide), y, rfl, caN (hL4.b T5.tape S6), caN (hM4.b T5.tape S6), upd_same, ny, fun e => fz (by rw [e]; exact List.mem_cons_self), T6.upd nN nNc⟩
    clear hL4 hM4 T5 eN hL hM T3 z0 zN he0 hN S4 T4 hc
    rintro σ H6 ⟨y, rfl, hL, hM, eN, ny, xy, T6⟩
    let kvs := fun (q1 q2 : Addr) => ([((Sum.inr x : Key), V.ref q1), ((Sum.inr y : Key), V.ref q2)] : List (Key × V))
    refine ⟨fun σ H' => ∃ (O q1 q2 : Addr), E1 (some (.ref L)) (some (.ref M)) (some (.ref N)) (some (.ref O)) σ ∧ H' O = some (.dK (kvs q1 q2)) ∧ OthAt H' (kvs q1 q2) [(x, ps, 5), (y, qs, 5)] ∧ CA H' L ps ∧ H' N = some (.lst [.str x, .str y]) ∧ TapeL c H' t, ?_, ?_⟩
    · refine ⟨_, rfl, N, _, _, .str x, rfl, rfl, SqL.of eN, rfl, _, rfl, two, fun q1 hq1 => ⟨two, fun r1 hr1 => ?_⟩⟩
      have zq1 := Same.upd (o := .tup [.ref L, .int 5]) hq1
      have zr1 := Same.upd (o := .tup [.str x, .ref q1]) hr1
      have g1 : upd (upd H6 q1 (.tup [.ref L, .int 5])) r1 (.tup [.str x, .ref q1]) q1 = some (.tup [.ref L, .int 5]) := zr1 _ _ upd_same
      have g2 : upd (upd H6 q1 (.tup [.ref L, .int 5])) r1 (.tup [.str x, .ref q1]) r1 = some (.tup [.str x, .ref q1]) := upd_same
      have s7 := zq1.trans zr1
      generalize upd (upd H6 q1 (.tup [.ref L, .int 5])) r1 (.tup [.str x, .ref q1]) = H7 at g1 g2 s7 ⊢
      refine ⟨_, rfl, N, _, _, .str y, rfl, rfl, SqL.of (s7 _ _ eN), rfl, _, rfl, two, fun q2 hq2 => ⟨two, fun r2 hr2 => ⟨two, fun l hl => ?_⟩⟩⟩
      have zq2 := Same.upd (o := .tup [.ref M, .int 5]) hq2
      have zr2 := Same.upd (o := .tup [.str y, .ref q2]) hr2
      have zl := Same.upd (o := .lst [.ref r1, .ref r2]) hl
      have s8 := zq2.trans (zr2.trans zl)
      refine ⟨l, [r1, r2], kvs q1 q2, rfl, SqL.of upd_same, .cons (SqT.of (s8 _ _ g2)) (.cons (SqT.of (zl _ _ upd_same)) .nil), fun O hO => ?_⟩
      rw [merge_new (kvs q1 q2) [] (by
        show [(Sum.inr x : Key), Sum.inr y].Nodup
        exact List.nodup_cons.mpr ⟨fun m => xy (by have := List.mem_singleton.mp m; injection this), List.nodup_cons.mpr ⟨nofun, List.nodup_nil⟩⟩), List.nil_append]
      have zO := Same.upd (o := .dK (kvs q1 q2)) hO
      have s9 := s8.trans zO
      have sall := s7.trans s9
      exact ⟨O, q1, q2, rfl, upd_same, .cons (s9 _ _ g1) (hL.same sall) (.cons (zO _ _ (zl _ _ (zr2 _ _ upd_same))) (hM.same sall) .nil), hL.same sall, sall _ _ eN, T6.same sall⟩
    clear hL hM eN T6
    rintro σ H7 ⟨O, q1, q2, rfl, eO, ho, hL, eN, T7⟩
    have nO : O ≠ t := by
      intro z
      obtain ⟨_, _, _, _, _, h1, _⟩ := T7.tape
      rw [z, h1] at eO
      cases eO
    have nNt : N ≠ t := ne_tape (ss := [x, y]) T7.tape eN
    let F2 := fun (x7 x8 x9 x10 x11 x12 x13 x14 x15 x16 x17 x18 x19 : Option V) (σ : L2.St) => σ = [some (.ref a0), some (.ref t), some (.ref L), some (.ref M), none, some (.ref N), some (.ref O), x7, x8, x9, x10, x11, x12, x13, x14, x15, x16, x17, x18, x19]
    refine ⟨fun σ H' => (∃ x7 x8 x9 x10 x11 x12 x13 x14 x15 x16 x17 x18 x19, F2 x7 x8 x9 x10 x11 x12 x13 x14 x15 x16 x17 x18 x19 σ) ∧ H' N = some (.lst [.str x, .str y]), ?_, ?_⟩
    · refine ⟨6, rfl, by decide, by decide, for_range (n := 6) (fun i σ H' => (∃ x7 x8 x9 x10 x11 x12 x13 x14 x15 x16 x17 x18 x19, F2 x7 x8 x9 x10 x11 x12 x13 x14 x15 x16 x17 x18 x19 σ) ∧ TapeL c H' t ∧ SameB t H7 H') ⟨⟨_, _, _, _, _, _, _, _, _, _, _, _, _, rfl⟩, T7, SameB.refl _ _⟩ ?_ (fun σ H' pr => ⟨pr.1, pr.2.2 _ _ nNt eN⟩)⟩
      rintro i σ H8 hi ⟨⟨x7, x8, x9, x10, x11, x12, x13, x14, x15, x16, x17, x18, x19, rfl⟩, T8, S8⟩
      have hL8 := hL.b T7.tape S8
      refine ⟨_, rfl, _, rfl, _, rfl, t, c, L, O, ps, kvs q1 q2, [(x, ps, 5), (y, qs, 5)], 5, 7, rfl, T8, hL8, cp, S8 _ _ nO eO, ho.b T7.tape S8, List.cons_ne_nil _ _, by show 2 ≤ 10; decide, fun o hm => ?_, by decide, by decide, by decide, fun r v C b a rs H9 er dv hC lds la b1 T9 S9 => ?_⟩
      · simp only [List.mem_cons, List.not_mem_nil, or_false] at hm
        rcases hm with rfl | rfl
        · exact ⟨nx, cp, by show 5 ≤ 1000; decide⟩
        · exact ⟨ny, cq, by show 5 ≤ 1000; decide⟩
      have ldn : ∀ o ∈ ldO [(x, ps, 5), (y, qs, 5)], nmS o.1 ∧ ColP o.2 := fun o ho => by
        simp only [ldO, List.map_cons, List.map_nil, List.mem_cons, List.not_mem_nil, or_false] at ho
        rcases ho with rfl | rfl
        · exact ⟨nx, cp⟩
        · exact ⟨ny, cq⟩
      obtain ⟨okp, crs⟩ := lds.go cp ldn
      have la : a.length ≤ 7 := by omega
      have S79 := S8.trans S9
      refine ⟨r, _, rfl, SqT.of er, rfl, _, _, rfl, _, _, rfl, _, _, rfl, rfl, ?_⟩
      -- the labels
      refine ⟨three, fun Y hY => ?_⟩
      have zY := Same.upd (o := .lst (vS LB)) hY
      have nY := T9.tape.ne hY
      have eY : upd H9 Y (.lst (vS LB)) Y = some (.lst (vS LB)) := upd_same
      refine ⟨_, rfl, t, c, _, rfl, T9.same zY, by decide, big1000 (by decide) (by decide), fun d HA d0 d4 TA SA => ?_⟩
      have SA' := (Same.b t zY).trans SA
      refine ⟨d, rfl, Y, vS LB, rfl, SqL.of (SA _ _ nY eY), fun W hW => ?_⟩
      have ecut : cutV (vS LB) none (some d) = vS (LB.take d.toNat) := by
        have : d = 0 ∨ d = 1 ∨ d = 2 ∨ d = 3 := by omega
        rcases this with rfl | rfl | rfl | rfl <;> rfl
      rw [ecut]
      have zW := Same.upd (o := .lst (vS (LB.take d.toNat))) hW
      have eW : upd HA W (.lst (vS (LB.take d.toNat))) W = some (.lst (vS (LB.take d.toNat))) := upd_same
      have nW := TA.tape.ne hW
      have TB := TA.same zW
      have SB := SA'.trans (Same.b t zW)
      have dvB := dtb dv SB
      have hCB := hC.b T9.tape SB
      have S7B := S79.trans SB
      generalize upd HA W (.lst (vS (LB.take d.toNat))) = HB at eW TB SB dvB hCB S7B ⊢
      clear dv hC er SA SA' zY eY hY hW zW TA T9 S9 S79 hL8 T8 S8 ecut
      generalize hLs : LB.take d.toNat = ls at eW ⊢
      have lls : ls.length ≤ 3 := by rw [← hLs, List.length_take]; exact Nat.le_trans (Nat.min_le_right _ _) (by decide)
      have lnd : ls.Nodup := by rw [← hLs]; exact (List.take_sublist _ _).nodup LB_nd
      have lnm : ∀ l ∈ ls, nmS l := fun l hl => LB_nm l (by rw [← hLs] at hl; exact List.mem_of_mem_take hl)
      refine ⟨fun σ H' => ∃ (v : V) (chs : List Ch) (x12 x13 x14 : Option V), F2 (some (.int ((0 : Int) + (i : Int)))) (some v) (some (.ref C)) (some (.int (b : Int))) (some (.ref W)) x12 x13 x14 x15 x16 x17 x18 x19 σ ∧ DhT t H' v (.tuple ((mkS a chs).map Stp.d)) ∧ PD (mkS a chs) ∧ TapeL c H' t ∧ SameB t H7 H', ?_, ?_⟩
      · refine ⟨_, rfl, W, rfl, ⟨_, SqL.of eW⟩, for_list (K := K) (a := W) (xs := vS ls) (fun j σ H' => ∃ (v : V) (chs : List Ch) (x12 x13 x14 : Option V), F2 (some (.int ((0 : Int) + (i : Int)))) (some v) (some (.ref C)) (some (.int (b : Int))) (some (.ref W)) x12 x13 x14 x15 x16 x17 x18 x19 σ ∧ DhT t H' v (.tuple ((mkS a chs).map Stp.d)) ∧ (chs.map (·.1)).Sublist (ls.take j) ∧ (∀ c ∈ chs, ChOk c) ∧ H' W = some (.lst (vS ls)) ∧ TapeL c H' t ∧ SameB t HB H') ⟨v, [], x12, x13, x14, rfl, by rw [mkS_d]; exact dvB, List.Sublist.refl _, nofun, eW, TB, SameB.refl _ _⟩ (fun j σ H' _ pr => by obtain ⟨_, _, _, _, _, _, _, _, _, h, _⟩ := pr; exact SqL.of h) ?_ ?_⟩
        · have TB0 := TB.tape
          clear dvB TB
          rintro j l0 σ HC hj ⟨v, chs, x12, x13, x14, rfl, dvC, sub, okc, eWC, TC, SC⟩
          rw [List.getElem?_map] at hj
          obtain ⟨lb, elb, rfl⟩ := Option.map_eq_some_iff.mp hj
          have nlb := lnm lb (List.mem_of_getElem? elb)
          have sub1 : ((chs.map (·.1))).Sublist (ls.take (j + 1)) := sub.trans (by rw [List.take_add_one]; exact List.sublist_append_left _ _)
          have lch : chs.length ≤ 3 := by
            have := sub.length_le
            rw [List.length_map, List.length_take] at this
            omega
          obtain ⟨S, us, rfl, eS, du⟩ := dh_tupD dvC
          have eS := (dl_of eS).2
          have lus : us.length = a.length + chs.length := by
            rw [du.len, List.length_map, List.length_append, List.length_map, List.length_map]
          refine ⟨_, rfl, _, rfl, S, _, rfl, .inr (SqT.of eS), _, _, rfl, rfl, t, c, _, rfl, TC, by omega, big1000 (by omega) (by omega), fun at_ HD a0_ a1_ TD SD => ?_⟩
          have SCD := SC.trans SD
          have dvD := dtb dvC SD
          have eWD := SD _ _ nW eWC
          have nS := TC.tape.neT eS
          have eSD := SD _ _ nS eS
          have duD := dtbA du SD
          refine ⟨_, rfl, _, rfl, S, _, rfl, .inr (SqT.of eSD), rfl, _, rfl, ite2 (fun _ => ?_) (fun _ => ⟨.ref S, chs, _, _, _, rfl, dvD, sub1, okc, eWD, TD, SCD⟩)⟩
          refine ⟨_, rfl, t, c, _, rfl, TD, by decide, big1000 (by decide) (by decide), fun w HE w0 w3 TE SE => ⟨_, _, rfl, rfl, ?_⟩⟩
          refine ⟨_, rfl, _, rfl, _, rfl, _, rfl, _, rfl, t, c, C, rs, lb, 2 + w, rfl, TE, (hCB.b TB0 SCD).b TD.tape SE, crs, by omega, by omega, fun u as HF du2 las oka TF SF => ⟨one, fun p hp => ?_⟩⟩
          have zp := Same.upd (o := .tup [u]) hp
          have eSF := zp _ _ (SF _ _ nS (SE _ _ nS eSD))
          have duF := dtsA (dtbA (dtbA duD SE) SF) zp
          have TG := TF.same zp
          have SG := (SCD.trans (SE.trans SF)).trans (Same.b t zp)
          have eWF := zp _ _ (SF _ _ nW (SE _ _ nW eWD))
          have ck : ChOk (lb, as) := ⟨nlb, by show 2 ≤ as.length; omega, by show as.length ≤ 4; omega, SamP.chok crs oka⟩
          have okc' : ∀ c ∈ chs ++ [(lb, as)], ChOk c := fun c hc => by
            rcases List.mem_append.mp hc with hc | hc
            · exact okc c hc
            · rw [List.mem_singleton.mp hc]; exact ck
          have sub' : ((chs ++ [(lb, as)]).map (·.1)).Sublist (ls.take (j + 1)) := by
            rw [List.map_append, List.take_add_one, elb]
            exact sub.append (List.Sublist.refl _)
          have dp := dh_tupT TF.tape (.cons du2 .nil) hp
          have lsm : ((mkS a chs).map Stp.d).length = us.length := du.len.symm
          refine ⟨S, p, us, [u], rfl, rfl, SqT.of eSF, SqT.of upd_same, Nat.le_trans (show _ + 1 ≤ 12 by omega) (by decide), fun e => ?_, (fun _ e => nomatch e), fun ne _ r hr => ?_⟩
          · have e0 : (mkS a chs).map Stp.d = [] := List.length_eq_zero_iff.mp (by rw [lsm, e]; rfl)
            exact ⟨.ref p, chs ++ [(lb, as)], _, _, _, rfl, by rw [mkS_snoc, e0]; exact dp, sub', okc', eWF, TG, SG⟩
          · have zr := Same.upd (o := .tup (us ++ [u])) hr
            exact ⟨.ref r, chs ++ [(lb, as)], _, _, _, rfl, by rw [mkS_snoc]; exact dh_tupT TG.tape (duF.append (.cons (dts du2 zp) .nil)) hr, sub', okc', zr _ _ eWF, TG.same zr, SG.trans (Same.b t zr)⟩
        · rintro σ HC ⟨v, chs, x12, x13, x14, rfl, dvC, sub, okc, eWC, TC, SC⟩
          have lch : chs.length ≤ 3 := by
            have := sub.length_le
            rw [List.length_map, List.length_take] at this
            omega
          exact ⟨v, chs, x12, x13, x14, rfl, dvC, pd_of okp la okc ((sub.trans (List.take_sublist _ _)).nodup lnd) lch, TC, S7B.trans SC⟩
      clear dvB TB hCB SB S7B eW
      rintro σ HC ⟨v, chs, x12, x13, x14, rfl, dvC, pd, TC, SC⟩
      refine ⟨fun σ H' => ∃ (v : V) (ss : List Stp) (x15 x16 : Option V), F2 (some (.int ((0 : Int) + (i : Int)))) (some v) (some (.ref C)) (some (.int (b : Int))) (some (.ref W)) x12 x13 x14 x15 x16 x17 x18 x19 σ ∧ DhT t H' v (.tuple (ss.map Stp.d)) ∧ PD ss ∧ TapeL c H' t ∧ SameB t H7 H', ?_, ?_⟩
      · refine ⟨_, rfl, rfl, _, rfl, ite2 (fun _ => ?_) (fun _ => ⟨v, mkS a chs, _, _, rfl, dvC, pd, TC, SC⟩)⟩
        refine ⟨_, rfl, _, rfl, t, c, L, ps, rfl, TC, hL.b T7.tape SC, cp, fun r g C' p qs' HD er dg ca ld TD SD => ⟨r, _, _, g, rfl, rfl, SqT.of er, rfl, ?_⟩⟩
        obtain ⟨okg1, okg2, _⟩ := (ld []).go cp nofun
        refine ⟨_, rfl, one, fun p1 hp1 => ?_⟩
        have z1 := Same.upd (o := .tup [g]) hp1
        refine ⟨_, rfl, t, c, _, rfl, TD.same z1, by decide, big1000 (by decide) (by decide), fun n HE n0 n9 TE SE => ⟨two, fun p2 hp2 => ⟨_, rfl, two, fun p3 hp3 => ⟨two, fun p4 hp4 => ?_⟩⟩⟩⟩
        obtain ⟨n, rfl⟩ : ∃ m : Nat, n = m := ⟨n.toNat, by omega⟩
        have d1 : DhT t HE (.ref p1) (altD [p]) := dtb (dh_tupT TD.tape (.cons dg .nil) hp1) SE
        have dg1 := dtb (dts dg z1) SE
        have z2 := Same.upd (o := .tup [.str "first", .int (n : Int)]) hp2
        have d2 : DhT t (upd HE p2 (.tup [.str "first", .int (n : Int)])) (.ref p2) (Ps.d (.first n)) := dh_tupT TE.tape (.cons (.str _) (.cons (.int _) .nil)) hp2
        have T2 := TE.same z2
        have d1b := dts d1 z2
        have dg2 := dts dg1 z2
        have S2 := SD.trans ((Same.b t z1).trans (SE.trans (Same.b t z2)))
        generalize upd HE p2 (.tup [.str "first", .int (n : Int)]) = HF at d2 T2 d1b dg2 S2 hp3 hp4 ⊢
        have z3 := Same.upd (o := .tup [.ref p2, g]) hp3
        have d3 : DhT t (upd HF p3 (.tup [.ref p2, g])) (.ref p3) (altD [.first n, p]) := dh_tupT T2.tape (.cons d2 (.cons dg2 .nil)) hp3
        have T3 := T2.same z3
        have d1c := dts d1b z3
        have S3 := S2.trans (Same.b t z3)
        generalize upd HF p3 (.tup [.ref p2, g]) = HG at d3 T3 d1c S3 hp4 ⊢
        have z4 := Same.upd (o := .tup [.ref p1, .ref p3]) hp4
        have d4 : DhT t (upd HG p4 (.tup [.ref p1, .ref p3])) (.ref p4) (.tuple [altD [p], altD [.first n, p]]) := dh_tupT T3.tape (.cons d1c (.cons d3 .nil)) hp4
        have T4 := T3.same z4
        have S4 := S3.trans (Same.b t z4)
        generalize upd HG p4 (.tup [.ref p1, .ref p3]) = HI at d4 T4 S4 ⊢
        refine ⟨_, rfl, three, fun p5 hp5 => ⟨one, fun p6 hp6 => ⟨two, fun p7 hp7 => ?_⟩⟩⟩
        have z5 := Same.upd (o := .tup [.str "choose", .str "x", .ref p4]) hp5
        have z6 := Same.upd (o := .tup [.str "distinct"]) hp6
        have z7 := Same.upd (o := .tup [.ref p5, .ref p6]) hp7
        have d5 : DhT t (upd HI p5 (.tup [.str "choose", .str "x", .ref p4])) (.ref p5) (Stp.d (.ch "x" [[p], [.first n, p]])) := dh_tupT T4.tape (.cons (.str _) (.cons (.str _) (.cons d4 .nil))) hp5
        have T5 := T4.same z5
        have d6 : DhT t _ (.ref p6) (Ps.d .distinct) := dh_tupT T5.tape (.cons (.str _) .nil) hp6
        have T6 := T5.same z6
        exact ⟨_, fiveS p n, _, _, rfl, dh_tupT T6.tape (.cons (dts d5 z6) (.cons d6 .nil)) hp7, pd_five ⟨okg1, okg2⟩ (by omega), T6.same z7, SC.trans (S4.trans (Same.b t (z5.trans (z6.trans z7))))⟩
      clear dvC pd TC SC
      rintro σ HD ⟨v, ss, x15, x16, rfl, dv, pd, TD, SD⟩
      refine ⟨_, rfl, N, _, _, .str x, rfl, rfl, SqL.of (SD _ _ nNt eN), rfl, _, rfl, two, fun P hP => ?_⟩
      have zP := Same.upd (o := .tup [.str x, v]) hP
      have dP : Dh (upd HD P (.tup [.str x, v])) (.ref P) (pipeD x ss) := (dh_tupT TD.tape (.cons (.str _) (.cons dv .nil)) hP).same dl_here
      have TP := TD.same zP
      have SP := SD.trans (Same.b t zP)
      generalize upd HD P (.tup [.str x, v]) = HP at dP TP SP ⊢
      obtain ⟨b1_, b2_, n_, b3_, b4_⟩ := pd.back nx
      refine ⟨_, rfl, .ref P, _, rfl, pd.shw nx dP, ?_⟩
      refine ⟨_, rfl, .ref P, x, ss, rfl, dP, pd.pp nx, fun HE sE => ?_⟩
      refine ⟨_, rfl, _, rfl, .ref P, x, ss, rfl, dP.same sE, pd.pp nx, fun HF sF => ⟨rfl, _, rfl, ?_⟩⟩
      rw [decide_eq_true rfl]
      refine iteF ⟨_, rfl, .ref P, _, rfl, pd.shw nx ((dP.same sE).same sF), _, rfl, rfl, _, rfl, ?_⟩
      rw [decide_eq_true rfl]
      refine iteF ⟨_, rfl, _, rfl, b1_, b2_, _, n_, b3_, fun v' HG sG dv' => ?_⟩
      rw [b4_] at dv'
      refine ⟨v', _, rfl, pd.shw nx dv', _, rfl, rfl, _, rfl, ?_⟩
      rw [decide_eq_true rfl]
      have s := sE.trans (sF.trans sG)
      exact iteF ⟨⟨_, _, _, _, _, _, _, _, _, _, _, _, _, rfl⟩, TP.same s, SP.trans (Same.b t s)⟩
    clear eO ho hL T7
    rintro σ H8 ⟨⟨x7, x8, x9, x10, x11, x12, x13, x14, x15, x16, x17, x18, x19, rfl⟩, eN⟩
    refine ⟨_, rfl, N, _, _, .str x, rfl, rfl, SqL.of eN, rfl, Nat.zero_le _, fun e he => ⟨two, fun p hp => ?_⟩⟩
    have ze := Same.upd (o := .tup []) he
    have zp := Same.upd (o := .tup [.str x, .ref e]) hp
    have dp : Dh (upd (upd H8 e (.tup [])) p (.tup [.str x, .ref e])) (.ref p) (pipeD x []) := .tup upd_same (.cons (.str _) (.cons (.tup (zp _ _ upd_same) .nil) .nil))
    have eN9 := (ze.trans zp) _ _ eN
    refine ⟨.ref p, x, [], rfl, dp, ⟨nx, Nat.zero_le _, nofun⟩, fun H9 s9 => ?_⟩
    have e1 : ("from " : Str) = TS frL := by decide +kernel
    have e2 : ("from " : Str) ++ x = TS (frL ++ CL x) := by rw [e1, ← ts_app, ts_cl]
    have ll : x.cps.toList.length ≤ 12 := (name_signs nx).2.1
    refine ⟨_, rfl, N, _, _, .str x, rfl, rfl, SqL.of (s9 _ _ eN9), rfl, _, _, rfl, rfl, ?_, rfl, ?_⟩
    · rw [e1, ts_len, lenL]
      exact Nat.le_trans (show 5 + _ ≤ 19 by omega) (by decide)
    · rw [e2]
      rw [show decide (V.str (TS (jn 10 (pipeLn x []))) = V.str (TS (frL ++ CL x))) = true from decide_eq_true rfl]
      exact k H9
end
end
end K78
set_option Elab.async false
set_option linter.all false
set_option maxRecDepth 100000
set_option maxHeartbeats 8000000
namespace K78
open PySem PySem.Spec PyProof.Rows L2 Lc He
theorem facts {P : Program} {w : World} {K : PySem.W.Frag} {h : Heap} {mg : Str → Option Value} {f : Addr} (X : K.In h) (G : h.Ns mainGlobals mg) (hfa : mg ("law" : Str) = some (.ref f)) (c : SaysD fa fn K) (e : ex K = true) (tb : TabsOk ts w K) :
    ∃ fd : FuncData, (∀ (s : Shared) (v : Value), BindsTo s fd ⟨[v], []⟩ [("_law_script", v)]) ∧ ∀ base : Heap, K.In base → base.Ns mainGlobals mg → FnG P w K mg base 31 f fd ["_law_script"] (spLaw K) := by
  obtain ⟨fd0, D0⟩ := c.def_ 0 (d := dOf "show_rational" sShr) rfl
  obtain ⟨fd1, D1⟩ := c.def_ 1 (d := dOf "show_value" sShv) rfl
  obtain ⟨fd2, D2⟩ := c.def_ 2 (d := dOf "show_expression" sShe) rfl
  obtain ⟨fd3, D3⟩ := c.def_ 3 (d := dOf "show_group" sSg) rfl
  obtain ⟨fd4, D4⟩ := c.def_ 4 (d := dOf "show_choose" sSc) rfl
  obtain ⟨fd5, D5⟩ := c.def_ 5 (d := dOf "show_step" sSs) rfl
  obtain ⟨fd6, D6⟩ := c.def_ 6 (d := dOf "show_pipeline" sSpl) rfl
  obtain ⟨fd7, D7⟩ := c.def_ 7 (d := dMt "BadText" "__init__" "BadText.__init__" sIni) rfl
  obtain ⟨fd8, D8⟩ := c.def_ 8 (d := dOf "is_whole" sWhole) rfl
  obtain ⟨fd9, D9⟩ := c.def_ 9 (d := dOf "common_divisor" sCd) rfl
  obtain ⟨fd10, D10⟩ := c.def_ 10 (d := dOf "is_rational" sIsR) rfl
  obtain ⟨fd11, D11⟩ := c.def_ 11 (d := dOf "is_name" sName) rfl
  obtain ⟨fd12, D12⟩ := c.def_ 12 (d := dOf "within_limit" sWithin) rfl
  obtain ⟨fd13, D13⟩ := c.def_ 13 (d := dOf "read_whole" sRw) rfl
  obtain ⟨fd14, D14⟩ := c.def_ 14 (d := dOf "read_rational" sRr) rfl
  obtain ⟨fd15, D15⟩ := c.def_ 15 (d := dOf "read_value" sRv) rfl
  obtain ⟨fd16, D16⟩ := c.def_ 16 (d := dOf "read_leaf" sRl) rfl
  obtain ⟨fd17, D17⟩ := c.def_ 17 (d := dOf "pieces_of" sPo) rfl
  obtain ⟨fd18, D18⟩ := c.def_ 18 (d := dOf "check_piece" sCp) rfl
  obtain ⟨fd19, D19⟩ := c.def_ 19 (d := dOf "read_form" sRf) rfl
  obtain ⟨fd20, D20⟩ := c.def_ 20 (d := dOf "read_operation" sRo) rfl
  obtain ⟨fd21, D21⟩ := c.def_ 21 (d := dOf "read_expression" sRe) rfl
  obtain ⟨fd22, D22⟩ := c.def_ 22 (d := dOf "are_unlike_names" sUn) rfl
  obtain ⟨fd23, D23⟩ := c.def_ 23 (d := dOf "whole_or_none" sWn) rfl
  obtain ⟨fd24, D24⟩ := c.def_ 24 (d := dOf "form_or_none" sFm) rfl
  obtain ⟨fd25, D25⟩ := c.def_ 25 (d := dOf "read_keep" sKp) rfl
  obtain ⟨fd26, D26⟩ := c.def_ 26 (d := dOf "read_set" sSt) rfl
  obtain ⟨fd27, D27⟩ := c.def_ 27 (d := dOf "read_select" sSl) rfl
  obtain ⟨fd28, D28⟩ := c.def_ 28 (d := dOf "read_rename" sRn) rfl
  obtain ⟨fd29, D29⟩ := c.def_ 29 (d := dOf "read_sort" sSo) rfl
  obtain ⟨fd30, D30⟩ := c.def_ 30 (d := dOf "read_first" sFi) rfl
  obtain ⟨fd31, D31⟩ := c.def_ 31 (d := dOf "read_sample" sSm) rfl
  obtain ⟨fd32, D32⟩ := c.def_ 32 (d := dOf "read_join" sJo) rfl
  obtain ⟨fd33, D33⟩ := c.def_ 33 (d := dOf "read_union" sUo) rfl
  obtain ⟨fd34, D34⟩ := c.def_ 34 (d := dOf "read_distinct" sDi) rfl
  obtain ⟨fd35, D35⟩ := c.def_ 35 (d := dOf "read_total" sTt) rfl
  obtain ⟨fd36, D36⟩ := c.def_ 36 (d := dOf "read_group" sGr) rfl
  obtain ⟨fd37, D37⟩ := c.def_ 37 (d := dOf "read_step" sSp) rfl
  obtain ⟨fd38, D38⟩ := c.def_ 38 (d := dOf "read_alternative" sAl) rfl
  obtain ⟨fd39, D39⟩ := c.def_ 39 (d := dOf "read_choose" sCh) rfl
  obtain ⟨fd40, D40⟩ := c.def_ 40 (d := dOf "read_source" sSo_) rfl
  obtain ⟨fd41, D41⟩ := c.def_ 41 (d := dOf "read_pipeline" sPl) rfl
  obtain ⟨fd42, D42⟩ := c.def_ 42 (d := dOf "_law_tape" sTape) rfl
  obtain ⟨fd43, D43⟩ := c.def_ 43 (d := dOf "_law_draw" sDraw) rfl
  obtain ⟨fd44, D44⟩ := c.def_ 44 (d := dOf "_law_lowest" sLst) rfl
  obtain ⟨fd45, D45⟩ := c.def_ 45 (d := dOf "_law_rational" sRat) rfl
  obtain ⟨fd46, D46⟩ := c.def_ 46 (d := dOf "_law_name" sLnm) rfl
  obtain ⟨fd47, D47⟩ := c.def_ 47 (d := dOf "_law_fresh" sFr) rfl
  obtain ⟨fd48, D48⟩ := c.def_ 48 (d := dOf "_law_columns" sCls) rfl
  obtain ⟨fd49, D49⟩ := c.def_ 49 (d := dOf "_law_leaf" sLf) rfl
  obtain ⟨fd50, D50⟩ := c.def_ 50 (d := dOf "_law_expression" sXp) rfl
  obtain ⟨fd51, D51⟩ := c.def_ 51 (d := dOf "_law_pick" sPk) rfl
  obtain ⟨fd52, D52⟩ := c.def_ 52 (d := dOf "_law_set_step" sSst) rfl
  obtain ⟨fd53, D53⟩ := c.def_ 53 (d := dOf "_law_sort_step" sSrt) rfl
  obtain ⟨fd54, D54⟩ := c.def_ 54 (d := dOf "_law_sample_step" sSmp) rfl
  obtain ⟨fd55, D55⟩ := c.def_ 55 (d := dOf "_law_keeping_step" sKsp) rfl
  obtain ⟨fd56, D56⟩ := c.def_ 56 (d := dOf "_law_meeting_step" sMt) rfl
  obtain ⟨fd57, D57⟩ := c.def_ 57 (d := dOf "_law_group_step" sGrs) rfl
  obtain ⟨fd58, D58⟩ := c.def_ 58 (d := dOf "_law_same_step" sSas) rfl
  obtain ⟨fd59, D59⟩ := c.def_ 59 (d := dOf "_law_choose_step" sChs) rfl
  obtain ⟨fd60, D60⟩ := c.def_ 60 (d := dOf "_law_steps" sStp_) rfl
  obtain ⟨fd61, D61⟩ := c.def_ 61 (d := dOf "_law_value_words" sVww) rfl
  obtain ⟨fd62, D62⟩ := c.def_ 62 (d := dOf "_law_form" sFrm) rfl
  obtain ⟨fd63, D63⟩ := c.def_ 63 (d := dOf "_law_lines" sLl) rfl
  obtain ⟨fd64, D64⟩ := c.def_ 64 (d := dOf "_law_text" sTx) rfl
  obtain ⟨fd65, D65⟩ := c.def_ 65 (d := dOf "law" sLaw) rfl
  have ef := hfa.symm.trans (glo_ok X G (c.fact 0 (f := .glo "law") rfl))
  cases ef
  have g : ∀ (i : Nat) (x : Str), fa[i]? = some (.glo x) → mg x = some (.ref (ga K x)) := fun i x z => glo_ok X G (c.fact i (f := .glo x) z)
  have z : ∀ (i : Nat) (x : Str), fa[i]? = some (.free x) → mg x = none := fun i x z => free_ok X G (c.fact i (f := .free x) z)
  have T : Bt mg := ⟨z 70 _ rfl, z 71 _ rfl, z 72 _ rfl, z 73 _ rfl, z 74 _ rfl, z 75 _ rfl, z 76 _ rfl, z 77 _ rfl, z 78 _ rfl, z 79 _ rfl, z 80 _ rfl, z 81 _ rfl, z 82 _ rfl, z 83 _ rfl, z 84 _ rfl, z 85 _ rfl, z 86 _ rfl, z 87 _ rfl⟩
  obtain ⟨uc0, mc0⟩ := str_ok X G (c.fact 90 (f := .str "LETTERS" letters) rfl)
  obtain ⟨uc1, mc1⟩ := str_ok X G (c.fact 91 (f := .str "NAME_SIGNS" signs) rfl)
  obtain ⟨uc2, mc2⟩ := int_ok X G (c.fact 92 (f := .int "LONGEST_NAME" 12) rfl)
  obtain ⟨uc3, mc3⟩ := int_ok X G (c.fact 93 (f := .int "LIMIT" lim) rfl)
  obtain ⟨uc4, mc4⟩ := int_ok X G (c.fact 94 (f := .int "DEEPEST" 8) rfl)
  obtain ⟨uc5, mc5⟩ := str_ok X G (c.fact 95 (f := .str "DIGITS" ten10) rfl)
  obtain ⟨uc6, mc6⟩ := int_ok X G (c.fact 96 (f := .int "MOST_DIGITS" 41) rfl)
  obtain ⟨uc7, mc7⟩ := str_ok X G (c.fact 97 (f := .str "SINGLE_SIGNS" sgs) rfl)
  obtain ⟨uc8, mc8⟩ := int_ok X G (c.fact 98 (f := .int "MOST_COLUMNS" 8) rfl)
  obtain ⟨uc9, mc9⟩ := int_ok X G (c.fact 99 (f := .int "MOST_STEPS" 10) rfl)
  obtain ⟨uc10, mc10⟩ := int_ok X G (c.fact 100 (f := .int "MOST_COUNT" 1000) rfl)
  obtain ⟨uc11, mc11⟩ := int_ok X G (c.fact 101 (f := .int "MOST_WHOLE" 1000) rfl)
  obtain ⟨uc12, mc12⟩ := int_ok X G (c.fact 102 (f := .int "MOST_SEED" 1000000000) rfl)
  obtain ⟨uc13, mc13⟩ := int_ok X G (c.fact 103 (f := .int "MOST_KEYS" 3) rfl)
  obtain ⟨uc14, mc14⟩ := int_ok X G (c.fact 104 (f := .int "MOST_TOTALS" 6) rfl)
  obtain ⟨uc15, mc15⟩ := int_ok X G (c.fact 105 (f := .int "LEAST_ALTERNATIVES" 2) rfl)
  obtain ⟨uc16, mc16⟩ := int_ok X G (c.fact 106 (f := .int "MOST_ALTERNATIVES" 4) rfl)
  obtain ⟨uc17, mc17⟩ := int_ok X G (c.fact 107 (f := .int "MOST_INNER_STEPS" 4) rfl)
  obtain ⟨uc18, mc18⟩ := str_ok X G (c.fact 108 (f := .str "OR_LINE" "  or") rfl)
  obtain ⟨uc19, mc19⟩ := str_ok X G (c.fact 109 (f := .str "INNER_BLANKS" (TS inL)) rfl)
  obtain ⟨uc20, mc20⟩ := str_ok X G (c.fact 110 (f := .str "TOTAL_BLANKS" ⟨#[32, 32]⟩) rfl)
  have a : ∀ (i : Nat) {b : Bool}, (exL K)[i]? = some b → b = true := fun i _ z => all_at e i z
  have b0 : Binds K fd0 ["number"] [] := D0.bindsN fun _ _ _ _ _ _ us hl => match us, hl with | [_], _ => rfl
  have b1 : Binds K fd1 ["value"] [] := D1.bindsN fun _ _ _ _ _ _ us hl => match us, hl with | [_], _ => rfl
  have b2 : Binds K fd2 ["expression"] [] := D2.bindsN fun _ _ _ _ _ _ us hl => match us, hl with | [_], _ => rfl
  have b3 : Binds K fd3 ["step"] [] := D3.bindsN fun _ _ _ _ _ _ us hl => match us, hl with | [_], _ => rfl
  have b4 : Binds K fd4 ["step"] [] := D4.bindsN fun _ _ _ _ _ _ us hl => match us, hl with | [_], _ => rfl
  have b5 : Binds K fd5 ["step"] [] := D5.bindsN fun _ _ _ _ _ _ us hl => match us, hl with | [_], _ => rfl
  have b6 : Binds K fd6 ["pipeline"] [] := D6.bindsN fun _ _ _ _ _ _ us hl => match us, hl with | [_], _ => rfl
  have b7 : Binds K fd7 ["self", "position"] [] := D7.bindsN fun _ _ _ _ _ _ us hl => match us, hl with | [_, _], _ => rfl
  have b8 : Binds K fd8 ["value"] [] := D8.bindsN fun _ _ _ _ _ _ us hl => match us, hl with | [_], _ => rfl
  have b9 : Binds K fd9 ["a", "b"] [] := D9.bindsN fun _ _ _ _ _ _ us hl => match us, hl with | [_, _], _ => rfl
  have b10 : Binds K fd10 ["value"] [] := D10.bindsN fun _ _ _ _ _ _ us hl => match us, hl with | [_], _ => rfl
  have b11 : Binds K fd11 ["value"] [] := D11.bindsN fun _ _ _ _ _ _ us hl => match us, hl with | [_], _ => rfl
  have b12 : Binds K fd12 ["number"] [] := D12.bindsN fun _ _ _ _ _ _ us hl => match us, hl with | [_], _ => rfl
  have b13 : Binds K fd13 ["text"] [] := D13.bindsN fun _ _ _ _ _ _ us hl => match us, hl with | [_], _ => rfl
  have b14 : Binds K fd14 ["text"] [] := D14.bindsN fun _ _ _ _ _ _ us hl => match us, hl with | [_], _ => rfl
  have b15 : Binds K fd15 ["text"] [] := D15.bindsN fun _ _ _ _ _ _ us hl => match us, hl with | [_], _ => rfl
  have b16 : Binds K fd16 ["token"] [] := D16.bindsN fun _ _ _ _ _ _ us hl => match us, hl with | [_], _ => rfl
  have b17 : Binds K fd17 ["text"] [] := D17.bindsN fun _ _ _ _ _ _ us hl => match us, hl with | [_], _ => rfl
  have b18 : Binds K fd18 ["pieces", "at", "wanted"] [] := D18.bindsN fun _ _ _ _ _ _ us hl => match us, hl with | [_, _, _], _ => rfl
  have b19 : Binds K fd19 ["pieces", "at", "depth"] [] := D19.bindsN fun _ _ _ _ _ _ us hl => match us, hl with | [_, _, _], _ => rfl
  have b20 : Binds K fd20 ["pieces", "at", "depth"] [] := D20.bindsN fun _ _ _ _ _ _ us hl => match us, hl with | [_, _, _], _ => rfl
  have b21 : Binds K fd21 ["text"] [] := D21.bindsN fun _ _ _ _ _ _ us hl => match us, hl with | [_], _ => rfl
  have b22 : Binds K fd22 ["words", "low", "high"] [] := D22.bindsN fun _ _ _ _ _ _ us hl => match us, hl with | [_, _, _], _ => rfl
  have b23 : Binds K fd23 ["word", "low", "high"] [] := D23.bindsN fun _ _ _ _ _ _ us hl => match us, hl with | [_, _, _], _ => rfl
  have b24 : Binds K fd24 ["words"] [] := D24.bindsN fun _ _ _ _ _ _ us hl => match us, hl with | [_], _ => rfl
  have b25 : Binds K fd25 ["words"] [] := D25.bindsN fun _ _ _ _ _ _ us hl => match us, hl with | [_], _ => rfl
  have b26 : Binds K fd26 ["words"] [] := D26.bindsN fun _ _ _ _ _ _ us hl => match us, hl with | [_], _ => rfl
  have b27 : Binds K fd27 ["words"] [] := D27.bindsN fun _ _ _ _ _ _ us hl => match us, hl with | [_], _ => rfl
  have b28 : Binds K fd28 ["words"] [] := D28.bindsN fun _ _ _ _ _ _ us hl => match us, hl with | [_], _ => rfl
  have b29 : Binds K fd29 ["words"] [] := D29.bindsN fun _ _ _ _ _ _ us hl => match us, hl with | [_], _ => rfl
  have b30 : Binds K fd30 ["words"] [] := D30.bindsN fun _ _ _ _ _ _ us hl => match us, hl with | [_], _ => rfl
  have b31 : Binds K fd31 ["words"] [] := D31.bindsN fun _ _ _ _ _ _ us hl => match us, hl with | [_], _ => rfl
  have b32 : Binds K fd32 ["words"] [] := D32.bindsN fun _ _ _ _ _ _ us hl => match us, hl with | [_], _ => rfl
  have b33 : Binds K fd33 ["words"] [] := D33.bindsN fun _ _ _ _ _ _ us hl => match us, hl with | [_], _ => rfl
  have b34 : Binds K fd34 ["words"] [] := D34.bindsN fun _ _ _ _ _ _ us hl => match us, hl with | [_], _ => rfl
  have b35 : Binds K fd35 ["line", "ahead"] [] := D35.bindsN fun _ _ _ _ _ _ us hl => match us, hl with | [_, _], _ => rfl
  have b36 : Binds K fd36 ["lines", "at", "ahead"] [] := D36.bindsN fun _ _ _ _ _ _ us hl => match us, hl with | [_, _, _], _ => rfl
  have b37 : Binds K fd37 ["lines", "at", "ahead"] [] := D37.bindsN fun _ _ _ _ _ _ us hl => match us, hl with | [_, _, _], _ => rfl
  have b38 : Binds K fd38 ["lines", "at"] [] := D38.bindsN fun _ _ _ _ _ _ us hl => match us, hl with | [_, _], _ => rfl
  have b39 : Binds K fd39 ["lines", "at", "numbers"] [] := D39.bindsN fun _ _ _ _ _ _ us hl => match us, hl with | [_, _, _], _ => rfl
  have b40 : Binds K fd40 ["line"] [] := D40.bindsN fun _ _ _ _ _ _ us hl => match us, hl with | [_], _ => rfl
  have b41 : Binds K fd41 ["text"] [] := D41.bindsN fun _ _ _ _ _ _ us hl => match us, hl with | [_], _ => rfl
  have b42 : Binds K fd42 ["_law_script"] [] := D42.bindsN fun _ _ _ _ _ _ us hl => match us, hl with | [_], _ => rfl
  have b43 : Binds K fd43 ["_law_tape_here", "_law_many"] [] := D43.bindsN fun _ _ _ _ _ _ us hl => match us, hl with | [_, _], _ => rfl
  have b44 : Binds K fd44 ["_law_n", "_law_d"] [] := D44.bindsN fun _ _ _ _ _ _ us hl => match us, hl with | [_, _], _ => rfl
  have b45 : Binds K fd45 ["_law_tape_here", "_law_wide"] [] := D45.bindsN fun _ _ _ _ _ _ us hl => match us, hl with | [_, _], _ => rfl
  have b46 : Binds K fd46 ["_law_tape_here"] [] := D46.bindsN fun _ _ _ _ _ _ us hl => match us, hl with | [_], _ => rfl
  have b47 : Binds K fd47 ["_law_tape_here", "_law_taken"] [] := D47.bindsN fun _ _ _ _ _ _ us hl => match us, hl with | [_, _], _ => rfl
  have b48 : Binds K fd48 ["_law_tape_here", "_law_lead", "_law_many", "_law_taken"] [] := D48.bindsN fun _ _ _ _ _ _ us hl => match us, hl with | [_, _, _, _], _ => rfl
  have b49 : Binds K fd49 ["_law_tape_here", "_law_columns_here", "_law_kind"] [] := D49.bindsN fun _ _ _ _ _ _ us hl => match us, hl with | [_, _, _], _ => rfl
  have b50 : Binds K fd50 ["_law_tape_here", "_law_columns_here", "_law_kind", "_law_depth"] [] := D50.bindsN fun _ _ _ _ _ _ us hl => match us, hl with | [_, _, _, _], _ => rfl
  have b51 : Binds K fd51 ["_law_tape_here", "_law_items", "_law_many"] [] := D51.bindsN fun _ _ _ _ _ _ us hl => match us, hl with | [_, _, _], _ => rfl
  have b52 : Binds K fd52 ["_law_tape_here", "_law_columns_here"] [] := D52.bindsN fun _ _ _ _ _ _ us hl => match us, hl with | [_, _], _ => rfl
  have b53 : Binds K fd53 ["_law_tape_here", "_law_columns_here"] [] := D53.bindsN fun _ _ _ _ _ _ us hl => match us, hl with | [_, _], _ => rfl
  have b54 : Binds K fd54 ["_law_tape_here"] [] := D54.bindsN fun _ _ _ _ _ _ us hl => match us, hl with | [_], _ => rfl
  have b55 : Binds K fd55 ["_law_tape_here", "_law_columns_here"] [] := D55.bindsN fun _ _ _ _ _ _ us hl => match us, hl with | [_, _], _ => rfl
  have b56 : Binds K fd56 ["_law_tape_here", "_law_columns_here", "_law_others", "_law_bound"] [] := D56.bindsN fun _ _ _ _ _ _ us hl => match us, hl with | [_, _, _, _], _ => rfl
  have b57 : Binds K fd57 ["_law_tape_here", "_law_columns_here"] [] := D57.bindsN fun _ _ _ _ _ _ us hl => match us, hl with | [_, _], _ => rfl
  have b58 : Binds K fd58 ["_law_tape_here", "_law_columns_here"] [] := D58.bindsN fun _ _ _ _ _ _ us hl => match us, hl with | [_, _], _ => rfl
  have b59 : Binds K fd59 ["_law_tape_here", "_law_columns_here", "_law_label", "_law_many"] [] := D59.bindsN fun _ _ _ _ _ _ us hl => match us, hl with | [_, _, _, _], _ => rfl
  have b60 : Binds K fd60 ["_law_tape_here", "_law_columns_here", "_law_others", "_law_bound", "_law_many"] [] := D60.bindsN fun _ _ _ _ _ _ us hl => match us, hl with | [_, _, _, _, _], _ => rfl
  have b61 : Binds K fd61 ["_law_thing"] [] := D61.bindsN fun _ _ _ _ _ _ us hl => match us, hl with | [_], _ => rfl
  have b62 : Binds K fd62 ["_law_expression_here"] [] := D62.bindsN fun _ _ _ _ _ _ us hl => match us, hl with | [_], _ => rfl
  have b63 : Binds K fd63 ["_law_step"] [] := D63.bindsN fun _ _ _ _ _ _ us hl => match us, hl with | [_], _ => rfl
  have b64 : Binds K fd64 ["_law_pipeline"] [] := D64.bindsN fun _ _ _ _ _ _ us hl => match us, hl with | [_], _ => rfl
  have bl := FunD.bindsA (ps := ["_law_script"]) D65 fun _ _ _ _ _ _ us hl => match us, hl with | [_], _ => rfl
  refine ⟨fd65, fun s v => bl s [v] rfl, fun base _ _ => ?_⟩
  have m_BadText : mg "BadText" = some (.ref (ga K "BadText")) := g 1 _ rfl
  have m_OPERANDS : mg "OPERANDS" = some (.ref (ga K "OPERANDS")) := g 2 _ rfl
  have m_READERS : mg "READERS" = some (.ref (ga K "READERS")) := g 3 _ rfl
  have m_ORDERS : mg "ORDERS" = some (.ref (ga K "ORDERS")) := g 4 _ rfl
  have m_FUNCTIONS : mg "FUNCTIONS" = some (.ref (ga K "FUNCTIONS")) := g 5 _ rfl
  have m_show_rational : mg "show_rational" = some (.ref (ga K "show_rational")) := g 6 _ rfl
  have m_show_value : mg "show_value" = some (.ref (ga K "show_value")) := g 7 _ rfl
  have m_show_expression : mg "show_expression" = some (.ref (ga K "show_expression")) := g 8 _ rfl
  have m_show_group : mg "show_group" = some (.ref (ga K "show_group")) := g 9 _ rfl
  have m_show_choose : mg "show_choose" = some (.ref (ga K "show_choose")) := g 10 _ rfl
  have m_show_step : mg "show_step" = some (.ref (ga K "show_step")) := g 11 _ rfl
  have m_show_pipeline : mg "show_pipeline" = some (.ref (ga K "show_pipeline")) := g 12 _ rfl
  have m_is_whole : mg "is_whole" = some (.ref (ga K "is_whole")) := g 13 _ rfl
  have m_common_divisor : mg "common_divisor" = some (.ref (ga K "common_divisor")) := g 14 _ rfl
  have m_is_rational : mg "is_rational" = some (.ref (ga K "is_rational")) := g 15 _ rfl
  have m_is_name : mg "is_name" = some (.ref (ga K "is_name")) := g 16 _ rfl
  have m_within_limit : mg "within_limit" = some (.ref (ga K "within_limit")) := g 17 _ rfl
  have m_read_whole : mg "read_whole" = some (.ref (ga K "read_whole")) := g 18 _ rfl
  have m_read_rational : mg "read_rational" = some (.ref (ga K "read_rational")) := g 19 _ rfl
  have m_read_value : mg "read_value" = some (.ref (ga K "read_value")) := g 20 _ rfl
  have m_read_leaf : mg "read_leaf" = some (.ref (ga K "read_leaf")) := g 21 _ rfl
  have m_pieces_of : mg "pieces_of" = some (.ref (ga K "pieces_of")) := g 22 _ rfl
  have m_check_piece : mg "check_piece" = some (.ref (ga K "check_piece")) := g 23 _ rfl
  have m_read_form : mg "read_form" = some (.ref (ga K "read_form")) := g 24 _ rfl
  have m_read_operation : mg "read_operation" = some (.ref (ga K "read_operation")) := g 25 _ rfl
  have m_read_expression : mg "read_expression" = some (.ref (ga K "read_expression")) := g 26 _ rfl
  have m_are_unlike_names : mg "are_unlike_names" = some (.ref (ga K "are_unlike_names")) := g 27 _ rfl
  have m_whole_or_none : mg "whole_or_none" = some (.ref (ga K "whole_or_none")) := g 28 _ rfl
  have m_form_or_none : mg "form_or_none" = some (.ref (ga K "form_or_none")) := g 29 _ rfl
  have m_read_keep : mg "read_keep" = some (.ref (ga K "read_keep")) := g 30 _ rfl
  have m_read_set : mg "read_set" = some (.ref (ga K "read_set")) := g 31 _ rfl
  have m_read_select : mg "read_select" = some (.ref (ga K "read_select")) := g 32 _ rfl
  have m_read_rename : mg "read_rename" = some (.ref (ga K "read_rename")) := g 33 _ rfl
  have m_read_sort : mg "read_sort" = some (.ref (ga K "read_sort")) := g 34 _ rfl
  have m_read_first : mg "read_first" = some (.ref (ga K "read_first")) := g 35 _ rfl
  have m_read_sample : mg "read_sample" = some (.ref (ga K "read_sample")) := g 36 _ rfl
  have m_read_join : mg "read_join" = some (.ref (ga K "read_join")) := g 37 _ rfl
  have m_read_union : mg "read_union" = some (.ref (ga K "read_union")) := g 38 _ rfl
  have m_read_distinct : mg "read_distinct" = some (.ref (ga K "read_distinct")) := g 39 _ rfl
  have m_read_total : mg "read_total" = some (.ref (ga K "read_total")) := g 40 _ rfl
  have m_read_group : mg "read_group" = some (.ref (ga K "read_group")) := g 41 _ rfl
  have m_read_step : mg "read_step" = some (.ref (ga K "read_step")) := g 42 _ rfl
  have m_read_alternative : mg "read_alternative" = some (.ref (ga K "read_alternative")) := g 43 _ rfl
  have m_read_choose : mg "read_choose" = some (.ref (ga K "read_choose")) := g 44 _ rfl
  have m_read_source : mg "read_source" = some (.ref (ga K "read_source")) := g 45 _ rfl
  have m_read_pipeline : mg "read_pipeline" = some (.ref (ga K "read_pipeline")) := g 46 _ rfl
  have m__law_tape : mg "_law_tape" = some (.ref (ga K "_law_tape")) := g 47 _ rfl
  have m__law_draw : mg "_law_draw" = some (.ref (ga K "_law_draw")) := g 48 _ rfl
  have m__law_lowest : mg "_law_lowest" = some (.ref (ga K "_law_lowest")) := g 49 _ rfl
  have m__law_rational : mg "_law_rational" = some (.ref (ga K "_law_rational")) := g 50 _ rfl
  have m__law_name : mg "_law_name" = some (.ref (ga K "_law_name")) := g 51 _ rfl
  have m__law_fresh : mg "_law_fresh" = some (.ref (ga K "_law_fresh")) := g 52 _ rfl
  have m__law_columns : mg "_law_columns" = some (.ref (ga K "_law_columns")) := g 53 _ rfl
  have m__law_leaf : mg "_law_leaf" = some (.ref (ga K "_law_leaf")) := g 54 _ rfl
  have m__law_expression : mg "_law_expression" = some (.ref (ga K "_law_expression")) := g 55 _ rfl
  have m__law_pick : mg "_law_pick" = some (.ref (ga K "_law_pick")) := g 56 _ rfl
  have m__law_set_step : mg "_law_set_step" = some (.ref (ga K "_law_set_step")) := g 57 _ rfl
  have m__law_sort_step : mg "_law_sort_step" = some (.ref (ga K "_law_sort_step")) := g 58 _ rfl
  have m__law_sample_step : mg "_law_sample_step" = some (.ref (ga K "_law_sample_step")) := g 59 _ rfl
  have m__law_keeping_step : mg "_law_keeping_step" = some (.ref (ga K "_law_keeping_step")) := g 60 _ rfl
  have m__law_meeting_step : mg "_law_meeting_step" = some (.ref (ga K "_law_meeting_step")) := g 61 _ rfl
  have m__law_group_step : mg "_law_group_step" = some (.ref (ga K "_law_group_step")) := g 62 _ rfl
  have m__law_same_step : mg "_law_same_step" = some (.ref (ga K "_law_same_step")) := g 63 _ rfl
  have m__law_choose_step : mg "_law_choose_step" = some (.ref (ga K "_law_choose_step")) := g 64 _ rfl
  have m__law_steps : mg "_law_steps" = some (.ref (ga K "_law_steps")) := g 65 _ rfl
  have m__law_value_words : mg "_law_value_words" = some (.ref (ga K "_law_value_words")) := g 66 _ rfl
  have m__law_form : mg "_law_form" = some (.ref (ga K "_law_form")) := g 67 _ rfl
  have m__law_lines : mg "_law_lines" = some (.ref (ga K "_law_lines")) := g 68 _ rfl
  have m__law_text : mg "_law_text" = some (.ref (ga K "_law_text")) := g 69 _ rfl
  have mf_set : mg "set" = none := z 88 _ rfl
  have mf_sorted : mg "sorted" = none := z 89 _ rfl
  have x1 : ErF K mg "BadText" "position" (ga K "BadText") _ := ⟨oexB_ok (a 0 rfl), eqO_ok (a 1 rfl), of_decide_eq_true (a 2 rfl), eqO_ok (a 3 rfl), m_BadText⟩
  have x2 : ExC K (ga K "BadText") := ⟨of_decide_eq_true (a 6 rfl)⟩
  have G7 : FnOk P w K mg base CX0 (1) _ fd7 ["self", "position"] (spIni (ga K "BadText") "position") := ok_ini (fun_of D7) x1
  have G8 : FnOk P w K mg base CX0 (1) _ fd8 ["value"] (spWhole) := ok_whole (fun_of D8) T
  have G9 : FnOk P w K mg base CX0 (1) _ fd9 ["a", "b"] (spCd) := ok_cd (fun_of D9)
  have G10 : FnOk P w K mg base CX0 (2) _ fd10 ["value"] (spIsR) := ok_isr (fun_of D10) T G8 m_is_whole D8.kp b8 G9 m_common_divisor D9.kp b9
  have G11 : FnOk P w K mg base CX0 (1) _ fd11 ["value"] (spName) := ok_name (fun_of D11) T mc0 mc1 mc2
  have G12 : FnOk P w K mg base CX0 (1) _ fd12 ["number"] (spWithin) := ok_within (fun_of D12) T mc3
  have G13 : FnOk P w K mg base CX0 (1) _ fd13 ["text"] (spDg) := ok_Rw (fun_of D13) T mc5 mc6
  have G14 : FnOk P w K mg base CX0 (3) _ fd14 ["text"] (spNm) := ok_Rr (fun_of D14) T G13 m_read_whole D13.kp b13 G10 m_is_rational D10.kp b10 G12 m_within_limit D12.kp b12
  have G15 : FnOk P w K mg base CX0 (4) _ fd15 ["text"] (spRv) := ok_Rv (fun_of D15) T G11 m_is_name D11.kp b11 G14 m_read_rational D14.kp b14
  have G16 : FnOk P w K mg base CX0 (5) _ fd16 ["token"] (spRl) := ok_Rl (fun_of D16) T G11 m_is_name D11.kp b11 G15 m_read_value D15.kp b15
  have G17 : FnOk P w K mg base CX0 (1) _ fd17 ["text"] (spPo) := ok_Po (fun_of D17) T mc7
  have G18 : FnOk P w K mg base (L2.CX P w) (3) _ fd18 ["pieces", "at", "wanted"] (spCp (ga K "BadText")) := ok_Cp (fun_of D18) T x1 G7 b7
  have tO := tb 0 _ rfl
  have tR : ∃ es n, KDict K w (ga K "READERS") es n := tb 1 _ rfl
  have ops_key : ∀ {x : Str}, opsV x = none → x ∈ (["plus", "minus", "times", "over", "less", "same", "both", "either", "not", "missing", "if"] : List Str) → False := fun {x} hx hm => by
    have key : ∀ x ∈ (["plus", "minus", "times", "over", "less", "same", "both", "either", "not", "missing", "if"] : List Str), (opsV x).isSome = true := by decide +kernel
    have := key x hm
    rw [hx] at this
    cases this
  have OA : OpsA K w mg (ga K "OPERANDS") := ⟨m_OPERANDS, tO, opsV_all (dt_ok tO (a 9 rfl)) (dt_ok tO (a 10 rfl)) (dt_ok tO (a 11 rfl)) (dt_ok tO (a 12 rfl)) (dt_ok tO (a 13 rfl)) (dt_ok tO (a 14 rfl)) (dt_ok tO (a 15 rfl)) (dt_ok tO (a 16 rfl)) (dt_ok tO (a 17 rfl)) (dt_ok tO (a 18 rfl)) (dt_ok tO (a 19 rfl)), fun x hx => keys_no (ks := ["plus", "minus", "times", "over", "less", "same", "both", "either", "not", "missing", "if"]) (a 8 rfl) fun hm => ops_key hx hm⟩
  have G19 : FnOk P w K mg base (L2.CX P w) (5 + 2 * 8 + 1) _ fd19 ["pieces", "at", "depth"] (spRf (ga K "BadText") 8) := ok_RfN (fun_of D19) (fun_of D20) T OA mc4 x1 G7 b7 G18 m_check_piece D18.kp b18 G16 m_read_leaf D16.kp b16 m_read_form D19.kp b19 m_read_operation D20.kp b20 8
  have G21 : FnOk P w K mg base (L2.CX P w) (23) _ fd21 ["text"] (spRe (ga K "BadText")) := ok_Re (fun_of D21) T x1 G7 b7 G17 m_pieces_of D17.kp b17 G19 m_read_form D19.kp b19 G18 m_check_piece D18.kp b18
  have G22 : FnOk P w K mg base CX0 (2) _ fd22 ["words", "low", "high"] (spUn) := ok_Un (fun_of D22) T mf_set G11 m_is_name D11.kp b11
  have G23 : FnOk P w K mg base CX0 (2) _ fd23 ["word", "low", "high"] (spWn) := ok_Wn (fun_of D23) T G13 m_read_whole D13.kp b13
  have G24 : FnOk P w K mg base CX0 (24) _ fd24 ["words"] (spFm) := ok_Fm (fun_of D24) T x1 ⟨(x2).cc⟩ G21 m_read_expression D21.kp b21
  have G25 : FnOk P w K mg base CX0 (25) _ fd25 ["words"] (spRd keepM) := ok_Kp (fun_of D25) T G24 m_form_or_none D24.kp b24
  have G26 : FnOk P w K mg base CX0 (25) _ fd26 ["words"] (spRd setM) := ok_St (fun_of D26) T G24 m_form_or_none D24.kp b24 G11 m_is_name D11.kp b11
  have G27 : FnOk P w K mg base CX0 (25) _ fd27 ["words"] (spRd selectM) := ok_Sl (fun_of D27) T mc8 G22 m_are_unlike_names D22.kp b22
  have G28 : FnOk P w K mg base CX0 (25) _ fd28 ["words"] (spRd renameM) := ok_Rn (fun_of D28) T G11 m_is_name D11.kp b11
  have G29 : FnOk P w K mg base CX0 (25) _ fd29 ["words"] (spRd sortM) := ok_So (fun_of D29) T m_ORDERS (fun H => tupB_ok (a 20 rfl) H) G11 m_is_name D11.kp b11
  have G30 : FnOk P w K mg base CX0 (25) _ fd30 ["words"] (spRd firstM) := ok_Fi (fun_of D30) T mc10 G23 m_whole_or_none D23.kp b23
  have G31 : FnOk P w K mg base CX0 (25) _ fd31 ["words"] (spRd sampleM) := ok_Sm (fun_of D31) T mc11 mc12 G23 m_whole_or_none D23.kp b23
  have G32 : FnOk P w K mg base CX0 (25) _ fd32 ["words"] (spRd joinM) := ok_Jo (fun_of D32) T mc13 G11 m_is_name D11.kp b11 G22 m_are_unlike_names D22.kp b22
  have G33 : FnOk P w K mg base CX0 (25) _ fd33 ["words"] (spRd unionM) := ok_Uo (fun_of D33) T G11 m_is_name D11.kp b11
  have G34 : FnOk P w K mg base CX0 (25) _ fd34 ["words"] (spRd distinctM) := ok_Di (fun_of D34) T
  have rd_key : ∀ {x : Str}, readV x = none → x ∈ (["keep", "set", "select", "rename", "sort", "first", "sample", "join", "union", "distinct"] : List Str) → False := fun {x} hx hm => by
    have key : ∀ x ∈ (["keep", "set", "select", "rename", "sort", "first", "sample", "join", "union", "distinct"] : List Str), (readV x).isSome = true := by decide +kernel
    have := key x hm
    rw [hx] at this
    cases this
  have RA : RdA P w K mg base (ga K "READERS") := by
    refine ⟨m_READERS, tR, fun x M h => ?_, fun x hx => keys_no (ks := ["keep", "set", "select", "rename", "sort", "first", "sample", "join", "union", "distinct"]) (a 22 rfl) fun hm => rd_key hx hm⟩
    unfold readV at h
    split at h
    · rename_i e
      subst e
      obtain rfl := Option.some.inj h
      exact ⟨_, kdct_of tR (eqO_ok (a 23 rfl)), eqO_ok (a 23 rfl), ⟨⟨_, _, G25, D25.kp, b25⟩⟩⟩
    split at h
    · rename_i e
      subst e
      obtain rfl := Option.some.inj h
      exact ⟨_, kdct_of tR (eqO_ok (a 24 rfl)), eqO_ok (a 24 rfl), ⟨⟨_, _, G26, D26.kp, b26⟩⟩⟩
    split at h
    · rename_i e
      subst e
      obtain rfl := Option.some.inj h
      exact ⟨_, kdct_of tR (eqO_ok (a 25 rfl)), eqO_ok (a 25 rfl), ⟨⟨_, _, G27, D27.kp, b27⟩⟩⟩
    split at h
    · rename_i e
      subst e
      obtain rfl := Option.some.inj h
      exact ⟨_, kdct_of tR (eqO_ok (a 26 rfl)), eqO_ok (a 26 rfl), ⟨⟨_, _, G28, D28.kp, b28⟩⟩⟩
    split at h
    · rename_i e
      subst e
      obtain rfl := Option.some.inj h
      exact ⟨_, kdct_of tR (eqO_ok (a 27 rfl)), eqO_ok (a 27 rfl), ⟨⟨_, _, G29, D29.kp, b29⟩⟩⟩
    split at h
    · rename_i e
      subst e
      obtain rfl := Option.some.inj h
      exact ⟨_, kdct_of tR (eqO_ok (a 28 rfl)), eqO_ok (a 28 rfl), ⟨⟨_, _, G30, D30.kp, b30⟩⟩⟩
    split at h
    · rename_i e
      subst e
      obtain rfl := Option.some.inj h
      exact ⟨_, kdct_of tR (eqO_ok (a 29 rfl)), eqO_ok (a 29 rfl), ⟨⟨_, _, G31, D31.kp, b31⟩⟩⟩
    split at h
    · rename_i e
      subst e
      obtain rfl := Option.some.inj h
      exact ⟨_, kdct_of tR (eqO_ok (a 30 rfl)), eqO_ok (a 30 rfl), ⟨⟨_, _, G32, D32.kp, b32⟩⟩⟩
    split at h
    · rename_i e
      subst e
      obtain rfl := Option.some.inj h
      exact ⟨_, kdct_of tR (eqO_ok (a 31 rfl)), eqO_ok (a 31 rfl), ⟨⟨_, _, G33, D33.kp, b33⟩⟩⟩
    split at h
    · rename_i e
      subst e
      obtain rfl := Option.some.inj h
      exact ⟨_, kdct_of tR (eqO_ok (a 32 rfl)), eqO_ok (a 32 rfl), ⟨⟨_, _, G34, D34.kp, b34⟩⟩⟩
    cases h
  have G35 : FnOk P w K mg base CX0 (3) _ fd35 ["line", "ahead"] (spTt) := ok_Tt (fun_of D35) T m_FUNCTIONS (fun H => tupB_ok (a 21 rfl) H) G11 m_is_name D11.kp b11
  have G36 : FnOk P w K mg base (L2.CX P w) (4) _ fd36 ["lines", "at", "ahead"] (spGr (ga K "BadText")) := ok_Gr (fun_of D36) T mc13 mc14 mc8 mc20 x1 G7 b7 G22 m_are_unlike_names D22.kp b22 G35 m_read_total D35.kp b35
  have G37 : FnOk P w K mg base (L2.CX P w) (26) _ fd37 ["lines", "at", "ahead"] (spSp (ga K "BadText")) := ok_Sp (fun_of D37) T RA x1 G7 b7 G36 m_read_group D36.kp b36
  have G38 : FnOk P w K mg base (L2.CX P w) (27) _ fd38 ["lines", "at"] (spAl (ga K "BadText")) := ok_Al (fun_of D38) T mc17 mc19 G37 m_read_step D37.kp b37
  have G39 : FnOk P w K mg base (L2.CX P w) (28) _ fd39 ["lines", "at", "numbers"] (spCh (ga K "BadText")) := ok_Ch (fun_of D39) T mc15 mc16 mc18 x1 G7 b7 G11 m_is_name D11.kp b11 G38 m_read_alternative D38.kp b38
  have G40 : FnOk P w K mg base (L2.CX P w) (3) _ fd40 ["line"] (spSo (ga K "BadText")) := ok_So_ (fun_of D40) T x1 G7 b7 G11 m_is_name D11.kp b11
  have G41 : FnOk P w K mg base (L2.CX P w) (30) _ fd41 ["text"] (spPl (ga K "BadText")) := ok_Pl (fun_of D41) T mc9 x1 G7 b7 G40 m_read_source D40.kp b40 G37 m_read_step D37.kp b37 G39 m_read_choose D39.kp b39
  have G42 : FnOk P w K mg base CX0 (1) _ fd42 ["_law_script"] (spTape K) := ok_tape (fun_of D42) T
  have G43 : FnOk P w K mg base CX0 (1) _ fd43 ["_law_tape_here", "_law_many"] (spDrawL) := ok_draw (fun_of D43) T
  have G41q : FnOk P w K mg base CX0 (30) _ fd41 ["text"] (spRp) := rp_quiet G41
  have G0 : FnOk P w K mg base CX0 (1) _ fd0 ["number"] (spShr) := ok_Shr (fun_of D0) T
  have G1 : FnOk P w K mg base CX0 (2) _ fd1 ["value"] (spShv) := ok_Shv (fun_of D1) T G0 m_show_rational D0.kp b0
  have G2 : FnOk P w K mg base CX0 (2 + 8) _ fd2 ["expression"] (spSh 8) := ok_SheN (fun_of D2) T m_show_expression D2.kp b2 G1 m_show_value D1.kp b1 8
  have G3 : FnOk P w K mg base CX0 (1) _ fd3 ["step"] (spSg) := ok_Sg (fun_of D3) T
  have G5 : FnOk P w K mg base CX0 (10 + 2 * 2) _ fd5 ["step"] (spSs 2) := ok_SsN (fun_of D5) (fun_of D4) T G3 m_show_group D3.kp b3 G2 m_show_expression D2.kp b2 m_show_step D5.kp b5 m_show_choose D4.kp b4 2
  have G6 : FnOk P w K mg base CX0 (15) _ fd6 ["pipeline"] (spShp) := ok_Spl (fun_of D6) T G5 m_show_step D5.kp b5
  have G44 : FnOk P w K mg base CX0 (1) _ fd44 ["_law_n", "_law_d"] (spLowest) := ok_lst (fun_of D44) T
  have G45 : FnOk P w K mg base CX0 (2) _ fd45 ["_law_tape_here", "_law_wide"] (spRatL) := ok_rat (fun_of D45) T G43 m__law_draw D43.kp b43 G44 m__law_lowest D44.kp b44
  have G46 : FnOk P w K mg base CX0 (2) _ fd46 ["_law_tape_here"] (spLNm) := ok_lnm (fun_of D46) T G43 m__law_draw D43.kp b43
  have G47 : FnOk P w K mg base CX0 (3) _ fd47 ["_law_tape_here", "_law_taken"] (spFr) := ok_fr (fun_of D47) G46 m__law_name D46.kp b46
  have G48 : FnOk P w K mg base CX0 (4) _ fd48 ["_law_tape_here", "_law_lead", "_law_many", "_law_taken"] (spCls) := ok_cls (fun_of D48) T G43 m__law_draw D43.kp b43 G47 m__law_fresh D47.kp b47
  have G49 : FnOk P w K mg base CX0 (3) _ fd49 ["_law_tape_here", "_law_columns_here", "_law_kind"] (spLf) := ok_lf (fun_of D49) T G43 m__law_draw D43.kp b43 G45 m__law_rational D45.kp b45
  have G50 : FnOk P w K mg base CX0 (3 + 3) _ fd50 ["_law_tape_here", "_law_columns_here", "_law_kind", "_law_depth"] (spXp 3) := ok_xp (fun_of D50) G43 m__law_draw D43.kp b43 G49 m__law_leaf D49.kp b49 m__law_expression D50.kp b50 3
  have G51 : FnOk P w K mg base CX0 (2) _ fd51 ["_law_tape_here", "_law_items", "_law_many"] (spPk) := ok_Pk (fun_of D51) T G43 m__law_draw D43.kp b43
  have G54 : FnOk P w K mg base CX0 (2) _ fd54 ["_law_tape_here"] (spSmp) := ok_Smp (fun_of D54) T G43 m__law_draw D43.kp b43
  have G53 : FnOk P w K mg base CX0 (2) _ fd53 ["_law_tape_here", "_law_columns_here"] (spSrt) := ok_Srt (fun_of D53) T G43 m__law_draw D43.kp b43
  have G52 : FnOk P w K mg base CX0 (7) _ fd52 ["_law_tape_here", "_law_columns_here"] (spKs) := ok_Sst (fun_of D52) T G43 m__law_draw D43.kp b43 G47 m__law_fresh D47.kp b47 G50 m__law_expression D50.kp b50
  have G55 : FnOk P w K mg base CX0 (8) _ fd55 ["_law_tape_here", "_law_columns_here"] (spKs) := ok_Ksp (fun_of D55) T G43 m__law_draw D43.kp b43 G51 m__law_pick D51.kp b51 G47 m__law_fresh D47.kp b47 G50 m__law_expression D50.kp b50 G54 m__law_sample_step D54.kp b54 G53 m__law_sort_step D53.kp b53 G52 m__law_set_step D52.kp b52
  have G56 : FnOk P w K mg base CX0 (4) _ fd56 ["_law_tape_here", "_law_columns_here", "_law_others", "_law_bound"] (spMt) := ok_Mt (fun_of D56) T mf_sorted G43 m__law_draw D43.kp b43
  have G57 : FnOk P w K mg base CX0 (8) _ fd57 ["_law_tape_here", "_law_columns_here"] (spKs) := ok_Grs (fun_of D57) T G43 m__law_draw D43.kp b43 G51 m__law_pick D51.kp b51 G47 m__law_fresh D47.kp b47
  have G58 : FnOk P w K mg base CX0 (7) _ fd58 ["_law_tape_here", "_law_columns_here"] (spSas) := ok_Sas (fun_of D58) T G43 m__law_draw D43.kp b43 G50 m__law_expression D50.kp b50 G54 m__law_sample_step D54.kp b54 G53 m__law_sort_step D53.kp b53
  have G59 : FnOk P w K mg base CX0 (8) _ fd59 ["_law_tape_here", "_law_columns_here", "_law_label", "_law_many"] (spChs) := ok_Chs (fun_of D59) T G43 m__law_draw D43.kp b43 G58 m__law_same_step D58.kp b58
  have G60 : FnOk P w K mg base CX0 (9) _ fd60 ["_law_tape_here", "_law_columns_here", "_law_others", "_law_bound", "_law_many"] (spStp) := ok_Stp_ (fun_of D60) T G43 m__law_draw D43.kp b43 G56 m__law_meeting_step D56.kp b56 G57 m__law_group_step D57.kp b57 G58 m__law_same_step D58.kp b58 G55 m__law_keeping_step D55.kp b55
  have G61 : FnOk P w K mg base CX0 (1) _ fd61 ["_law_thing"] (spShv) := ok_Vww (fun_of D61) T
  have G62 : FnOk P w K mg base CX0 (1 + 8) _ fd62 ["_law_expression_here"] (spSh 8) := ok_FrmN (fun_of D62) T m__law_form D62.kp b62 G61 m__law_value_words D61.kp b61 8
  have G63 : FnOk P w K mg base CX0 (9 + 2) _ fd63 ["_law_step"] (spSs 2) := ok_LlN (fun_of D63) T G62 m__law_form D62.kp b62 m__law_lines D63.kp b63 2
  have G64 : FnOk P w K mg base CX0 (12) _ fd64 ["_law_pipeline"] (spShp) := ok_Tx (fun_of D64) T G63 m__law_lines D63.kp b63
  exact ok_Law (fun_of D65) T G42 m__law_tape D42.kp b42 G48 m__law_columns D48.kp b48 G47 m__law_fresh D47.kp b47 G60 m__law_steps D60.kp b60 G43 m__law_draw D43.kp b43 G59 m__law_choose_step D59.kp b59 G57 m__law_group_step D57.kp b57 G6 m_show_pipeline D6.kp b6 G64 m__law_text D64.kp b64 G41q m_read_pipeline D41.kp b41
end K78
open PySem PySem.W PySem.Calls PyProof.Rows
theorem PySem.Challenge.cw_liveclaims_k78_pipelines_written_and_rea_holds : PySem.Challenge.rw_liveclaims_k78_pipelines_written_and_rea.Holds := by
  w_on; o_law
  refine HandSHeadRun.head_any (r := OpenLaw.row PySem.Challenge.rw_liveclaims_k78_pipelines_written_and_rea) (q := view (OpenLaw.row PySem.Challenge.rw_liveclaims_k78_pipelines_written_and_rea).prog [97]) (H := K78.hk) (ob := K78.ob) (M := 20000) (loose := K78.loose) (d := HandSHeadRun.topDef (OpenLaw.row PySem.Challenge.rw_liveclaims_k78_pipelines_written_and_rea).prog 97) (kwd := []) K78.ob_eq
    (by kernel_rfl) (fun s => by kernel_rfl) K78.run (by kernel_rfl) (by kernel_rfl) (by kernel_rfl) (by rfl) (by first | assumption | decide +kernel) (by decide +kernel) ⟨rfl, rfl, rfl, rfl, rfl, by decide +kernel⟩ ?hw ?hc
  case hw => w_witness2
  case hc =>
    refine Lc.walk_GE (l := PySem.Challenge.rw_liveclaims_k78_pipelines_written_and_rea) (n := 63) (k := 31) (x := "_law_script") rfl (by decide) (by kernel_rfl) ⟨rfl, by decide, by decide⟩ ?F
    intro w mg fa h Y G hmg0
    obtain ⟨K, KX, c, e, tb⟩ := Y
    have hmg : mg ("law" : PySem.Str) = some (.ref fa) := by
      have e : (HandSHeadRun.topDef (OpenLaw.row PySem.Challenge.rw_liveclaims_k78_pipelines_written_and_rea).prog 97).name = ("law" : PySem.Str) := by kernel_rfl
      rw [← e]
      exact hmg0
    obtain ⟨fd, hb, hF⟩ := K78.facts (P := (PySem.Challenge.rw_liveclaims_k78_pipelines_written_and_rea).prog) (w := w) KX G hmg c e tb
    exact ⟨K, fd, K78.spLaw K, KX, hb, fun H a ns hl hS => ⟨a, ns, rfl, hS, fun _ => rfl⟩, hF⟩
