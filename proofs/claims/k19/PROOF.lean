import PyProof.Rows.All
import Wide.All
import OpenK.AllK
import Wide.FinOn
import HandS.ForMost
import HandS.ForExc
import HandS.Wide
import HandS.Flow
import HandS.IsInst
import HandS.ExcInit
import HandS.ExcField
import HandS.ExcIs
import HandS.TryMany
import HandS.CallLocal
import HandS.RaiseMore
import HandS.CallSlots
import KE.KExcIs
import PyProof.ReprRoads
import PyProof.ReprText
import HandS.Evl
import HandS.Walk
import HandS.Style
import PyProof.StrBlock2
import PyProof.StrLawsRepr
import PyProof.ReprLen
import KE.GoesEnum
import HandS.Iter
import HandS.TupMul
import HandS.ListItems
import HandS.OwnIter
import HandS.More
import PyProof.InstSpecial
import HandS.Defaults
import HandS.DictComp
import HandS.Zip
import KE.KIntText
import PyProof.StrLawsTight
import PyProof.StrLawsChain
import HandS.StrMore
import HandS.Replace
import HandS.Head0
import HandS.Head1
import HandS.Head2
import HandS.HeadHook1
import HandS.HeadHook2
import KE.KStateDown
import HandS.HeadHook3
import HandS.Lambda
import OpenK.KMore
import HandS.ExcOwn
import KE.KExcInit
import PyProof.ExcBaseAll.IndexError
import PyProof.ExcBaseAll.OverflowError
import HandS.HeadNt
import HandS.MakeKwOnly
import HandS.Dict
import KE.KDictPairs
import HandS.Sort
import KE.SortCalls
import KE.SortKeyed
import PyProof.Rows.RowHeap
import HandS.TupSets
import KE.KDictKeyed
import KE.KeyNested
import HandS.SetBool
import HandS.DictTup
import HandS.Set
import HandS.Comp
import HandS.Deep
import HandS.Strs
import KE.KDictWalk
import HandS.TupAny
import HandS.TryOnly
import HandS.Conv
import HandS.Steps
import KE.GoesRaise
import PySem.Challenge.RW_liveclaims_k19_joined_and_united_rows
set_option Elab.async false
set_option linter.all false
set_option maxRecDepth 100000
set_option maxHeartbeats 4000000
namespace Lc
open PySem PySem.Spec PyProof.Rows L2
/-! ## A try with clauses of both forms, «except X:» and «except X as n:» -/
structure Cl where
  c : Value
  slot : Option Nat
  ts : Addr → Value → Option Addr → TS
def putS : Option Nat → Option V → L2.St → L2.St
  | none, _, σ => σ
  | some i, v, σ => σ.set i v
def endS (q : Option Nat) (D : Ends) : Ends := ⟨fun σ H => D.nx (putS q none σ) H, D.rt, fun σ H => D.bk (putS q none σ) H, fun σ H => D.ct (putS q none σ) H⟩
def wCl (K : PySem.W.Frag) (Wout : WX) (D : Ends) : List Cl → WX
  | [] => Wout
  | q :: r => fun cls d σ H => ∃ b, PySem.W.exmOne K cls q.c = some b ∧ (b = true → ∀ a, H a = none → q.ts a cls d (endS q.slot D) (putS q.slot (some (.ref a)) σ) H) ∧
      (b = false → wCl K Wout D r cls d σ H)
abbrev SuiteOk (X : Cx) (st : List Stmt) (ts : Addr → Value → Option Addr → TS) : Prop :=
  ∀ (a : Addr) (ob : Obj) (cls : Value) (d : Option Addr) (pn : List (Addr × Obj)), Zc cls d ob → (∃ vs, ob.data = .fields vs) → PSs (X.suite a ((a, ob) :: pn)) st (ts a cls d)
inductive ClsOk (X : Cx) : List ExceptHandler → List Cl → Prop
  | nil : ClsOk X [] []
  | bare {x : Str} {q : Cl} {st : Stmt} {sts : List Stmt} {p1 p2 : Pos} {hds : List ExceptHandler} {l : List Cl} (hc : Names X x q.c) (hq : q.slot = none) (su : SuiteOk X (st :: sts) q.ts) (r : ClsOk X hds l) :
      ClsOk X (.ExceptHandler (some (.Name x p1)) none (st :: sts) p2 :: hds) (q :: l)
  | named {x n : Str} {q : Cl} {i : Nat} {st : Stmt} {sts : List Stmt} {p1 p2 : Pos} {hds : List ExceptHandler} {l : List Cl} (hc : Names X x q.c) (hq : q.slot = some i) (hN : X.N.Nodup) (hi : X.N[i]? = some n) (hn : X.env.kindOf n = some .local)
      (su : SuiteOk X (st :: sts) q.ts) (r : ClsOk X hds l) : ClsOk X (.ExceptHandler (some (.Name x p1)) (some n) (st :: sts) p2 :: hds) (q :: l)
section
variable {X : Cx}
theorem clauses_go {Wout : WX} {D : Ends} {pins : List (Addr × Obj)} {σ : L2.St} {H : Hp} {cls : Value} {d : Option Addr} {a : Addr} {B : Heap} {sI s' : Shared} {h3 : Heap}
    (hs : X.stack = X.env :: X.outer) (hf : X.env.frame = some X.env.locals) (tk : Takes X Wout) (J : Inv X pins σ H sI)
    (nb : ∀ b o, sI.heap.get? b = some o → b ∉ frs X.stack → B.get? b = some o) (na : H a = none) (os : s'.os = sI.os) (ag : AllBare s'.gens)
    (up : sI.heap.UpToSlots h3) (fl : HandSPX.FlyingZ B (X.env :: X.outer) a (Zc cls d) h3) :
    ∀ {hds : List ExceptHandler} {l : List Cl}, ClsOk X hds l → wCl X.K Wout D l cls d σ H → wpAny (model X.prog X.w) X.A (handleBy (.ref a) X.env hds) (SP X pins D) X.xe { s' with heap := h3 } := by
  have ok := J.ok
  have land : ∀ {h4 : Heap}, HandSPX.FlyingZ B (X.env :: X.outer) a (Zc cls d) h4 → sI.heap.UpToSlots h4 → Inv X pins σ H { s' with heap := h4 } ∧ ∃ ob vs, Zc cls d ob ∧ ob.data = .fields vs ∧ h4.get? a = some ob ∧
      Inv (X.suite a ((a, ob) :: (X.pn ++ pins))) [] σ H { s' with heap := h4 } := by
    intro h4 f4 u4
    have J4 : Inv X pins σ H { s' with heap := h4 } := J.landed nb f4.1 u4 os ag
    obtain ⟨ob, vs, hob, hz, hd⟩ := f4.there
    have nfr : a ∉ frs (X.env :: X.outer) := fun hm => by
      obtain ⟨_, ox, ex, nf⟩ := f4.2.2.1.mem hm
      rw [hob] at ex
      cases ex
      exact nf _ hd
    have nL : a ≠ X.env.locals := fun z => nfr (List.mem_filterMap.mpr ⟨X.env, List.mem_cons_self, by rw [hf, z]⟩)
    have nF : a ∉ X.fs := fun hm => by
      obtain ⟨en, hen, qq⟩ := List.mem_filterMap.mp hm
      exact nfr (List.mem_filterMap.mpr ⟨en, List.mem_cons_of_mem _ hen, qq⟩)
    exact ⟨J4, ob, vs, hz, hd, hob, J4.suite hob hd na nL nF⟩
  obtain ⟨J3, o3, vs3, hz3, hd3, ho3, S3⟩ := land fl up
  have ty : PySem.W.Looks (model X.prog X.w) h3 (typeOf (.ref a)) cls := fun _ _ _ _ kk qq => wpAny_typeOf_ref (kk _ _ ho3) (by rw [hz3.1]; exact qq)
  have tst : ∀ {x : Str} {c : Value} {p1 : Pos} {Q : Value → Shared → Prop} {E : Value → Shared → Prop}, Names X x c → Q c { s' with heap := h3 } →
      wpAny (model X.prog X.w) (X.A.mark (some (.ref a))) (eval (.Name x p1) X.env) Q E { s' with heap := h3 } := by
    intro x c p1 Q E hc hq
    rcases hc with ⟨hg, hdb, hm | ⟨hm, hv, hne⟩⟩
    · exact ld_glob (X := X.suite a ((a, o3) :: (X.pn ++ pins))) S3 hg hm hq hdb
    · exact ld_blt (X := X.suite a ((a, o3) :: (X.pn ++ pins))) S3 hg hm hv hq hne hdb
  intro hds l hk
  induction hk with
  | nil =>
    intro wi
    refine wpAny_handleBy_nil ?_
    obtain ⟨_, _, _, ox, vx, T, _, _, hox, _, hdx, h1, _⟩ := id fl
    have out : wpAny (model X.prog X.w) X.A (setFlight (.ref a) X.env.frame) (fun _ s4 => wpAny (model X.prog X.w) X.A (throw (.ref a) : Sem Flow) (SP X pins D) X.xe s4) X.xe { s' with heap := h3 } := by
      rw [hf]
      exact HandSPX.setFlight_upZ fl fun h4 f4 u4 => wpAny_throw (tk _ _ ⟨a, B, sI, pins, σ, H, cls, d, rfl, J, nb, up.trans u4, .inr (.inr (by rw [hs]; exact f4)), na, os, ag, wi⟩)
    unfold PySem.passOn
    refine wpAny_bind (wpAny_field hox hdx h1 ?_)
    rw [if_neg (by simp : ¬ ((Value.ref T == Value.none) = true))]
    first
      | exact wpAny_bind out
      | exact wpAny_bind (wpAny_pure (wpAny_bind out))
  | @bare x q st sts p1 p2 hds2 l2 hc hq su r ih =>
    intro wi
    obtain ⟨b, hb, yes, no⟩ := wi
    refine wpAny_handleBy_cons (codeAny_handlers_test (tst hc ((PySem.W.exm_one (M := model X.prog X.w) J3.kIn ty hb).here ?_))) (by intro z; cases z)
    cases b with
    | false => exact ih (no rfl)
    | true =>
      refine codeAny_handlers_suite (HandSPX.lands_againZ fl fun h4 f4 u4 => ?_)
      obtain ⟨J4, o4, vs4, hz4, hd4, ho4, S4⟩ := land f4 (up.trans u4)
      have yy := yes rfl a na
      rw [hq] at yy
      refine wpAny_mono ((su a o4 cls d (X.pn ++ pins) hz4 ⟨_, hd4⟩).run [] _ _ H _ S4 yy) (fun f s6 hsp => ?_) (fun _ _ z => z.elim)
      cases f with
      | ret u =>
        obtain ⟨v6, σ6, H6, S6, r6, q6⟩ := hsp
        exact ⟨v6, σ6, H6, S6.unsuite ok, r6, q6⟩
      | next => obtain ⟨σ6, H6, S6, q6⟩ := hsp; exact ⟨σ6, H6, S6.unsuite ok, q6⟩
      | brk => obtain ⟨σ6, H6, S6, q6⟩ := hsp; exact ⟨σ6, H6, S6.unsuite ok, q6⟩
      | cont => obtain ⟨σ6, H6, S6, q6⟩ := hsp; exact ⟨σ6, H6, S6.unsuite ok, q6⟩
  | @named x n q i st sts p1 p2 hds2 l2 hc hq hN hi hn su r ih =>
    intro wi
    obtain ⟨b, hb, yes, no⟩ := wi
    refine wpAny_handleBy_cons (codeAny_handlers_test (tst hc ((PySem.W.exm_one (M := model X.prog X.w) J3.kIn ty hb).here ?_))) (by intro z; cases z)
    cases b with
    | false => exact ih (no rfl)
    | true =>
      refine codeAny_handlers_suite_as (HandSPX.lands_againZ fl fun h4 f4 u4 => ?_)
      obtain ⟨J4, o4, vs4, hz4, hd4, ho4, S4⟩ := land f4 (up.trans u4)
      have yy := yes rfl a na
      rw [hq] at yy
      refine store_ok (X := X.suite a ((a, o4) :: (X.pn ++ pins))) (v := .ref a) S4 hN hi (.inl hn) rfl (fun s5 S5 => ?_) (.inr hn)
      refine wpAny_mono ((su a o4 cls d (X.pn ++ pins) hz4 ⟨_, hd4⟩).run [] s5 _ H _ S5 yy) (fun f s6 hsp => ?_) (fun _ _ z => z.elim)
      have fin : ∀ {σ6 : L2.St} {H6 : Hp} {Q : Shared → Prop}, Inv (X.suite a ((a, o4) :: (X.pn ++ pins))) [] σ6 H6 s6 → (∀ s7, Inv X pins (σ6.set i none) H6 s7 → Q s7) →
          wpAny (model X.prog X.w) X.A (do bindName X.env n .none; unbindBehindTheSuite X.env n p2) (fun _ s7 => Q s7) X.xe s6 := fun S6 k => gone_ok (S6.unsuite ok) hN hi hn k
      cases f with
      | ret u =>
        obtain ⟨v6, σ6, H6, S6, r6, q6⟩ := hsp
        exact fin S6 fun s7 J7 => ⟨_, _, _, J7, r6, q6⟩
      | next => obtain ⟨σ6, H6, S6, q6⟩ := hsp; exact fin S6 fun s7 J7 => ⟨_, _, J7, q6⟩
      | brk => obtain ⟨σ6, H6, S6, q6⟩ := hsp; exact fin S6 fun s7 J7 => ⟨_, _, J7, q6⟩
      | cont => obtain ⟨σ6, H6, S6, q6⟩ := hsp; exact fin S6 fun s7 J7 => ⟨_, _, J7, q6⟩
theorem ps_tryL {body : List Stmt} {h₀ : ExceptHandler} {hds : List ExceptHandler} {l : List Cl} {pos : Pos} {tb : WX → TS} {Wout : WX} (hs : X.stack = X.env :: X.outer) (hf : X.env.frame = some X.env.locals) (tk : Takes X Wout)
    (hb : ∀ (W : WX) (pn : List (Addr × Obj)) (xe : Value → Shared → Prop), Takes (X.tr pn xe) W → PassesOwn (model X.prog X.w) X.A X.env xe → PSs (X.tr pn xe) body (tb W)) (hh : ClsOk X (h₀ :: hds) l) :
    PS X (.Try body (h₀ :: hds) [] [] pos) (fun D σ H => tb (wCl X.K Wout D l) D σ H) := by
  refine ⟨fun pins s σ H D I h => ?_⟩
  have ok := I.ok
  have fr : X.A.frames = some (X.env :: X.outer) := ok.frames.trans (congrArg some hs)
  refine wpAny_Try_except (wpAny_mono ((hb (wCl X.K Wout D l) (X.pn ++ pins) (fun e s₁ => wpAny (model X.prog X.w) X.A (noteFrame e X.env) (fun _ s₂ => wpAny (model X.prog X.w) X.A (setFlight e none)
    (fun _ s₃ => wpAny (model X.prog X.w) X.A (handleBy e X.env (h₀ :: hds)) (SP X pins D) X.xe s₃) X.xe s₂) X.xe s₁) (fun u s' xx => ?_) PassesOwn.looking).run [] s σ H D (I.toTry _) h) (fun f s1 hsp => ?_) (fun _ _ he => he))
  · obtain ⟨a, B, sI, _, σ1, H1, cls, d, rfl, J', nb, up, sky, na, os, ag, wi⟩ := xx
    rw [hs] at sky
    exact Sky.land Zc.steady fr hf sky fun h3 f3 u3 => clauses_go hs hf tk (J'.ofTry ok) nb na os ag (up.trans u3) f3 hh wi
  · cases f with
    | ret u =>
      obtain ⟨v1, σ1, H1, J1, r1, q1⟩ := hsp
      exact ⟨v1, σ1, H1, J1.ofTry ok, r1, q1⟩
    | next => obtain ⟨σ1, H1, J1, q1⟩ := hsp; exact wpAny_execs_nil ⟨σ1, H1, J1.ofTry ok, q1⟩
    | brk => obtain ⟨σ1, H1, J1, q1⟩ := hsp; exact ⟨σ1, H1, J1.ofTry ok, q1⟩
    | cont => obtain ⟨σ1, H1, J1, q1⟩ := hsp; exact ⟨σ1, H1, J1.ofTry ok, q1⟩
end
/-! ## isinstance of the caught error, whether it has a dict or not -/
structure XisC (K : PySem.W.Frag) (C : Addr) : Prop where
  hc : (PySem.W.clsIn K C).isSome = true
  ga : PySem.W.findIn K (.ref C) "__getattribute__" = some (some (.builtin "BaseException.__getattribute__"))
  gt : PySem.W.findIn K (.ref C) "__getattr__" = some none
  sb : PySem.W.subIn K (.ref C) (.type "BaseException") = some true
  cl : PySem.W.findIn K (.ref C) "__class__" = some (some (.builtin "object.__class__"))
  sp : PySem.W.specialIn K (.builtin "object.__class__") "__get__" = some (some (.builtin "getset_descriptor.__get__"))
  tk : PySem.W.takesIn K (.builtin "object.__class__") = some true
  mo : PySem.W.mroIn K C (.type "object") = some true
def rIsX (K : PySem.W.Frag) (cls : Value) (d : Option Addr) (C a : Addr) : List V → Hp → VK → Prop := fun xs H Q => cls = .ref C ∧ ∃ (c : V) (cv : Value) (b : Bool), xs = [.ref a, c] ∧ ClsV c cv ∧ (∀ dd, d = some dd → ∃ fs, H dd = some (.xd fs)) ∧
  PySem.W.kitOne K (.ref C) cv = some b ∧ Q (.bl b) H
section
variable {X : Cx}
theorem call_isX {a C : Addr} {ob : Obj} {cls : Value} {d : Option Addr} {pn : List (Addr × Obj)} (T : XisC X.K C) (hz : Zc cls d ob) (hf : ∃ vs, ob.data = .fields vs) : CallR (X.suite a ((a, ob) :: pn)) (.builtin "isinstance") (rIsX X.K cls d C a) := by
  intro pins s σ H xs us Q I r h
  obtain ⟨ec, c, cv, b, rfl, hcv, hd, e, q⟩ := h
  obtain ⟨u1, u2, rfl, r1, r2⟩ := vals2 r
  have e2 := hcv.eq r2
  subst e2 ec
  obtain rfl : u1 = Value.ref a := r1
  obtain ⟨vs, hv⟩ := hf
  obtain ⟨hget, _⟩ := I.pin (a, ob) (List.mem_append_left _ List.mem_cons_self)
  have nc : PySem.W.notCls ob = true := by unfold PySem.W.notCls; rw [hv]
  have key : ∃ od, PySem.W.InstAt s.heap a ob C od := by
    cases d with
    | none => exact ⟨none, hget, hz.1, nc, by rw [hz.2]; trivial⟩
    | some dd =>
      obtain ⟨fs, hfs⟩ := hd dd rfl
      obtain ⟨mA, ⟨o, _, _, ho, _⟩, _⟩ := (show ObjOk X.prog X.w H s.heap dd (.xd fs) from I.hok dd _ hfs)
      exact ⟨some o, hget, hz.1, nc, by rw [hz.2]; exact ho⟩
  obtain ⟨od, J⟩ := key
  exact PySem.W.kia_one (PySem.W.kitx_exc T.hc T.ga T.gt T.sb T.cl T.sp T.tk T.mo) I.kIn J e (fun z => nomatch z) fun tk => ⟨.bl b, H, I.kept (t' := tk) fun _ _ z => z, rfl, q⟩
/-! ## f(e, ..), f a local name that holds a def which may raise -/
def tCallLS (i : Nat) (f : Addr) (sp : Sp) (E : L2.St → XK) (t : TA) : TE := fun σ H Q => σ[i]? = some (some (.ref f)) ∧ t σ H fun vs H1 => sp vs H1 Q (E σ)
theorem pe_callLS {CX : CXT} {k i : Nat} {f : Addr} {fd : FuncData} {ps : List Str} {sp : Sp} {E : L2.St → XK} {x : Str} {p pos : Pos} {e : Expr} {es : List Expr} {t : TA}
    (F : FnOk X.prog X.w X.K X.mg X.base CX k f fd ps sp) (hr : Room k X.A) (hN : X.N[i]? = some x) (hv : Vis X.env.scope x) (hk : PySem.W.keepIn X.K (.ref f) = true) (hb : Binds X.K fd ps []) (hx : ∀ σ, PassesAt CX X σ (E σ)) (ha : PA X (e :: es) t)
    (hdb : (x == ("__debug__" : Str)) = false := by decide) (hcd : (x == ("__classdict__" : Str)) = false := by decide)
    (he : starEach (e :: es) X.env = (false, eval e X.env) :: starEach es X.env := by rfl) (hpl : (backTo pos (starEach es X.env)).any (·.1) = false := by rfl) : PE X (.Call (.Name x p) (e :: es) [] pos) (tCallLS i f sp E t) := by
  refine ⟨fun pins s σ H Q I ⟨hs, ht⟩ => wpAny_Call_Name_kw (thn ((pe_var (pos := p) hN hv hdb hcd).run pins s σ H (fun v H1 => v = .ref f ∧ H1 = H) I ⟨.ref f, hs, rfl, rfl⟩) fun u s1 ⟨v, H1, I1, r1, e1, e2⟩ => ?_)⟩
  subst e1 e2
  obtain rfl : u = Value.ref f := r1
  exact PySem.W.callWith_K (h₀ := X.base) I.ok.mod.kin hk (thn (ha.run pos pins s1 σ _ _ I1 ht) fun us s2 ⟨vs, H2, I2, r, q⟩ => ⟨I2.kIn, run_fnS F hr hb (hx σ) I2 r q⟩) he hpl
/-! ## C(), an own error class without an __init__ -/
theorem pmk_own0 {C : Addr} {bmB : List Value} {B newId initId : String} {x : Str} {p pos : Pos} (F : ExcBaseFacts B newId initId bmB) (q : PySem.W.excIn X.K C bmB newId = true) (gC : X.mg x = some (.ref C)) (kC : PySem.W.keepIn X.K (.ref C) = true)
    (r : Raises X (.ref C)) (hg : Gl X x) (hdb : (x == ("__debug__" : Str)) = false := by decide) : PMk X (.Call (.Name x p) [] [] pos) (fun _ H Q => Q (.ref C) none H) := by
  intro pins s σ H Q I h
  refine wpAny_Call_Name_kw (ld_glob I hg gC (PySem.W.callWith_K0 I.kIn kC ?_) hdb)
  obtain ⟨_, _, _, _, _, _, _, _, _, _, _, _, _, _, _, _, _, hC, hN, hni, T⟩ := exc_obj I.kIn q
  exact wpAny_call_exc_subT F T hC hN hni (fun h' e hm => mk_of I hm r h (I.hok.gone hm.new)) (by show 0 ≤ sizeLine; omega)
/-! ## // by any great number but 0 -/
theorem op_fdivZ : OpR X (binaryOp .FloorDiv) (rI (fun _ j => j ≠ 0 ∧ j.natAbs.log2 < 9000) fun i j => .int (i.fdiv j)) := opI fun _ _ _ _ _ _ _ hc q => floordiv_int hc.1 q (.inl (PyProof.noPylong_of_log2 hc.2))
/-! ## repr of data -/
def rReprD (K : PySem.W.Frag) : List V → Hp → VK → Prop := fun xs H Q => ∃ (a : Addr) (d : PyData), xs = [.ref a] ∧ Dp K H (.ref a) d ∧ d.showable = true ∧ d.hasDict = false ∧ d.depth ≤ 60 ∧ d.shown.length ≤ sizeLine ∧ Q (.str d.shown) H
theorem call_reprD (hu : X.A.units + 64 < cLine) (hg : X.A.guards = some []) : CallR X (.builtin "repr") (rReprD X.K) := by
  intro pins s σ H xs us Q I r h
  obtain ⟨a, d, rfl, hd, hs, hn, hde, hl, q⟩ := h
  obtain ⟨u, rfl, ru⟩ := vals1 r
  obtain rfl : u = Value.ref a := ru
  obtain ⟨as, rd⟩ := Dp.reads I d _ _ hd rfl
  exact repr_of_reads' rd hs (fun z => by rw [hn] at z; cases z) hg (by omega) (fun _ _ e => e) (fun h' u tk hk => ⟨.str d.shown, H, I.kept (t' := tk) hk, ⟨u, rfl⟩, q⟩) hl
end
end Lc
set_option Elab.async false
set_option linter.all false
set_option maxRecDepth 100000
set_option maxHeartbeats 4000000
namespace Lc
open PySem PySem.Spec PyProof.Rows L2
/-! ## Promises of defs that are called where no repr is under way -/
structure FnG (P : Program) (w : World) (K : PySem.W.Frag) (mg : Str → Option Value) (base : Heap) (k : Nat) (f : Addr) (fd : FuncData) (ps : List Str) (sp : Sp) : Prop where
  len : ∀ vs H Q E, sp vs H Q E → vs.length = ps.length
  run : ∀ (A : Around) (outer : List Env) (s : Shared) (H : Hp) (args : Args) (us : List Value) (vs : List V) (Q : VK) (E : XK), A.guards = some [] → Room k A → Env0 P w K mg base A outer s H → BindsTo s fd args (ps.zip us) → Vals vs us → sp vs H Q E →
    codeAny (model P w) A (.call (.ref f) args) (CR CX0 outer P w H s Q E) s
section
variable {P : Program} {w : World} {K : PySem.W.Frag} {mg : Str → Option Value} {base : Heap}
theorem Fun.okG {x qual : Str} {st : Stmt} {f : Addr} {fd : FuncData} {N ps : List Str} {k : Nat} {sp : Sp} (F : Fun K x qual st f fd) (S : FnScope N ps (defScope st)) (len : ∀ vs H Q E, sp vs H Q E → vs.length = ps.length)
    (go : ∀ (cdv : Value) (A : Around) (outer : List Env) (s : Shared) (H : Hp) (vs : List V) (Q : VK) (E : XK), A.guards = some [] → Room k (A.deeper (envOfC qual (defScope st) s.heap.objs.size f cdv)) → sp vs H Q E →
      ∃ t, PSs (cxOf CX0 P w K mg base N qual (defScope st) f cdv A outer s H E).nox (defBody st) t ∧ t { nx := fun _ H' => Q .non H', rt := Q } (start N vs) H) : FnG P w K mg base (k + 1) f fd ps sp := by
  obtain ⟨oc, od, kV, doc, pm, an, cdv, ct, osl, rfl, lk, hcd⟩ := F.ex
  refine ⟨len, fun A outer s H args us vs Q E hg hr e0 hb r hsp => ?_⟩
  have up : ∀ b o, base.get? b = some o → s.heap.get? b = some o := fun b o z => (e0.bs b o z).1
  have KX := e0.mod.kin.keeps up
  refine codeAny_call_function hr.depth (KX _ _ lk) rfl S.co S.gen rfl (PySem.W.codeRec_of KX hcd) (hb _ _ _ _ ?_)
  refine wpAny_newFunctionEnv_cells S.kind (fun y hy => ?_) fun env he s1 x => ?_
  · rcases S.par y.1 (List.of_mem_zip (a := y.1) (b := y.2) hy).1 with z | z
    · exact .inl z
    · exact .inr ⟨z, PySem.W.cellsFrom_some _ _ _ (.inl z)⟩
  subst he
  obtain ⟨t, ht, hq⟩ := go cdv A outer s H vs Q E hg (hr.deeper _) hsp
  have I : Inv (cxOf CX0 P w K mg base N qual (defScope st) f cdv A outer s H E) [] (start N vs) H s1 := inv_start S hr.hd e0 (len _ _ _ _ hsp) r x
  refine ⟨(e0.mod.nolimit.keeps up).keeps x.toInCall.keep, codeAny_func (wpAny_mono (ht.nox.run [] s1 (start N vs) H _ I hq) (fun fl s' hs => ?_) fun _ _ z => z)⟩
  cases fl with
  | ret u => obtain ⟨v, _, H', J, rv, q⟩ := hs; exact ⟨v, H', J.os, J.bare, J.base, J.hok, rv, q⟩
  | next => obtain ⟨_, H', J, q⟩ := hs; exact ⟨V.non, H', J.os, J.bare, J.base, J.hok, rfl, q⟩
  | brk => obtain ⟨_, _, _, q⟩ := hs; exact q.elim
  | cont => obtain ⟨_, _, _, q⟩ := hs; exact q.elim
end
section
variable {X : Cx} {k : Nat} {f : Addr} {fd : FuncData} {ps : List Str} {sp : Sp} {x : Str} {p pos : Pos} {e : Expr} {es : List Expr} {t : TA}
/-- f(e, ..), f kept under FnG -/
theorem pe_callG (F : FnG X.prog X.w X.K X.mg X.base k f fd ps sp) (gg : X.A.guards = some []) (hr : Room k X.A) (hg : Gl X x) (hm : X.mg x = some (.ref f)) (hk : PySem.W.keepIn X.K (.ref f) = true) (hb : Binds X.K fd ps [])
    (ha : PA X (e :: es) t) (hdb : (x == ("__debug__" : Str)) = false := by decide) (he : starEach (e :: es) X.env = (false, eval e X.env) :: starEach es X.env := by rfl) (hpl : (backTo pos (starEach es X.env)).any (·.1) = false := by rfl) :
    PE X (.Call (.Name x p) (e :: es) [] pos) (tCall sp [] E0 t) := by
  refine ⟨fun pins s σ H Q I h => wpAny_Call_Name_kw (ld_glob I hg hm ?_ hdb)⟩
  refine PySem.W.callWith_K (h₀ := X.base) I.ok.mod.kin hk (thn (ha.run pos pins s σ H _ I h) fun us s1 ⟨vs, H1, I1, r, q⟩ => ⟨I1.kIn, ?_⟩) he hpl
  replace q : sp vs H1 Q E0 := by
    have z : sp (vs ++ []) H1 Q E0 := q
    rw [List.append_nil] at z
    exact z
  have hl : us.length = ps.length := by rw [← r.length]; exact F.len _ _ _ _ q
  have b := hb s1 us I1.kIn (by rw [List.append_nil]; exact hl)
  rw [List.append_nil] at b
  refine wpAny_call (codeAny_mono (F.run X.A X.stack s1 H1 ⟨us, []⟩ us vs Q E0 gg hr I1.env0 b r q) fun rr s' hq => ?_)
  cases rr with
  | error er => exact False.elim hq
  | ok fl =>
    cases fl with
    | ret u => exact I1.after hq
    | next => exact False.elim hq
    | brk => exact False.elim hq
    | cont => exact False.elim hq
end
/-! ## The law itself -/
section
variable {P : Program} {w : World} {K : PySem.W.Frag} {mg mb : Str → Option Value} {k : Nat} {fa a : Addr} {fd : FuncData} {x : Str} {sp : Sp} {s : Shared} {vs : List Value} {ns : List Int}
theorem env_of {H : Hp} (KX : K.In s.heap) (hns : s.heap.Ns mainGlobals mg) (hb : s.heap.Ns builtinsNs mb) (hbb : ∀ x : Str, x ≠ "__name__" → mb x = bootBuiltins x) (hlim : s.heap.NoLimit) (hg : s.gens = #[])
    (ha : s.heap.get? a = some { cls := .type "list", data := .seq vs.toArray }) (hok : HOk P w H s.heap) (one : ∀ b, b ≠ a → H b = none) (nk : H a = none ∨ K.lookup a = none) :
    K.In (hidT s.heap H) ∧ (hidT s.heap H).Ns mainGlobals mg ∧ Env0 P w K mg (hidT s.heap H) callerA [] s H := by
  have keepN : ∀ {b : Addr} {m : Str → Option Value}, s.heap.Ns b m → (hidT s.heap H).Ns b m := by
    rintro b m ⟨o, es, ep, e, d, r⟩
    have nb : b ≠ a := fun z => by
      rw [z, ha] at e
      cases e
      exact nomatch (show Data.seq vs.toArray _ = Data.dict es ep from d)
    exact ⟨o, es, ep, hidT_get e (one b nb), d, r⟩
  have kin : K.In (hidT s.heap H) := fun b o e => hidT_get (KX b o e) (by
    by_cases z : b = a
    · rcases nk with q | q
      · rw [z]; exact q
      · rw [z, q] at e; cases e
    · exact one b z)
  obtain ⟨mc, l1, l2⟩ := hlim
  exact ⟨kin, keepN hns, rfl, ⟨kin, keepN hns, ⟨mb, keepN hb, hbb⟩, ⟨mc, keepN l1, l2⟩⟩, fun b o e => of_hidT e, Nat.le_of_eq (hidT_size _ _), trivial, fun b z => absurd (show b ∈ ([] : List Addr) from z) (by simp), hok, .of_eq hg⟩
theorem law_callG (KX : K.In s.heap) (hns : s.heap.Ns mainGlobals mg) (hb : s.heap.Ns builtinsNs mb) (hbb : ∀ x : Str, x ≠ "__name__" → mb x = bootBuiltins x) (hlim : s.heap.NoLimit) (hg : s.gens = #[])
    (ha : s.heap.get? a = some { cls := .type "list", data := .seq vs.toArray }) (hi : IntsAre vs ns) (hl : ns.length ≤ sizeLine) (hr : Room k callerA)
    (F : ∀ base : Heap, K.In base → base.Ns mainGlobals mg → FnG P w K mg base k fa fd [x] sp) (hbind : ∀ (s : Shared) (u : Value), BindsTo s fd ⟨[u], []⟩ [(x, u)])
    (hsp : ∀ H : Hp, SqL K H a (ns.map V.int) → sp [.ref a] H (fun v _ => v = .bl true) fun _ _ _ => False) :
    codeAny (model P w) callerA (.call (.ref fa) ⟨[.ref a], []⟩) (fun r s' => r = .ok (.ret (.bool true)) ∧ OldK s.heap s'.heap ∧ s'.os = s.os ∧ AllBare s'.gens) s := by
  have rv := vals_ints hi
  have go : ∀ H : Hp, SqL K H a (ns.map V.int) → HOk P w H s.heap → (∀ b, b ≠ a → H b = none) → (H a = none ∨ K.lookup a = none) → (∀ o, H a = some o → ∃ ob u, o = .frz ob u) →
      codeAny (model P w) callerA (.call (.ref fa) ⟨[.ref a], []⟩) (fun r s' => r = .ok (.ret (.bool true)) ∧ OldK s.heap s'.heap ∧ s'.os = s.os ∧ AllBare s'.gens) s := by
    intro H hS hok one nk fz
    obtain ⟨k1, k2, e0⟩ := env_of KX hns hb hbb hlim hg ha hok one nk
    refine codeAny_mono ((F _ k1 k2).run callerA [] s H ⟨[.ref a], []⟩ [.ref a] [.ref a] _ _ rfl hr e0 (hbind s (.ref a)) (.cons rfl .nil) (hsp H hS)) fun r s' h => ?_
    cases r with
    | error _ => exact False.elim h
    | ok fl =>
      cases fl with
      | next => exact False.elim h
      | brk => exact False.elim h
      | cont => exact False.elim h
      | ret u =>
        obtain ⟨v, H', os, bare, un, hok', ru, ev⟩ := h
        subst ev
        obtain rfl : u = Value.bool true := ru
        refine ⟨rfl, OldK.of_keep fun b o e => ?_, os, bare⟩
        cases q : H b with
        | none => exact un.keep b o e q (fun z => absurd (show b ∈ ([] : List Addr) from z) (by simp)) (by simp)
        | some oo =>
          have zb : b = a := Classical.byContradiction fun z => by rw [one b z] at q; cases q
          subst zb
          obtain ⟨ob, u, rfl⟩ := fz oo q
          obtain ⟨e1, _⟩ := hok b _ q
          obtain ⟨e2, _⟩ := hok' b _ (un.frzs b ob u q)
          rw [e] at e1
          cases e1
          exact e2
  cases hk : K.lookup a with
  | some o =>
    have e := KX a o hk
    rw [ha] at e
    cases e
    exact go (fun _ => none) (.inr ⟨_, vs.toArray, _, hk, rfl, rfl, rfl, by rw [List.size_toArray, hi.length]; exact hl, by simpa using rv⟩) (fun b u z => nomatch z) (fun _ _ => rfl) (.inl rfl) (fun o z => nomatch z)
  | none =>
    let ob : Obj := { cls := .type "list", data := .seq vs.toArray }
    refine go (upd (fun _ => none) a (.frz ob (.lst (ns.map V.int)))) (.inl (.inr ⟨ob, upd_same⟩)) (fun b u z => ?_) (fun b z => upd_ne z) (.inr hk) (fun o z => ?_)
    · by_cases q : b = a
      · subst q
        rw [upd_same] at z
        cases z
        exact ⟨ha, by rw [List.length_map]; exact hl, vs, _, rv, ha⟩
      · rw [upd_ne q] at z
        cases z
    · rw [upd_same] at z
      cases z
      exact ⟨_, _, rfl⟩
end
theorem walk_G {l : PySem.W.OpenLaw} {n k : Nat} {q : Program} {loose : List Str} {XP : (Str → Option Value) → Heap → Prop} {YP : World → Heap → Prop} {d : DefRec} {K : Params → PySem.W.Frag} {sp : PySem.W.Frag → Sp} {x : Str}
    (hn : l.most = some n) (hn2 : n ≤ sizeLine) (hdf : d.params.defaults = []) (hr : Room k callerA) (hY : ∀ (w : World) (h : Heap), YP w h → (K w.params).In h)
    (F : ∀ (w : World) (mg : Str → Option Value) (fa : Addr) (h : Heap), (K w.params).In h → h.Ns mainGlobals mg → mg d.name = some (.ref fa) →
      ∃ fd : FuncData, (∀ (s : Shared) (u : Value), BindsTo s fd ⟨[u], []⟩ [(x, u)]) ∧ ∀ base : Heap, (K w.params).In base → base.Ns mainGlobals mg → FnG l.prog w (K w.params) mg base k fa fd [x] (sp (K w.params)))
    (hsp : ∀ (K : PySem.W.Frag) (H : Hp) (a : Addr) (ns : List Int), ns.length ≤ n → SqL K H a (ns.map V.int) → sp K [.ref a] H (fun v _ => v = .bl true) fun _ _ _ => False) :
    PySem.W.WalkO q loose XP YP l.row.toRowW d [] (fun f vs => PySem.call f vs) := by
  refine Att.attach_call hn hdf fun w _ s mg mb fa _ _ _ _ a vs ns G Y _ _ _ hmg hobj hints hlen hg => ?_
  obtain ⟨fd, hb, hF⟩ := F w mg fa _ (hY w _ Y) G.T.g hmg
  exact law_callG (hY w _ Y) G.T.g G.T.b G.T.builtins G.T.nolimit hg hobj hints (Nat.le_trans hlen hn2) hr hF hb fun H hS => hsp _ H a ns hlen hS
end Lc
set_option maxRecDepth 100000
set_option maxHeartbeats 4000000
set_option linter.all false
namespace Lc
/-! ## Greatest common divisors and lowest terms -/
def gd (a b : Int) : Int := (Int.gcd a b : Int)
theorem gd_nonneg (a b : Int) : 0 ≤ gd a b := Int.natCast_nonneg _
theorem gd_pos {a b : Int} (h : b ≠ 0) : 0 < gd a b := by
  have : 0 < Int.gcd a b := Int.gcd_pos_of_ne_zero_right a h
  unfold gd
  omega
theorem gd_zero {a : Int} (h : 0 ≤ a) : gd a 0 = a := by
  unfold gd
  rw [Int.gcd_zero_right]
  omega
theorem gd_step {a b : Int} (ha : 0 ≤ a) (hb : 0 < b) : gd b (a % b) = gd a b := by
  unfold gd Int.gcd
  have e1 : (a % b).natAbs = a.natAbs % b.natAbs := by
    have h0 : 0 ≤ a % b := Int.emod_nonneg a (by omega)
    have : ((a % b).natAbs : Int) = ((a.natAbs % b.natAbs : Nat) : Int) := by
      rw [Int.natCast_emod, Int.natAbs_of_nonneg h0, Int.natAbs_of_nonneg ha, Int.natAbs_of_nonneg (by omega : 0 ≤ b)]
    exact Int.ofNat.inj this
  rw [e1, Nat.gcd_comm b.natAbs, ← Nat.gcd_rec, Nat.gcd_comm]
theorem gd_abs (a b : Int) : gd (if a < 0 then -a else a) b = gd a b := by
  unfold gd
  split
  · rw [Int.neg_gcd]
  · rfl
theorem gd_abs2 (a b : Int) : gd a (if b < 0 then -b else b) = gd a b := by
  unfold gd
  split
  · rw [Int.gcd_neg]
  · rfl
theorem gd_dvd1 (a b : Int) : gd a b ∣ a := Int.gcd_dvd_left a b
theorem gd_dvd2 (a b : Int) : gd a b ∣ b := Int.gcd_dvd_right a b
theorem gd_natAbs_le {a b : Int} (h : b ≠ 0) : (gd a b).natAbs ≤ b.natAbs := by
  have h1 : Int.gcd a b ≤ b.natAbs := Nat.le_of_dvd (by omega) (Int.gcd_dvd_natAbs_right a b)
  unfold gd
  rw [Int.natAbs_natCast]
  exact h1
def lowN (n d : Int) : Int := n / gd n d
def lowD (n d : Int) : Int := d / gd n d
structure Rt (n d : Int) : Prop where
  pos : 0 < d
  cop : gd n d = 1
theorem low_mul {n d : Int} (h : d ≠ 0) : lowN n d * gd n d = n ∧ lowD n d * gd n d = d := ⟨Int.ediv_mul_cancel (gd_dvd1 n d), Int.ediv_mul_cancel (gd_dvd2 n d)⟩
theorem lowD_pos {n d : Int} (h : 0 < d) : 0 < lowD n d := Int.ediv_pos_of_pos_of_dvd h (gd_nonneg n d) (gd_dvd2 n d)
theorem low_rt {n d : Int} (h : 0 < d) : Rt (lowN n d) (lowD n d) := by
  refine ⟨lowD_pos h, ?_⟩
  have hg : 0 < Int.gcd n d := Int.gcd_pos_of_ne_zero_right n (by omega)
  unfold lowN lowD gd
  rw [Int.gcd_ediv_gcd_ediv_gcd hg]
  rfl
theorem dvd_cop {k m n : Int} (h : k ∣ n * m) (g : Int.gcd m k = 1) : k ∣ n := by
  have h1 : k.natAbs ∣ m.natAbs * n.natAbs := by
    rw [← Int.natAbs_mul, Int.mul_comm]
    exact Int.natAbs_dvd_natAbs.mpr h
  have c : Nat.Coprime k.natAbs m.natAbs := by
    show Nat.gcd k.natAbs m.natAbs = 1
    rw [Nat.gcd_comm]
    exact g
  exact Int.natAbs_dvd_natAbs.mp (c.dvd_of_dvd_mul_left h1)
/-- lowest terms are one pair alone -/
theorem rt_unique {a b c d : Int} (h1 : Rt a b) (h2 : Rt c d) (e : a * d = c * b) : a = c ∧ b = d := by
  have g1 : Int.gcd a b = 1 := by have := h1.cop; unfold gd at this; omega
  have g2 : Int.gcd c d = 1 := by have := h2.cop; unfold gd at this; omega
  have db : b ∣ d := by
    have : b ∣ d * a := ⟨c, by rw [Int.mul_comm d a, e, Int.mul_comm]⟩
    exact dvd_cop this g1
  have dd : d ∣ b := by
    have : d ∣ b * c := ⟨a, by rw [Int.mul_comm b c, ← e, Int.mul_comm]⟩
    exact dvd_cop this g2
  have hb := h1.pos
  have hd := h2.pos
  have ebd : b = d := Int.le_antisymm (Int.le_of_dvd hd db) (Int.le_of_dvd hb dd)
  subst ebd
  exact ⟨Int.eq_of_mul_eq_mul_right (by omega) e, rfl⟩
theorem low_is {n d a b : Int} (hd : 0 < d) (h : Rt a b) (e : n * b = a * d) : lowN n d = a ∧ lowD n d = b := by
  have m := low_mul (n := n) (d := d) (by omega)
  have g := gd_pos (a := n) (b := d) (by omega)
  refine rt_unique (low_rt hd) h ?_
  have e2 : (lowN n d * b) * gd n d = (a * lowD n d) * gd n d := by
    rw [Int.mul_right_comm, m.1, Int.mul_assoc, m.2, e]
  exact Int.eq_of_mul_eq_mul_right (by omega) e2
theorem fdiv_neg_dvd {a g : Int} (hg : 0 < g) (h : g ∣ a) : a.fdiv (-g) = (-a) / g := by
  obtain ⟨m, rfl⟩ := h
  have e1 : g * m = (-g) * (-m) := by rw [Int.neg_mul_neg]
  have e2 : -(g * m) = g * (-m) := by rw [Int.mul_neg]
  rw [e2, Int.mul_ediv_cancel_left _ (by omega), e1, Int.mul_fdiv_cancel_left _ (by omega)]
/-- the sums and products of the law -/
theorem sub_add {an ad bn bd p q : Int} (had : 0 < ad) (hbd : 0 < bd) (hq : 0 < q) (h : p * (ad * bd) = (an * bd + bn * ad) * q) : (p * bd - bn * q) * ad = an * (q * bd) := by
  have e1 : (p * bd - bn * q) * ad = p * (ad * bd) - bn * q * ad := by
    rw [Int.sub_mul, Int.mul_assoc p bd ad, Int.mul_comm bd ad]
  have e2 : (an * bd + bn * ad) * q = an * (q * bd) + bn * q * ad := by
    rw [Int.add_mul, Int.mul_assoc an bd q, Int.mul_comm bd q, Int.mul_assoc bn ad q, Int.mul_comm ad q, Int.mul_assoc bn q ad]
  rw [e1, h, e2]
  omega
theorem mul_div {an ad bn bd p q : Int} (h : p * (ad * bn) = (an * bd) * q) (hbn : bn ≠ 0) : (p * bn) * ad = an * (q * bd) := by
  rw [Int.mul_assoc p bn ad, Int.mul_comm bn ad, h, Int.mul_assoc an bd q, Int.mul_comm bd q]
end Lc
namespace Lc
theorem low_le {n d : Int} (h : d ≠ 0) : (lowN n d).natAbs ≤ n.natAbs ∧ (lowD n d).natAbs ≤ d.natAbs := by
  have m := low_mul (n := n) (d := d) h
  have g := gd_pos (a := n) (b := d) h
  have e1 : n.natAbs = (lowN n d).natAbs * (gd n d).natAbs := by rw [← Int.natAbs_mul, m.1]
  have e2 : d.natAbs = (lowD n d).natAbs * (gd n d).natAbs := by rw [← Int.natAbs_mul, m.2]
  have gp : 0 < (gd n d).natAbs := by omega
  exact ⟨by rw [e1]; exact Nat.le_mul_of_pos_right _ gp, by rw [e2]; exact Nat.le_mul_of_pos_right _ gp⟩
theorem rt_one (n : Int) : Rt n 1 := ⟨by decide, by unfold gd; rw [Int.gcd_one]; rfl⟩
theorem rt_inv {d : Int} (h : 0 < d) : Rt 1 d := ⟨h, by unfold gd; rw [Int.one_gcd]; rfl⟩
theorem rt_ninv {d : Int} (h : 0 < d) : Rt (-1) d := ⟨h, by unfold gd; rw [Int.neg_gcd, Int.one_gcd]; rfl⟩
end Lc
set_option Elab.async false
set_option linter.all false
set_option maxRecDepth 100000
set_option maxHeartbeats 4000000
namespace Lc
open PySem PySem.Spec PyProof.Rows L2
/-! ## Kinds of values -/
inductive TyN (H : Hp) : V → String → Prop
  | non : TyN H .non "NoneType"
  | bl (b : Bool) : TyN H (.bl b) "bool"
  | int (i : Int) : TyN H (.int i) "int"
  | str (x : Str) : TyN H (.str x) "str"
  | tup {a : Addr} {xs : List V} (e : H a = some (.tup xs)) : TyN H (.ref a) "tuple"
  | lst {a : Addr} {xs : List V} (e : H a = some (.lst xs)) : TyN H (.ref a) "list"
  | dct {a : Addr} {kvs : List (Key × V)} (e : H a = some (.dK kvs)) : TyN H (.ref a) "dict"
theorem TyN.x {K : PySem.W.Frag} {H : Hp} {v : V} {t : String} (h : TyN H v t) : TyX K H v (.type t) := by
  cases h with
  | non => exact .base .non
  | bl b => exact .base (.bl b)
  | int i => exact .base (.int i)
  | str x => exact .base (.str x)
  | tup e => exact .base (.tup e)
  | lst e => exact .base (.lst e)
  | dct e => exact .base (.dK e)
theorem TyN.same {H H' : Hp} {v : V} {t : String} (h : TyN H v t) (s : Same H H') : TyN H' v t := by
  cases h with
  | non => exact .non
  | bl b => exact .bl b
  | int i => exact .int i
  | str x => exact .str x
  | tup e => exact .tup (s _ _ e)
  | lst e => exact .lst (s _ _ e)
  | dct e => exact .dct (s _ _ e)
theorem TyN.isInt {H : Hp} {v : V} {t : String} (h : TyN H v t) (e : t = "int") : ∃ i, v = .int i := by
  cases h <;> first | exact ⟨_, rfl⟩ | exact absurd e (by decide)
theorem TyN.isStr {H : Hp} {v : V} {t : String} (h : TyN H v t) (e : t = "str") : ∃ x, v = .str x := by
  cases h <;> first | exact ⟨_, rfl⟩ | exact absurd e (by decide)
theorem TyN.isTup {H : Hp} {v : V} {t : String} (h : TyN H v t) (e : t = "tuple") : ∃ a xs, v = .ref a ∧ H a = some (.tup xs) := by
  cases h <;> first | exact ⟨_, _, rfl, by assumption⟩ | exact absurd e (by decide)
def tyNames : List String := ["NoneType", "bool", "int", "str", "tuple", "list", "dict"]
theorem TyN.mem {H : Hp} {v : V} {t : String} (h : TyN H v t) : t ∈ tyNames := by
  cases h <;> simp [tyNames]
theorem kit_int {K : PySem.W.Frag} {t : String} (h : t ∈ tyNames) : PySem.W.kitOne K (.type t) (.type "int") = some (t == "int" || t == "bool") := by
  have : ∀ t ∈ tyNames, kitB t "int" = some (t == "int" || t == "bool") := by decide +kernel
  exact kit_ty (this t h)
theorem kit_bool {K : PySem.W.Frag} {t : String} (h : t ∈ tyNames) : PySem.W.kitOne K (.type t) (.type "bool") = some (t == "bool") := by
  have : ∀ t ∈ tyNames, kitB t "bool" = some (t == "bool") := by decide +kernel
  exact kit_ty (this t h)
theorem kit_tuple {K : PySem.W.Frag} {t : String} (h : t ∈ tyNames) : PySem.W.kitOne K (.type t) (.type "tuple") = some (t == "tuple") := by
  have : ∀ t ∈ tyNames, kitB t "tuple" = some (t == "tuple") := by decide +kernel
  exact kit_ty (this t h)
theorem kit_str {K : PySem.W.Frag} {t : String} (h : t ∈ tyNames) : PySem.W.kitOne K (.type t) (.type "str") = some (t == "str") := by
  have : ∀ t ∈ tyNames, kitB t "str" = some (t == "str") := by decide +kernel
  exact kit_ty (this t h)
/-! ## What is a rational -/
def ratB : V → V → Bool
  | .int n, .int d => decide (0 < d) && decide (gd n d = 1)
  | _, _ => false
inductive Rk (H : Hp) : V → Bool → Prop
  | other {v : V} {t : String} (h : TyN H v t) (n : t ≠ "tuple") : Rk H v false
  | len {a : Addr} {xs : List V} (e : H a = some (.tup xs)) (n : xs.length ≠ 2) : Rk H (.ref a) false
  | pair {a : Addr} {x y : V} {tx ty : String} (e : H a = some (.tup [x, y])) (hx : TyN H x tx) (hy : TyN H y ty) : Rk H (.ref a) (ratB x y)
theorem Rk.same {H H' : Hp} {v : V} {b : Bool} (h : Rk H v b) (s : Same H H') : Rk H' v b := by
  cases h with
  | other h n => exact .other (h.same s) n
  | len e n => exact .len (s _ _ e) n
  | pair e hx hy => exact .pair (s _ _ e) (hx.same s) (hy.same s)
theorem Rk.of {H : Hp} {a : Addr} {n d : Int} (e : H a = some (.tup [.int n, .int d])) (r : Rt n d) : Rk H (.ref a) true := by
  have z : ratB (.int n) (.int d) = true := by
    show (decide (0 < d) && decide (gd n d = 1)) = true
    rw [decide_eq_true r.pos, decide_eq_true r.cop]
    rfl
  rw [← z]
  exact .pair e (.int n) (.int d)
/-! ## repr -/
inductive Shw (K : PySem.W.Frag) (H : Hp) : V → Str → Prop
  | data {v : V} {d : PyData} (h : Dp K H v d) (h1 : d.showable = true) (h2 : d.hasDict = false) (h3 : d.depth ≤ 60) (h4 : d.shown.length ≤ sizeLine) : Shw K H v d.shown
  | empty {a : Addr} (e : H a = some (.dK [])) : Shw K H (.ref a) (PyData.dict []).shown
def rReprV (K : PySem.W.Frag) : List V → Hp → VK → Prop := fun xs H Q => ∃ (v : V) (z : Str), xs = [v] ∧ Shw K H v z ∧ Q (.str z) H
theorem call_reprV {X : Cx} (hg : X.A.guards = some []) (hu : X.A.units + 64 < cLine) : CallR X (.builtin "repr") (rReprV X.K) := by
  intro pins s σ H xs us Q I r h
  obtain ⟨v, z, rfl, hd, q⟩ := h
  obtain ⟨u, rfl, ru⟩ := vals1 r
  cases hd with
  | @data _ d hd h1 h2 h3 h4 =>
    obtain ⟨as, rd⟩ := Dp.reads I d _ _ hd ru
    cases hd with
    | non =>
      obtain rfl : u = Value.none := ru
      exact P.repr_of_none ⟨.str _, H, I.tok _, ⟨_, rfl⟩, q⟩
    | bl b =>
      obtain rfl : u = Value.bool b := ru
      exact P.repr_of_bool ⟨.str _, H, I.tok _, ⟨_, rfl⟩, q⟩
    | int i =>
      obtain ⟨t, rfl⟩ := (show ∃ t, u = Value.int i t from ru)
      exact P.repr_of_int (of_decide_eq_true (by simpa [PyData.showable] using h1)) ⟨.str _, H, I.tok _, ⟨_, rfl⟩, q⟩
    | str x =>
      obtain ⟨t, rfl⟩ := (show ∃ t, u = Value.str x t from ru)
      exact P.repr_of_str ⟨.str _, H, I.tok _, ⟨_, rfl⟩, q⟩ h4
    | @lst a xs ds e1 e2 =>
      obtain rfl : u = Value.ref a := ru
      exact repr_of_reads' rd h1 (PyData.noDict_hsm h2) hg (by omega) (fun _ _ e => e) (fun h' u tk hk => ⟨.str _, H, I.kept (t' := tk) hk, ⟨u, rfl⟩, q⟩) h4
    | @tup a xs ds e1 e2 =>
      obtain rfl : u = Value.ref a := ru
      exact repr_of_reads' rd h1 (PyData.noDict_hsm h2) hg (by omega) (fun _ _ e => e) (fun h' u tk hk => ⟨.str _, H, I.kept (t' := tk) hk, ⟨u, rfl⟩, q⟩) h4
  | @empty a e =>
    obtain rfl : u = Value.ref a := ru
    obtain ⟨_, ns, vs, kv, o, es, ep, h1, h2, h3, h4⟩ := (show ObjOk X.prog X.w H s.heap a (.dK []) from I.hok a _ e)
    cases kv
    have es0 : es.toList = [] := by
      obtain ⟨_, hp, _⟩ := h4
      generalize es.toList = l at hp
      cases hp
      rfl
    have rd : Reads s.heap (.ref a) (.dict []) (a :: [] ++ []) := Reads.dict h1 h2.1 h3 (by rw [es0]; exact .nil) (by rw [es0]; exact .nil)
    exact repr_of_reads' rd (by decide) (fun _ hm => by
      have : sysModules = a := by simpa using hm
      rw [this] at ns
      simp at ns) hg (by show X.A.units + (PyData.depth (.dict []) + 1) < cLine; have : PyData.depth (.dict []) ≤ 60 := by decide +kernel
                         omega) (fun _ _ e => e) (fun h' u tk hk => ⟨.str _, H, I.kept (t' := tk) hk, ⟨u, rfl⟩, q⟩) (by decide +kernel)
theorem dp_same {K : PySem.W.Frag} {H H' : Hp} (s : Same H H') : ∀ {v : V} {d : PyData}, Dp K H v d → Dp K H' v d := by
  have sq : ∀ {a xs}, SqT K H a xs → SqT K H' a xs := by
    intro a xs h
    rcases h with (h | ⟨o, h⟩) | h
    · exact .inl (.inl (s _ _ h))
    · exact .inl (.inr ⟨o, s _ _ h⟩)
    · exact .inr h
  intro v d h
  induction h using Dp.rec (motive_2 := fun vs ds _ => DpAll K H' vs ds) with
  | non => exact .non
  | bl b => exact .bl b
  | int i => exact .int i
  | str x => exact .str x
  | lst h1 _ ih => exact .lst (s.seq h1) ih
  | tup h1 _ ih => exact .tup (sq h1) ih
  | nil => exact .nil
  | cons _ _ i1 i2 => exact .cons i1 i2
theorem Shw.same {K : PySem.W.Frag} {H H' : Hp} (s : Same H H') {v : V} {z : Str} (h : Shw K H v z) : Shw K H' v z := by
  cases h with
  | data h h1 h2 h3 h4 => exact .data (dp_same s h) h1 h2 h3 h4
  | empty e => exact .empty (s _ _ e)
theorem Same.upd {H : Hp} {p : Addr} {o : HO} (h : H p = none) : Same H (upd H p o) := fun b u e => by rw [upd_ne (ne_of_none e h)]; exact e
end Lc
set_option Elab.async false
set_option linter.all false
set_option maxRecDepth 100000
set_option maxHeartbeats 4000000
namespace Lc
open PySem PySem.Spec PyProof.Rows L2
/-! ## The law's tape -/
def Tape (H : Hp) (t : Addr) : Prop := ∃ (l : Addr) (ns : List Int) (pos rest mix : Int), H t = some (.lst [.ref l, .int pos, .int rest, .int mix]) ∧ H l = some (.lst (ns.map V.int)) ∧ 0 ≤ pos ∧ 0 ≤ rest ∧ 0 ≤ mix ∧ mix < 2147483647
/-- all but what stands at t is as it was -/
def SameB (t : Addr) (H H' : Hp) : Prop := ∀ b o, b ≠ t → H b = some o → H' b = some o
theorem SameB.refl (t : Addr) (H : Hp) : SameB t H H := fun _ _ _ e => e
theorem SameB.trans {t : Addr} {H H1 H2 : Hp} (a : SameB t H H1) (b : SameB t H1 H2) : SameB t H H2 := fun c o n e => b c o n (a c o n e)
theorem Same.b {H H' : Hp} (t : Addr) (s : Same H H') : SameB t H H' := fun b o _ e => s b o e
theorem SameB.upd {t : Addr} {H : Hp} {o : HO} : SameB t H (upd H t o) := fun b u n e => by rw [upd_ne n]; exact e
theorem tape_ne {l t : Addr} {H : Hp} {ns : List Int} {vs : List V} (h1 : H t = some (.lst (.ref l :: vs))) (h2 : H l = some (.lst (ns.map V.int))) : l ≠ t := by
  refine ne_of h2 h1 fun z => ?_
  cases ns with
  | nil => injection z with z; cases z
  | cons n ns => injection z with z; injection z with z; cases z
theorem Tape.same {H H' : Hp} {t : Addr} (h : Tape H t) (s : Same H H') : Tape H' t := by
  obtain ⟨l, ns, pos, rest, mix, h1, h2, h3⟩ := h
  exact ⟨l, ns, pos, rest, mix, s _ _ h1, s _ _ h2, h3⟩
theorem cut_ints (ns : List Int) (lo hi : Option Int) : ∃ ms : List Int, cutV (ns.map V.int) lo hi = ms.map V.int := by
  unfold cutV
  rw [← List.map_drop, ← List.map_take]
  exact ⟨_, rfl⟩
def spTape (K : PySem.W.Frag) : Sp := fun vs H Q _ => ∃ (a : Addr) (ns : List Int), vs = [.ref a] ∧ SqL K H a (ns.map V.int) ∧ ∀ (t : Addr) (H' : Hp), Same H H' → H t = none → Tape H' t → Q (.ref t) H'
def spDraw : Sp := fun vs H Q _ => ∃ (t : Addr) (many : Int), vs = [.ref t, .int many] ∧ Tape H t ∧ 0 < many ∧ many.natAbs < 2 ^ 4000 ∧ ∀ (k : Int) (H' : Hp), 0 ≤ k → k < many → Tape H' t → SameB t H H' → Q (.int k) H'
def New2' (H : Hp) (Q : VK) (n d : Int) : Prop := ∀ p, H p = none → Q (.ref p) (upd H p (.tup [.int n, .int d]))
def spLowest : Sp := fun vs H Q _ => ∃ n d : Int, vs = [.int n, .int d] ∧ 0 < d ∧ d.natAbs < 2 ^ 4000 ∧ New2' H Q (lowN n d) (lowD n d)
def spRational : Sp := fun vs H Q _ => ∃ (t : Addr) (b : Bool), vs = [.ref t, .bl b] ∧ Tape H t ∧ ∀ (p : Addr) (n d : Int) (H' : Hp), Rt n d → n.natAbs < 2 ^ 140 → d.natAbs < 2 ^ 140 → H' p = some (.tup [.int n, .int d]) → H p = none → Tape H' t → SameB t H H' → Q (.ref p) H'
theorem log_lt' {n : Int} (h : n.natAbs < 2 ^ 4000) : n.natAbs.log2 < 9000 := by
  by_cases z : n.natAbs = 0
  · rw [z]
    decide
  · exact Nat.lt_of_lt_of_le ((Nat.log2_lt z).mpr h) (by decide)
end Lc
namespace Lc
open PySem PySem.Spec PyProof.Rows L2
theorem SameB.free {t p : Addr} {H H' : Hp} (s : SameB t H H') (h : Tape H' t) (e : H' p = none) : H p = none := by
  cases q : H p with
  | none => rfl
  | some o =>
    by_cases z : p = t
    · subst z
      obtain ⟨_, _, _, _, _, h1, _⟩ := h
      rw [h1] at e
      cases e
    · rw [s p o z q] at e
      cases e
theorem Tape.ne {t p : Addr} {H : Hp} (h : Tape H t) (e : H p = none) : p ≠ t := by
  intro z
  subst z
  obtain ⟨_, _, _, _, _, h1, _⟩ := h
  rw [h1] at e
  cases e
theorem Tape.neT {t p : Addr} {H : Hp} {xs : List V} (h : Tape H t) (e : H p = some (.tup xs)) : p ≠ t := by
  intro z
  subst z
  obtain ⟨_, _, _, _, _, h1, _⟩ := h
  rw [h1] at e
  cases e
theorem p18 : (10 : Int) ^ (18 : Int).toNat = 1000000000000000000 := by decide
theorem p40 : (10 : Int) ^ (40 : Int).toNat = 10000000000000000000000000000000000000000 := by decide
end Lc
namespace Lc
open PySem PySem.Spec PyProof.Rows L2
/-- the tape, its list at l -/
def TapeL (l : Addr) (H : Hp) (t : Addr) : Prop := ∃ (ns : List Int) (pos rest mix : Int), H t = some (.lst [.ref l, .int pos, .int rest, .int mix]) ∧ H l = some (.lst (ns.map V.int)) ∧ 0 ≤ pos ∧ 0 ≤ rest ∧ 0 ≤ mix ∧ mix < 2147483647
theorem TapeL.tape {l : Addr} {H : Hp} {t : Addr} (h : TapeL l H t) : Tape H t := ⟨l, h⟩
theorem TapeL.same {l : Addr} {H H' : Hp} {t : Addr} (h : TapeL l H t) (s : Same H H') : TapeL l H' t := by
  obtain ⟨ns, pos, rest, mix, h1, h2, h3⟩ := h
  exact ⟨ns, pos, rest, mix, s _ _ h1, s _ _ h2, h3⟩
theorem TapeL.list {l : Addr} {H : Hp} {t : Addr} (h : TapeL l H t) : ∃ xs, H l = some (.lst xs) := by
  obtain ⟨ns, pos, rest, mix, h1, h2, h3⟩ := h
  exact ⟨_, h2⟩
/-- another object is written -/
theorem TapeL.upd {l : Addr} {H : Hp} {t a : Addr} {o : HO} (h : TapeL l H t) (n1 : a ≠ t) (n2 : a ≠ l) : TapeL l (upd H a o) t := by
  obtain ⟨ns, pos, rest, mix, h1, h2, h3⟩ := h
  exact ⟨ns, pos, rest, mix, by rw [upd_ne (Ne.symm n1)]; exact h1, by rw [upd_ne (Ne.symm n2)]; exact h2, h3⟩
def spDrawL : Sp := fun vs H Q _ => ∃ (t l : Addr) (many : Int), vs = [.ref t, .int many] ∧ TapeL l H t ∧ 0 < many ∧ many.natAbs < 2 ^ 4000 ∧ ∀ (k : Int) (H' : Hp), 0 ≤ k → k < many → TapeL l H' t → SameB t H H' → Q (.int k) H'
theorem fn_weak {P : Program} {w : World} {K : PySem.W.Frag} {mg : Str → Option Value} {base : Heap} {CX : CXT} {k : Nat} {f : Addr} {fd : FuncData} {ps : List Str} {sp sp' : Sp} (h : ∀ vs H Q E, sp vs H Q E → sp' vs H Q E) (F : FnOk P w K mg base CX k f fd ps sp') : FnOk P w K mg base CX k f fd ps sp :=
  ⟨fun vs H Q E z => F.len vs H Q E (h vs H Q E z), fun A outer s H args us vs Q E a b c d z => F.run A outer s H args us vs Q E a b c d (h vs H Q E z)⟩
theorem draw_weak {vs : List V} {H : Hp} {Q : VK} {E : XK} (h : spDraw vs H Q E) : spDrawL vs H Q E := by
  obtain ⟨t, m, e, ⟨l, hT⟩, h1, h2, k⟩ := h
  exact ⟨t, l, m, e, hT, h1, h2, fun k1 H' a b c d => k k1 H' a b c.tape d⟩
end Lc
set_option Elab.async false
set_option linter.all false
set_option maxRecDepth 100000
set_option maxHeartbeats 4000000
namespace Lc
open PySem PySem.Spec PyProof.Rows L2
/-- names of built-ins that no text binds -/
structure Bt (mg : Str → Option Value) : Prop where
  isi : mg "isinstance" = none
  int : mg "int" = none
  bool : mg "bool" = none
  str : mg "str" = none
  tuple : mg "tuple" = none
  list : mg "list" = none
  dict : mg "dict" = none
  len : mg "len" = none
  abs : mg "abs" = none
  min : mg "min" = none
  all : mg "all" = none
  repr : mg "repr" = none
  range : mg "range" = none
  enum : mg "enumerate" = none
  ve : mg "ValueError" = none
  zd : mg "ZeroDivisionError" = none
  ie : mg "IndexError" = none
  oe : mg "OverflowError" = none
def btNames : List Str := ["isinstance", "int", "bool", "str", "tuple", "list", "dict", "len", "abs", "min", "all", "repr", "range", "enumerate", "ValueError", "ZeroDivisionError", "IndexError", "OverflowError"]
/-! ## x is True, x any value -/
def rIsBA : R2 := fun x y H Q => ∃ b : Bool, y = .bl b ∧ Q (.bl (decide (x = .bl b))) H
theorem op_isBA {X : Cx} : OpR X (compareOp .Is) rIsBA := by
  intro pins s σ H x y v u Q I rx ry h
  obtain ⟨b, rfl, q⟩ := h
  cases (show u = Value.bool b from ry)
  have key : plainIs v (.bool b) = true ∧ (v == Value.bool b) = decide (x = .bl b) := by
    cases x with
    | non => cases (show v = Value.none from rx); exact ⟨rfl, by cases b <;> rfl⟩
    | bl c => cases (show v = Value.bool c from rx); exact ⟨rfl, by cases b <;> cases c <;> rfl⟩
    | int i => obtain ⟨t, rfl⟩ := (show ∃ t, v = Value.int i t from rx); exact ⟨rfl, by cases b <;> rfl⟩
    | str i => obtain ⟨t, rfl⟩ := (show ∃ t, v = Value.str i t from rx); exact ⟨rfl, by cases b <;> rfl⟩
    | byt i => obtain ⟨t, rfl⟩ := (show ∃ t, v = Value.bytes i t from rx); exact ⟨rfl, by cases b <;> rfl⟩
    | flt i => obtain ⟨t, rfl⟩ := (show ∃ t, v = Value.float i t from rx); exact ⟨rfl, by cases b <;> rfl⟩
    | ref a => cases (show v = Value.ref a from rx); exact ⟨rfl, by cases b <;> rfl⟩
    | ty n => cases (show v = Value.type n from rx); exact ⟨rfl, by cases b <;> rfl⟩
  refine wpAny_is_plain key.1 ?_
  rw [key.2]
  exact ⟨.bl _, H, I, rfl, q⟩
/-! ## Texts of few signs -/
structure Sh (n : Nat) (x : Str) : Prop where
  len : x.cps.toList.length ≤ n
  ok : ∀ c ∈ x.cps.toList, c < 1114112
theorem Sh.mono {n m : Nat} {x : Str} (h : Sh n x) (l : n ≤ m) : Sh m x := ⟨Nat.le_trans h.len l, h.ok⟩
theorem Sh.line {n : Nat} {x : Str} (h : Sh n x) (l : n ≤ 1000) : x.length ≤ sizeLine := by
  have : x.length = x.cps.toList.length := by show x.cps.size = _; simp
  rw [this]
  exact Nat.le_trans h.len (Nat.le_trans l (by decide))
theorem sh_app {n m : Nat} {x y : Str} (h : Sh n x) (g : Sh m y) : Sh (n + m) (x ++ y) := by
  have e : (x ++ y).cps.toList = x.cps.toList ++ y.cps.toList := by
    show (x.cps ++ y.cps).toList = _
    simp
  refine ⟨?_, fun c hc => ?_⟩
  · rw [e, List.length_append]
    exact Nat.add_le_add h.len g.len
  · rw [e] at hc
    rcases List.mem_append.mp hc with hc | hc
    · exact h.ok c hc
    · exact g.ok c hc
theorem sh_one {c : Nat} (h : c < 1114112) : Sh 1 ⟨#[c]⟩ := ⟨Nat.le_refl _, fun d hd => by
  have : d = c := by simpa using hd
  rw [this]
  exact h⟩
theorem sh_sub {n : Nat} {x : Str} {l : List Nat} (h : Sh n x) (s : l.Sublist x.cps.toList) : Sh n ⟨l.toArray⟩ := by
  refine ⟨?_, fun c hc => ?_⟩
  · show l.toArray.toList.length ≤ n
    exact Nat.le_trans s.length_le h.len
  · exact h.ok c (s.subset (by simpa using hc))
theorem sh_cut {n : Nat} {x : Str} (lo hi : Option Int) (h : Sh n x) : Sh n (cutS x lo hi) := sh_sub h ((List.take_sublist _ _).trans (List.drop_sublist _ _))
theorem foldl_app : ∀ (l : List (Array Nat)) (a : Array Nat), (l.foldl (· ++ ·) a).toList = a.toList ++ (l.map Array.toList).flatten
  | [], a => by simp
  | b :: l, a => by
    show ((l.foldl (· ++ ·) (a ++ b))).toList = _
    rw [foldl_app l (a ++ b)]
    simp [List.append_assoc]
theorem sh_mul {x : Str} {n k : Nat} {i : Int} (h : Sh n x) (hi : i.toNat ≤ k) (hn : n ≤ 1) : Sh k (Txt.mul x i) := by
  unfold Txt.mul
  by_cases h1 : i < 1
  · rw [if_pos h1]
    exact ⟨Nat.zero_le _, fun c hc => by cases (by simpa [Str.empty] using hc : c ∈ ([] : List Nat))⟩
  · rw [if_neg h1]
    by_cases h2 : (i == 1 || x.length == 0) = true
    · rw [if_pos h2]
      exact h.mono (by omega)
    · rw [if_neg h2]
      have e : ((List.replicate i.toNat x.cps).foldl (· ++ ·) #[]).toList = (List.replicate i.toNat x.cps.toList).flatten := by
        rw [foldl_app]
        simp
      refine ⟨?_, fun c hc => ?_⟩
      · show ((List.replicate i.toNat x.cps).foldl (· ++ ·) #[]).toList.length ≤ k
        rw [e, List.length_flatten]
        have : ((List.replicate i.toNat x.cps.toList).map List.length).sum ≤ i.toNat * 1 := by
          have key : ∀ m : Nat, ((List.replicate m x.cps.toList).map List.length).sum ≤ m * 1 := by
            intro m
            induction m with
            | zero => simp
            | succ m ih =>
              rw [List.replicate_succ, List.map_cons, List.sum_cons]
              have := Nat.le_trans h.len hn
              omega
          exact key _
        omega
      · have hc : c ∈ ((List.replicate i.toNat x.cps).foldl (· ++ ·) #[]).toList := hc
        rw [e] at hc
        obtain ⟨l, hl, hcl⟩ := List.mem_flatten.mp hc
        rw [List.eq_of_mem_replicate hl] at hcl
        exact h.ok c hcl
theorem mul_ok {x : Str} {i : Int} (h : x.cps.size ≤ 1) (h2 : i < 1000) (h3 : -1000 < i) : MulOk x i := by
  have hx : x.length ≤ 1 := h
  refine ⟨by simp; omega, fun h1 _ => ?_, fun h1 _ => ?_⟩
  · have : (2 ^ 63 - 1 : Int) / i ≥ 1 := by
      have : (1 : Int) * i ≤ 2 ^ 63 - 1 := by omega
      exact (Int.le_ediv_iff_mul_le (by omega)).mpr this
    omega
  · unfold Builtin.Str.tooLong
    have : x.length * i.toNat ≤ 1000 := by
      have : x.length * i.toNat ≤ 1 * i.toNat := Nat.mul_le_mul_right _ hx
      omega
    have : ¬ (x.length * i.toNat > sizeLine) := by
      have : (1000 : Nat) ≤ sizeLine := by decide
      omega
    simpa using this
def rMulS : R2 := fun x y H Q => ∃ (z : Str) (i : Int), x = .str z ∧ y = .int i ∧ MulOk z i ∧ Q (.str (Txt.mul z i)) H
theorem op_mulS {X : Cx} : OpR X (binaryOp .Mult) rMulS := by
  intro pins s σ H x y v u Q I rx ry h
  obtain ⟨z, i, rfl, rfl, ok, q⟩ := h
  obtain ⟨t, rfl⟩ := (show ∃ t, v = Value.str z t from rx)
  obtain ⟨t2, rfl⟩ := (show ∃ t, u = Value.int i t from ry)
  exact SB.mul ok fun t' k => ⟨.str _, H, I.tok _, ⟨_, rfl⟩, q⟩
theorem glued_sh : ∀ (ys : List Str), (∀ y ∈ ys, Sh 1 y) → Sh ys.length (Str.join Str.empty ys)
  | [], _ => ⟨Nat.le_refl _, fun c hc => by cases (by simpa [Str.join, Str.empty] using hc : c ∈ ([] : List Nat))⟩
  | [x], h => h x List.mem_cons_self
  | x :: y :: r, h => by
    have ih := glued_sh (y :: r) fun z hz => h z (List.mem_cons_of_mem _ hz)
    have e : Str.join Str.empty (x :: y :: r) = x ++ Str.empty ++ Str.join Str.empty (y :: r) := rfl
    rw [e]
    have s0 : Sh 0 Str.empty := ⟨Nat.le_refl _, fun c hc => by cases (by simpa [Str.empty] using hc : c ∈ ([] : List Nat))⟩
    exact (sh_app (sh_app (h x List.mem_cons_self) s0) ih).mono (by simp; omega)
/-! ## repr of a short text, of a bounded number -/
theorem shw_text {K : PySem.W.Frag} {H : Hp} {n : Nat} {x : Str} (h : Sh n x) (l : n ≤ 1000) : Shw K H (.str x) (PyData.str x).shown := by
  refine .data (.str x) rfl rfl (by simp [PyData.depth]) ?_
  show (reprText x).length ≤ sizeLine
  have := StrLaws.reprText_len x (fun c hc => Nat.lt_trans (h.ok c hc) (by decide))
  have e : x.length = x.cps.toList.length := by show x.cps.size = _; simp
  have := h.len
  have : (10002 : Nat) ≤ sizeLine := by decide
  omega
theorem num_len {i : Int} (h : i.natAbs < 2 ^ 1000) : (PyData.int i).showable = true ∧ (PyData.int i).shown.length ≤ 1921 := by
  have l : i.natAbs.log2 < 1920 := by
    by_cases z : i.natAbs = 0
    · rw [z]
      decide
    · exact Nat.lt_of_lt_of_le ((Nat.log2_lt z).mpr h) (by decide)
  exact ⟨decide_eq_true l, int_text_len_1921 l⟩
end Lc
namespace Lc
open PySem PySem.Spec PyProof.Rows L2
/-! ## Names -/
def letters : Str := "abcdefghijklmnopqrstuvwxyz"
def signs : Str := "abcdefghijklmnopqrstuvwxyz0123456789"
def inS (c : Nat) : Bool := decide (c ∈ signs.cps.toList)
def inL (c : Nat) : Bool := decide (c ∈ letters.cps.toList)
def nameL : List Nat → Bool
  | [] => false
  | c :: r => decide ((c :: r).length ≤ 12) && (inL c && (c :: r).all inS)
def nameB : V → Bool
  | .str x => nameL x.cps.toList
  | _ => false
abbrev rInS : R2 := fun x y H Q => ∃ (c : Nat) (z : Str), x = .str ⟨#[c]⟩ ∧ y = .str z ∧ Q (.bl (decide (c ∈ z.cps.toList))) H
def spName : Sp := fun vs H Q _ => ∃ (v : V) (t : String), vs = [v] ∧ TyN H v t ∧ (∀ x, v = .str x → x.length ≤ sizeLine) ∧ ∀ H', Same H H' → Q (.bl (nameB v)) H'
def spLName : Sp := fun vs H Q _ => ∃ t : Addr, vs = [.ref t] ∧ Tape H t ∧ ∀ (x : Str) (H' : Hp), Sh 12 x → Tape H' t → SameB t H H' → Q (.str x) H'
theorem lenL (x : Str) : x.length = x.cps.toList.length := by show x.cps.size = _; simp
theorem nil_of {x : Str} (h : x.cps.toList = []) : x = ⟨#[]⟩ := by
  obtain ⟨⟨l⟩⟩ := x
  have : l = [] := h
  rw [this]
theorem dec_empty (x : Str) : decide (V.str x = V.str "") = decide (x.cps.toList = []) := by
  rw [Bool.eq_iff_iff, decide_eq_true_iff, decide_eq_true_iff]
  constructor
  · intro h
    injection h with h
    rw [h]
    rfl
  · intro h
    rw [nil_of h]
    rfl
theorem name_nil {x : Str} (h : x.cps.toList = []) : nameB (.str x) = false := by
  show nameL x.cps.toList = false
  rw [h]
  rfl
theorem name_long {x : Str} (h : ¬ x.cps.toList.length ≤ 12) : nameB (.str x) = false := by
  show nameL x.cps.toList = false
  cases e : x.cps.toList with
  | nil => rfl
  | cons c r =>
    rw [e] at h
    show (decide ((c :: r).length ≤ 12) && _) = false
    rw [decide_eq_false h]
    rfl
theorem name_is {x : Str} {c : Nat} {r : List Nat} (e : x.cps.toList = c :: r) (h : x.cps.toList.length ≤ 12) : nameB (.str x) = (inL c && (c :: r).all inS) := by
  show nameL x.cps.toList = _
  rw [e] at h ⊢
  show (decide ((c :: r).length ≤ 12) && _) = _
  rw [decide_eq_true h]
  rfl
/-- the list of a comprehension over a text's signs, as it grows -/
theorem grow {x : Str} {i : Nat} {c : Nat} (h : x.cps[i]? = some c) (p : Nat → Bool) : (x.cps.toList.take i).map (fun c => V.bl (p c)) ++ [V.bl (p c)] = (x.cps.toList.take (i + 1)).map fun c => V.bl (p c) := by
  have h2 : x.cps.toList[i]? = some c := by rw [Array.getElem?_toList]; exact h
  rw [List.take_succ, h2, List.map_append]
  rfl
end Lc
namespace Lc
open PySem PySem.Spec PyProof.Rows L2
theorem cut26 : cutS signs none (some 26) = letters := by decide +kernel
theorem signs_ok : ∀ c ∈ signs.cps.toList, c < 1114112 := by decide +kernel
theorem signs_len : signs.cps.toList.length = 36 := by decide +kernel
theorem at_text {l : List Nat} {i : Int} (h0 : 0 ≤ i) (h1 : i < (l.length : Int)) : ∃ c, atI l i = some c ∧ c ∈ l := by
  obtain ⟨n, rfl⟩ : ∃ n : Nat, i = (n : Int) := ⟨i.toNat, by omega⟩
  have h : n < l.length := by omega
  exact ⟨l[n], atI_nat (List.getElem?_eq_getElem h), List.getElem_mem h⟩
theorem big1000 {z : Int} (h1 : 0 ≤ z) (h2 : z ≤ 1000) : z.natAbs < 2 ^ 4000 := by
  have e : (2 : Nat) ^ 10 = 1024 := by decide
  exact Nat.lt_of_lt_of_le (show z.natAbs < 2 ^ 10 by omega) (Nat.pow_le_pow_right (by decide) (by decide))
theorem sh_a : Sh 1 (PySem.Str.ofString "a") := ⟨by decide +kernel, by decide +kernel⟩
theorem a_size : (PySem.Str.ofString "a").cps.size ≤ 1 := by decide +kernel
theorem sh_len {n : Nat} {x : Str} (h : Sh n x) : x.length ≤ n := by rw [lenL]; exact h.len
end Lc
namespace Lc
open PySem PySem.Spec PyProof.Rows L2
theorem join_sh (ys : List Str) (h : ∀ y ∈ ys, Sh 1 y) : Sh ys.length (Txt.join (PySem.Str.ofString "") ys) := by
  have e : Txt.join (PySem.Str.ofString "") ys = Str.join Str.empty ys := by
    exact (StrLaws.glued_eq_join (PySem.Str.ofString "") ys).trans rfl
  rw [e]
  exact glued_sh ys h
end Lc
set_option Elab.async false
set_option linter.all false
set_option maxRecDepth 100000
set_option maxHeartbeats 4000000
namespace Lc
open PySem PySem.Spec PyProof.Rows L2
/-! ## Flat values and what they are shown as -/
structure Fl (v : V) (d : PyData) (s : String) : Prop where
  dp : ∀ (K : PySem.W.Frag) (H : Hp), Dp K H v d
  ty : ∀ H : Hp, TyN H v s
  sh : d.showable = true
  nd : d.hasDict = false
  dz : d.depth = 0
  ln : d.shown.length ≤ 20000
theorem fl_non : Fl .non .none "NoneType" := ⟨fun _ _ => .non, fun _ => .non, rfl, rfl, rfl, by decide +kernel⟩
theorem fl_bl (b : Bool) : Fl (.bl b) (.bool b) "bool" := ⟨fun _ _ => .bl b, fun _ => .bl b, rfl, rfl, rfl, by cases b <;> decide +kernel⟩
theorem fl_int {i : Int} (h : i.natAbs < 2 ^ 1000) : Fl (.int i) (.int i) "int" := ⟨fun _ _ => .int i, fun _ => .int i, (num_len h).1, rfl, rfl, Nat.le_trans (num_len h).2 (by decide)⟩
theorem fl_str {x : Str} {n : Nat} (h : Sh n x) (l : n ≤ 1930) : Fl (.str x) (.str x) "str" := by
  refine ⟨fun _ _ => .str x, fun _ => .str x, rfl, rfl, rfl, ?_⟩
  show (reprText x).length ≤ 20000
  have := StrLaws.reprText_len x (fun c hc => Nat.lt_trans (h.ok c hc) (by decide))
  have e := lenL x
  have := h.len
  omega
theorem sh_string (s : String) : ∀ c ∈ (PySem.Str.ofString s).cps.toList, c < 1114112 := by
  intro c hc
  rw [Str.ofString_eq_toList] at hc
  have hc : c ∈ s.toList.map Char.toNat := by simpa using hc
  obtain ⟨ch, _, rfl⟩ := List.mem_map.mp hc
  have := ch.valid
  rcases this with h | ⟨_, h⟩
  · exact Nat.lt_trans h (by decide)
  · exact h
theorem sh_num {i : Int} (h : i.natAbs < 2 ^ 1000) : Sh 1921 (PySem.Str.ofString (toString i)) := ⟨by rw [← lenL]; exact (num_len h).2, sh_string _⟩
/-! ## Things: is it a number within the limit, how is it shown -/
def lim : Int := 10000000000000000000000000000000000000000
def limB : V → V → Bool
  | .int n, .int d => decide ((if n < 0 then -n else n) ≤ lim) && decide (d ≤ lim)
  | _, _ => false
def numB (x y : V) : Bool := ratB x y && limB x y
inductive Thing (H : Hp) : V → Bool → Prop
  | other {v : V} {t : String} (h : TyN H v t) (n : t ≠ "tuple") (l : ∀ x, v = .str x → x.length ≤ sizeLine) : Thing H v false
  | len {a : Addr} {xs : List V} (e : H a = some (.tup xs)) (n : xs.length ≠ 2) : Thing H (.ref a) false
  | pair {a : Addr} {x y : V} {tx ty : String} (e : H a = some (.tup [x, y])) (hx : TyN H x tx) (hy : TyN H y ty) : Thing H (.ref a) (numB x y)
theorem Thing.same {H H' : Hp} {v : V} {b : Bool} (h : Thing H v b) (s : Same H H') : Thing H' v b := by
  cases h with
  | other h n l => exact .other (h.same s) n l
  | len e n => exact .len (s _ _ e) n
  | pair e hx hy => exact .pair (s _ _ e) (hx.same s) (hy.same s)
theorem Thing.ty {H : Hp} {v : V} {b : Bool} (h : Thing H v b) : ∃ t, TyN H v t ∧ ∀ x, v = .str x → x.length ≤ sizeLine := by
  cases h with
  | other h n l => exact ⟨_, h, l⟩
  | len e n => exact ⟨_, .tup e, fun x z => nomatch z⟩
  | pair e hx hy => exact ⟨_, .tup e, fun x z => nomatch z⟩
/-- whatever is done to the tape at t -/
def Thg (K : PySem.W.Frag) (t : Addr) (H : Hp) (v : V) : Prop := ∃ (b : Bool) (z : Str), ∀ H', SameB t H H' → Thing H' v b ∧ Shw K H' v z
theorem thg_flat {K : PySem.W.Frag} {t : Addr} {H : Hp} {v : V} {d : PyData} {s : String} (h : Fl v d s) (n : s ≠ "tuple") (l : ∀ x, v = .str x → x.length ≤ sizeLine) : Thg K t H v :=
  ⟨false, d.shown, fun H' _ => ⟨.other (h.ty H') n l, .data (h.dp K H') h.sh h.nd (by rw [h.dz]; decide) (Nat.le_trans h.ln (by decide))⟩⟩
/-- the items of a display -/
inductive Fls : List V → List PyData → Prop
  | nil : Fls [] []
  | cons {v : V} {d : PyData} {s : String} {vs : List V} {ds : List PyData} (h : Fl v d s) (r : Fls vs ds) : Fls (v :: vs) (d :: ds)
theorem Fls.dps {K : PySem.W.Frag} {H : Hp} : ∀ {vs : List V} {ds : List PyData}, Fls vs ds → DpAll K H vs ds
  | _, _, .nil => .nil
  | _, _, .cons h r => .cons (h.dp K H) r.dps
theorem Fls.facts : ∀ {vs : List V} {ds : List PyData}, Fls vs ds → PyData.showableAll ds = true ∧ PyData.hasDictAll ds = false ∧ PyData.depthAll ds = 0 ∧ ((PyData.shownAll ds).map (·.length)).sum ≤ 20000 * ds.length ∧ (PyData.shownAll ds).length = ds.length ∧ ds.length = vs.length
  | _, _, .nil => ⟨rfl, rfl, rfl, by simp [PyData.shownAll], rfl, rfl⟩
  | _, _, .cons (d := d) (ds := ds) h r => by
    obtain ⟨h1, h2, h3, h4, h5, h6⟩ := r.facts
    refine ⟨?_, ?_, ?_, ?_, ?_, ?_⟩
    · simp [PyData.showableAll, h.sh, h1]
    · simp [PyData.hasDictAll, h.nd, h2]
    · simp [PyData.depthAll, h.dz, h3]
    · simp only [PyData.shownAll, List.map_cons, List.sum_cons, List.length_cons]
      have := h.ln
      omega
    · simp [PyData.shownAll, h5]
    · simp [h6]
theorem shw_tup {K : PySem.W.Frag} {H : Hp} {a : Addr} {vs : List V} {ds : List PyData} (e : H a = some (.tup vs)) (h : Fls vs ds) (l : vs.length ≤ 100) : Shw K H (.ref a) (PyData.tuple ds).shown := by
  obtain ⟨h1, h2, h3, h4, h5, h6⟩ := h.facts
  refine .data (.tup (SqT.of e) h.dps) (by simpa [PyData.showable] using h1) (by simpa [PyData.hasDict] using h2) (by simp [PyData.depth, h3]) ?_
  have := tupleText_len_le (PyData.shownAll ds)
  have s : (3000000 : Nat) ≤ sizeLine := by decide
  simp only [PyData.shown]
  omega
theorem shw_lst {K : PySem.W.Frag} {H : Hp} {a : Addr} {vs : List V} {ds : List PyData} (e : H a = some (.lst vs)) (h : Fls vs ds) (l : vs.length ≤ 100) : Shw K H (.ref a) (PyData.list ds).shown := by
  obtain ⟨h1, h2, h3, h4, h5, h6⟩ := h.facts
  refine .data (.lst (SqL.of e) h.dps) (by simpa [PyData.showable] using h1) (by simpa [PyData.hasDict] using h2) (by simp [PyData.depth, h3]) ?_
  have := listText_len_le (PyData.shownAll ds)
  have s : (3000000 : Nat) ≤ sizeLine := by decide
  simp only [PyData.shown]
  omega
theorem thg_tup {K : PySem.W.Frag} {t a : Addr} {H : Hp} {vs : List V} {ds : List PyData} (n : a ≠ t) (e : H a = some (.tup vs)) (h : Fls vs ds) (l : vs.length ≤ 100) : Thg K t H (.ref a) := by
  by_cases z : vs.length = 2
  · match vs, h, z with
    | [x, y], .cons h1 (.cons h2 .nil), _ => exact ⟨numB x y, _, fun H' s => ⟨.pair (s _ _ n e) (h1.ty H') (h2.ty H'), shw_tup (s _ _ n e) (.cons h1 (.cons h2 .nil)) (by show 2 ≤ 100; decide)⟩⟩
  · exact ⟨false, _, fun H' s => ⟨.len (s _ _ n e) z, shw_tup (s _ _ n e) h l⟩⟩
theorem thg_lst {K : PySem.W.Frag} {t a : Addr} {H : Hp} {vs : List V} {ds : List PyData} (n : a ≠ t) (e : H a = some (.lst vs)) (h : Fls vs ds) (l : vs.length ≤ 100) : Thg K t H (.ref a) :=
  ⟨false, _, fun H' s => ⟨.other (.lst (s _ _ n e)) (by decide) (fun x z => nomatch z), shw_lst (s _ _ n e) h l⟩⟩
theorem thg_dct {K : PySem.W.Frag} {t a : Addr} {H : Hp} (n : a ≠ t) (e : H a = some (.dK [])) : Thg K t H (.ref a) :=
  ⟨false, _, fun H' s => ⟨.other (.dct (s _ _ n e)) (by decide) (fun x z => nomatch z), .empty (s _ _ n e)⟩⟩
theorem Thg.sameB {K : PySem.W.Frag} {t : Addr} {H H' : Hp} {v : V} (h : Thg K t H v) (s : SameB t H H') : Thg K t H' v := by
  obtain ⟨b, z, k⟩ := h
  exact ⟨b, z, fun H2 s2 => k H2 (s.trans s2)⟩
theorem thg_str {K : PySem.W.Frag} {t : Addr} {H : Hp} {n : Nat} {x : Str} (h : Sh n x) (l : n ≤ 1930) : Thg K t H (.str x) :=
  thg_flat (fl_str h l) (by decide) fun y e => by
    injection e with e
    subst e
    rw [lenL]
    exact Nat.le_trans h.len (Nat.le_trans l (by decide))
end Lc
namespace Lc
open PySem PySem.Spec PyProof.Rows L2
theorem ratB_ints {x y : V} (h : ratB x y = true) : ∃ n d : Int, x = .int n ∧ y = .int d ∧ 0 < d ∧ gd n d = 1 := by
  cases x with
  | int n =>
    cases y with
    | int d =>
      have h' : (decide (0 < d) && decide (gd n d = 1)) = true := h
      obtain ⟨h1, h2⟩ := Bool.and_eq_true_iff.mp h'
      exact ⟨n, d, rfl, rfl, of_decide_eq_true h1, of_decide_eq_true h2⟩
    | _ => cases h
  | _ => cases y <;> cases h
end Lc
namespace Lc
open PySem PySem.Spec PyProof.Rows L2
/-! ## A word behind an expression: what follows is shown once -/
def tMid (te : TE) : TE := fun σ H Q => ∃ M : V → Hp → Prop, te σ H M ∧ ∀ v H', M v H' → Q v H'
theorem pe_mid {X : Cx} {e : Expr} {te : TE} (h : PE X e te) : PE X e (tMid te) := by
  refine ⟨fun pins s σ H Q I hq => ?_⟩
  obtain ⟨M, h1, h2⟩ := hq
  exact thn (h.run pins s σ H M I h1) fun u s1 ⟨v, H1, I1, r, q⟩ => ⟨v, H1, I1, r, h2 v H1 q⟩
end Lc
set_option Elab.async false
set_option linter.all false
set_option maxRecDepth 100000
set_option maxHeartbeats 4000000
namespace Lc
open PySem PySem.Spec PyProof.Rows L2
/-! ## enumerate(v), v whatever begins; for .., .. in enumerate(tuple) -/
def itB (h : Heap) (o : Obj) : Heap := (h.push o).push { cls := .type "enumerate", data := .fields #[.none, .bool false, .ref h.objs.size, rawInt 0, .none, .none] }
theorem meets_enum1 {v : Value} {o : Obj} {H : Heap → Prop} (B : Begins v o H) :
    Meets (Builtin.«enumerate.__new__» ⟨[.type "enumerate", v], []⟩) (fun _ R s => H s.heap ∧ R (.ok (.ret (.ref (s.heap.push o).objs.size))) { s with heap := itB s.heap o }) :=
  .of_wp fun prog w A R s h => by
    obtain ⟨hp, g, d, tk, os⟩ := s
    obtain ⟨h1, h⟩ := h
    have hsub := sub_enumerate
    have it1 : ∀ {A' : Around} {E : Value → Shared → Prop} {Q : Value → Shared → Prop}, Q (.ref hp.objs.size) ⟨hp.push o, g, d, tk, os⟩ → wpAny (model prog w) A' (pyIter v) Q E ⟨hp, g, d, tk, os⟩ := fun q => B.iter prog w _ _ ⟨hp, g, d, tk, os⟩ _ h1 q
    wp_walk using it1
    refine wpAny_stack_any fun st => wpAny_pure ?_
    split
    · rename_i c _ _ _ _ _
      cases (c == Value.type "enumerate") <;> (wp_walk using it1; exact ⟨_, rfl, h⟩)
    · wp_walk using it1
      exact ⟨_, rfl, h⟩
theorem call_enum1 {prog : Program} {w : World} {A : Around} {E : Value → Shared → Prop} {s : Shared} {v : Value} {o : Obj} {H : Heap → Prop} {Q : Value → Shared → Prop} (B : Begins v o H) (h1 : H s.heap)
    (h : IsEnum (itB s.heap o) (s.heap.objs.size + 1) s.heap.objs.size 0 .none → (itB s.heap o).get? s.heap.objs.size = some o → (∀ b u, s.heap.get? b = some u → (itB s.heap o).get? b = some u) → Q (.ref (s.heap.objs.size + 1)) { s with heap := itB s.heap o }) :
    wpAny (model prog w) A (call (.type "enumerate") [v]) Q E s := by
  have sz : (s.heap.push o).objs.size = s.heap.objs.size + 1 := Heap.size_push ..
  have en : IsEnum (itB s.heap o) (s.heap.objs.size + 1) s.heap.objs.size 0 .none := by
    have z := Heap.get?_push_size (s.heap.push o) (o := { cls := .type "enumerate", data := .fields #[.none, .bool false, .ref s.heap.objs.size, rawInt 0, .none, .none] }) rfl
    rw [sz] at z
    exact z
  refine callType_new F.called_enumerate (by decide) (F.typeCall_enumerate_1 _) (F.newCall_enumerate_1 _) (fun obj => F.args_object_init_2 obj _) F.entry_enumerate_new (meets_enum1 B) ⟨h1, ?_⟩
  show _ ∧ _
  rw [sz]
  exact ⟨⟨_, en, rfl⟩, h en (Heap.get?_push_of_some _ (Heap.get?_push_size _ B.free)) fun b u e => Heap.get?_push_of_some _ (Heap.get?_push_of_some _ e)⟩
/-- the tuple at a, each item in a new pair with its number -/
def IteT (K : PySem.W.Frag) (a : Addr) : It where
  go := fun i H => ∃ (xs : List V) (x : V), SqT K H a xs ∧ xs[i]? = some x
  yld := fun i H v H' => ∃ (q : Addr) (x : V), v = .ref q ∧ H q = none ∧ H' = upd H q (.tup [.int (i : Nat), x]) ∧ ∀ xs, SqT K H a xs → xs[i]? = some x
  stop := fun i H => ∃ xs : List V, SqT K H a xs ∧ xs.length = i
structure EnT (e it a : Addr) (i : Nat) (h : Heap) : Prop where
  en : ∃ old, IsEnum h e it ((i : Nat) : Int) old
  ti : h.IsTupleIter it a i
  n1 : e ≠ it
  n2 : a ≠ it
  n3 : a ≠ e
theorem turn_enT {P : Program} {w : World} {K : PySem.W.Frag} {elts : List Expr} {kk : Nat} {tpos : Pos} (a e it : Addr) : Turn P w K (.Tuple elts kk tpos) (IteT K a) [e, it] e (EnT e it a) where
  mem := List.mem_cons_self
  obj := fun i h st b hb => by
    rcases List.mem_cons.mp hb with rfl | hb
    · obtain ⟨old, he⟩ := st.en
      exact ⟨_, he, fun v q => nomatch q⟩
    · obtain rfl := List.mem_singleton.mp hb
      obtain ⟨o, ho, _, hd⟩ := st.ti
      exact ⟨o, ho, fun v q => by rw [hd] at q; cases q⟩
  keep := fun i h h' st k => by
    obtain ⟨old, he⟩ := st.en
    obtain ⟨o, ho, r⟩ := st.ti
    exact ⟨⟨old, k e List.mem_cons_self _ he⟩, ⟨o, k it (by simp) o ho, r⟩, st.n1, st.n2, st.n3⟩
  item := by
    intro X hP hw hK hc i pins s σ H E I hf st hg
    subst hP hw hK
    obtain ⟨xs, x, hq, hx⟩ := hg
    obtain ⟨its, rv, tp, _⟩ := I.tuple hq
    obtain ⟨u, hu, ru⟩ := rv.get hx
    obtain ⟨old, he⟩ := st.en
    have hu' : its.toArray[i]? = some u := by simpa using hu
    have li : i < its.toArray.size := (Array.getElem?_eq_some_iff.mp hu').1
    refine wpAny_pyNext_enum_itemD (Draws.tuple (A := X.A.in1) (I.ok.hd hc) it a st.n2 its.toArray) he ⟨st.ti, tp⟩ li st.n1 (by simp [st.n1, Ne.symm st.n3]) fun y h' tk hy ho hs hT hz hk => ?_
    obtain rfl : u = y := Option.some.inj (hu'.symm.trans hy)
    have le : e < s.heap.objs.size := Heap.lt_size he
    have lt : it < s.heap.objs.size := by obtain ⟨_, q, _⟩ := st.ti; exact Heap.lt_size q
    refine ⟨_, rfl, wpAny_letOwnedTupleGo_enum (s := { s with heap := h', toks := tk + 1 }) ho fun h2 he2 sb => ?_⟩
    have pair : h2.get? s.heap.objs.size = some { cls := .type "tuple", data := .seq #[.int i tk, u] } := (sb.2 _ (Nat.ne_of_gt le)).trans hT
    have I2 : Inv X pins σ (upd H s.heap.objs.size (.tup [.int (i : Nat), x])) { s with heap := h2, toks := tk + 1 } := by
      refine I.turnedNew (ch := [e, it]) (fun b ob hb q => ?_) hf (Nat.le_refl _) ⟨by show 2 ≤ sizeLine; decide, [.int i tk, u], .cons ⟨_, rfl⟩ (.cons ru .nil), ⟨_, pair, rfl, _, rfl⟩⟩
      have nb : b ≠ e ∧ b ≠ it := by simpa using hb
      exact (sb.2 b nb.1).trans (hk b ob nb.1 nb.2 q)
    refine ⟨.ref s.heap.objs.size, _, I2, rfl, ⟨_, x, rfl, I.hok.fresh (Nat.le_refl _), rfl, fun ys hy => by rw [I.tuple_inj hy hq]; exact hx⟩, ⟨⟨u, ?_⟩, ?_, st.n1, st.n2, st.n3⟩, fun b hb => ?_⟩
    · rw [show ((i + 1 : Nat) : Int) = (i : Int) + 1 by omega]
      exact he2
    · obtain ⟨o, q, r⟩ := hs.1
      exact ⟨o, (sb.2 it (Ne.symm st.n1)).trans q, r⟩
    · have lb : b < s.heap.objs.size := by
        rcases List.mem_cons.mp hb with rfl | hb
        · exact le
        · rw [List.mem_singleton.mp hb]; exact lt
      rw [upd_ne (Nat.ne_of_lt lb)]
      exact (hf b hb).1
  done := by
    intro X hP hw hK hc i pins s σ H E I hf st hg
    subst hP hw hK
    obtain ⟨xs, hq, hx⟩ := hg
    obtain ⟨its, rv, tp, _⟩ := I.tuple hq
    obtain ⟨old, he⟩ := st.en
    have hl : i = its.toArray.size := by rw [List.size_toArray, ← rv.length]; exact hx.symm
    obtain ⟨f0, f1, _, f3, f4, f5⟩ := hf it (by simp)
    subst hl
    exact wpAny_pyNext_enum_endD (Draws.tuple (A := X.A.in1) (I.ok.hd hc) it a st.n2 its.toArray) he ⟨st.ti, tp⟩ fun h' eb => ⟨rfl, I.turned (t' := s.toks) (fun b o hb q => eb b o hb q) f0 f1 f3 f4 f5⟩
  self := fun A i s Q E st h => by
    obtain ⟨old, he⟩ := st.en
    exact wpAny_pyIter_enum he h
def iEnT (K : PySem.W.Frag) (ta : TA) : TI := fun σ H R => ta σ H fun vs H1 => ∃ a xs, vs = [.ref a] ∧ SqT K H1 a xs ∧ R (IteT K a) H1
theorem pi_enT {X : Cx} {e : Expr} {ta : TA} {p pos tpos : Pos} {elts : List Expr} {kk : Nat} (hg : Gl X "enumerate") (hm : X.mg "enumerate" = none) (ha : PA X [e] ta) (hs : starEach [e] X.env = [(false, eval e X.env)] := by rfl) :
    PI X (.Tuple elts kk tpos) (.Call (.Name "enumerate" p) [e] [] pos) (iEnT X.K ta) := by
  refine ⟨fun pins s σ H R I h => Call_ (ld_blt I hg hm boot_enumerate (PyProof.Rows.callWith_type1 (thn (ha.run pos pins s σ H _ I h) fun us s1 ⟨vs, H1, I1, r1, q1⟩ => ?_) hs rfl))⟩
  obtain ⟨a, xs, rfl, hq, q⟩ := q1
  obtain ⟨u, rfl, ru⟩ := vals1 r1
  cases ru
  obtain ⟨its, rv, tp, _⟩ := I1.tuple hq
  have la : a < s1.heap.objs.size := by obtain ⟨_, z, _⟩ := tp; exact Heap.lt_size z
  refine call_enum1 (begins_tuple a its.toArray) tp fun en ito kp => wpAny_pyIter_enum en ?_
  refine ⟨_, [s1.heap.objs.size + 1, s1.heap.objs.size], _, _, H1, rfl, I1.kept (t' := s1.toks) kp, turn_enT a (s1.heap.objs.size + 1) s1.heap.objs.size, ⟨⟨.none, en⟩, ⟨_, ito, rfl, rfl⟩, Nat.succ_ne_self _, Nat.ne_of_lt la, Nat.ne_of_lt (Nat.lt_succ_of_lt la)⟩, fun b hb => ?_, q⟩
  have le : s1.heap.objs.size ≤ b := by
    rcases List.mem_cons.mp hb with rfl | hb
    · exact Nat.le_add_right _ _
    · rw [List.mem_singleton.mp hb]; exact Nat.le_refl _
  exact I1.fpOk le (I1.hok.fresh le)
theorem walk_enT {K : PySem.W.Frag} {a : Addr} {xs : List V} : Walk (IteT K a) xs.length (fun H => SqT K H a xs) (YPair (fun i => some (.int (i : Nat))) (fun i => xs[i]?)) := by
  refine ⟨fun i _ hi q => ⟨xs, xs[i], q, by simp [hi]⟩, fun _ q => ⟨xs, q, rfl⟩, fun i H v H' _ q y => ?_⟩
  obtain ⟨c, x, h1, h2, h3, h4⟩ := y
  exact ⟨c, .int (i : Nat), x, h1, h2, h3, rfl, h4 xs q⟩
end Lc
set_option Elab.async false
set_option linter.all false
set_option maxRecDepth 100000
set_option maxHeartbeats 4000000
namespace Lc
open PySem PySem.Spec PyProof.Rows L2
/-! ## Deep data that stands in the abstract heap -/
mutual
inductive Dh (H : Hp) : V → PyData → Prop
  | non : Dh H .non .none
  | bl (b : Bool) : Dh H (.bl b) (.bool b)
  | int (i : Int) : Dh H (.int i) (.int i)
  | str (x : Str) : Dh H (.str x) (.str x)
  | tup {a : Addr} {xs : List V} {ds : List PyData} (e : H a = some (.tup xs)) (h : DhAll H xs ds) : Dh H (.ref a) (.tuple ds)
  | lst {a : Addr} {xs : List V} {ds : List PyData} (e : H a = some (.lst xs)) (h : DhAll H xs ds) : Dh H (.ref a) (.list ds)
  | dct {a : Addr} (e : H a = some (.dK [])) : Dh H (.ref a) (.dict [])
inductive DhAll (H : Hp) : List V → List PyData → Prop
  | nil : DhAll H [] []
  | cons {v : V} {vs : List V} {d : PyData} {ds : List PyData} (h : Dh H v d) (r : DhAll H vs ds) : DhAll H (v :: vs) (d :: ds)
end
mutual
theorem Dh.same {H H' : Hp} (s : Same H H') : ∀ {v : V} {d : PyData}, Dh H v d → Dh H' v d
  | _, _, .non => .non
  | _, _, .bl b => .bl b
  | _, _, .int i => .int i
  | _, _, .str x => .str x
  | _, _, .tup e h => .tup (s _ _ e) (DhAll.same s h)
  | _, _, .lst e h => .lst (s _ _ e) (DhAll.same s h)
  | _, _, .dct e => .dct (s _ _ e)
theorem DhAll.same {H H' : Hp} (s : Same H H') : ∀ {vs : List V} {ds : List PyData}, DhAll H vs ds → DhAll H' vs ds
  | _, _, .nil => .nil
  | _, _, .cons h r => .cons (Dh.same s h) (DhAll.same s r)
end
def tyD : PyData → String
  | .none => "NoneType"
  | .bool _ => "bool"
  | .int _ => "int"
  | .str _ => "str"
  | .tuple _ => "tuple"
  | .list _ => "list"
  | .dict _ => "dict"
theorem Dh.ty {H : Hp} {v : V} {d : PyData} (h : Dh H v d) : TyN H v (tyD d) := by
  cases h with
  | non => exact .non
  | bl b => exact .bl b
  | int i => exact .int i
  | str x => exact .str x
  | tup e _ => exact .tup e
  | lst e _ => exact .lst e
  | dct e => exact .dct e
theorem DhAll.len {H : Hp} {vs : List V} {ds : List PyData} (h : DhAll H vs ds) : vs.length = ds.length := by
  match h with
  | .nil => rfl
  | .cons _ r => rw [List.length_cons, List.length_cons, DhAll.len r]
theorem DhAll.get {H : Hp} : ∀ {vs : List V} {ds : List PyData}, DhAll H vs ds → ∀ (i : Nat) (v : V), vs[i]? = some v → ∃ d, ds[i]? = some d ∧ Dh H v d
  | _, _, .nil, i, v, e => by simp at e
  | _, _, .cons h r, 0, v, e => by
    obtain rfl := Option.some.inj e
    exact ⟨_, rfl, h⟩
  | _, _, .cons h r, i + 1, v, e => by
    obtain ⟨d, e1, e2⟩ := DhAll.get r i v (by simpa using e)
    exact ⟨d, by simpa using e1, e2⟩
theorem DhAll.append {H : Hp} : ∀ {vs : List V} {ds : List PyData} {us : List V} {es : List PyData}, DhAll H vs ds → DhAll H us es → DhAll H (vs ++ us) (ds ++ es)
  | _, _, _, _, .nil, r => r
  | _, _, _, _, .cons h t, r => .cons h (DhAll.append t r)
mutual
theorem Dh.dp {K : PySem.W.Frag} {H : Hp} : ∀ {v : V} {d : PyData}, Dh H v d → d.hasDict = false → Dp K H v d
  | _, _, .non, _ => .non
  | _, _, .bl b, _ => .bl b
  | _, _, .int i, _ => .int i
  | _, _, .str x, _ => .str x
  | _, _, .tup e h, n => .tup (SqT.of e) (DhAll.dp h (by simpa [PyData.hasDict] using n))
  | _, _, .lst e h, n => .lst (SqL.of e) (DhAll.dp h (by simpa [PyData.hasDict] using n))
  | _, _, .dct e, n => by simp [PyData.hasDict] at n
theorem DhAll.dp {K : PySem.W.Frag} {H : Hp} : ∀ {vs : List V} {ds : List PyData}, DhAll H vs ds → PyData.hasDictAll ds = false → DpAll K H vs ds
  | _, _, .nil, _ => .nil
  | _, _, .cons h r, n => by
    rw [PyData.hasDictAll, Bool.or_eq_false_iff] at n
    exact .cons (Dh.dp h n.1) (DhAll.dp r n.2)
end
theorem Dh.shw {K : PySem.W.Frag} {H : Hp} {v : V} {d : PyData} (h : Dh H v d) (h1 : d.showable = true) (h2 : d.hasDict = false) (h3 : d.depth ≤ 60) (h4 : d.shown.length ≤ sizeLine) : Shw K H v d.shown := .data (h.dp h2) h1 h2 h3 h4
/-! ## How large it is when it is shown -/
structure Tm (k n : Nat) (d : PyData) : Prop where
  sh : d.showable = true
  nd : d.hasDict = false
  dz : d.depth ≤ k
  ln : d.shown.length ≤ n
theorem Tm.mono {k n k' n' : Nat} {d : PyData} (h : Tm k n d) (a : k ≤ k') (b : n ≤ n') : Tm k' n' d := ⟨h.sh, h.nd, Nat.le_trans h.dz a, Nat.le_trans h.ln b⟩
theorem tm_fl {v : V} {d : PyData} {s : String} (h : Fl v d s) : Tm 0 20000 d := ⟨h.sh, h.nd, Nat.le_of_eq h.dz, h.ln⟩
theorem tm_all {k n : Nat} : ∀ {ds : List PyData}, (∀ d ∈ ds, Tm k n d) → PyData.showableAll ds = true ∧ PyData.hasDictAll ds = false ∧ PyData.depthAll ds ≤ k ∧ ((PyData.shownAll ds).map (·.length)).sum ≤ n * ds.length ∧ (PyData.shownAll ds).length = ds.length
  | [], _ => ⟨rfl, rfl, Nat.zero_le _, by simp [PyData.shownAll], rfl⟩
  | d :: ds, h => by
    obtain ⟨h1, h2, h3, h4, h5⟩ := tm_all (ds := ds) fun x hx => h x (List.mem_cons_of_mem _ hx)
    have hd := h d List.mem_cons_self
    refine ⟨?_, ?_, ?_, ?_, ?_⟩
    · simp [PyData.showableAll, hd.sh, h1]
    · simp [PyData.hasDictAll, hd.nd, h2]
    · simp only [PyData.depthAll]
      have := hd.dz
      omega
    · simp only [PyData.shownAll, List.map_cons, List.sum_cons, List.length_cons]
      have := hd.ln
      rw [Nat.mul_succ]
      omega
    · simp [PyData.shownAll, h5]
theorem tm_tup {k n : Nat} {ds : List PyData} (h : ∀ d ∈ ds, Tm k n d) : Tm (k + 1) (n * ds.length + 2 * ds.length + 4) (.tuple ds) := by
  obtain ⟨h1, h2, h3, h4, h5⟩ := tm_all h
  refine ⟨by simpa [PyData.showable] using h1, by simpa [PyData.hasDict] using h2, ?_, ?_⟩
  · simp only [PyData.depth]
    omega
  · have := tupleText_len_le (PyData.shownAll ds)
    simp only [PyData.shown]
    omega
theorem tm_lst {k n : Nat} {ds : List PyData} (h : ∀ d ∈ ds, Tm k n d) : Tm (k + 1) (n * ds.length + 2 * ds.length + 4) (.list ds) := by
  obtain ⟨h1, h2, h3, h4, h5⟩ := tm_all h
  refine ⟨by simpa [PyData.showable] using h1, by simpa [PyData.hasDict] using h2, ?_, ?_⟩
  · simp only [PyData.depth]
    omega
  · have := listText_len_le (PyData.shownAll ds)
    simp only [PyData.shown]
    omega
theorem Dh.shwT {K : PySem.W.Frag} {H : Hp} {v : V} {d : PyData} {k n : Nat} (h : Dh H v d) (t : Tm k n d) (a : k ≤ 60) (b : n ≤ 3000000) : Shw K H v d.shown := h.shw t.sh t.nd (Nat.le_trans t.dz a) (Nat.le_trans t.ln (Nat.le_trans b (by decide)))
end Lc
set_option Elab.async false
set_option linter.all false
set_option maxRecDepth 100000
set_option maxHeartbeats 4000000
namespace Lc
open PySem PySem.Spec PyProof.Rows L2
/-! ## (x, y) * 0, (x, y) * 1 -/
theorem tuple_mul1 (l : Addr) (items : Array Value) (n : Nat) (dd : Option Addr) (sl : Array (Option Value)) (u : Tok) :
    Meets (Builtin.«tuple.__mul__» ⟨[.ref l, .int 1 u], []⟩) (fun _ R s => s.heap.get? l = some { cls := .type "tuple", dict := dd, data := .seq items n, slots := sl } ∧ R (.ok (.ret (Value.ref l))) s) :=
  .of_wp fun prog w A R s h => by
    obtain ⟨hp, g, d, tk, os⟩ := s
    obtain ⟨hl, h⟩ := h
    have f1 := AutoSeq1.idx_int
    have c0 : (decide ((1 : Int) < -(2 ^ 63)) || decide ((1 : Int) ≥ 2 ^ 63)) = false := by decide
    have c1 : (items.isEmpty || (1 : Int) == 1) = true := by simp
    wp_walk using wpAny_loadPart' hl
    repeat (first
      | (refine wpAny_ite_false (decide_eq_false (by rw [c0]; exact Bool.false_ne_true)) ?_; wp_walk using wpAny_loadPart' hl)
      | (refine wpAny_ite_true (decide_eq_true c1) ?_; wp_walk using wpAny_loadPart' hl))
    exact ⟨_, rfl, h⟩
theorem tuple_mul0 (l : Addr) (items : Array Value) (n : Nat) (dd : Option Addr) (sl : Array (Option Value)) (u : Tok) (hne : items.isEmpty = false) :
    Meets (Builtin.«tuple.__mul__» ⟨[.ref l, .int 0 u], []⟩) (fun _ R s => s.heap.get? l = some { cls := .type "tuple", dict := dd, data := .seq items n, slots := sl } ∧
      R (.ok (.ret (Value.ref s.heap.objs.size))) { s with heap := s.heap.push { cls := Value.type "tuple", data := Data.seq #[] } }) :=
  .of_wp fun prog w A R s h => by
    obtain ⟨hp, g, d, tk, os⟩ := s
    obtain ⟨hl, h⟩ := h
    have f1 := AutoSeq1.idx_int
    have c0 : (decide ((0 : Int) < -(2 ^ 63)) || decide ((0 : Int) ≥ 2 ^ 63)) = false := by decide
    have c1 : (items.isEmpty || (0 : Int) == 1) = false := by rw [hne]; rfl
    have c2 : (decide ((0 : Int) ≤ 0) || items.isEmpty) = true := by simp
    wp_walk using wpAny_loadPart' hl
    repeat (first
      | (refine wpAny_ite_false (decide_eq_false (by rw [c0]; exact Bool.false_ne_true)) ?_; wp_walk using wpAny_loadPart' hl)
      | (refine wpAny_ite_false (decide_eq_false (by rw [c1]; exact Bool.false_ne_true)) ?_; wp_walk using wpAny_loadPart' hl)
      | (refine wpAny_ite_true (decide_eq_true c2) ?_; wp_walk using wpAny_loadPart' hl))
    exact ⟨_, rfl, h⟩
def rRep01 (K : PySem.W.Frag) : R2 := fun x y H Q => ∃ l k xs, x = .ref l ∧ y = .int k ∧ SqT K H l xs ∧ xs ≠ [] ∧ ((k = 1 ∧ Q (.ref l) H) ∨ (k = 0 ∧ ∀ p, H p = none → Q (.ref p) (upd H p (.tup []))))
section
variable {X : Cx}
theorem op_rep01 : OpR X (binaryOp .Mult) (rRep01 X.K) := by
  intro pins s σ H x y v u Q I rx ry h
  obtain ⟨l, k, xs, rfl, rfl, hT, hne, h⟩ := h
  cases rx
  obtain ⟨t, rfl⟩ := ry
  obtain ⟨its, r, ⟨⟨cls, dd, data, sl⟩, ho, hc, n, hd⟩, hs⟩ := I.tuple hT
  simp only at hc hd
  subst hc hd
  have hle : its.length = xs.length := r.length.symm
  have hn : its ≠ [] := fun e => hne (by
    rw [e] at hle
    exact List.eq_nil_of_length_eq_zero hle.symm)
  have hi : its.toArray.isEmpty = false := by
    cases its with
    | nil => exact absurd rfl hn
    | cons a b => rfl
  rcases h with ⟨rfl, q⟩ | ⟨rfl, q⟩
  · exact wpAny_binaryOp_repeat_ref (T := "tuple") (U := "int") (by decide) ⟨_, ho, rfl⟩ (fun s' => typeIs_int s' 1 t) noFill_tuple_mul F.fills_int_mul F.slot_int_rmul repeat_tuple F.slot_int_index.lookup
      (call_meets F.slot_int_rmul (typeIs_int s 1 t) F.entry_int_rmul (F.args_int_rmul_2 _ _) (int_rmul_tuple 1 t l its.toArray n dd sl)
        ⟨ho, rfl, ⟨_, ho, rfl⟩, call_meets F.slot_tuple_mul ⟨_, ho, rfl⟩ F.entry_tuple_mul (F.args_tuple_mul_2 _ _) (tuple_mul1 l its.toArray n dd sl t) ⟨ho, .ref l, H, I, rfl, q⟩⟩)
  · refine wpAny_binaryOp_repeat_ref (T := "tuple") (U := "int") (by decide) ⟨_, ho, rfl⟩ (fun s' => typeIs_int s' 0 t) noFill_tuple_mul F.fills_int_mul F.slot_int_rmul repeat_tuple F.slot_int_index.lookup
      (call_meets F.slot_int_rmul (typeIs_int s 0 t) F.entry_int_rmul (F.args_int_rmul_2 _ _) (int_rmul_tuple 0 t l its.toArray n dd sl)
        ⟨ho, rfl, ⟨_, ho, rfl⟩, call_meets F.slot_tuple_mul ⟨_, ho, rfl⟩ F.entry_tuple_mul (F.args_tuple_mul_2 _ _) (tuple_mul0 l its.toArray n dd sl t hi) ⟨ho, ?_⟩⟩)
    refine ⟨.ref s.heap.objs.size, _, I.laid (t' := s.toks) (o := .tup []) (fun b ob q => Heap.get?_push_of_some _ q) (Nat.le_refl _) ?_, rfl, q _ (I.hok.fresh (Nat.le_refl _))⟩
    exact ⟨Nat.zero_le _, [], .nil, IsTup.new _ _⟩
/-! ## What is never reached -/
theorem pss_dead {b : List Stmt} : PSs X b (fun _ _ _ => False) := ⟨fun _ _ _ _ _ _ h => h.elim⟩
theorem pg_dead {e : Expr} : PG X e (fun _ _ _ _ => False) := ⟨fun _ _ _ _ _ _ _ _ _ h => h.elim⟩
/-! ## C(e, ..) in a try -/
def tMakeS (C : Addr) (sp : Sp) (E : L2.St → XK) (t : TA) : TE := fun σ H Q => t σ H fun vs H1 => ∀ x dx, H1 x = none → H1 dx = none → dx ≠ x →
  sp (.ref x :: vs) (upd (upd H1 dx (.own x)) x (.ins C dx [])) (fun v H2 => v = .non ∧ Q (.ref x) H2) (E σ)
theorem pe_makeS {CX : CXT} {k : Nat} {C f : Addr} {fd : FuncData} {ps : List Str} {sp : Sp} {E : L2.St → XK} {x : Str} {p pos : Pos} {e : Expr} {es : List Expr} {t : TA}
    (M : Mk X.K C f) (F : FnOk X.prog X.w X.K X.mg X.base CX k f fd ps sp) (hr : Room (k + 1) X.A) (hg : Gl X x) (hm : X.mg x = some (.ref C)) (hb : Binds X.K fd ps []) (hx : ∀ σ, PassesAt CX X σ (E σ))
    (ha : PA X (e :: es) t) (hdb : (x == ("__debug__" : Str)) = false := by decide) (he : starEach (e :: es) X.env = (false, eval e X.env) :: starEach es X.env := by rfl) (hpl : (backTo pos (starEach es X.env)).any (·.1) = false := by rfl) :
    PE X (.Call (.Name x p) (e :: es) [] pos) (tMakeS C sp E t) := by
  refine ⟨fun pins s0 σ H0 Q I0 h0 => ?_⟩
  refine wpAny_Call_Name_kw (ld_glob I0 hg hm ?_ hdb)
  refine PySem.W.callWith_K (h₀ := X.base) I0.ok.mod.kin M.kp (thn (ha.run pos pins s0 σ H0 _ I0 h0) fun us s ⟨vs, H, I, r, h⟩ => ⟨I.kIn, ?_⟩) he hpl
  have hq := h (s.heap.objs.size + 1) s.heap.objs.size (I.hok.fresh (Nat.le_succ _)) (I.hok.fresh (Nat.le_refl _)) (Nat.ne_of_lt (Nat.lt_succ_self _))
  have I2 := Inv.made (C := C) I
  have r2 : Vals (V.ref (s.heap.objs.size + 1) :: vs) (Value.ref (s.heap.objs.size + 1) :: us) := .cons rfl r
  have hl : (Value.ref (s.heap.objs.size + 1) :: us).length = ps.length := by
    have e := r2.length
    rw [F.len _ _ _ _ hq] at e
    exact e.symm
  refine wpAny_call (make_map (f := f) I.kIn M.makes M.init (beq_iff_eq.mp M.fn) (codeAny_mono (F.run _ X.stack _ _ ⟨Value.ref (s.heap.objs.size + 1) :: us, []⟩ (Value.ref (s.heap.objs.size + 1) :: us) _ _ (E σ) (hr.make C us [])
    (I2.env0.make C us []) (by
      have z := hb _ (Value.ref (s.heap.objs.size + 1) :: us) I2.kIn (by rw [List.append_nil]; exact hl)
      rw [List.append_nil] at z
      exact z) r2 hq) fun r s' hq' => ?_))
  cases r with
  | error e => exact hx σ pins _ _ e s' I2 hq'
  | ok fl =>
    cases fl with
    | ret u =>
      obtain ⟨v, H', I3, rv, ev, q3⟩ := I2.after hq'
      subst ev
      exact ⟨rv, ⟨V.ref (s.heap.objs.size + 1), H', I3, rfl, q3⟩⟩
    | next => exact False.elim hq'
    | brk => exact False.elim hq'
    | cont => exact False.elim hq'
/-! ## len(o), o of an own class -/
structure LenC (K : PySem.W.Frag) (C f : Addr) : Prop where
  at_ : PySem.W.findIn K (.ref C) "__len__" = some (some (.ref f))
  fn : PySem.W.isFn K (.ref f) = true
def rLenI (C : Addr) (sp : Sp) : List V → Hp → VK → Prop := fun xs H Q => ∃ a dx fs, xs = [.ref a] ∧ H a = some (.ins C dx fs) ∧ sp [.ref a] H (fun v H' => ∃ n : Int, v = .int n ∧ 0 ≤ n ∧ n < 2 ^ 63 ∧ Q (.int n) H') E0
theorem call_lenI {k : Nat} {C f : Addr} {fd : FuncData} {ps : List Str} {sp : Sp} (c : LenC X.K C f) (F : FnOk X.prog X.w X.K X.mg X.base CX0 k f fd ps sp) (hr : Room (k + 1) X.A) (hb : Binds X.K fd ps []) : CallR X (.builtin "len") (rLenI C sp) := by
  intro pins s σ H xs us Q I rv h
  obtain ⟨a, dx, fs, rfl, ha, hsp⟩ := h
  obtain ⟨u, rfl, ru⟩ := vals1 rv
  cases ru
  obtain ⟨mA, J, _⟩ := ins_get I.hok ha
  obtain ⟨od, J, _⟩ := J.look
  refine Calls.call_function_entry kind_len plain_len entry_len (args_len1 _) ?_
  unfold Builtin.«len»
  refine wpAny_bind (m := oneArg "len" _) (wpAny_pure ?_)
  refine wpAny_bind (m := callSpecial? (.ref a) (Str.ofString "__len__")) (PySem.W.special_fn I.kIn J c.at_ (beq_iff_eq.mp c.fn) ?_)
  have e0 : Env0 X.prog X.w X.K X.mg X.base X.A.in1 X.stack s H := by
    have e := I.env0
    exact ⟨e.frames, e.mod, e.bs, e.bsz, e.funs, e.frf, e.hok, e.bare⟩
  have hl := F.len _ _ _ _ hsp
  have r2 : Vals [V.ref a] [Value.ref a] := .cons rfl .nil
  refine wpAny_call (codeAny_mono (F.run X.A.in1 X.stack s H ⟨[.ref a], []⟩ [.ref a] [.ref a] _ _ hr.in1 e0 (by
    have := hb s [.ref a] I.kIn (by simpa using hl)
    simpa using this) r2 hsp) fun r s' hq => ?_)
  cases r with
  | error e => exact hq.elim
  | ok fl =>
    cases fl with
    | ret u =>
      obtain ⟨v, H', I3, rv, n, rfl, h0, h1, q3⟩ := I.after hq
      obtain ⟨t, rfl⟩ := rv
      refine wpAny_bind (wpAny_holding (wpAny_pure ?_))
      refine wpAny_bind (wpAny_letGo ?_)
      show wpAny _ _ (if n < 0 then _ else _) _ _ _
      rw [if_neg (by omega)]
      show wpAny _ _ (if n ≥ 2 ^ 63 then _ else _) _ _ _
      rw [if_neg (by omega)]
      exact wpAny_bind (wpAny_mkInt (wpAny_pure ⟨_, rfl, .int n, H', I3.tok _, ⟨_, rfl⟩, q3⟩))
    | next => exact False.elim hq
    | brk => exact False.elim hq
    | cont => exact False.elim hq
end
end Lc
set_option Elab.async false
set_option linter.all false
set_option maxRecDepth 100000
set_option maxHeartbeats 4000000
namespace Lc
open PySem PySem.Spec PyProof.Rows L2
/-! ## Names that are drawn are names -/
theorem name_of {l : List Nat} {x : Str} (e : x.cps.toList = l) (ne : l ≠ []) (ln : l.length ≤ 12) (h1 : ∀ c r, l = c :: r → inL c = true) (h2 : ∀ c ∈ l, inS c = true) : nameB (.str x) = true := by
  show nameL x.cps.toList = true
  rw [e]
  cases l with
  | nil => exact absurd rfl ne
  | cons c r =>
    show (decide ((c :: r).length ≤ 12) && (inL c && (c :: r).all inS)) = true
    rw [decide_eq_true ln, h1 c r rfl, List.all_eq_true.mpr h2]
    rfl
theorem name_has {x : Str} (h : nameB (.str x) = true) : x.cps.toList ≠ [] ∧ x.cps.toList.length ≤ 12 ∧ (∀ c r, x.cps.toList = c :: r → inL c = true) ∧ ∀ c ∈ x.cps.toList, inS c = true := by
  have h : nameL x.cps.toList = true := h
  generalize x.cps.toList = l at h
  cases l with
  | nil => cases h
  | cons c r =>
    have h : (decide ((c :: r).length ≤ 12) && (inL c && (c :: r).all inS)) = true := h
    obtain ⟨a, h⟩ := Bool.and_eq_true_iff.mp h
    obtain ⟨b, h⟩ := Bool.and_eq_true_iff.mp h
    exact ⟨List.cons_ne_nil _ _, of_decide_eq_true a, fun c' r' e => by cases e; exact b, List.all_eq_true.mp h⟩
theorem app_list (x y : Str) : (x ++ y).cps.toList = x.cps.toList ++ y.cps.toList := by
  show (x.cps ++ y.cps).toList = _
  simp
theorem mul_list (i : Int) : (Txt.mul (PySem.Str.ofString "a") i).cps.toList = List.replicate i.toNat 97 := by
  have ea : (PySem.Str.ofString "a").cps.toList = [97] := by decide +kernel
  have el : ((PySem.Str.ofString "a").length == 0) = false := by decide +kernel
  unfold Txt.mul
  by_cases h1 : i < 1
  · rw [if_pos h1, show i.toNat = 0 by omega]
    rfl
  · rw [if_neg h1, el, Bool.or_false]
    by_cases h2 : (i == 1) = true
    · rw [if_pos h2, ea, show i.toNat = 1 by have := beq_iff_eq.mp h2; omega]
      rfl
    · rw [if_neg h2]
      show ((List.replicate i.toNat (PySem.Str.ofString "a").cps).foldl (· ++ ·) #[]).toList = _
      rw [foldl_app]
      simp only [List.map_replicate, ea]
      generalize i.toNat = n
      induction n with
      | zero => rfl
      | succ n ih =>
        rw [List.replicate_succ, List.replicate_succ]
        simpa using ih
theorem sgn_at {i : Int} (h0 : 0 ≤ i) (h1 : i < 36) : ∃ c, atI signs.cps.toList i = some c ∧ c ∈ signs.cps.toList ∧ inS c = true ∧ (i < 26 → inL c = true) := by
  obtain ⟨n, rfl⟩ : ∃ n : Nat, i = (n : Int) := ⟨i.toNat, by omega⟩
  have h : n < signs.cps.toList.length := by rw [signs_len]; omega
  have m := List.getElem_mem h
  refine ⟨signs.cps.toList[n], atI_nat (List.getElem?_eq_getElem h), m, decide_eq_true m, fun l => ?_⟩
  have all : ∀ k : Fin 26, (signs.cps.toList[k.1]?).all inL = true := by decide +kernel
  have z := all ⟨n, by omega⟩
  rw [List.getElem?_eq_getElem h] at z
  exact z
theorem in97 : inL 97 = true ∧ inS 97 = true := by decide +kernel
theorem name_one {k m : Int} {c : Nat} (h0 : 0 ≤ k) (hm : 0 ≤ m) (l : k + m ≤ 11) (hs : inS c = true) (hl : k = 0 → inL c = true) : nameB (.str (Txt.mul (PySem.Str.ofString "a") k ++ ⟨#[c]⟩ ++ Txt.mul (PySem.Str.ofString "a") m)) = true := by
  have e : (Txt.mul (PySem.Str.ofString "a") k ++ (⟨#[c]⟩ : Str) ++ Txt.mul (PySem.Str.ofString "a") m).cps.toList = List.replicate k.toNat 97 ++ [c] ++ List.replicate m.toNat 97 := by
    rw [app_list, app_list, mul_list, mul_list]
  refine name_of e (by simp) (by simp; omega) (fun c' r' q => ?_) (fun c' q => ?_)
  · by_cases z : k = 0
    · subst z
      have q : c :: List.replicate m.toNat 97 = c' :: r' := q
      cases q
      exact hl rfl
    · obtain ⟨n, hn⟩ : ∃ n, k.toNat = n + 1 := ⟨k.toNat - 1, by omega⟩
      rw [hn, List.replicate_succ] at q
      cases q
      exact in97.1
  · rcases List.mem_append.mp q with q | q
    · rcases List.mem_append.mp q with q | q
      · rw [List.eq_of_mem_replicate q]; exact in97.2
      · rw [List.mem_singleton.mp q]; exact hs
    · rw [List.eq_of_mem_replicate q]; exact in97.2
theorem glued_list : ∀ (cs : List Nat), (Str.join Str.empty (cs.map fun c => (⟨#[c]⟩ : Str))).cps.toList = cs
  | [] => rfl
  | [c] => rfl
  | c :: d :: r => by
    have ih := glued_list (d :: r)
    have e : Str.join Str.empty ((c :: d :: r).map fun c => (⟨#[c]⟩ : Str)) = (⟨#[c]⟩ : Str) ++ Str.empty ++ Str.join Str.empty ((d :: r).map fun c => (⟨#[c]⟩ : Str)) := rfl
    rw [e, app_list, app_list, ih]
    rfl
theorem name_join {cs : List Nat} (ne : cs ≠ []) (ln : cs.length ≤ 12) (h1 : ∀ c r, cs = c :: r → inL c = true) (h2 : ∀ c ∈ cs, inS c = true) : nameB (.str (Txt.join (PySem.Str.ofString "") (cs.map fun c => (⟨#[c]⟩ : Str)))) = true := by
  have e : Txt.join (PySem.Str.ofString "") (cs.map fun c => (⟨#[c]⟩ : Str)) = Str.join Str.empty (cs.map fun c => (⟨#[c]⟩ : Str)) := (StrLaws.glued_eq_join (PySem.Str.ofString "") _).trans rfl
  rw [e]
  exact name_of (glued_list cs) ne ln h1 h2
theorem cut_list (x : Str) : (cutS x none (some 11)).cps.toList = x.cps.toList.take 11 := by
  unfold cutS
  rw [lenL]
  simp [HT.sIx]
theorem name_cut {x : Str} {c : Nat} (h : nameB (.str x) = true) (hc : inS c = true) : nameB (.str (cutS x none (some 11) ++ ⟨#[c]⟩)) = true := by
  obtain ⟨a1, a2, a3, a4⟩ := name_has h
  have e : (cutS x none (some 11) ++ (⟨#[c]⟩ : Str)).cps.toList = x.cps.toList.take 11 ++ [c] := by rw [app_list, cut_list]
  refine name_of e (by simp) (by simp; omega) (fun c' r' q => ?_) (fun c' q => ?_)
  · cases z : x.cps.toList with
    | nil => exact absurd z a1
    | cons d r =>
      rw [z] at q
      have q : d :: (r.take 10 ++ [c]) = c' :: r' := q
      injection q with q1 _
      rw [← q1]
      exact a3 d r z
  · rcases List.mem_append.mp q with q | q
    · exact a4 c' (List.mem_of_mem_take q)
    · rw [List.mem_singleton.mp q]; exact hc
/-! ## Some letter is free -/
theorem pigeon {α : Type} [DecidableEq α] : ∀ {l m : List α}, l.Nodup → (∀ x ∈ l, x ∈ m) → l.length ≤ m.length
  | [], _, _, _ => Nat.zero_le _
  | x :: l, m, n, h => by
    obtain ⟨n1, n2⟩ := List.nodup_cons.mp n
    have hx := h x List.mem_cons_self
    have := pigeon (l := l) (m := m.erase x) n2 fun y hy => (List.mem_erase_of_ne (fun e => n1 (by rw [← e]; exact hy))).mpr (h y (List.mem_cons_of_mem _ hy))
    rw [List.length_erase_of_mem hx] at this
    have := List.length_pos_of_mem hx
    rw [List.length_cons]
    omega
theorem in_strs {z : Str} {ss : List Str} : inV (.str z) (ss.map V.str) = decide (z ∈ ss) := by
  rw [Bool.eq_iff_iff, decide_eq_true_iff]
  unfold inV
  rw [List.any_eq_true]
  constructor
  · rintro ⟨y, hy, e⟩
    obtain ⟨s, hs, rfl⟩ := List.mem_map.mp hy
    have : s = z := by simpa [eqV] using e
    rw [← this]; exact hs
  · intro h
    exact ⟨.str z, List.mem_map.mpr ⟨z, h, rfl⟩, by simp [eqV]⟩
theorem free_letter {x : Str} {ss : List Str} (l : ss.length < 36) (h : ∀ c ∈ signs.cps.toList, cutS x none (some 11) ++ (⟨#[c]⟩ : Str) ∈ ss) : False := by
  have inj : ∀ c d : Nat, cutS x none (some 11) ++ (⟨#[c]⟩ : Str) = cutS x none (some 11) ++ (⟨#[d]⟩ : Str) → c = d := fun c d e => by
    have e := congrArg (fun s : Str => s.cps.toList) e
    simp only [app_list] at e
    have := List.append_cancel_left e
    simpa using this
  have nd : signs.cps.toList.Nodup := by decide +kernel
  have := pigeon (l := signs.cps.toList.map fun c => cutS x none (some 11) ++ (⟨#[c]⟩ : Str)) (m := ss) (List.Pairwise.map _ (fun a b n e => n (inj a b e)) nd) fun y hy => by
    obtain ⟨c, hc, rfl⟩ := List.mem_map.mp hy
    exact h c hc
  rw [List.length_map, signs_len] at this
  omega
end Lc
set_option Elab.async false
set_option linter.all false
set_option maxRecDepth 100000
set_option maxHeartbeats 4000000
namespace Lc
open PySem PySem.Spec PyProof.Rows L2
/-! ## o.m(e, .., k = v, ..) -/
def tMethK (C : Addr) (m : Str) (n l : Nat) (sp : Sp) (gV : List V → List V → List V) (E : XK) (ta : TE) (t tk : TA) : TE := fun σ H Q => ta σ H fun x H1 => ∃ a dx fs, x = .ref a ∧ H1 a = some (.ins C dx fs) ∧ fs.lookup m = none ∧
  t σ H1 fun vs H2 => tk σ H2 fun zs H3 => vs.length = n ∧ zs.length = l ∧ sp (gV (x :: vs) zs) H3 Q E
section
variable {X : Cx} {CX : CXT} {k n : Nat} {f C : Addr} {fd : FuncData} {ps ks : List Str} {sp : Sp} {E : XK} {m : Str} {pos apos : Pos} {e o : Expr} {es : List Expr} {kws : List Keyword} {ta : TE} {t tk : TA} {g : List Value → List Value → List Value} {gV : List V → List V → List V}
theorem pe_methK {pl : Sem Bool} (he : PE X o ta) (c : Cls X.K C) (hm : Meth X.K C m f) (F : FnOk X.prog X.w X.K X.mg X.base CX k f fd ps sp) (hr : Room k X.A) (hb : KBn X.K fd ps (n + 1) ks g gV) (hx : Passes CX X E) (ha : PA X (e :: es) t) (hkw : PK X kws tk)
    (hall : (backToKw pos (keywordEach kws X.env)).all (·.1.isSome) = true := by rfl) (hks : (backToKw pos (keywordEach kws X.env)).filterMap (·.1) = ks := by rfl) (hst : starEach (e :: es) X.env = (false, eval e X.env) :: starEach es X.env := by rfl)
    (hpl : ((backTo pos (starEach (e :: es) X.env)).any (·.1) || (backToKw pos (keywordEach kws X.env)).any (·.1.isNone)) = false := by rfl)
    (ht : eval (.Call (.Attribute o m apos) (e :: es) kws pos) X.env = (do
      let ov ← eval o X.env
      standAt apos.atName
      let (f, first) ← holding [ov] (getMethod ov m pl)
      callWith pos f first (backTo pos (starEach (e :: es) X.env)) (backToKw pos (keywordEach kws X.env))) := by rfl) :
    PE X (.Call (.Attribute o m apos) (e :: es) kws pos) (tMethK C m n ks.length sp gV E ta t tk) := by
  refine ⟨fun pins s σ H Q I h => ?_⟩
  refine PySem.W.methodCall_KW (pl := pl) (thn (he.run pins s σ H _ I h) fun u s1 ⟨x, H1, I1, rx, a, dx, fs, ex, ea, l, q⟩ => ?_) ht
  subst ex
  obtain rfl : u = Value.ref a := rx
  refine getmeth_ok I1 ea c hm l ?_
  refine PySem.W.callWith_KW (first := [.ref a]) (h₀ := X.base) I.ok.mod.kin hm.kp hall (thn (ha.run pos pins s1 σ H1 _ I1 q) fun us s2 ⟨vs, H2, I2, r, q2⟩ => ?_) hpl hst
  refine thn (hkw.run pos pins s2 σ H2 _ I2 q2) fun ws s3 ⟨zs, H3, I3, rz, l1, l2, q3⟩ => ⟨I3.kIn, ?_⟩
  rw [hks]
  exact run_fnN (us := .ref a :: us) (vs := .ref a :: vs) F hr hb hx I3 (.cons rfl r) rz (by rw [List.length_cons, l1]) l2 q3
end
theorem kbN {K : PySem.W.Frag} {x qual : Str} {params : Arguments} {body : List Stmt} {scope : Scope} {kws : List (Str × V)} {f : Addr} {fd : FuncData} {ps ks : List Str} {n : Nat} (F : FunD K x qual params body scope [] kws f fd)
    (h : ∀ (kV doc pm : Value) (an : Option Addr) (cdv ct : Value) (us ws : List Value), us.length = n → ws.length = ks.length → bindArgs (PySem.W.fnOf x qual params body scope .none kV doc pm an cdv ct) ⟨us, ks.zip ws⟩ = pure (ps.zip (us ++ ws))) : KBn K fd ps n ks (fun us ws => us ++ ws) (fun vs zs => vs ++ zs) := by
  obtain ⟨oc, od, dV, kV, doc, pm, an, cdv, ct, osl, rfl, lk, hcd, hD, hK⟩ := F.ex
  rcases hD with ⟨_, rfl⟩ | ⟨e, _⟩
  · exact ⟨fun s us ws X l1 l2 => .of_eq (h kV doc pm an cdv ct us ws l1 l2), fun r1 r2 => r1.append r2⟩
  · exact absurd rfl e
/-! ## Data without lists: it stands as long as the tuples stand -/
def SameT (H H' : Hp) : Prop := ∀ b xs, H b = some (.tup xs) → H' b = some (.tup xs)
theorem SameT.refl (H : Hp) : SameT H H := fun _ _ e => e
theorem SameT.trans {H H1 H2 : Hp} (a : SameT H H1) (b : SameT H1 H2) : SameT H H2 := fun c xs e => b c xs (a c xs e)
theorem SameT.of {H H' : Hp} (s : Same H H') : SameT H H' := fun b xs e => s _ _ e
theorem SameT.b {t : Addr} {H H' : Hp} (T : Tape H t) (s : SameB t H H') : SameT H H' := fun b xs e => s _ _ (T.neT e) e
theorem SameT.at {a : Addr} {H H' : Hp} {o : HO} (h : H a = some o) (n : ∀ xs, o ≠ .tup xs) (s : SameB a H H') : SameT H H' := fun b xs e => s _ _ (fun z => by rw [z, h] at e; exact n xs (Option.some.inj e)) e
theorem SameT.lst {H : Hp} {a : Addr} {ys : List V} {o : HO} (h : H a = some (.lst ys)) : SameT H (upd H a o) := fun b xs e => by rw [upd_ne (ne_of e h nofun)]; exact e
mutual
def noL : PyData → Bool
  | .list _ => false
  | .dict _ => false
  | .tuple ds => noLs ds
  | _ => true
def noLs : List PyData → Bool
  | [] => true
  | d :: ds => noL d && noLs ds
end
mutual
theorem Dh.t {H H' : Hp} (s : SameT H H') : ∀ {v : V} {d : PyData}, Dh H v d → noL d = true → Dh H' v d
  | _, _, .non, _ => .non
  | _, _, .bl b, _ => .bl b
  | _, _, .int i, _ => .int i
  | _, _, .str x, _ => .str x
  | _, _, .tup e h, n => .tup (s _ _ e) (DhAll.t s h (by simpa [noL] using n))
  | _, _, .lst e h, n => by simp [noL] at n
  | _, _, .dct e, n => by simp [noL] at n
theorem DhAll.t {H H' : Hp} (s : SameT H H') : ∀ {vs : List V} {ds : List PyData}, DhAll H vs ds → noLs ds = true → DhAll H' vs ds
  | _, _, .nil, _ => .nil
  | _, _, .cons h r, n => by
    rw [noLs, Bool.and_eq_true_iff] at n
    exact .cons (Dh.t s h n.1) (DhAll.t s r n.2)
end
theorem noLs_app {a b : List PyData} : noLs (a ++ b) = (noLs a && noLs b) := by
  induction a with
  | nil => rfl
  | cons x a ih => rw [List.cons_append, noLs, noLs, ih, Bool.and_assoc]
theorem noLs_all {a : List PyData} : noLs a = true ↔ ∀ d ∈ a, noL d = true := by
  induction a with
  | nil => exact ⟨fun _ => nofun, fun _ => rfl⟩
  | cons x a ih =>
    rw [noLs, Bool.and_eq_true_iff, ih]
    constructor
    · rintro ⟨h1, h2⟩ d hd
      rcases List.mem_cons.mp hd with rfl | hd
      · exact h1
      · exact h2 d hd
    · exact fun h => ⟨h x List.mem_cons_self, fun d hd => h d (List.mem_cons_of_mem _ hd)⟩
end Lc
set_option Elab.async false
set_option linter.all false
set_option maxRecDepth 100000
set_option maxHeartbeats 4000000
namespace Lc
open PySem PySem.Spec PyProof.Rows L2
/-! ## a dict comprehension that is stored in a local name -/
section
variable {X : Cx}
theorem sw_dict {e1 e2 : Expr} {cs : List Comprehension} {sc : Scope} {p1 p2 : Pos} {nm : Str} {ln : Nat} {en : Env} (h1 : en.scope.kind = .function) (h2 : en.scope.names.lookup nm = some .local) (h3 : (p2.line == p1.line) = true)
    (h4 : (sc.names.any fun (a, b) => a == nm && (b == .local || b == .cell)) = false) : swapsWith (.DictComp e1 e2 cs sc p1) (some (.Name nm p2)) ln en = pure true := by
  have k1 : en.kindOf nm = some .local := h2
  have k2 : en.blockKind = .function := by
    unfold Env.blockKind
    rw [h1]
    rfl
  unfold swapsWith
  simp only [k2, k1, h4, Expr.pos, h3]
  rfl
theorem ps_setDc {i : Nat} {nm : Str} {p2 p1 p3 : Pos} {kx vx tg it : Expr} {ifs : List Expr} {sc : Scope} {own : List (Str × Nat)} {wi : TI} {g : TG} {tt : TT} {tk tv : TE} (calm : X.calm = true) (nd : X.N.Nodup) (at_ : X.N[i]? = some nm) (loc : X.env.scope.names.lookup nm = some .local)
    (sw : swapsWith (.DictComp kx vx [⟨tg, it, ifs, 0⟩] sc p1) (some (.Name nm p2)) p3.line X.env = pure true) (hi : PI X tg it wi) (ok : BlkOk X.N X.env.scope sc own)
    (hg : ∀ (s : Shared) (H : Hp) (C : Addr) (cl : List (Str × Addr)) (fp : List Addr), PG (X.blk s H sc (compEnvC sc cl C X.env) fp) tg g) (ht : ∀ (s : Shared) (H : Hp) (C : Addr) (cl : List (Str × Addr)) (fp : List Addr), PTs (X.blk s H sc (compEnvC sc cl C X.env) fp) ifs tt)
    (hk : ∀ (s : Shared) (H : Hp) (C : Addr) (cl : List (Str × Addr)) (fp : List Addr), PE (X.blk s H sc (compEnvC sc cl C X.env) fp) kx tk) (hv : ∀ (s : Shared) (H : Hp) (C : Addr) (cl : List (Str × Addr)) (fp : List Addr), PE (X.blk s H sc (compEnvC sc cl C X.env) fp) vx tv) (hs : ∀ x, foldedSetIterable it X.env x = pure x := by intro _; rfl) :
    PS X (.Assign [.Name nm p2] (.DictComp kx vx [⟨tg, it, ifs, 0⟩] sc p1) p3) (tAsg (tDc wi g tt tk tv (own.map (·.2))) (gName i)) := by
  refine ⟨fun pins st σ H D I q0 => ?_⟩
  rw [exec_Assign_Name_used _ _ _ _ sw]
  refine wpAny_bind (wpAny_standAt (wpAny_bind ?_))
  show wpAny _ X.A (do let _ ← comprehension (.DictComp kx vx [⟨tg, it, ifs, 0⟩] sc p1) sc X.env (firstIterPos [⟨tg, it, ifs, 0⟩] p1) newDict false (eval it X.env) (some (assign (.Name nm p2) X.env))) _ _ st
  have q1 : tDc wi g tt tk tv (own.map (·.2)) σ H (fun x H1 => gName i x σ H1 D.nx) := q0
  refine wpAny_bind (thn (dc_core (Qf := fun _ s' => SP X pins D .next s') calm nd I hi ok hg ht hk hv hs q1 fun L C s' mm H' I' qq hn fr => ?_) fun _ s' z => wpAny_pure (wpAny_pure z))
  show wpAny _ _ (assign (.Name nm p2) X.env (.ref L)) _ _ _
  refine wpAny_assign_Name (store_ok2 (v := V.ref L) I' nd at_ (.inl loc) rfl (fun s2 I2 ⟨a, sb, ha⟩ => ?_) (.inr loc))
  obtain ⟨g0, g1, _, g3, g4, g5⟩ := fr
  have ne : C ≠ a := by
    rcases ha with z | z
    · exact z ▸ g1
    · exact fun e => g4 nm a z e.symm
  refine ⟨mm, hn.sameBut sb ne, fun h3 sb3 => ?_⟩
  refine ⟨_, H', I2.turned (t' := s2.toks) (fun b o hb e => ?_) g0 g1 g3 g4 g5, qq⟩
  exact (sb3.2 b hb).trans e
end
/-- a dict comprehension over zip of two tuples of one length -/
theorem dc_zip {K : PySem.W.Frag} {a b : Addr} {xs ys : List V} {g : TG} {tt : TT} {tk tv : TE} {vs : List Nat} {σ : L2.St} {H1 : Hp} {D : Addr} {Qd : Hp → Prop} (hl : xs.length = ys.length) (Pv : Nat → Hp → Prop) (h0 : Pv 0 (upd H1 D (.dK []))) (hq : ∀ i H, Pv i H → SqT K H a xs ∧ SqT K H b ys)
    (hs : ∀ (i : Nat) (x y : V) (T : Addr) (H : Hp), xs[i]? = some x → ys[i]? = some y → Pv i H → H T = none → g (.ref T) (wipe σ vs) (upd H T (.tup [x, y])) fun σ2 H2 => wipe σ2 vs = wipe σ vs ∧ tt σ2 H2 fun c H3 =>
      if c = true then tk σ2 H3 fun k H4 => tv σ2 H4 fun z H5 => ∃ kvs kk, k = kV kk ∧ H5 D = some (.dK kvs) ∧ kvs.length < sizeLine ∧ Pv (i + 1) (upd H5 D (.dK (putK kvs kk z))) else Pv (i + 1) H3) (hd : ∀ H, Pv xs.length H → Qd H) :
    ∃ W : Nat → Nat → Hp → Prop, (∃ m, W 0 m (upd H1 D (.dK []))) ∧ ∀ i m H, W i m H →
      ((RZ.ItzT K a b).stop i H ∧ Qd H) ∨ ((RZ.ItzT K a b).go i H ∧ ∃ N : Hp → Prop, (∀ H', N H' → ∃ m', m' < m ∧ W (i + 1) m' H') ∧ ∀ v H', (RZ.ItzT K a b).yld i H v H' → g v (wipe σ vs) H' fun σ2 H2 => wipe σ2 vs = wipe σ vs ∧ tt σ2 H2 fun c H3 =>
        if c = true then tk σ2 H3 fun k H4 => tv σ2 H4 fun z H5 => ∃ kvs kk, k = kV kk ∧ H5 D = some (.dK kvs) ∧ kvs.length < sizeLine ∧ N (upd H5 D (.dK (putK kvs kk z))) else N H3) := by
  refine ⟨fun i m H => i + m = xs.length ∧ Pv i H, ⟨xs.length, Nat.zero_add _, h0⟩, ?_⟩
  rintro i m H ⟨em, pv⟩
  obtain ⟨q1, q2⟩ := hq i H pv
  cases m with
  | zero =>
    obtain rfl : i = xs.length := by omega
    exact .inl ⟨⟨xs, ys, q1, q2, .inl (Nat.le_refl _)⟩, hd H pv⟩
  | succ m =>
    have l1 : i < xs.length := by omega
    have l2 : i < ys.length := by omega
    refine .inr ⟨⟨xs, ys, _, _, q1, q2, List.getElem?_eq_getElem l1, List.getElem?_eq_getElem l2⟩, Pv (i + 1), fun H' p' => ⟨m, by omega, by omega, p'⟩, fun v H' yl => ?_⟩
    obtain ⟨T, x', y', rfl, hT, rfl, f1, f2⟩ := yl
    exact hs i x' y' T H (f1 xs q1) (f2 ys q2) pv hT
section
variable {X : Cx} {k : Nat} {f : Addr} {fd : FuncData} {ps : List Str} {sp : Sp} {x : Str} {p pos : Pos}
/-- f(), f kept under FnG -/
theorem pe_callG0 (F : FnG X.prog X.w X.K X.mg X.base k f fd ps sp) (gg : X.A.guards = some []) (hr : Room k X.A) (hg : Gl X x) (hm : X.mg x = some (.ref f)) (hk : PySem.W.keepIn X.K (.ref f) = true) (hb : Binds X.K fd ps []) (hdb : (x == ("__debug__" : Str)) = false := by decide) :
    PE X (.Call (.Name x p) [] [] pos) (tCall sp [] E0 tNil) := by
  refine ⟨fun pins s σ H Q I h => wpAny_Call_Name_kw (ld_glob I hg hm ?_ hdb)⟩
  refine PySem.W.callWith_K0 I.kIn hk ?_
  have q : sp [] H Q E0 := h
  have hl : ([] : List V).length = ps.length := F.len _ _ _ _ q
  have b := hb s [] I.kIn hl
  refine wpAny_call (codeAny_mono (F.run X.A X.stack s H ⟨[], []⟩ [] [] Q E0 gg hr I.env0 b .nil q) fun rr s' hq => ?_)
  cases rr with
  | error er => exact hq.elim
  | ok fl =>
    cases fl with
    | ret u => exact I.after hq
    | next => exact hq.elim
    | brk => exact hq.elim
    | cont => exact hq.elim
end
/-- a list comprehension over zip of two tuples of one length -/
theorem lc_zip {K : PySem.W.Frag} {a b : Addr} {xs ys : List V} {g : TG} {tt : TT} {te : TE} {vs : List Nat} {σ : L2.St} {H1 : Hp} {D : Addr} {Qd : Hp → Prop} (hl : xs.length = ys.length) (Pv : Nat → Hp → Prop) (h0 : Pv 0 (upd H1 D (.lst []))) (hq : ∀ i H, Pv i H → SqT K H a xs ∧ SqT K H b ys)
    (hs : ∀ (i : Nat) (x y : V) (T : Addr) (H : Hp), xs[i]? = some x → ys[i]? = some y → Pv i H → H T = none → g (.ref T) (wipe σ vs) (upd H T (.tup [x, y])) fun σ2 H2 => wipe σ2 vs = wipe σ vs ∧ tt σ2 H2 fun c H3 =>
      if c = true then te σ2 H3 fun z H4 => ∃ acc, H4 D = some (.lst acc) ∧ acc.length < sizeLine ∧ Pv (i + 1) (upd H4 D (.lst (acc ++ [z]))) else Pv (i + 1) H3) (hd : ∀ H, Pv xs.length H → Qd H) :
    ∃ W : Nat → Nat → Hp → Prop, (∃ m, W 0 m (upd H1 D (.lst []))) ∧ ∀ i m H, W i m H →
      ((RZ.ItzT K a b).stop i H ∧ Qd H) ∨ ((RZ.ItzT K a b).go i H ∧ ∃ N : Hp → Prop, (∀ H', N H' → ∃ m', m' < m ∧ W (i + 1) m' H') ∧ ∀ v H', (RZ.ItzT K a b).yld i H v H' → g v (wipe σ vs) H' fun σ2 H2 => wipe σ2 vs = wipe σ vs ∧ tt σ2 H2 fun c H3 =>
        if c = true then te σ2 H3 fun z H4 => ∃ acc, H4 D = some (.lst acc) ∧ acc.length < sizeLine ∧ N (upd H4 D (.lst (acc ++ [z]))) else N H3) := by
  refine ⟨fun i m H => i + m = xs.length ∧ Pv i H, ⟨xs.length, Nat.zero_add _, h0⟩, ?_⟩
  rintro i m H ⟨em, pv⟩
  obtain ⟨q1, q2⟩ := hq i H pv
  cases m with
  | zero =>
    obtain rfl : i = xs.length := by omega
    exact .inl ⟨⟨xs, ys, q1, q2, .inl (Nat.le_refl _)⟩, hd H pv⟩
  | succ m =>
    have l1 : i < xs.length := by omega
    have l2 : i < ys.length := by omega
    refine .inr ⟨⟨xs, ys, _, _, q1, q2, List.getElem?_eq_getElem l1, List.getElem?_eq_getElem l2⟩, Pv (i + 1), fun H' p' => ⟨m, by omega, by omega, p'⟩, fun v H' yl => ?_⟩
    obtain ⟨T, x', y', rfl, hT, rfl, f1, f2⟩ := yl
    exact hs i x' y' T H (f1 xs q1) (f2 ys q2) pv hT
theorem paired_snoc {α β : Type} {R : α → β → Prop} {a : α} {b : β} (h : R a b) : ∀ {l : List α} {m : List β}, Paired R l m → Paired R (l ++ [a]) (m ++ [b])
  | _, _, .nil => .cons h .nil
  | _, _, .cons g r => .cons g (paired_snoc h r)
theorem paired_imp {α β : Type} {R S : α → β → Prop} (h : ∀ a b, R a b → S a b) : ∀ {l : List α} {m : List β}, Paired R l m → Paired S l m
  | _, _, .nil => .nil
  | _, _, .cons g r => .cons (h _ _ g) (paired_imp h r)
end Lc
set_option Elab.async false
set_option linter.all false
set_option maxRecDepth 100000
set_option maxHeartbeats 4000000
namespace Lc
open PySem PySem.Spec PyProof.Rows L2 PySem.NumText
/-! ## Digits -/
def digs (m : Nat) : List Nat := (Nat.toDigits 10 m).map Char.toNat
theorem digs_small {m : Nat} (h : m < 10) : digs m = [48 + m] := by
  unfold digs
  rw [Nat.toDigits_of_lt_base h]
  have : ∀ k < 10, (Nat.digitChar k).toNat = 48 + k := by decide
  show [(Nat.digitChar m).toNat] = _
  rw [this m h]
theorem digs_big {m : Nat} (h : 10 ≤ m) : digs m = digs (m / 10) ++ [48 + m % 10] := by
  have hm : m % 10 < 10 := Nat.mod_lt m (by decide)
  have t : Nat.toDigits 10 (m / 10) ++ Nat.toDigits 10 (m % 10) = Nat.toDigits 10 (10 * (m / 10) + m % 10) := Nat.toDigits_append_toDigits (by decide) (by omega) hm
  rw [Nat.div_add_mod] at t
  have e := digs_small hm
  unfold digs at e ⊢
  rw [← t, List.map_append, e]
theorem digs_val (m : Nat) : digitsVal (digs m) = m := W.KIN.val_back m
theorem digs_all : ∀ m, AllDigits (digs m) := by
  intro m
  induction m using Nat.strongRecOn with
  | _ m ih =>
    by_cases h : m < 10
    · rw [digs_small h]
      intro c hc
      have : c = 48 + m := by simpa using hc
      omega
    · rw [digs_big (by omega)]
      intro c hc
      rcases List.mem_append.mp hc with hc | hc
      · exact ih (m / 10) (by omega) c hc
      · have : c = 48 + m % 10 := by simpa using hc
        omega
theorem digs_head : ∀ m, ∃ c r, digs m = c :: r ∧ (c = 48 → r = []) := by
  intro m
  have key : ∀ m, ∃ c r, digs m = c :: r ∧ (0 < m → 49 ≤ c) := by
    intro m
    induction m using Nat.strongRecOn with
    | _ m ih =>
      by_cases h : m < 10
      · exact ⟨48 + m, [], digs_small h, fun _ => by omega⟩
      · obtain ⟨c, r, e, g⟩ := ih (m / 10) (by omega)
        refine ⟨c, r ++ [48 + m % 10], ?_, fun _ => g (by omega)⟩
        rw [digs_big (by omega), e]
        rfl
  by_cases z : m = 0
  · exact ⟨48, [], by rw [z]; exact digs_small (by decide), fun _ => rfl⟩
  · obtain ⟨c, r, e, g⟩ := key m
    exact ⟨c, r, e, fun h => by have := g (by omega); omega⟩
theorem digs_len : ∀ (p m : Nat), 0 < p → m < 10 ^ p → (digs m).length ≤ p := by
  intro p
  induction p with
  | zero => intro m h; omega
  | succ p ih =>
    intro m _ h
    by_cases z : m < 10
    · rw [digs_small z]
      simp
    · rw [digs_big (by omega), List.length_append]
      have hp : 0 < p := by
        cases p with
        | zero => omega
        | succ q => omega
      have : m / 10 < 10 ^ p := by
        rw [Nat.div_lt_iff_lt_mul (by decide)]
        rw [Nat.pow_succ] at h
        exact h
      have := ih (m / 10) hp this
      simp only [List.length_cons, List.length_nil]
      omega
def zf (p r : Nat) : List Nat := List.replicate (p - (digs r).length) 48 ++ digs r
theorem zf_len {p r : Nat} (hp : 0 < p) (h : r < 10 ^ p) : (zf p r).length = p := by
  have := digs_len p r hp h
  unfold zf
  rw [List.length_append, List.length_replicate]
  omega
theorem zf_all (p r : Nat) : AllDigits (zf p r) := by
  intro c hc
  rcases List.mem_append.mp hc with hc | hc
  · have := List.eq_of_mem_replicate hc
    omega
  · exact digs_all r c hc
theorem val_from (l : List Nat) : ∀ a : Nat, l.foldl (fun acc c => acc * 10 + (c - 48)) a = a * 10 ^ l.length + digitsVal l := by
  induction l with
  | nil => intro a; simp [digitsVal]
  | cons c l ih =>
    intro a
    show l.foldl _ (a * 10 + (c - 48)) = _
    have e2 : digitsVal (c :: l) = l.foldl (fun acc c => acc * 10 + (c - 48)) (0 * 10 + (c - 48)) := rfl
    rw [ih, e2, ih, List.length_cons, Nat.pow_succ, Nat.zero_mul, Nat.zero_add, Nat.add_mul, Nat.mul_assoc, Nat.mul_comm 10]
    omega
theorem val_app (a b : List Nat) : digitsVal (a ++ b) = digitsVal a * 10 ^ b.length + digitsVal b := by
  unfold digitsVal
  rw [List.foldl_append]
  exact val_from b _
theorem val_zeros (k : Nat) : digitsVal (List.replicate k 48) = 0 := by
  induction k with
  | zero => rfl
  | succ k ih =>
    rw [List.replicate_succ, digitsVal_zero]
    exact ih
theorem zf_val (p r : Nat) : digitsVal (zf p r) = r := by
  unfold zf
  rw [val_app, val_zeros, digs_val]
  omega
/-! ## A text cut at the point -/
def jl : List (List Nat) → List Nat
  | [] => []
  | [x] => x
  | x :: y :: r => x ++ 46 :: jl (y :: r)
theorem cut_eq : ∀ {a b x y : List Nat}, 46 ∉ a → 46 ∉ b → a ++ 46 :: x = b ++ 46 :: y → a = b ∧ x = y
  | [], [], _, _, _, _, e => ⟨rfl, (List.cons.inj e).2⟩
  | [], c :: b, _, _, _, hb, e => absurd (List.cons.inj e).1 (fun z => hb (by rw [z]; exact List.mem_cons_self))
  | c :: a, [], _, _, ha, _, e => absurd (List.cons.inj e).1.symm (fun z => ha (by rw [z]; exact List.mem_cons_self))
  | c :: a, d :: b, x, y, ha, hb, e => by
    obtain ⟨e1, e2⟩ := List.cons.inj e
    obtain ⟨h1, h2⟩ := cut_eq (fun z => ha (List.mem_cons_of_mem _ z)) (fun z => hb (List.mem_cons_of_mem _ z)) e2
    exact ⟨by rw [e1, h1], h2⟩
theorem jl_one {ps : List (List Nat)} {a : List Nat} (hne : a ≠ []) (ha : 46 ∉ a) (e : jl ps = a) : ps = [a] := by
  match ps, e with
  | [], e => exact absurd e.symm hne
  | [x], e => rw [← show x = a from e]
  | x :: y :: r, e => exact absurd (by rw [← show x ++ 46 :: jl (y :: r) = a from e]; simp) ha
theorem jl_two {ps : List (List Nat)} {a b : List Nat} (hf : ∀ p ∈ ps, 46 ∉ p) (ha : 46 ∉ a) (hb : 46 ∉ b) (hne : b ≠ []) (e : jl ps = a ++ 46 :: b) : ps = [a, b] := by
  match ps, hf, e with
  | [], _, e => exact absurd e (by simp [jl])
  | [x], hf, e => exact absurd (by rw [show x = a ++ 46 :: b from e]; simp) (hf x List.mem_cons_self)
  | x :: y :: r, hf, e =>
    obtain ⟨h1, h2⟩ := cut_eq (hf x List.mem_cons_self) ha (show x ++ 46 :: jl (y :: r) = a ++ 46 :: b from e)
    rw [h1, jl_one hne hb h2]
theorem toL_join : ∀ ps : List Str, (Str.join ⟨#[46]⟩ ps).cps.toList = jl (ps.map fun p => p.cps.toList)
  | [] => rfl
  | [x] => rfl
  | x :: y :: r => by
    have ih := toL_join (y :: r)
    have e : Str.join ⟨#[46]⟩ (x :: y :: r) = x ++ ⟨#[46]⟩ ++ Str.join ⟨#[46]⟩ (y :: r) := rfl
    rw [e]
    show (x.cps ++ #[46] ++ (Str.join ⟨#[46]⟩ (y :: r)).cps).toList = _
    rw [Array.toList_append, Array.toList_append, ih]
    show x.cps.toList ++ [46] ++ jl (y.cps.toList :: r.map fun p => p.cps.toList) = x.cps.toList ++ 46 :: jl (y.cps.toList :: r.map fun p => p.cps.toList)
    rw [List.append_assoc]
    rfl
theorem dot_eq : PySem.Str.ofString "." = ⟨#[46]⟩ := by decide +kernel
theorem map_toL {ps : List Str} {ls : List (List Nat)} (h : ps.map (fun p => p.cps.toList) = ls) : ps = ls.map fun l => (⟨l.toArray⟩ : Str) := by
  rw [← h, List.map_map]
  have : ((fun l => (⟨l.toArray⟩ : Str)) ∘ fun p : Str => p.cps.toList) = id := by
    funext p
    obtain ⟨⟨l⟩⟩ := p
    rfl
  rw [this, List.map_id]
theorem split_jl (x : Str) : jl ((Txt.split x ⟨#[46]⟩).map fun p => p.cps.toList) = x.cps.toList := by
  rw [← toL_join, StrLaws.join_split]
theorem split_one {x : Str} (h : 46 ∉ x.cps.toList) (hne : x.cps.toList ≠ []) : Txt.split x ⟨#[46]⟩ = [x] := by
  have e := map_toL (jl_one hne h (split_jl x))
  rw [e]
  obtain ⟨⟨l⟩⟩ := x
  rfl
theorem split_two {x : Str} {a b : List Nat} (e : x.cps.toList = a ++ 46 :: b) (ha : 46 ∉ a) (hb : 46 ∉ b) (hne : b ≠ []) : Txt.split x ⟨#[46]⟩ = [⟨a.toArray⟩, ⟨b.toArray⟩] := by
  refine map_toL (jl_two (fun p hp => ?_) ha hb hne ((split_jl x).trans e))
  obtain ⟨q, hq, rfl⟩ := List.mem_map.mp hp
  exact StrLaws.split_free x 46 q hq
/-! ## Rounding -/
def ab (n : Int) : Int := if n < 0 then -n else n
def nu (n d s : Int) : Int := if n < 0 then -((2 * ab n * s + d) / (2 * d)) else (2 * ab n * s + d) / (2 * d)
theorem ab_nonneg (n : Int) : 0 ≤ ab n := by unfold ab; split <;> omega
theorem ab_nat (n : Int) : ab n = (n.natAbs : Int) := by unfold ab; split <;> omega
theorem nu_ab {n d s : Int} (hd : 0 < d) (hs : 0 < s) : ab (nu n d s) = (2 * ab n * s + d) / (2 * d) ∧ (nu n d s < 0 → n < 0) := by
  have h0 : 0 ≤ (2 * ab n * s + d) / (2 * d) := Int.ediv_nonneg (by have := Int.mul_nonneg (Int.mul_nonneg (by decide : (0:Int) ≤ 2) (ab_nonneg n)) (Int.le_of_lt hs); omega) (by omega)
  unfold nu
  generalize (2 * ab n * s + d) / (2 * d) = q at h0
  split
  · exact ⟨by unfold ab; split <;> omega, fun _ => by assumption⟩
  · exact ⟨by unfold ab; split <;> omega, fun h => by omega⟩
theorem nu_near {n d s : Int} (hd : 0 < d) (hs : 0 < s) : 2 * (ab (nu n d s) * d) ≤ 2 * (ab n * s) + d ∧ 2 * (ab n * s) < 2 * (ab (nu n d s) * d) + d := by
  rw [(nu_ab hd hs).1]
  have e := Int.mul_ediv_add_emod (2 * ab n * s + d) (2 * d)
  have r0 := Int.emod_nonneg (2 * ab n * s + d) (by omega : 2 * d ≠ 0)
  have r1 := Int.emod_lt_of_pos (2 * ab n * s + d) (by omega : 0 < 2 * d)
  generalize (2 * ab n * s + d) / (2 * d) = q at e
  generalize (2 * ab n * s + d) % (2 * d) = r at e r0 r1
  rw [Int.mul_assoc 2 d q, Int.mul_comm d q, Int.mul_assoc 2 (ab n) s] at e
  omega
/-- the same units again -/
theorem nu_again {u s a b : Int} (hs : 0 < s) (hb : 0 < b) (h : a * s = u * b) (hsg : (a < 0) ↔ (u < 0)) : nu a b s = u := by
  have e1 : ab a * s = ab u * b := by
    unfold ab
    by_cases z : a < 0
    · rw [if_pos z, if_pos (hsg.mp z), Int.neg_mul, Int.neg_mul, h]
    · rw [if_neg z, if_neg (fun q => z (hsg.mpr q)), h]
  have e2 : (2 * ab a * s + b) / (2 * b) = ab u := by
    have : 2 * ab a * s + b = b + 2 * b * ab u := by
      rw [Int.mul_assoc, e1, Int.mul_comm (ab u) b, ← Int.mul_assoc]
      omega
    rw [this, Int.add_mul_ediv_left _ _ (by omega : 2 * b ≠ 0), Int.ediv_eq_zero_of_lt (by omega) (by omega)]
    omega
  unfold nu
  rw [e2]
  unfold ab
  by_cases z : a < 0
  · rw [if_pos z, if_pos (hsg.mp z)]
    omega
  · rw [if_neg z, if_neg (fun q => z (hsg.mpr q))]
/-! ## What a decimal looks like -/
def tenP (p : Nat) : Nat := 10 ^ p
def decB (u : Int) (p : Nat) : List Nat := digs (u.natAbs / 10 ^ p) ++ (if p = 0 then [] else 46 :: zf p (u.natAbs % 10 ^ p))
def decL (u : Int) (p : Nat) : List Nat := (if u < 0 then [45] else []) ++ decB u p
end Lc
namespace Lc
open PySem PySem.Spec PyProof.Rows L2 PySem.NumText
theorem appL (x y : Str) : (x ++ y).cps.toList = x.cps.toList ++ y.cps.toList := by
  show (x.cps ++ y.cps).toList = _
  simp
theorem numL (m : Nat) : (PySem.Str.ofString (toString ((m : Nat) : Int))).cps.toList = digs m := W.KIN.signs_num m
theorem zfillL {a : Str} {k r : Nat} (h : a.cps.toList = digs r) : (Txt.zfill a (k : Int)).cps.toList = zf k r := by
  have ln : a.length = (digs r).length := by rw [lenL, h]
  unfold Txt.zfill
  by_cases z : (k : Int) ≤ a.length
  · rw [if_pos z, h]
    unfold zf
    rw [show k - (digs r).length = 0 by omega]
    rfl
  · rw [if_neg z]
    obtain ⟨c, rr, e, _⟩ := digs_head r
    have c0 : a.cps[0]? = some c := by
      rw [← Array.getElem?_toList, h, e]
      rfl
    have cd := digs_all r c (by rw [e]; exact List.mem_cons_self)
    have e2 : zfilled a ((k : Int).toNat - a.length) = Builtin.Str.padded a ((k : Int).toNat - a.length) 0 48 := by
      unfold zfilled
      rw [c0]
      split
      · rename_i q
        injection q with q
        omega
      · rename_i q
        injection q with q
        omega
      · rfl
    rw [e2]
    unfold Builtin.Str.padded zf
    show (Array.replicate ((k : Int).toNat - a.length) 48 ++ a.cps ++ Array.replicate 0 48).toList = _
    rw [Array.toList_append, Array.toList_append, Array.toList_replicate, Array.toList_replicate, h, ln]
    simp
theorem nu_le {n d s : Int} (hd : 0 < d) (hs : 0 < s) : ab (nu n d s) ≤ ab n * s := by
  have h := (nu_near (n := n) hd hs).1
  have N0 : 0 ≤ ab n * s := Int.mul_nonneg (ab_nonneg n) (Int.le_of_lt hs)
  generalize ab n * s = N at h N0
  generalize ab (nu n d s) = U at h
  rcases (by omega : N < U ∨ U ≤ N) with z | z
  · have a1 : (N + 1) * d ≤ U * d := Int.mul_le_mul_of_nonneg_right (by omega) (by omega)
    have a2 : N * 1 ≤ N * d := Int.mul_le_mul_of_nonneg_left (by omega) N0
    rw [Int.add_mul, Int.one_mul] at a1
    omega
  · exact z
inductive Pk (H : Hp) : V → Prop
  | ty {v : V} {t : String} (h : TyN H v t) (n : t ≠ "int") : Pk H v
  | out {k : Int} (h : k < 0 ∨ 9 < k) : Pk H (.int k)
theorem Pk.same {H H' : Hp} {v : V} (h : Pk H v) (s : Same H H') : Pk H' v := by
  cases h with
  | ty h n => exact .ty (h.same s) n
  | out h => exact .out h
theorem pad9 {k : Nat} (h : k ≤ 9) : PadOk (k : Int) = true := by
  have : ∀ k ≤ 9, PadOk ((k : Nat) : Int) = true := by decide +kernel
  exact this k h
theorem ten_pos (k : Nat) : (0 : Int) < 10 ^ k := Int.pow_pos (by decide)
theorem ten_small {k : Nat} (h : k ≤ 9) : ((10 : Int) ^ k).natAbs < 2 ^ 40 := by
  have : ∀ k ≤ 9, ((10 : Int) ^ k).natAbs < 2 ^ 40 := by decide +kernel
  exact this k h
end Lc
namespace Lc
open PySem PySem.Spec PyProof.Rows L2 PySem.NumText
theorem cut_first (x : Str) : (cutS x none (some 1)).cps.toList = x.cps.toList.take 1 := by
  have e : HT.sIx x.length 0 none = 0 := rfl
  have e2 : HT.sIx x.length x.length (some 1) = min 1 x.length := rfl
  unfold cutS
  rw [e, e2]
  show (x.cps.toList.drop 0).take (min 1 x.length - 0) = _
  rw [List.drop_zero, Nat.sub_zero, lenL]
  cases x.cps.toList with
  | nil => rfl
  | cons c r => simp
theorem cut_rest (x : Str) : (cutS x (some 1) none).cps.toList = x.cps.toList.drop 1 := by
  have e : HT.sIx x.length 0 (some 1) = min 1 x.length := rfl
  have e2 : HT.sIx x.length x.length none = x.length := rfl
  unfold cutS
  rw [e, e2]
  show (x.cps.toList.drop (min 1 x.length)).take (x.length - min 1 x.length) = _
  rw [lenL]
  cases x.cps.toList with
  | nil => rfl
  | cons c r => simp
theorem str_ext {x y : Str} (h : x.cps.toList = y.cps.toList) : x = y := by
  obtain ⟨⟨l⟩⟩ := x
  obtain ⟨⟨m⟩⟩ := y
  have : l = m := h
  rw [this]
theorem dec_head (u : Int) (k : Nat) : ∃ c r, decB u k = c :: r ∧ 48 ≤ c ∧ c ≤ 57 := by
  obtain ⟨c, r, e, _⟩ := digs_head (u.natAbs / 10 ^ k)
  have h := digs_all (u.natAbs / 10 ^ k) c (by rw [e]; exact List.mem_cons_self)
  exact ⟨c, _, by unfold decB; rw [e]; rfl, h.1, h.2⟩
theorem minus_is {x : Str} {u : Int} {k : Nat} (h : x.cps.toList = decL u k) : decide (V.str (cutS x none (some 1)) = V.str "-") = decide (u < 0) := by
  rw [Bool.eq_iff_iff, decide_eq_true_iff, decide_eq_true_iff]
  have e45 : (PySem.Str.ofString "-").cps.toList = [45] := by decide +kernel
  constructor
  · intro q
    injection q with q
    have z := cut_first x
    rw [q, h, e45] at z
    rcases (by omega : u < 0 ∨ ¬ u < 0) with g | g
    · exact g
    · obtain ⟨c, r, e, h1, h2⟩ := dec_head u k
      unfold decL at z
      rw [if_neg g, e] at z
      have : (45 : Nat) = c := by simpa using z
      omega
  · intro q
    have : cutS x none (some 1) = PySem.Str.ofString "-" := by
      apply str_ext
      rw [cut_first, h, e45]
      unfold decL
      rw [if_pos q]
      rfl
    rw [this]
theorem below_is {x : Str} {u : Int} {k : Nat} (h : x.cps.toList = decL u k) (n : u < 0) : (cutS x (some 1) none).cps.toList = decB u k := by
  rw [cut_rest, h]
  unfold decL
  rw [if_pos n]
  rfl
theorem digs_len_le {m : Nat} (h : m < 2 ^ 1100) : (digs m).length ≤ 1921 := by
  rw [← numL, ← lenL]
  refine int_text_len_1921 ?_
  rw [Int.natAbs_natCast]
  by_cases z : m = 0
  · rw [z]
    decide
  · exact Nat.lt_of_lt_of_le ((Nat.log2_lt z).mpr h) (by decide)
theorem decL_len {u : Int} {k : Nat} (h : u.natAbs < 2 ^ 1100) (k9 : k ≤ 9) : (decL u k).length ≤ 1940 ∧ (decB u k).length ≤ 1939 := by
  have h1 := digs_len_le (Nat.lt_of_le_of_lt (Nat.div_le_self u.natAbs (10 ^ k)) h)
  have h2 : (decB u k).length ≤ 1939 := by
    unfold decB
    rw [List.length_append]
    split
    · simp; omega
    · have := zf_len (p := k) (r := u.natAbs % 10 ^ k) (by omega) (Nat.mod_lt _ (Nat.pow_pos (by decide)))
      rw [List.length_cons, this]
      omega
  refine ⟨?_, h2⟩
  unfold decL
  rw [List.length_append]
  split
  · simp only [List.length_cons, List.length_nil]; omega
  · simp only [List.length_nil]; omega
theorem joinL_toL (ys : List Str) : (Txt.join (PySem.Str.ofString "") ys).cps.toList = (ys.map fun y => y.cps.toList).flatten := by
  have e : Txt.join (PySem.Str.ofString "") ys = Str.join Str.empty ys := (StrLaws.glued_eq_join (PySem.Str.ofString "") ys).trans rfl
  rw [e]
  have key : ∀ ys : List Str, (Str.join Str.empty ys).cps.toList = (ys.map fun y => y.cps.toList).flatten := by
    intro ys
    induction ys with
    | nil => rfl
    | cons x r ih =>
      cases r with
      | nil =>
        show x.cps.toList = _
        simp
      | cons y r =>
        have e : Str.join Str.empty (x :: y :: r) = x ++ Str.empty ++ Str.join Str.empty (y :: r) := rfl
        rw [e, appL, appL, ih]
        simp [Str.empty]
  exact key ys
def ten10 : Str := "0123456789"
theorem index_ten {c : Nat} (h : 48 ≤ c ∧ c ≤ 57) : Builtin.Str.occurrences ten10 ⟨#[c]⟩ 0 ten10.length 1 = [c - 48] := by
  have key : ∀ d < 10, Builtin.Str.occurrences ten10 ⟨#[48 + d]⟩ 0 ten10.length 1 = [d] := by decide +kernel
  have := key (c - 48) (by omega)
  rw [show 48 + (c - 48) = c by omega] at this
  exact this
theorem in_ten {c : Nat} (h : 48 ≤ c ∧ c ≤ 57) : decide (c ∈ ten10.cps.toList) = true := by
  have key : ∀ d < 10, decide (48 + d ∈ ten10.cps.toList) = true := by decide +kernel
  have := key (c - 48) (by omega)
  rw [show 48 + (c - 48) = c by omega] at this
  exact this
end Lc
set_option Elab.async false
set_option linter.all false
set_option maxRecDepth 100000
set_option maxHeartbeats 4000000
namespace K19
open PySem PySem.Spec PyProof.Rows L2 Lc
def top (i : Nat) : Stmt := PySem.Challenge.pw_liveclaims_k19_joined_and_united_rows.main.body.getD i (.Pass ⟨0, 0, 0, 0⟩)
/-! ## is_whole, common_divisor, is_rational -/
abbrev sWhole : Stmt := top 8
abbrev sCd : Stmt := top 9
abbrev sIsR : Stmt := top 10
def spWhole : Sp := fun vs H Q _ => ∃ (v : V) (t : String), vs = [v] ∧ TyN H v t ∧ Q (.bl (t == "int")) H
def spCd : Sp := fun vs H Q _ => ∃ a b : Int, vs = [.int a, .int b] ∧ 0 ≤ a ∧ 0 ≤ b ∧ Q (.int (gd a b)) H
def spIsR : Sp := fun vs H Q _ => ∃ (v : V) (b : Bool), vs = [v] ∧ Rk H v b ∧ Q (.bl b) H
section
variable {P : Program} {w : World} {K : PySem.W.Frag} {mg : Str → Option Value} {base : Heap} {f C : Addr} {fd : FuncData}
theorem scWhole : FnScope ["value"] ["value"] (defScope sWhole) := ⟨rfl, rfl, rfl, by decide +kernel, rfl, by decide +kernel, by decide +kernel⟩
theorem ok_whole (F : Fun K "is_whole" "is_whole" sWhole f fd) (T : Bt mg) : FnOk P w K mg base CX0 1 f fd ["value"] spWhole := by
  refine F.ok scWhole (fun vs H Q E h => ?_) (fun cdv A outer s H vs Q E hr h => ?_)
  · obtain ⟨v, t, rfl, _⟩ := h
    rfl
  · obtain ⟨v, t, rfl, ty, k⟩ := h
    refine ⟨_, pss_one (ps_ret (pe_and (pe_callB call_isi (by rfl) T.isi boot_isinstance (pa_cons (pv 0) (pa_cons (pe_bltn (v := .ty "int") (by rfl) T.int boot_int rfl) pa_nil)))
      (pe_one (pe_not (pe_callB call_isi (by rfl) T.isi boot_isinstance (pa_cons (pv 0) (pa_cons (pe_bltn (v := .ty "bool") (by rfl) T.bool boot_bool rfl) pa_nil))))))), ?_⟩
    refine ⟨_, rfl, v, .ty "int", _, _, _, rfl, .ty "int", ty.x, kit_int ty.mem, _, rfl, ?_⟩
    refine ite2 (fun hi => ?_) (fun hi => ?_)
    · refine ⟨_, rfl, v, .ty "bool", _, _, _, rfl, .ty "bool", ty.x, kit_bool ty.mem, _, rfl, ?_⟩
      have e : (!(t == "bool")) = (t == "int") := by cases ty <;> first | rfl | exact absurd hi (by decide)
      show Q (.bl (!(t == "bool"))) H
      rw [e]
      exact k
    · have e : false = (t == "int") := by cases ty <;> first | rfl | exact absurd rfl hi
      show Q (.bl false) H
      rw [e]
      exact k
theorem scCd : FnScope ["a", "b"] ["a", "b"] (defScope sCd) := ⟨rfl, rfl, rfl, by decide +kernel, rfl, by decide +kernel, by decide +kernel⟩
theorem ok_cd (F : Fun K "common_divisor" "common_divisor" sCd f fd) : FnOk P w K mg base CX0 1 f fd ["a", "b"] spCd := by
  refine F.ok scCd (fun vs H Q E h => ?_) (fun cdv A outer s H vs Q E hr h => ?_)
  · obtain ⟨a, b, rfl, _⟩ := h
    rfl
  · obtain ⟨a, b, rfl, ha, hb, k⟩ := h
    refine ⟨_, pss_cons (ps_while PassesOwn.never (pt_cmpR op_ne (pv 1) pe_int (nomark _)) (pss_one (ps_par (i := 0) (j := 1) (by rfl) scCd.nd rfl rfl (by decide) rfl rfl (pa_cons (pv 1) (pa_cons (pe_op op_mod (pv 0) (pv 1)) pa_nil)) (by rfl))))
      (pss_one (ps_ret (pv 0))), ?_⟩
    refine ⟨fun m σ H' => ∃ a' b' : Int, σ = [some (.int a'), some (.int b')] ∧ 0 ≤ a' ∧ 0 ≤ b' ∧ b'.toNat = m ∧ gd a' b' = gd a b ∧ H' = H, ⟨_, a, b, rfl, ha, hb, rfl, rfl, rfl⟩, ?_⟩
    rintro m σ H' ⟨a', b', rfl, ha', hb', rfl, e, rfl⟩
    refine ⟨_, rfl, rfl, _, rfl, ?_⟩
    rw [show (decide (V.int b' = V.int 0)) = decide (b' = 0) from dec_int.trans (by rw [Bool.eq_iff_iff]; simp)]
    by_cases z : b' = 0
    · rw [decide_eq_true z]
      refine iteF ⟨_, rfl, ?_⟩
      rw [← e, z, gd_zero ha'] at k
      exact k
    · rw [decide_eq_false z]
      have pb : 0 < b' := by omega
      refine iteT ⟨fun σ' H'' => ∃ a2 b2 : Int, σ' = [some (.int a2), some (.int b2)] ∧ 0 ≤ a2 ∧ 0 ≤ b2 ∧ b2.toNat < b'.toNat ∧ gd a2 b2 = gd a b ∧ H'' = H', ?_, ?_⟩
      · rintro σ' H'' ⟨a2, b2, h1, h2, h3, h4, h5, h6⟩
        exact ⟨_, h4, a2, b2, h1, h2, h3, rfl, h5, h6⟩
      · refine ⟨_, rfl, _, rfl, _, rfl, _, _, rfl, rfl, pb, _, _, rfl, b', a' % b', rfl, hb', Int.emod_nonneg _ (by omega), ?_, ?_, rfl⟩
        · have := Int.emod_lt_of_pos a' pb
          have := Int.emod_nonneg a' (by omega : b' ≠ 0)
          omega
        · rw [gd_step ha' pb]
          exact e
theorem scIsR : FnScope ["value", "n", "d"] ["value"] (defScope sIsR) := ⟨rfl, rfl, rfl, by decide +kernel, rfl, by decide +kernel, by decide +kernel⟩
theorem ok_isr {fW fC : Addr} {fdW fdC : FuncData} (F : Fun K "is_rational" "is_rational" sIsR f fd) (T : Bt mg) (GW : FnOk P w K mg base CX0 1 fW fdW ["value"] spWhole) (mW : mg "is_whole" = some (.ref fW)) (kW : PySem.W.keepIn K (.ref fW) = true) (bW : Binds K fdW ["value"] [])
    (GC : FnOk P w K mg base CX0 1 fC fdC ["a", "b"] spCd) (mC : mg "common_divisor" = some (.ref fC)) (kC : PySem.W.keepIn K (.ref fC) = true) (bC : Binds K fdC ["a", "b"] []) : FnOk P w K mg base CX0 2 f fd ["value"] spIsR := by
  refine F.ok scIsR (fun vs H Q E h => ?_) (fun cdv A outer s H vs Q E hr h => ?_)
  · obtain ⟨v, b, rfl, _⟩ := h
    rfl
  · obtain ⟨v, b, rfl, hk, k⟩ := h
    refine ⟨_, pss_cons (ps_if (PW.pt (pw_or (pt_not (pt_val (pe_callB call_isi (by rfl) T.isi boot_isinstance (pa_cons (pv 0) (pa_cons (pe_bltn (v := .ty "tuple") (by rfl) T.tuple boot_tuple rfl) pa_nil)))))
        (pw_or1 (pt_cmpR op_ne (pe_callB call_len_seq (by rfl) T.len PySem.boot_len (pa_cons (pv 0) pa_nil)) pe_int (nomark _))))) (pss_one (ps_ret pe_bl)) pss_nil)
      (pss_cons (ps_asg (pv 0) (pg_tup rfl (pgs_cons (pg_name (i := 1) scIsR.nd rfl (.inl rfl)) (pgs_cons (pg_name (i := 2) scIsR.nd rfl (.inl rfl)) pgs_nil))))
      (pss_cons (ps_if (PW.pt (pw_or (pt_not (pt_val (pe_call GW hr (by rfl) mW kW bW .nil pass0 (pa_cons (pv 1) pa_nil)))) (pw_or (pt_not (pt_val (pe_call GW hr (by rfl) mW kW bW .nil pass0 (pa_cons (pv 2) pa_nil))))
        (pw_or1 (pt_cmpR op_lt (pv 2) pe_int (nomark _)))))) (pss_one (ps_ret pe_bl)) pss_nil)
      (pss_one (ps_ret (pe_cmpR op_eq (pe_call GC hr (by rfl) mC kC bC .nil pass0 (pa_cons (pe_callB call_abs (by rfl) T.abs boot_abs (pa_cons (pv 1) pa_nil)) (pa_cons (pv 2) pa_nil))) pe_int (nomark _)))))), ?_⟩
    cases hk with
    | @other _ t ty n =>
      refine ⟨_, rfl, v, .ty "tuple", _, _, _, rfl, .ty "tuple", ty.x, kit_tuple ty.mem, _, rfl, ?_⟩
      have e : (t == "tuple") = false := by simpa using n
      rw [e]
      exact iteT (iteT k)
    | @len a xs e n =>
      refine ⟨_, rfl, .ref a, .ty "tuple", _, _, _, rfl, .ty "tuple", (TyN.tup e).x, kit_tuple (by decide), _, rfl, ?_⟩
      refine iteF ⟨_, rfl, a, xs, rfl, .inr (SqT.of e), rfl, _, rfl, ?_⟩
      have z : decide (V.int (xs.length : Int) = V.int 2) = false := decide_eq_false (fun q => n (by injection q with q; omega))
      rw [z]
      exact iteT k
    | @pair a x y tx ty e hx hy =>
      refine ⟨_, rfl, .ref a, .ty "tuple", _, _, _, rfl, .ty "tuple", (TyN.tup e).x, kit_tuple (by decide), _, rfl, ?_⟩
      refine iteF ⟨_, rfl, a, _, rfl, .inr (SqT.of e), rfl, _, rfl, ?_⟩
      refine iteF ?_
      refine ⟨_, rfl, a, _, rfl, SqT.of e, rfl, _, _, rfl, _, _, rfl, rfl, ?_⟩
      refine ⟨_, rfl, x, tx, rfl, hx, _, rfl, ?_⟩
      by_cases ix : tx = "int"
      · obtain ⟨n, rfl⟩ := hx.isInt ix
        subst ix
        · refine iteF ⟨_, rfl, y, ty, rfl, hy, _, rfl, ?_⟩
          by_cases iy : ty = "int"
          · obtain ⟨d, rfl⟩ := hy.isInt iy
            subst iy
            · refine iteF ⟨_, rfl, _, _, rfl, rfl, _, rfl, ?_⟩
              by_cases hd : d < 1
              · rw [decide_eq_true hd]
                have z : ratB (.int n) (.int d) = false := by
                  show (decide (0 < d) && _) = false
                  rw [decide_eq_false (by omega : ¬ 0 < d)]
                  rfl
                rw [z] at k
                exact iteT k
              · rw [decide_eq_false hd]
                refine iteF ?_
                refine ⟨_, rfl, n, rfl, _, rfl, _, d, rfl, by split <;> omega, by omega, rfl, ?_⟩
                have z : ratB (.int n) (.int d) = decide (V.int (gd (if n < 0 then -n else n) d) = V.int 1) := by
                  show (decide (0 < d) && decide (gd n d = 1)) = _
                  rw [decide_eq_true (by omega : 0 < d), gd_abs]
                  rw [Bool.eq_iff_iff]
                  simp
                rw [z] at k
                exact k
          · have z : (ty == "int") = false := by simpa using iy
            have z2 : ratB (.int n) y = false := by
              cases hy <;> first | rfl | exact absurd rfl iy
            rw [z2] at k
            rw [z]
            exact iteT (iteT k)
      · have z : (tx == "int") = false := by simpa using ix
        have z2 : ratB x y = false := by
          cases hx <;> first | rfl | exact absurd rfl ix
        rw [z2] at k
        rw [z]
        exact iteT (iteT k)
end
abbrev sTape : Stmt := top 124
section
variable {P : Program} {w : World} {K : PySem.W.Frag} {mg : Str → Option Value} {base : Heap} {f : Addr} {fd : FuncData}
theorem scTape : FnScope ["_law_script"] ["_law_script"] (defScope sTape) := ⟨rfl, rfl, rfl, by decide +kernel, rfl, by decide +kernel, by decide +kernel⟩
theorem ok_tape (F : Fun K "_law_tape" "_law_tape" sTape f fd) (T : Bt mg) : FnOk P w K mg base CX0 1 f fd ["_law_script"] (spTape K) := by
  refine F.ok scTape (fun vs H Q E h => ?_) (fun cdv A outer s H vs Q E hr h => ?_)
  · obtain ⟨a, ns, rfl, _⟩ := h
    rfl
  · obtain ⟨a, ns, rfl, hS, k⟩ := h
    refine ⟨_, pss_one (ps_ret (pe_lst (pa_cons (pe_callTy call_list_of (by rfl) T.list boot_list (pa_cons (pe_slice sl_list (pv 0) po_none (po_some pe_int)) pa_nil)) (pa_cons pe_int (pa_cons pe_int (pa_cons pe_int pa_nil)))))), ?_⟩
    obtain ⟨ms, e⟩ := cut_ints ns none (some 63)
    refine ⟨_, rfl, _, rfl, a, _, rfl, hS, fun p hp => ⟨p, _, rfl, .inl (SqL.of upd_same), fun l hl => ⟨by show 4 ≤ sizeLine; decide, fun t ht => ?_⟩⟩⟩
    have s1 : Same H (upd H p (.lst (cutV (ns.map V.int) none (some 63)))) := Same.upd hp
    have s2 := Same.upd (o := .lst (cutV (ns.map V.int) none (some 63))) hl
    have s3 := Same.upd (o := .lst [.ref l, .int 0, .int 0, .int 17]) ht
    refine k t _ ((s1.trans s2).trans s3) ((s1.trans s2).free ht) ⟨l, ms, 0, 0, 17, upd_same, ?_, by decide, by decide, by decide, by decide⟩
    rw [← e]
    exact s3 _ _ upd_same
end
abbrev sDraw : Stmt := top 125
section
variable {P : Program} {w : World} {K : PySem.W.Frag} {mg : Str → Option Value} {base : Heap} {f : Addr} {fd : FuncData}
theorem scDraw : FnScope ["_law_tape_here", "_law_many", "_law_digit", "_law_cell", "_law_near"] ["_law_tape_here", "_law_many"] (defScope sDraw) := ⟨rfl, rfl, rfl, by decide +kernel, rfl, by decide +kernel, by decide +kernel⟩
theorem ok_draw (F : Fun K "_law_draw" "_law_draw" sDraw f fd) (T : Bt mg) : FnOk P w K mg base CX0 1 f fd ["_law_tape_here", "_law_many"] spDrawL := by
  refine F.ok scDraw (fun vs H Q E h => ?_) (fun cdv A outer s H vs Q E hr h => ?_)
  · obtain ⟨t, l, m, rfl, _⟩ := h
    rfl
  · obtain ⟨t, l, m, rfl, ⟨ns, pos, rest, mix, ht, hl, p0, r0, m0, m1⟩, hm, hm2, k⟩ := h
    refine ⟨_, pss_cons (ps_if (pt_cmpR op_gt (pe_ix ix_list (pv 0) pe_int (fun _ _ => rfl)) pe_int (nomark _))
        (pss_cons (ps_set (i := 2) scDraw.nd rfl (Or.inl rfl) (pe_op op_mod (pe_ix ix_list (pv 0) pe_int (fun _ _ => rfl)) (pv 1)))
        (pss_cons (ps_asg (pe_op op_fdivW (pe_ix ix_list (pv 0) pe_int (fun _ _ => rfl)) (pv 1)) (pg_sub (pv 0) pe_int set_list)) (pss_one (ps_ret (pv 2))))) pss_nil)
      (pss_cons (ps_set (i := 3) scDraw.nd rfl (Or.inl rfl) pe_int)
      (Evl.pss_cut (ps_if (pt_cmpR op_lt (pe_ix ix_list (pv 0) pe_int (fun _ _ => rfl)) (pe_callB call_len_seq (by rfl) T.len PySem.boot_len (pa_cons (pe_ix ix_list (pv 0) pe_int (fun _ _ => rfl)) pa_nil)) (nomark _))
        (pss_one (ps_set (i := 3) scDraw.nd rfl (Or.inl rfl) (pe_ix ix_list (pe_ix ix_list (pv 0) pe_int (fun _ _ => rfl)) (pe_ix ix_list (pv 0) pe_int (fun _ _ => rfl)) (fun _ _ => rfl)))) pss_nil)
      (pss_cons (ps_asg (pe_op op_add (pe_ix ix_list (pv 0) pe_int (fun _ _ => rfl)) pe_int) (pg_sub (pv 0) pe_int set_list))
      (pss_cons (ps_if (pt_cmpR op_ge (pv 3) (pe_op op_pow pe_int pe_int) (nomark _))
        (pss_cons (ps_asg (pe_op op_fdivW (pv 3) (pv 1)) (pg_sub (pv 0) pe_int set_list)) (pss_one (ps_ret (pe_op op_mod (pv 3) (pv 1))))) pss_nil)
      (pss_cons (ps_set (i := 4) scDraw.nd rfl (Or.inl rfl) (pe_op op_add (pe_op op_add (pe_op op_mod (pv 3) pe_int) (pe_op op_mul pe_int (pe_ix ix_list (pv 0) pe_int (fun _ _ => rfl)))) pe_int))
      (pss_cons (ps_asg (pe_op op_mod (pe_op op_add (pe_op op_mul (pe_ix ix_list (pv 0) pe_int (fun _ _ => rfl)) pe_int) (pv 4)) pe_int) (pg_sub (pv 0) pe_int set_list))
      (pss_one (ps_ret (pe_op op_mod (pe_op op_mod (pe_op op_pow (pe_ix ix_list (pv 0) pe_int (fun _ _ => rfl)) pe_int) pe_int) (pv 1)))))))))), ?_⟩
    have nl := tape_ne ht hl
    have dv : ∀ c : Int, CDivW c m := fun c => ⟨hm, log_lt' hm2⟩
    have M0 : (0 : Int) < 2147483647 := by decide
    refine ⟨_, rfl, t, _, _, _, rfl, rfl, SqL.of ht, rfl, _, _, rfl, rfl, _, rfl, ?_⟩
    refine ite2 (fun z => ?_) (fun z => ?_)
    · have z' : 0 < rest := of_decide_eq_true z
      refine ⟨_, rfl, t, _, _, _, rfl, rfl, SqL.of ht, rfl, _, rfl, _, _, rfl, rfl, hm, ?_⟩
      refine ⟨_, rfl, t, _, _, _, rfl, rfl, SqL.of ht, rfl, _, rfl, _, _, rfl, rfl, dv _, _, rfl, t, _, _, 2, rfl, rfl, ht, rfl, ?_⟩
      refine ⟨_, rfl, ?_⟩
      refine k _ _ (Int.emod_nonneg _ (by omega)) (Int.emod_lt_of_pos _ hm) ⟨ns, pos, rest / m, mix, upd_same, by rw [upd_ne nl]; exact hl, p0, Int.ediv_nonneg r0 (by omega), m0, m1⟩ SameB.upd
    · refine ⟨fun σ' H' => ∃ c : Int, σ' = [some (.ref t), some (.int m), none, some (.int c), none] ∧ H' = H, ?_, ?_⟩
      · refine ⟨_, rfl, t, _, _, _, rfl, rfl, SqL.of ht, rfl, _, rfl, t, _, _, _, rfl, rfl, SqL.of ht, rfl, l, _, rfl, .inl (SqL.of hl), _, _, rfl, rfl, _, rfl, ?_⟩
        refine ite2 (fun y => ?_) (fun y => ?_)
        · have y' : pos < ((ns.map V.int).length : Int) := of_decide_eq_true y
          rw [List.length_map] at y'
          have g : (ns.map V.int)[pos.toNat]? = some (.int (ns[pos.toNat]'(by omega))) := by
            rw [List.getElem?_map, List.getElem?_eq_getElem (by omega : pos.toNat < ns.length)]
            rfl
          exact ⟨_, rfl, t, _, _, _, rfl, rfl, SqL.of ht, rfl, _, rfl, t, _, _, _, rfl, rfl, SqL.of ht, rfl, l, _, _, _, rfl, rfl, SqL.of hl, at_of (by omega) g, _, rfl, rfl⟩
        · exact ⟨0, rfl, rfl⟩
      · rintro σ' H' ⟨c, rfl, rfl⟩
        refine ⟨_, rfl, t, _, _, _, rfl, rfl, SqL.of ht, rfl, _, _, rfl, rfl, _, rfl, t, _, _, 1, rfl, rfl, ht, rfl, ?_⟩
        refine ⟨_, rfl, _, _, rfl, rfl, ⟨by decide, by decide, by decide⟩, _, _, rfl, rfl, _, rfl, ?_⟩
        refine ite2 (fun y => ?_) (fun y => ?_)
        · have y' : (10 : Int) ^ (18 : Int).toNat ≤ c := of_decide_eq_true y
          have c0 : 0 ≤ c := Int.le_trans (by decide) y'
          refine ⟨_, rfl, _, rfl, _, _, rfl, rfl, dv _, _, rfl, t, _, _, 2, rfl, rfl, upd_same, rfl, ?_⟩
          refine ⟨_, rfl, _, rfl, _, _, rfl, rfl, hm, ?_⟩
          exact k _ _ (Int.emod_nonneg _ (by omega)) (Int.emod_lt_of_pos _ hm) ⟨ns, pos + 1, c / m, mix, upd_same, by rw [upd_ne nl, upd_ne nl]; exact hl, by omega, Int.ediv_nonneg c0 (by omega), m0, m1⟩ (SameB.upd.trans SameB.upd)
        · refine ⟨_, rfl, _, _, rfl, rfl, M0, _, rfl, t, _, _, _, rfl, rfl, SqL.of upd_same, rfl, _, _, rfl, rfl, .inl ⟨by decide, by decide⟩, _, _, rfl, rfl, _, _, rfl, rfl, ?_⟩
          refine ⟨_, rfl, t, _, _, _, rfl, rfl, SqL.of upd_same, rfl, _, _, rfl, rfl, .inl ⟨by omega, by omega⟩, _, rfl, _, _, rfl, rfl, _, _, rfl, rfl, M0, _, rfl, t, _, _, 3, rfl, rfl, upd_same, rfl, ?_⟩
          have q0 := Int.emod_nonneg (mix * 48271 + (c % 2147483647 + 7919 * (pos + 1) + 11)) (by decide : (2147483647 : Int) ≠ 0)
          have q1 := Int.emod_lt_of_pos (mix * 48271 + (c % 2147483647 + 7919 * (pos + 1) + 11)) M0
          refine ⟨_, rfl, t, _, _, _, rfl, rfl, SqL.of upd_same, rfl, _, _, rfl, rfl, ⟨by decide, by decide, ?_⟩, _, _, rfl, rfl, M0, _, rfl, _, _, rfl, rfl, hm, ?_⟩
          · omega
          · exact k _ _ (Int.emod_nonneg _ (by omega)) (Int.emod_lt_of_pos _ hm) ⟨ns, pos + 1, rest, _, upd_same, by rw [upd_ne nl, upd_ne nl]; exact hl, by omega, r0, q0, q1⟩ (SameB.upd.trans SameB.upd)
end
abbrev sLst : Stmt := top 126
section
variable {P : Program} {w : World} {K : PySem.W.Frag} {mg : Str → Option Value} {base : Heap} {f : Addr} {fd : FuncData}
theorem scLst : FnScope ["_law_n", "_law_d", "_law_a", "_law_b", "_law_rest"] ["_law_n", "_law_d"] (defScope sLst) := ⟨rfl, rfl, rfl, by decide +kernel, rfl, by decide +kernel, by decide +kernel⟩
theorem ok_lst (F : Fun K "_law_lowest" "_law_lowest" sLst f fd) (T : Bt mg) : FnOk P w K mg base CX0 1 f fd ["_law_n", "_law_d"] spLowest := by
  refine F.ok scLst (fun vs H Q E h => ?_) (fun cdv A outer s H vs Q E hr h => ?_)
  · obtain ⟨n, d, rfl, _⟩ := h
    rfl
  · obtain ⟨n, d, rfl, hd, hd2, k⟩ := h
    refine ⟨_, pss_cons (ps_set (i := 2) scLst.nd rfl (Or.inl rfl) (pe_callB call_abs (by rfl) T.abs boot_abs (pa_cons (pv 0) pa_nil)))
      (pss_cons (ps_set (i := 3) scLst.nd rfl (Or.inl rfl) (pv 1))
      (pss_cons (ps_while PassesOwn.never (pt_cmpR op_gt (pv 3) pe_int (nomark _))
        (pss_cons (ps_set (i := 4) scLst.nd rfl (Or.inl rfl) (pe_op op_mod (pv 2) (pv 3))) (pss_cons (ps_set (i := 2) scLst.nd rfl (Or.inl rfl) (pv 3)) (pss_one (ps_set (i := 3) scLst.nd rfl (Or.inl rfl) (pv 4))))))
      (pss_one (ps_ret (pe_tup (pa_cons (pe_op op_fdivW (pv 0) (pv 2)) (pa_cons (pe_op op_fdivW (pv 1) (pv 2)) pa_nil))))))), ?_⟩
    refine ⟨_, rfl, n, rfl, _, rfl, ?_⟩
    refine ⟨fun m σ H' => ∃ (a' b' : Int) (r : Option V), σ = [some (.int n), some (.int d), some (.int a'), some (.int b'), r] ∧ 0 ≤ a' ∧ 0 ≤ b' ∧ b'.toNat = m ∧ gd a' b' = gd n d ∧ H' = H, ⟨_, _, d, none, rfl, by split <;> omega, by omega, rfl, gd_abs n d, rfl⟩, ?_⟩
    rintro m σ H' ⟨a', b', r, rfl, ha', hb', rfl, e, rfl⟩
    refine ⟨_, rfl, _, _, rfl, rfl, _, rfl, ?_⟩
    refine ite2 (fun z => ?_) (fun z => ?_)
    · have pb : 0 < b' := of_decide_eq_true z
      refine ⟨fun σ' H'' => ∃ (a2 b2 : Int) (r : Option V), σ' = [some (.int n), some (.int d), some (.int a2), some (.int b2), r] ∧ 0 ≤ a2 ∧ 0 ≤ b2 ∧ b2.toNat < b'.toNat ∧ gd a2 b2 = gd n d ∧ H'' = H', ?_, ?_⟩
      · rintro σ' H'' ⟨a2, b2, r2, h1, h2, h3, h4, h5, h6⟩
        exact ⟨_, h4, a2, b2, r2, h1, h2, h3, rfl, h5, h6⟩
      · refine ⟨_, rfl, _, rfl, _, _, rfl, rfl, pb, _, rfl, _, rfl, b', a' % b', _, rfl, hb', Int.emod_nonneg _ (by omega), ?_, ?_, rfl⟩
        · have := Int.emod_lt_of_pos a' pb
          have := Int.emod_nonneg a' (by omega : b' ≠ 0)
          omega
        · rw [gd_step ha' pb]
          exact e
    · have zb : ¬ 0 < b' := fun q => z (decide_eq_true q)
      have z0 : b' = 0 := by omega
      rw [z0, gd_zero ha'] at e
      subst e
      have g0 : 0 < gd n d := gd_pos (by omega)
      have gl : (gd n d).natAbs < 2 ^ 4000 := Nat.lt_of_le_of_lt (gd_natAbs_le (by omega)) hd2
      exact ⟨_, rfl, _, rfl, _, _, rfl, rfl, ⟨g0, log_lt' gl⟩, _, rfl, _, rfl, _, _, rfl, rfl, ⟨g0, log_lt' gl⟩, by show 2 ≤ sizeLine; decide, k⟩
end
abbrev sName : Stmt := top 25
section
variable {P : Program} {w : World} {K : PySem.W.Frag} {mg : Str → Option Value} {base : Heap} {f : Addr} {fd : FuncData} {u1 u2 : Tok} {u3 : Tok}
theorem scName : FnScope ["value", "sign"] ["value"] (defScope sName) := ⟨rfl, rfl, rfl, by decide +kernel, rfl, by decide +kernel, by decide +kernel⟩
theorem ok_name (F : Fun K "is_name" "is_name" sName f fd) (T : Bt mg) (m1 : mg "LETTERS" = some (.str letters u1)) (m2 : mg "NAME_SIGNS" = some (.str signs u2)) (m3 : mg "LONGEST_NAME" = some (.int 12 u3)) : FnOk P w K mg base CX0 1 f fd ["value"] spName := by
  refine F.ok scName (fun vs H Q E h => ?_) (fun cdv A outer s H vs Q E hr h => ?_)
  · obtain ⟨v, t, rfl, _⟩ := h
    rfl
  · obtain ⟨v, t, rfl, ty, hl, k⟩ := h
    refine ⟨_, pss_cons (ps_if (PW.pt (pw_or (pt_not (pt_val (pe_callB call_isi (by rfl) T.isi boot_isinstance (pa_cons (pv 0) (pa_cons (pe_bltn (v := .ty "str") (by rfl) T.str boot_str rfl) pa_nil))))) (pw_or (pt_cmpR op_eq (pv 0) pe_str (nomark _))
        (pw_or1 (pt_cmpR op_gt (pe_callB call_len_str (by rfl) T.len PySem.boot_len (pa_cons (pv 0) pa_nil)) (pe_glob (v := .int 12) (by rfl) m3 ⟨_, rfl⟩) (nomark _)))))) (pss_one (ps_ret pe_bl)) pss_nil)
      (pss_one (ps_ret (pe_and (pe_cmpR op_in_sign (pe_ix ix_str (pv 0) pe_int (fun _ _ => rfl)) (pe_glob (v := .str letters) (by rfl) m1 ⟨_, rfl⟩) (by rfl))
        (pe_one (pe_callB (cr_all rfl) (by rfl) T.all (by decide +kernel) (pa_cons (pe_lc (own := [("sign", 1)]) (g := gName 1) (tt := tYes) (te := tOp Lc.rInS (tVar 1) (tC (.str signs))) (by rfl) scName.nd (pi_str (pv 0)) (blkOk_by (own := [("sign", 1)]) (N := ["value", "sign"]) (sc := defScope sName) (by decide +kernel))
          (fun _ _ _ _ _ => pg_name (i := 1) scName.nd rfl (Or.inl rfl)) (fun _ _ _ _ _ => pts_nil) (fun _ _ _ _ _ => pe_cmpR op_in_sign (pv 1) (pe_glob (v := .str signs) (by rfl) m2 ⟨_, rfl⟩) (by rfl))) pa_nil)))))), ?_⟩
    refine ⟨_, rfl, v, .ty "str", _, _, _, rfl, .ty "str", ty.x, kit_str ty.mem, _, rfl, ?_⟩
    by_cases ts : t = "str"
    · obtain ⟨x, rfl⟩ := ty.isStr ts
      subst ts
      have hx := hl x rfl
      refine iteF ⟨_, rfl, rfl, _, rfl, ?_⟩
      rw [dec_empty]
      cases e : x.cps.toList with
      | nil =>
        rw [decide_eq_true rfl]
        have k0 := k H (Same.refl H)
        rw [name_nil e] at k0
        exact iteT (iteT k0)
      | cons c r =>
        rw [decide_eq_false (by simp)]
        refine iteF ⟨_, rfl, x, rfl, hx, _, _, rfl, rfl, _, rfl, ?_⟩
        rw [lenL x]
        by_cases l12 : x.cps.toList.length ≤ 12
        · rw [decide_eq_false (by omega)]
          refine iteF ?_
          have ni := name_is e l12
          refine ⟨_, rfl, x, 0, c, rfl, rfl, hx, (show atI x.cps.toList ((0 : Nat) : Int) = some c from atI_nat (by rw [e]; rfl)), c, letters, rfl, rfl, _, rfl, ?_⟩
          show if inL c = true then _ else _
          refine ite2 (fun z => ?_) (fun z => ?_)
          · refine ⟨_, rfl, x, rfl, fun D hD => lc_it walk_str (fun i H' => H' = upd H D (.lst ((x.cps.toList.take i).map fun c => .bl (inS c)))) rfl (fun _ _ _ _ => True.intro) ?_ ?_⟩
            · rintro i y H' H'' hi rfl ⟨rfl, c', hc', rfl⟩
              refine ⟨rfl, ?_⟩
              change tOp Lc.rInS (tVar 1) (tC (.str signs)) _ _ _
              refine ⟨_, rfl, c', signs, rfl, rfl, _, upd_same, ?_, ?_⟩
              · rw [List.length_map, List.length_take]
                exact Nat.lt_of_le_of_lt (Nat.min_le_right _ _) (Nat.lt_of_le_of_lt l12 (by decide))
              · rw [upd_upd]
                exact congrArg (fun z => upd H D (.lst z)) (grow hc' inS)
            · rintro H' rfl
              have ez : x.cps.size = x.cps.toList.length := by simp
              refine ⟨D, x.cps.toList.map inS, rfl, SqL.of (by rw [upd_same, ez, List.take_length, List.map_map]; rfl), ?_⟩
              have k1 := k _ (Same.upd (o := .lst ((x.cps.toList.take x.cps.size).map fun c => .bl (inS c))) hD)
              rw [ni, z, ← e] at k1
              rw [List.all_map]
              exact k1
          · have k0 := k H (Same.refl H)
            rw [ni, show inL c = false by simpa using z] at k0
            exact k0
        · rw [decide_eq_true (by omega)]
          have k0 := k H (Same.refl H)
          rw [name_long l12] at k0
          exact iteT k0
    · have z : (t == "str") = false := by simpa using ts
      rw [z]
      have k0 := k H (Same.refl H)
      have nb : nameB v = false := by cases ty <;> first | rfl | exact absurd rfl ts
      rw [nb] at k0
      exact iteT (iteT k0)
end
end K19
set_option Elab.async false
set_option linter.all false
set_option maxRecDepth 100000
set_option maxHeartbeats 4000000
namespace Lc
open PySem PySem.Spec PyProof.Rows L2 He
/-! ## The head's facts, with one more Bool -/
abbrev AlE : Type := AlD × Bool
def obsE (n : Nat) (fa : List Fa) (fn : List DefD) (ex : PySem.W.Frag → Bool) (g : Addr → Option Obj) : AlE := (obsD fa fn (frG g (asD g n)), ex (frG g (asD g n)))
def hookE (n : Nat) (fa : List Fa) (fn : List DefD) (ex : PySem.W.Frag → Bool) : PySem.W.Hook where
  α := AlE
  obs := fun s => obsE n fa fn ex s.heap.get?
  val := fun _ => (valD fn, true)
  says := fun _ h => ∃ K : PySem.W.Frag, K.In h ∧ SaysD fa fn K ∧ ex K = true
  of := fun _ _ e => ⟨_, frG_in, congrArg (fun z : AlE => z.1) e, congrArg (fun z : AlE => z.2) e⟩
  keeps := fun _ _ _ ⟨K, hK, c⟩ k => ⟨K, PySem.W.Frag.In.keeps hK k, c⟩
theorem obsE_eq {n : Nat} {fa : List Fa} {fn : List DefD} {ex : PySem.W.Frag → Bool} {g : Addr → Option Obj} {s : Shared} (h : ∀ a, g a = s.heap.get? a) : obsE n fa fn ex g = (hookE n fa fn ex).obs s := by
  have e : g = s.heap.get? := funext h
  rw [e] <;> rfl
/-! ## What is asked of the error classes -/
def optB (a b : Option Bool) : Bool := decide (a = b)
def optV (a b : Option Value) : Bool := decide (a = b)
def oexB (K : PySem.W.Frag) (C : Addr) : Bool := (match K.lookup C with
  | some ⟨.type "type", _, .cls cd, sl⟩ => (match cd.mro, sl.toList with
    | .ref C' :: bm, [_, _, _, _, some (.builtin n), _] => C' == C && n == "ValueError.__new__" && !cd.hasDel && cd.hasDict && PySem.HandSPX.refsVE bm
    | _, _ => false)
  | _ => false) && (eqO (PySem.W.findIn K (.ref C) "__setattr__") (some (some (.builtin "object.__setattr__"))) && (optB (PySem.W.subIn K (.ref C) (.type "BaseException")) (some true) && (optV (PySem.W.typeIn K (.ref C)) (some (.type "type")) && PySem.W.keepIn K (.ref C))))
theorem oexB_ok {K : PySem.W.Frag} {C : Addr} (h : oexB K C = true) : OexC K C := by
  obtain ⟨q, h⟩ := ba h
  obtain ⟨h1, h⟩ := ba h
  obtain ⟨h2, h⟩ := ba h
  obtain ⟨h3, h4⟩ := ba h
  refine ⟨?_, eqO_ok h1, of_decide_eq_true h2, of_decide_eq_true h3, h4⟩
  split at q
  · rename_i dd cd sl ho
    split at q
    · rename_i C' bm k0 k1 k2 k3 n k5 hm hs
      simp only [Bool.and_eq_true, beq_iff_eq, Bool.not_eq_true'] at q
      obtain ⟨⟨⟨⟨rfl, rfl⟩, hdel⟩, hdi⟩, ht⟩ := q
      obtain ⟨nm, bs, mro, ns, qn, hd, sn, sub, ab, col, del⟩ := cd
      dsimp only at hm hdel hdi
      subst hm hdel hdi
      have hsl : sl = #[k0, k1, k2, k3, some (.builtin "ValueError.__new__"), k5] := by
        obtain ⟨l⟩ := sl
        simp only at hs
        rw [hs]
      subst hsl
      exact ⟨nm, qn, ns, bs, bm, sn, sub, ab, col, dd, k0, k1, k2, k3, k5, ho, ht⟩
    · cases q
  · cases q
def xisB (K : PySem.W.Frag) (C : Addr) : Bool := (PySem.W.clsIn K C).isSome && (eqO (PySem.W.findIn K (.ref C) "__getattribute__") (some (some (.builtin "BaseException.__getattribute__"))) && (eqO (PySem.W.findIn K (.ref C) "__getattr__") (some none) &&
  (optB (PySem.W.subIn K (.ref C) (.type "BaseException")) (some true) && (eqO (PySem.W.findIn K (.ref C) "__class__") (some (some (.builtin "object.__class__"))) && (eqO (PySem.W.specialIn K (.builtin "object.__class__") "__get__") (some (some (.builtin "getset_descriptor.__get__"))) &&
  (optB (PySem.W.takesIn K (.builtin "object.__class__")) (some true) && optB (PySem.W.mroIn K C (.type "object")) (some true)))))))
theorem xisB_ok {K : PySem.W.Frag} {C : Addr} (h : xisB K C = true) : XisC K C := by
  obtain ⟨h1, h⟩ := ba h
  obtain ⟨h2, h⟩ := ba h
  obtain ⟨h3, h⟩ := ba h
  obtain ⟨h4, h⟩ := ba h
  obtain ⟨h5, h⟩ := ba h
  obtain ⟨h6, h⟩ := ba h
  obtain ⟨h7, h8⟩ := ba h
  exact ⟨h1, eqO_ok h2, eqO_ok h3, of_decide_eq_true h4, eqO_ok h5, eqO_ok h6, of_decide_eq_true h7, of_decide_eq_true h8⟩
/-- a def without defaults -/
theorem fun_of {K : PySem.W.Frag} {x qual : Str} {st : Stmt} {f : Addr} {fd : FuncData} (F : FunD K x qual (defArgs st) (defBody st) (defScope st) [] [] f fd) : Fun K x qual st f fd := by
  obtain ⟨oc, od, dV, kV, doc, pm, an, cdv, ct, osl, rfl, lk, hcd, hD, hK⟩ := F.ex
  rcases hD with ⟨_, rfl⟩ | ⟨e, _⟩
  · exact ⟨⟨oc, od, kV, doc, pm, an, cdv, ct, osl, rfl, lk, hcd⟩, F.kp⟩
  · exact absurd rfl e
/-! ## The end of a law whose defs are promised where no repr is under way -/
theorem walk_GE {l : PySem.W.OpenLaw} {n k : Nat} {q : Program} {loose : List Str} {XP : (Str → Option Value) → Heap → Prop} {YP : World → Heap → Prop} {d : DefRec} {x : Str}
    (hn : l.most = some n) (hn2 : n ≤ sizeLine) (hdf : d.params.defaults = []) (hr : Room k callerA)
    (F : ∀ (w : World) (mg : Str → Option Value) (fa : Addr) (h : Heap), YP w h → h.Ns mainGlobals mg → mg d.name = some (.ref fa) →
      ∃ (K : PySem.W.Frag) (fd : FuncData) (sp : Sp), K.In h ∧ (∀ (s : Shared) (u : Value), BindsTo s fd ⟨[u], []⟩ [(x, u)]) ∧
        (∀ (H : Hp) (a : Addr) (ns : List Int), ns.length ≤ n → SqL K H a (ns.map V.int) → sp [.ref a] H (fun v _ => v = .bl true) fun _ _ _ => False) ∧
        ∀ base : Heap, K.In base → base.Ns mainGlobals mg → FnG l.prog w K mg base k fa fd [x] sp) :
    PySem.W.WalkO q loose XP YP l.row.toRowW d [] (fun f vs => PySem.call f vs) := by
  refine Att.attach_call hn hdf fun w _ s mg mb fa _ _ _ _ a vs ns G Y _ _ _ hmg hobj hints hlen hg => ?_
  obtain ⟨K, fd, sp, KX, hb, hsp, hF⟩ := F w mg fa _ Y G.T.g hmg
  exact law_callG KX G.T.g G.T.b G.T.builtins G.T.nolimit hg hobj hints (Nat.le_trans hlen hn2) hr hF hb fun H hS => hsp H a ns hlen hS
end Lc
namespace Lc
theorem all_at {l : List Bool} (h : l.all id = true) (i : Nat) {b : Bool} (e : l[i]? = some b := by rfl) : b = true := List.all_eq_true.mp h b (List.mem_of_getElem? e)
end Lc
set_option Elab.async false
set_option linter.all false
set_option maxRecDepth 100000
set_option maxHeartbeats 4000000
namespace Lc
open PySem PySem.Spec PyProof.Rows L2 He
/-! ## The head's facts, with dicts of the module that have text keys -/
abbrev AlF : Type := AlE × List (Option (List (Option (Str × Int))))
def obsF (n : Nat) (fa : List Fa) (fn : List DefD) (ex : PySem.W.Frag → Bool) (ts : List Tab) (g : Addr → Option Obj) : AlF := (obsE n fa fn ex g, ts.map fun t => dicW (frG g (asD g n)) (t.1 (frG g (asD g n))))
def TabsOk (ts : List Tab) (w : World) (K : PySem.W.Frag) : Prop := ∀ (i : Nat) (t : Tab), ts[i]? = some t → ∃ es n, KDict K w (t.1 K) es n
theorem tabs_of {ts : List Tab} {w : World} {K : PySem.W.Frag} (e : ts.map (fun t => dicW K (t.1 K)) = ts.map fun t => some (keysIn w.params t.2)) : TabsOk ts w K := by
  intro i t h
  have e2 : (ts.map fun t => dicW K (t.1 K))[i]? = (ts.map fun t => some (keysIn w.params t.2))[i]? := congrArg (fun l => l[i]?) e
  rw [List.getElem?_map, h, List.getElem?_map, h] at e2
  exact dicW_ok (Option.some.inj e2)
def hookF (n : Nat) (fa : List Fa) (fn : List DefD) (ex : PySem.W.Frag → Bool) (ts : List Tab) : PySem.W.Hook where
  α := AlF
  obs := fun s => obsF n fa fn ex ts s.heap.get?
  val := fun w => ((valD fn, true), ts.map fun t : Tab => some (keysIn w.params t.2))
  says := fun w h => ∃ K : PySem.W.Frag, K.In h ∧ SaysD fa fn K ∧ ex K = true ∧ TabsOk ts w K
  of := fun _ _ e => ⟨_, frG_in, congrArg (fun z : AlF => z.1.1) e, congrArg (fun z : AlF => z.1.2) e, tabs_of (show _ = _ from congrArg (fun z : AlF => z.2) e)⟩
  keeps := fun _ _ _ ⟨K, hK, c⟩ k => ⟨K, PySem.W.Frag.In.keeps hK k, c⟩
theorem obsF_eq {n : Nat} {fa : List Fa} {fn : List DefD} {ex : PySem.W.Frag → Bool} {ts : List Tab} {g : Addr → Option Obj} {s : Shared} (h : ∀ a, g a = s.heap.get? a) : obsF n fa fn ex ts g = (hookF n fa fn ex ts).obs s := by
  have e : g = s.heap.get? := funext h
  rw [e] <;> rfl
/-! ## what stands in such a dict -/
def atD (K : PySem.W.Frag) (d : Addr) (x : Str) : Addr := match PySem.W.nsIn K d x with
  | some (some (.ref a)) => a
  | _ => 0
def tupA (K : PySem.W.Frag) (a : Addr) (vs : List Dv) : Bool := match K.lookup a with
  | some ⟨.type c, _, .seq its _, _⟩ => decide (c = "tuple") && (decide (its.size ≤ sizeLine) && relAll (vs.map (Dv.v K)) its.toList)
  | _ => false
theorem tupA_ok {K : PySem.W.Frag} {a : Addr} {vs : List Dv} (h : tupA K a vs = true) (H : Hp) : SqT K H a (vs.map (Dv.v K)) := by
  unfold tupA at h
  split at h
  · rename_i c od its n osl q
    obtain ⟨h1, h2⟩ := ba h
    obtain ⟨h3, h4⟩ := ba h2
    exact .inr ⟨_, its, n, q, congrArg Value.type (of_decide_eq_true h1), rfl, of_decide_eq_true h3, relAll_ok h4⟩
  · cases h
/-- at the key x a tuple of these -/
def dtB (K : PySem.W.Frag) (d : Addr) (x : Str) (vs : List Dv) : Bool := eqO (PySem.W.nsIn K d x) (some (some (.ref (atD K d x)))) && tupA K (atD K d x) vs
theorem kdct_of {K : PySem.W.Frag} {w : World} {d a : Addr} {x : Str} (D : ∃ es n, KDict K w d es n) (h : PySem.W.nsIn K d x = some (some (.ref a))) : KDct K w d x (.ref a) := by
  obtain ⟨es, n, D⟩ := D
  exact ⟨es, n, _, D.at_, D.lit, h, rfl⟩
theorem dt_ok {K : PySem.W.Frag} {w : World} {d : Addr} {x : Str} {vs : List Dv} (D : ∃ es n, KDict K w d es n) (h : dtB K d x vs = true) : ∃ a, KDct K w d x (.ref a) ∧ PySem.W.nsIn K d x = some (some (.ref a)) ∧ ∀ H, SqT K H a (vs.map (Dv.v K)) := by
  obtain ⟨h1, h2⟩ := ba h
  exact ⟨_, kdct_of D (eqO_ok h1), eqO_ok h1, fun H => tupA_ok h2 H⟩
/-- at the key x the def y -/
def dfB (K : PySem.W.Frag) (d : Addr) (x y : Str) : Bool := eqO (PySem.W.nsIn K d x) (some (some (.ref (ga K y))))
def dnB (K : PySem.W.Frag) (d : Addr) (x : Str) : Bool := eqO (PySem.W.nsIn K d x) (some none)
end Lc
set_option Elab.async false
set_option linter.all false
set_option maxRecDepth 100000
set_option maxHeartbeats 4000000
namespace Lc
open PySem PySem.Spec PyProof.Rows L2 He
/-! ## The head's facts from a few globals alone: what is reached from the named ones, but not through the globals' own dict -/
def growN (g : Addr → Option Obj) (as : List Addr) : List Addr := ((as ++ as.flatMap fun a => match g a with
  | some o => refsD o
  | none => []).filter fun a => !Nat.beq a mainGlobals).eraseDups
def asN (names : List Str) (g : Addr → Option Obj) : Nat → List Addr
  | 0 => (names.map fun x => ga (frG g [mainGlobals]) x).eraseDups
  | n + 1 => growN g (asN names g n)
def asM (sm : Bool) (names : List Str) (g : Addr → Option Obj) (n : Nat) : List Addr := mainGlobals :: (if sm = true then [sysModules] else []) ++ asN names g n
def obsK (fa : List Fa) (fn : List DefD) (ex : PySem.W.Frag → Bool) (ts : List Tab) (K : PySem.W.Frag) : AlF := ((obsD fa fn K, ex K), ts.map fun t => dicW K (t.1 K))
def obsN (sm : Bool) (names : List Str) (n : Nat) (fa : List Fa) (fn : List DefD) (ex : PySem.W.Frag → Bool) (ts : List Tab) (g : Addr → Option Obj) : AlF := obsK fa fn ex ts (frG g (asM sm names g n))
def hookN (sm : Bool) (names : List Str) (n : Nat) (fa : List Fa) (fn : List DefD) (ex : PySem.W.Frag → Bool) (ts : List Tab) : PySem.W.Hook where
  α := AlF
  obs := fun s => obsN sm names n fa fn ex ts s.heap.get?
  val := fun w => ((valD fn, true), ts.map fun t : Tab => some (keysIn w.params t.2))
  says := fun w h => ∃ K : PySem.W.Frag, K.In h ∧ SaysD fa fn K ∧ ex K = true ∧ TabsOk ts w K
  of := fun _ _ e => ⟨_, frG_in, congrArg (fun z : AlF => z.1.1) e, congrArg (fun z : AlF => z.1.2) e, tabs_of (show _ = _ from congrArg (fun z : AlF => z.2) e)⟩
  keeps := fun _ _ _ ⟨K, hK, c⟩ k => ⟨K, PySem.W.Frag.In.keeps hK k, c⟩
theorem obsN_eq {sm : Bool} {names : List Str} {n : Nat} {fa : List Fa} {fn : List DefD} {ex : PySem.W.Frag → Bool} {ts : List Tab} {g : Addr → Option Obj} {s : Shared} (h : ∀ a, g a = s.heap.get? a) : obsN sm names n fa fn ex ts g = (hookN sm names n fa fn ex ts).obs s := by
  have e : g = s.heap.get? := funext h
  rw [e] <;> rfl
theorem smN_of {K : PySem.W.Frag} (h : (K.lookup sysModules).isSome = true) : ∃ o, K.lookup sysModules = some o := Option.isSome_iff_exists.mp h
end Lc
set_option Elab.async false
set_option linter.all false
set_option maxRecDepth 100000
set_option maxHeartbeats 4000000
namespace Lc
open PySem PySem.Spec PyProof.Rows L2 He
/-! ## The head's facts from a written list of addresses -/
def obsA (as : List Addr) (fa : List Fa) (fn : List DefD) (ex : PySem.W.Frag → Bool) (ts : List Tab) (g : Addr → Option Obj) : AlF := obsK fa fn ex ts (frG g (mainGlobals :: as))
def hookA (as : List Addr) (fa : List Fa) (fn : List DefD) (ex : PySem.W.Frag → Bool) (ts : List Tab) : PySem.W.Hook where
  α := AlF
  obs := fun s => obsA as fa fn ex ts s.heap.get?
  val := fun w => ((valD fn, true), ts.map fun t : Tab => some (keysIn w.params t.2))
  says := fun w h => ∃ K : PySem.W.Frag, K.In h ∧ SaysD fa fn K ∧ ex K = true ∧ TabsOk ts w K
  of := fun _ _ e => ⟨_, frG_in, congrArg (fun z : AlF => z.1.1) e, congrArg (fun z : AlF => z.1.2) e, tabs_of (show _ = _ from congrArg (fun z : AlF => z.2) e)⟩
  keeps := fun _ _ _ ⟨K, hK, c⟩ k => ⟨K, PySem.W.Frag.In.keeps hK k, c⟩
theorem obsA_eq {as : List Addr} {fa : List Fa} {fn : List DefD} {ex : PySem.W.Frag → Bool} {ts : List Tab} {g : Addr → Option Obj} {s : Shared} (h : ∀ a, g a = s.heap.get? a) : obsA as fa fn ex ts g = (hookA as fa fn ex ts).obs s := by
  have e : g = s.heap.get? := funext h
  rw [e] <;> rfl
/-! ## the run, in parts -/
theorem opt_pair {α β γ : Type} {o : Option α} {f : α → β} {g : α → γ} {x : β} {y : γ} (h1 : o.map f = some x) (h2 : o.map g = some y) : o.map (fun s => (f s, g s)) = some (x, y) := by
  cases o with
  | none => cases h1
  | some s =>
    rw [Option.map_some, Option.some.injEq] at h1 h2
    rw [Option.map_some, h1, h2]
theorem opt_and {α : Type} {o : Option α} {f g : α → Bool} (h1 : o.map f = some true) (h2 : o.map g = some true) : o.map (fun s => f s && g s) = some true := by
  cases o with
  | none => cases h1
  | some s =>
    rw [Option.map_some, Option.some.injEq] at h1 h2
    rw [Option.map_some, h1, h2]
    rfl
theorem opt_run {α A B C D E : Type} {o : Option α} {f : α → A} {g : α → B} {h : α → (C × D) × E} {x : A} {y : B} {z : (C × D) × E} (hf : o.map f = some x) (hg : o.map (fun s => (g s, (h s).2)) = some (y, z.2))
    (ha : o.map (fun s => (h s).1.1) = some z.1.1) (he : o.map (fun s => (h s).1.2) = some z.1.2) : o.map (fun s => (f s, g s, h s)) = some (x, y, z) := by
  cases o with
  | none => cases hf
  | some s =>
    rw [Option.map_some, Option.some.injEq] at hf hg ha he
    rw [Prod.mk.injEq] at hg
    rw [Option.map_some, hf, hg.1]
    obtain ⟨⟨z1, z2⟩, z3⟩ := z
    have e1 : (h s).1.1 = z1 := ha
    have e2 : (h s).1.2 = z2 := he
    have e3 : (h s).2 = z3 := hg.2
    rw [← e1, ← e2, ← e3]
end Lc
set_option Elab.async false
set_option linter.all false
set_option maxRecDepth 100000
set_option maxHeartbeats 4000000
namespace Lc
open PySem PySem.Spec PyProof.Rows L2 He LamX
/-! ## The head of a law that makes lambdas: the empty tables of code objects are left out -/
def noTab (o : Obj) : Bool := match o.data with
  | .fields vs => decide (0 < vs.size)
  | _ => true
def asT (g : Addr → Option Obj) (n : Nat) : List Addr := (asD g n).filter fun a => match g a with
  | some o => noTab o
  | none => true
def obsT (n : Nat) (fa : List Fa) (fn : List DefD) (ex : PySem.W.Frag → Bool) (g : Addr → Option Obj) : AlE := (obsD fa fn (frG g (asT g n)), ex (frG g (asT g n)))
def hookT (n : Nat) (fa : List Fa) (fn : List DefD) (ex : PySem.W.Frag → Bool) : PySem.W.Hook where
  α := AlE
  obs := fun s => obsT n fa fn ex s.heap.get?
  val := fun _ => (valD fn, true)
  says := fun _ h => ∃ K : PySem.W.Frag, K.In h ∧ SaysD fa fn K ∧ ex K = true
  of := fun _ _ e => ⟨_, frG_in, congrArg (fun z : AlE => z.1) e, congrArg (fun z : AlE => z.2) e⟩
  keeps := fun _ _ _ ⟨K, hK, c⟩ k => ⟨K, PySem.W.Frag.In.keeps hK k, c⟩
theorem obsT_eq {n : Nat} {fa : List Fa} {fn : List DefD} {ex : PySem.W.Frag → Bool} {g : Addr → Option Obj} {s : Shared} (h : ∀ a, g a = s.heap.get? a) : obsT n fa fn ex g = (hookT n fa fn ex).obs s := by
  have e : g = s.heap.get? := funext h
  rw [e] <;> rfl
theorem look_mem {α β : Type} [BEq α] [LawfulBEq α] {p : α} {o : β} : ∀ {K : List (α × β)}, K.lookup p = some o → (p, o) ∈ K
  | [], e => nomatch e
  | (b, u) :: r, e => by
    rw [List.lookup_cons] at e
    by_cases z : p = b
    · subst z
      rw [beq_self_eq_true] at e
      cases e
      exact List.mem_cons_self
    · rw [show (p == b) = false by simpa using z] at e
      exact List.mem_cons_of_mem _ (look_mem e)
def tabB (K : PySem.W.Frag) : Bool := K.all fun p => noTab p.2
def EmptyTab (h : Heap) (p : Addr) : Prop := h.get? p = some { cls := .none, data := .fields #[] }
theorem tabB_ok {K : PySem.W.Frag} (h : tabB K = true) {hp : Heap} {p : Addr} (X : K.In hp) (e : EmptyTab hp p) : K.lookup p = none := by
  cases q : K.lookup p with
  | none => rfl
  | some o =>
    have z : hp.get? p = some { cls := .none, data := .fields #[] } := e
    rw [X p o q] at z
    have m := List.all_eq_true.mp h _ (look_mem q)
    rw [Option.some.inj z] at m
    exact nomatch (show decide (0 < (#[] : Array Value).size) = true from m)
/-! ## The law is called -/
section
variable {P : Program} {w : World} {K : PySem.W.Frag} {mg mb : Str → Option Value} {k : Nat} {fa a c p : Addr} {fd : FuncData} {x : Str} {sp : Sp} {s : Shared} {vs : List Value} {ns : List Int}
/-- what may stand in the abstract heap: the script and the table -/
structure Only (K : PySem.W.Frag) (a p : Addr) (H : Hp) : Prop where
  tab : H p = some (.tbl #[])
  oth : ∀ b, b ≠ a → b ≠ p → H b = none
  frz : ∀ o, H a = some o → K.lookup a = none ∧ ∃ ob xs, o = .frz ob (.lst xs)
theorem call_ofT {H : Hp} (KX : K.In s.heap) (hns : s.heap.Ns mainGlobals mg) (hb : s.heap.Ns builtinsNs mb) (hbb : ∀ x : Str, x ≠ "__name__" → mb x = bootBuiltins x) (hlim : s.heap.NoLimit) (hg : s.gens = #[])
    (ha : s.heap.get? a = some { cls := .type "list", data := .seq vs.toArray }) (ht : EmptyTab s.heap p) (np : K.lookup p = none) (C : PySem.W.CodeHd s.heap c p)
    (hbm : ∃ (bm : Addr) (ob : Obj), mg "__builtins__" = some (.ref bm) ∧ bm ≠ builtinsNs ∧ s.heap.get? bm = some ob ∧ ob.cls = .type "module" ∧ ob.dict = some builtinsNs ∧ ob.data = .plain)
    (hok : HOk P w H s.heap) (O : Only K a p H) : K.In (hidT s.heap H) ∧ (hidT s.heap H).Ns mainGlobals mg ∧ Env0 P w K mg (hidT s.heap H) callerA [] s H ∧ TabB (hidT s.heap H) mg c p := by
  -- what is neither the script nor the table is seen
  have see : ∀ {b : Addr} {o : Obj}, s.heap.get? b = some o → o.data ≠ .seq vs.toArray → o.data ≠ .fields #[] → (hidT s.heap H).get? b = some o := fun {b o} e n1 n2 => by
    refine hidT_get e (O.oth b (fun z => ?_) fun z => ?_)
    · rw [z, ha] at e
      cases e
      exact n1 rfl
    · rw [z, show s.heap.get? p = _ from ht] at e
      cases e
      exact n2 rfl
  have ns_ : ∀ {b : Addr} {m : Str → Option Value}, s.heap.Ns b m → (hidT s.heap H).Ns b m := by
    rintro b m ⟨o, es, ep, e, d, r⟩
    exact ⟨o, es, ep, see e (by rw [d]; nofun) (by rw [d]; nofun), d, r⟩
  have kin : K.In (hidT s.heap H) := fun b o e => hidT_get (KX b o e) (by
    by_cases zp : b = p
    · rw [zp, np] at e
      cases e
    · by_cases za : b = a
      · cases q : H b with
        | none => rfl
        | some u =>
          rw [za] at q e
          rw [(O.frz u q).1] at e
          cases e
      · exact O.oth b za zp)
  obtain ⟨mc, l1, l2⟩ := hlim
  refine ⟨kin, ns_ hns, ⟨rfl, ⟨kin, ns_ hns, ⟨mb, ns_ hb, hbb⟩, ⟨mc, ns_ l1, l2⟩⟩, fun b o e => of_hidT e, Nat.le_of_eq (hidT_size _ _), trivial, fun b z => absurd (show b ∈ ([] : List Addr) from z) (by simp), hok, .of_eq hg⟩, ?_, ?_, ?_⟩
  · obtain ⟨o, us, file, tf, flags, tg, inF, text, tt, e1, r1, r2, r3, rest⟩ := C
    refine ⟨o, us, file, tf, flags, tg, inF, text, tt, see e1 (by rw [r2]; nofun) (fun z => ?_), r1, r2, r3, rest⟩
    rw [r2] at z
    have z' : us = #[] := by injection z
    rw [z'] at r3
    exact nomatch r3
  · obtain ⟨bm, ob, b1, b2, b3, b4, b5, b6⟩ := hbm
    refine ⟨bm, ob, b1, b2, fun z => ?_, fun z => ?_, see b3 (by rw [b6]; nofun) (by rw [b6]; nofun), b4, b5, b6⟩
    · obtain ⟨o, es, ep, e, d, _⟩ := hns
      rw [← z, b3] at e
      cases e
      rw [b6] at d
      cases d
    · rw [z, show s.heap.get? p = _ from ht] at b3
      cases b3
      cases b6
  · intro z
    obtain ⟨o, es, ep, e, d, _⟩ := hns
    rw [z, show s.heap.get? p = _ from ht] at e
    cases e
    cases d
theorem law_callT (KX : K.In s.heap) (hns : s.heap.Ns mainGlobals mg) (hb : s.heap.Ns builtinsNs mb) (hbb : ∀ x : Str, x ≠ "__name__" → mb x = bootBuiltins x) (hlim : s.heap.NoLimit) (hg : s.gens = #[])
    (ha : s.heap.get? a = some { cls := .type "list", data := .seq vs.toArray }) (ht : EmptyTab s.heap p) (np : K.lookup p = none) (C : PySem.W.CodeHd s.heap c p) (TA : s.heap.TableAt c p #[])
    (hbm : ∃ (bm : Addr) (ob : Obj), mg "__builtins__" = some (.ref bm) ∧ bm ≠ builtinsNs ∧ s.heap.get? bm = some ob ∧ ob.cls = .type "module" ∧ ob.dict = some builtinsNs ∧ ob.data = .plain)
    (hi : IntsAre vs ns) (hl : ns.length ≤ sizeLine) (hr : Room k callerA)
    (F : ∀ base : Heap, K.In base → base.Ns mainGlobals mg → TabB base mg c p → FnG P w K mg base k fa fd [x] sp) (hbind : ∀ (s : Shared) (u : Value), BindsTo s fd ⟨[u], []⟩ [(x, u)])
    (hsp : ∀ H : Hp, H p = some (.tbl #[]) → SqL K H a (ns.map V.int) → sp [.ref a] H (fun v _ => v = .bl true) fun _ _ _ => False) :
    codeAny (model P w) callerA (.call (.ref fa) ⟨[.ref a], []⟩) (fun r s' => r = .ok (.ret (.bool true)) ∧ OldK s.heap s'.heap ∧ s'.os = s.os ∧ AllBare s'.gens) s := by
  have rv := vals_ints hi
  have pa : p ≠ a := fun z => by
    have e : s.heap.get? p = some { cls := .none, data := .fields #[] } := ht
    rw [z, ha] at e
    cases e
  have go : ∀ H : Hp, SqL K H a (ns.map V.int) → HOk P w H s.heap → Only K a p H →
      codeAny (model P w) callerA (.call (.ref fa) ⟨[.ref a], []⟩) (fun r s' => r = .ok (.ret (.bool true)) ∧ OldK s.heap s'.heap ∧ s'.os = s.os ∧ AllBare s'.gens) s := by
    intro H hS hok O
    obtain ⟨k1, k2, e0, tb⟩ := call_ofT KX hns hb hbb hlim hg ha ht np C hbm hok O
    refine codeAny_mono ((F _ k1 k2 tb).run callerA [] s H ⟨[.ref a], []⟩ [.ref a] [.ref a] _ _ rfl hr e0 (hbind s (.ref a)) (.cons rfl .nil) (hsp H O.tab hS)) fun r s' h => ?_
    cases r with
    | error _ => exact False.elim h
    | ok fl =>
      cases fl with
      | next => exact False.elim h
      | brk => exact False.elim h
      | cont => exact False.elim h
      | ret u =>
        obtain ⟨v, H', os, bare, un, hok', ru, ev⟩ := h
        subst ev
        obtain rfl : u = Value.bool true := ru
        obtain ⟨more, zt⟩ := un.tbls p #[] O.tab
        have now := hok' p _ zt
        have kept : ∀ b o, b ≠ p → s.heap.get? b = some o → s'.heap.get? b = some o := fun b o nb e => by
          cases q : H b with
          | none => exact un.keep b o e q (fun z => absurd (show b ∈ ([] : List Addr) from z) (by simp)) (by simp)
          | some oo =>
            have zb : b = a := Classical.byContradiction fun z => by rw [O.oth b z nb] at q; cases q
            subst zb
            obtain ⟨_, ob, xs, rfl⟩ := O.frz oo q
            obtain ⟨e1, _⟩ := hok b _ q
            obtain ⟨e2, _⟩ := hok' b _ (un.frzs b ob _ q)
            rw [e] at e1
            cases e1
            exact e2
        refine ⟨rfl, ⟨fun b o e => ?_, fun b o e => ?_⟩, os, bare⟩
        · by_cases zb : b = p
          · subst zb
            rw [show s.heap.get? b = _ from ht] at e
            cases e
            exact .inr (.inl ⟨TA.isCodeTable, rfl, #[], more, rfl, by rw [Array.empty_append] at now ⊢; exact now⟩)
          · exact .inl (kept b o zb e)
        · by_cases zb : b = p
          · exact ⟨_, by rw [zb]; exact now⟩
          · exact ⟨o, kept b o zb e⟩
  cases hk : K.lookup a with
  | some o =>
    have e := KX a o hk
    rw [ha] at e
    cases e
    refine go (upd (fun _ => none) p (.tbl #[])) (.inr ⟨_, vs.toArray, _, hk, rfl, rfl, rfl, by rw [List.size_toArray, hi.length]; exact hl, by simpa using rv⟩) (fun b u z => ?_) ⟨upd_same, fun b _ n => upd_ne n, fun o z => ?_⟩
    · by_cases q : b = p
      · subst q
        rw [upd_same] at z
        cases z
        exact ht
      · rw [upd_ne q] at z
        cases z
    · rw [upd_ne pa.symm] at z
      cases z
  | none =>
    let ob : Obj := { cls := .type "list", data := .seq vs.toArray }
    refine go (upd (upd (fun _ => none) p (.tbl #[])) a (.frz ob (.lst (ns.map V.int)))) (.inl (.inr ⟨ob, upd_same⟩)) (fun b u z => ?_) ⟨by rw [upd_ne pa, upd_same], fun b n1 n2 => by rw [upd_ne n1, upd_ne n2], fun o z => ?_⟩
    · by_cases q : b = a
      · subst q
        rw [upd_same] at z
        cases z
        exact ⟨ha, by rw [List.length_map]; exact hl, vs, _, rv, ha⟩
      · rw [upd_ne q] at z
        by_cases q2 : b = p
        · subst q2
          rw [upd_same] at z
          cases z
          exact ht
        · rw [upd_ne q2] at z
          cases z
    · rw [upd_same] at z
      cases z
      exact ⟨hk, ob, _, rfl⟩
end
/-- the end of a law that makes lambdas; p: its table -/
theorem walk_TE {l : PySem.W.OpenLaw} {n k : Nat} {q : Program} {loose : List Str} {XP : (Str → Option Value) → Heap → Prop} {YP : World → Heap → Prop} {d : DefRec} {x : Str}
    (hn : l.most = some n) (hn2 : n ≤ sizeLine) (hdf : d.params.defaults = []) (hr : Room k callerA) (hrec : ((recsOf q).any fun e => e.name == d.name) = true)
    (F : ∀ (w : World) (mg : Str → Option Value) (fa : Addr) (h : Heap), YP w h → h.Ns mainGlobals mg → mg d.name = some (.ref fa) →
      ∃ (K : PySem.W.Frag) (fd : FuncData) (c : Addr) (sp : Addr → Sp), K.In h ∧ tabB K = true ∧ (∃ o, K.lookup fa = some o ∧ o.data = .func fd ∧ fd.code = .ref c) ∧ (∀ (s : Shared) (u : Value), BindsTo s fd ⟨[u], []⟩ [(x, u)]) ∧
        (∀ (p : Addr) (H : Hp) (a : Addr) (ns : List Int), ns.length ≤ n → H p = some (.tbl #[]) → SqL K H a (ns.map V.int) → sp p [.ref a] H (fun v _ => v = .bl true) fun _ _ _ => False) ∧
        ∀ (p : Addr) (base : Heap), K.In base → base.Ns mainGlobals mg → TabB base mg c p → FnG l.prog w K mg base k fa fd [x] (sp p)) :
    PySem.W.WalkO q loose XP YP l.row.toRowW d [] (fun f vs => PySem.call f vs) := by
  refine Att.attach_call hn hdf fun w _ s mg mb fa _ _ _ _ a vs ns G Y _ _ _ hmg hobj hints hlen hg => ?_
  obtain ⟨K, fd, c, sp, KX, tb, ⟨o, lo, od, oc⟩, hb, hsp, hF⟩ := F w mg fa _ Y G.T.g hmg
  obtain ⟨dL, hm, hn1⟩ := List.any_eq_true.mp hrec
  obtain ⟨a', o', fd', c', p, h1, h2, h3, h4, h5, h6⟩ := G.T.tab dL hm
  rw [beq_iff_eq.mp hn1, hmg] at h1
  cases h1
  rw [KX _ _ lo] at h2
  cases h2
  rw [od] at h3
  cases h3
  rw [oc] at h4
  cases h4
  have ht : EmptyTab s.heap p := h6.2
  exact law_callT KX G.T.g G.T.b G.T.builtins G.T.nolimit hg hobj ht (tabB_ok tb KX ht) (PySem.W.CodeHd.of h5 h6) h6 G.T.bmain hints (Nat.le_trans hlen hn2) hr (hF p) hb fun H h1 h2 => hsp p H a ns hlen h1 h2
/-! ## A def whose code object is known -/
section
variable {P : Program} {w : World} {K : PySem.W.Frag} {mg : Str → Option Value} {base : Heap}
theorem Fun.okGc {x qual : Str} {st : Stmt} {f c : Addr} {fd : FuncData} {N ps : List Str} {k : Nat} {sp : Sp} (F : Fun K x qual st f fd) (hc : fd.code = .ref c) (S : FnScope N ps (defScope st)) (len : ∀ vs H Q E, sp vs H Q E → vs.length = ps.length)
    (go : ∀ (A : Around) (outer : List Env) (s : Shared) (H : Hp) (vs : List V) (Q : VK) (E : XK), A.guards = some [] → Room k (A.deeper (envOfC qual (defScope st) s.heap.objs.size f (.ref c))) → sp vs H Q E →
      ∃ t, PSs (cxOf CX0 P w K mg base N qual (defScope st) f (.ref c) A outer s H E).nox (defBody st) t ∧ t { nx := fun _ H' => Q .non H', rt := Q } (start N vs) H) : FnG P w K mg base (k + 1) f fd ps sp := by
  obtain ⟨oc, od, kV, doc, pm, an, cdv, ct, osl, rfl, lk, hcd⟩ := F.ex
  obtain rfl : cdv = .ref c := hc
  refine ⟨len, fun A outer s H args us vs Q E hg hr e0 hb r hsp => ?_⟩
  have up : ∀ b o, base.get? b = some o → s.heap.get? b = some o := fun b o z => (e0.bs b o z).1
  have KX := e0.mod.kin.keeps up
  refine codeAny_call_function hr.depth (KX _ _ lk) rfl S.co S.gen rfl (PySem.W.codeRec_of KX hcd) (hb _ _ _ _ ?_)
  refine wpAny_newFunctionEnv_cells S.kind (fun y hy => ?_) fun env he s1 x => ?_
  · rcases S.par y.1 (List.of_mem_zip (a := y.1) (b := y.2) hy).1 with z | z
    · exact .inl z
    · exact .inr ⟨z, PySem.W.cellsFrom_some _ _ _ (.inl z)⟩
  subst he
  obtain ⟨t, ht, hq⟩ := go A outer s H vs Q E hg (hr.deeper _) hsp
  have I : Inv (cxOf CX0 P w K mg base N qual (defScope st) f (.ref c) A outer s H E) [] (start N vs) H s1 := inv_start S hr.hd e0 (len _ _ _ _ hsp) r x
  refine ⟨(e0.mod.nolimit.keeps up).keeps x.toInCall.keep, codeAny_func (wpAny_mono (ht.nox.run [] s1 (start N vs) H _ I hq) (fun fl s' hs => ?_) fun _ _ z => z)⟩
  cases fl with
  | ret u => obtain ⟨v, _, H', J, rv, q⟩ := hs; exact ⟨v, H', J.os, J.bare, J.base, J.hok, rv, q⟩
  | next => obtain ⟨_, H', J, q⟩ := hs; exact ⟨V.non, H', J.os, J.bare, J.base, J.hok, rfl, q⟩
  | brk => obtain ⟨_, _, _, q⟩ := hs; exact q.elim
  | cont => obtain ⟨_, _, _, q⟩ := hs; exact q.elim
end
/-! ## What stays: all but the tape and the tables -/
def Stp (t : Addr) (H H' : Hp) : Prop := ∀ b o, b ≠ t → (∀ ps, o ≠ .tbl ps) → H b = some o → H' b = some o
theorem Stp.refl (t : Addr) (H : Hp) : Stp t H H := fun _ _ _ _ e => e
theorem Stp.trans {t : Addr} {H H1 H2 : Hp} (a : Stp t H H1) (b : Stp t H1 H2) : Stp t H H2 := fun c o n m e => b c o n m (a c o n m e)
theorem Stp.of {t : Addr} {H H' : Hp} (s : Same H H') : Stp t H H' := fun b o _ _ e => s b o e
theorem Stp.b {t : Addr} {H H' : Hp} (s : SameB t H H') : Stp t H H' := fun b o n _ e => s b o n e
theorem Stp.n {t : Addr} {H H' : Hp} (s : ExtN H H') : Stp t H H' := fun b o _ m e => s b o e m
/-- the tape and the tables stand -/
structure Stands (T : List (Addr × Str)) (t : Addr) (H : Hp) : Prop where
  tp : Tape H t
  tb : Tabs T H
theorem Stands.same {T : List (Addr × Str)} {t : Addr} {H H' : Hp} (J : Stands T t H) (s : Same H H') : Stands T t H' := ⟨J.tp.same s, J.tb.ext s⟩
theorem Stands.b {T : List (Addr × Str)} {t : Addr} {H H' : Hp} (J : Stands T t H) (s : SameB t H H') (z : Tape H' t) : Stands T t H' := by
  refine ⟨z, fun p hp => ?_⟩
  obtain ⟨l, _, _, _, _, ht, _⟩ := J.tp
  obtain ⟨ps, h1, h2, h3⟩ := J.tb p hp
  have ne : ∀ {b : Addr} {o : HO}, H b = some o → (∀ xs, o ≠ .lst xs) → b ≠ t := fun {b o} e n z => by
    rw [z, ht] at e
    exact n _ (Option.some.inj e).symm
  refine ⟨ps, s _ _ (ne h1 nofun) h1, h2, fun pos cv hc => ?_⟩
  obtain ⟨c, e1, e2⟩ := h3 pos cv hc
  exact ⟨c, e1, s _ _ (ne e2 fun xs z => by unfold CodeO at z; cases z) e2⟩
theorem Stands.n {T : List (Addr × Str)} {t : Addr} {H H' : Hp} (J : Stands T t H) (s : ExtN H H') (z : Tabs T H') : Stands T t H' := by
  obtain ⟨l, ns, p, r, m, h1, h2, h3⟩ := J.tp
  exact ⟨⟨l, ns, p, r, m, s _ _ h1 nofun, s _ _ h2 nofun, h3⟩, z⟩
theorem code_of {K : PySem.W.Frag} {x qual : Str} {params : Arguments} {body : List Stmt} {scope : Scope} {dvs : List V} {kws : List (Str × V)} {f : Addr} {fd : FuncData} (F : FunD K x qual params body scope dvs kws f fd) : ∃ c, ∃ o, K.lookup f = some o ∧ o.data = .func fd ∧ fd.code = .ref c := by
  obtain ⟨oc, od, dV, kV, doc, pm, an, cdv, ct, osl, rfl, lk, hcd, _, _⟩ := F.ex
  cases cdv with
  | ref c => exact ⟨c, _, lk, rfl, rfl⟩
  | _ => cases hcd
end Lc
set_option Elab.async false
set_option linter.all false
set_option maxRecDepth 100000
set_option maxHeartbeats 4000000
namespace Lc
open PySem PySem.Spec PyProof.Rows L2 He LamX
/-! ## The head's facts from a few globals alone, the empty tables of code objects left out -/
def asU (sm : Bool) (names : List Str) (g : Addr → Option Obj) (n : Nat) : List Addr := (asM sm names g n).filter fun a => match g a with
  | some o => noTab o
  | none => true
def obsU (sm : Bool) (names : List Str) (n : Nat) (fa : List Fa) (fn : List DefD) (ex : PySem.W.Frag → Bool) (ts : List Tab) (g : Addr → Option Obj) : AlF := obsK fa fn ex ts (frG g (asU sm names g n))
def hookU (sm : Bool) (names : List Str) (n : Nat) (fa : List Fa) (fn : List DefD) (ex : PySem.W.Frag → Bool) (ts : List Tab) : PySem.W.Hook where
  α := AlF
  obs := fun s => obsU sm names n fa fn ex ts s.heap.get?
  val := fun w => ((valD fn, true), ts.map fun t : Tab => some (keysIn w.params t.2))
  says := fun w h => ∃ K : PySem.W.Frag, K.In h ∧ SaysD fa fn K ∧ ex K = true ∧ TabsOk ts w K
  of := fun _ _ e => ⟨_, frG_in, congrArg (fun z : AlF => z.1.1) e, congrArg (fun z : AlF => z.1.2) e, tabs_of (show _ = _ from congrArg (fun z : AlF => z.2) e)⟩
  keeps := fun _ _ _ ⟨K, hK, c⟩ k => ⟨K, PySem.W.Frag.In.keeps hK k, c⟩
theorem obsU_eq {sm : Bool} {names : List Str} {n : Nat} {fa : List Fa} {fn : List DefD} {ex : PySem.W.Frag → Bool} {ts : List Tab} {g : Addr → Option Obj} {s : Shared} (h : ∀ a, g a = s.heap.get? a) : obsU sm names n fa fn ex ts g = (hookU sm names n fa fn ex ts).obs s := by
  have e : g = s.heap.get? := funext h
  rw [e] <;> rfl
/-- the end of a law behind a def that makes lambdas; p: the def's table -/
theorem walk_TE2 {l : PySem.W.OpenLaw} {n k : Nat} {q : Program} {loose : List Str} {XP : (Str → Option Value) → Heap → Prop} {YP : World → Heap → Prop} {d : DefRec} {x x2 : Str}
    (hn : l.most = some n) (hn2 : n ≤ sizeLine) (hdf : d.params.defaults = []) (hr : Room k callerA) (hrec : ((recsOf q).any fun e => e.name == x2) = true)
    (F : ∀ (w : World) (mg : Str → Option Value) (fa : Addr) (h : Heap), YP w h → h.Ns mainGlobals mg → mg d.name = some (.ref fa) →
      ∃ (K : PySem.W.Frag) (fd fd2 : FuncData) (c f2 : Addr) (sp : Addr → Sp), K.In h ∧ tabB K = true ∧ mg x2 = some (.ref f2) ∧ (∃ o, K.lookup f2 = some o ∧ o.data = .func fd2 ∧ fd2.code = .ref c) ∧ (∀ (s : Shared) (u : Value), BindsTo s fd ⟨[u], []⟩ [(x, u)]) ∧
        (∀ (p : Addr) (H : Hp) (a : Addr) (ns : List Int), ns.length ≤ n → H p = some (.tbl #[]) → SqL K H a (ns.map V.int) → sp p [.ref a] H (fun v _ => v = .bl true) fun _ _ _ => False) ∧
        ∀ (p : Addr) (base : Heap), K.In base → base.Ns mainGlobals mg → TabB base mg c p → FnG l.prog w K mg base k fa fd [x] (sp p)) :
    PySem.W.WalkO q loose XP YP l.row.toRowW d [] (fun f vs => PySem.call f vs) := by
  refine Att.attach_call hn hdf fun w _ s mg mb fa _ _ _ _ a vs ns G Y _ _ _ hmg hobj hints hlen hg => ?_
  obtain ⟨K, fd, fd2, c, f2, sp, KX, tb, m2, ⟨o, lo, od, oc⟩, hb, hsp, hF⟩ := F w mg fa _ Y G.T.g hmg
  obtain ⟨dL, hm, hn1⟩ := List.any_eq_true.mp hrec
  obtain ⟨a', o', fd', c', p, h1, h2, h3, h4, h5, h6⟩ := G.T.tab dL hm
  rw [beq_iff_eq.mp hn1, m2] at h1
  cases h1
  rw [KX _ _ lo] at h2
  cases h2
  rw [od] at h3
  cases h3
  rw [oc] at h4
  cases h4
  have ht : EmptyTab s.heap p := h6.2
  exact law_callT KX G.T.g G.T.b G.T.builtins G.T.nolimit hg hobj ht (tabB_ok tb KX ht) (PySem.W.CodeHd.of h5 h6) h6 G.T.bmain hints (Nat.le_trans hlen hn2) hr (hF p) hb fun H h1 h2 => hsp p H a ns hlen h1 h2
end Lc
set_option Elab.async false
set_option linter.all false
set_option maxRecDepth 100000
set_option maxHeartbeats 4000000
namespace Lc
open PySem PySem.Spec PyProof.Rows L2 He
/-! ## an int in a dict of the module with text keys -/
def diB (K : PySem.W.Frag) (d : Addr) (x : Str) (n : Int) : Bool := match PySem.W.nsIn K d x with
  | some (some (.int m _)) => decide (m = n)
  | _ => false
theorem di_ok {K : PySem.W.Frag} {w : World} {d : Addr} {x : Str} {n : Int} (D : ∃ es n, KDict K w d es n) (h : diB K d x n = true) : KDct K w d x (.int n) ∧ ∃ u, PySem.W.nsIn K d x = some (some u) := by
  unfold diB at h
  split at h
  · rename_i m t q
    obtain ⟨es, k, D⟩ := D
    have e : m = n := of_decide_eq_true h
    exact ⟨⟨es, k, _, D.at_, D.lit, q, ⟨t, by rw [e]⟩⟩, _, q⟩
  · cases h
end Lc
set_option Elab.async false
set_option linter.all false
set_option maxRecDepth 100000
set_option maxHeartbeats 4000000
namespace Lc
open PySem PySem.Spec PyProof.Rows L2
/-! ## f(k = v, ..), keywords only -/
section
variable {X : Cx} {CX : CXT} {k : Nat} {f : Addr} {fd : FuncData} {ps ks : List Str} {sp : Sp} {E : XK} {x : Str} {p pos : Pos} {kws : List Keyword} {tk : TA} {g : List Value → List Value → List Value} {gV : List V → List V → List V}
theorem pe_callKO (F : FnOk X.prog X.w X.K X.mg X.base CX k f fd ps sp) (hr : Room k X.A) (hg : Gl X x) (hm : X.mg x = some (.ref f)) (hk : PySem.W.keepIn X.K (.ref f) = true) (hb : KBinds X.K fd ps ks g gV) (hx : Passes CX X E)
    (hkw : PK X kws tk) (hall : (backToKw pos (keywordEach kws X.env)).all (·.1.isSome) = true := by rfl) (hks : (backToKw pos (keywordEach kws X.env)).filterMap (·.1) = ks := by rfl)
    (hdb : (x == ("__debug__" : Str)) = false := by decide) (hpl : ((backTo pos (starEach [] X.env)).any (·.1) || (backToKw pos (keywordEach kws X.env)).any (·.1.isNone)) = false := by rfl) : PE X (.Call (.Name x p) [] kws pos) (tCallK sp gV E tNil tk) := by
  refine ⟨fun pins s σ H Q I h => ?_⟩
  refine wpAny_Call_Name_kw (ld_glob I hg hm ?_ hdb)
  refine PySem.W.callWith_KW0 (h₀ := X.base) I.ok.mod.kin hk hall (thn (hkw.run pos pins s σ H _ I h) fun ws s2 ⟨zs, H2, I2, rz, q2⟩ => ⟨I2.kIn, ?_⟩) hpl
  rw [hks]
  exact run_fnk F hr hb hx I2 .nil rz q2
end
end Lc
set_option Elab.async false
set_option linter.all false
set_option maxRecDepth 100000
set_option maxHeartbeats 4000000
namespace Lc
open PySem PySem.Spec PyProof.Rows L2
/-! ## f(e, .., k = v, ..), f a def of the module that may raise -/
def tCallKS (sp : Sp) (gV : List V → List V → List V) (E : L2.St → XK) (t tk : TA) : TE := fun σ H Q => t σ H fun vs H1 => tk σ H1 fun zs H2 => sp (gV vs zs) H2 Q (E σ)
section
variable {X : Cx} {CX : CXT} {k : Nat} {f : Addr} {fd : FuncData} {ps ks : List Str} {sp : Sp} {E : L2.St → XK} {x : Str} {p pos : Pos} {e : Expr} {es : List Expr} {kws : List Keyword} {t tk : TA} {g : List Value → List Value → List Value} {gV : List V → List V → List V}
theorem pe_callKS (F : FnOk X.prog X.w X.K X.mg X.base CX k f fd ps sp) (hr : Room k X.A) (hg : Gl X x) (hm : X.mg x = some (.ref f)) (hk : PySem.W.keepIn X.K (.ref f) = true) (hb : KBinds X.K fd ps ks g gV) (hx : ∀ σ, PassesAt CX X σ (E σ))
    (ha : PA X (e :: es) t) (hkw : PK X kws tk) (hall : (backToKw pos (keywordEach kws X.env)).all (·.1.isSome) = true := by rfl) (hks : (backToKw pos (keywordEach kws X.env)).filterMap (·.1) = ks := by rfl)
    (hdb : (x == ("__debug__" : Str)) = false := by decide) (he : starEach (e :: es) X.env = (false, eval e X.env) :: starEach es X.env := by rfl)
    (hpl : ((backTo pos (starEach (e :: es) X.env)).any (·.1) || (backToKw pos (keywordEach kws X.env)).any (·.1.isNone)) = false := by rfl) :
    PE X (.Call (.Name x p) (e :: es) kws pos) (tCallKS sp gV E t tk) := by
  refine ⟨fun pins s σ H Q I h => ?_⟩
  refine wpAny_Call_Name_kw (ld_glob I hg hm ?_ hdb)
  refine PySem.W.callWith_KW (h₀ := X.base) I.ok.mod.kin hk hall (thn (ha.run pos pins s σ H _ I h) fun us s1 ⟨vs, H1, I1, r, q⟩ => ?_) hpl he
  refine thn (hkw.run pos pins s1 σ H1 _ I1 q) fun ws s2 ⟨zs, H2, I2, rz, q2⟩ => ⟨I2.kIn, ?_⟩
  rw [hks]
  have r2 := hb.rel r rz
  have hl : (g us ws).length = ps.length := by rw [← r2.length]; exact F.len _ _ _ _ q2
  refine wpAny_call (codeAny_mono (F.run X.A X.stack s2 H2 ⟨us, ks.zip ws⟩ (g us ws) (gV vs zs) Q (E σ) hr I2.env0 (hb.to s2 us ws I2.kIn hl) r2 q2) fun r s' hq => ?_)
  match r, hq with
  | .error er, hq => exact hx σ pins H2 s2 er s' I2 hq
  | .ok (.ret u), hq => exact I2.after hq
  | .ok .next, hq => exact False.elim hq
  | .ok .brk, hq => exact False.elim hq
  | .ok .cont, hq => exact False.elim hq
end
/-- a call that leaves the defaults -/
theorem kb_of {K : PySem.W.Frag} {fd : FuncData} {ps : List Str} {ds : List Value} {dvs : List V} (b : Binds K fd ps ds) (v : Vals dvs ds) : KBinds K fd ps [] (fun us _ => us ++ ds) (fun vs _ => vs ++ dvs) :=
  ⟨fun s us ws hk hl => b s us hk (by simpa [List.length_append] using hl), fun r _ => r.append v⟩
def gKw : {α : Type} → List α → List α → List α → List α := fun a _ c => a ++ c
/-- all keywords given, behind n values -/
def gAt {α : Type} (n m : Nat) (us ws : List α) : List α := if us.length = n ∧ ws.length = m then us ++ ws else []
theorem kb_at {K : PySem.W.Frag} {fd : FuncData} {ps ks : List Str} {n : Nat} (h : KBn K fd ps n ks (fun us ws => us ++ ws) (fun vs zs => vs ++ zs)) (hp : ps.length ≠ 0) : KBinds K fd ps ks (gAt n ks.length) (gAt n ks.length) := by
  refine ⟨fun s us ws X l => ?_, fun {vs us zs ws} r rz => ?_⟩
  · unfold gAt at l ⊢
    by_cases q : us.length = n ∧ ws.length = ks.length
    · rw [if_pos q]
      exact h.to s us ws X q.1 q.2
    · rw [if_neg q] at l
      exact absurd l.symm hp
  · unfold gAt
    by_cases q : us.length = n ∧ ws.length = ks.length
    · rw [if_pos q, if_pos (by rw [r.length, rz.length]; exact q)]
      exact r.append rz
    · rw [if_neg q, if_neg (by rw [r.length, rz.length]; exact q)]
      exact .nil
end Lc
set_option Elab.async false
set_option linter.all false
set_option maxRecDepth 100000
set_option maxHeartbeats 4000000
namespace Lc
open PySem PySem.Spec PyProof.Rows L2
/-! ## o.m(e, ..) and o.m(e, .., k = v, ..), where m may raise -/
def tMethS (C : Addr) (m : Str) (sp : Sp) (E : L2.St → XK) (ta : TE) (t : TA) : TE := fun σ H Q => ta σ H fun x H1 => ∃ a dx fs, x = .ref a ∧ H1 a = some (.ins C dx fs) ∧ fs.lookup m = none ∧
  t σ H1 fun vs H2 => sp (x :: vs) H2 Q (E σ)
def tMethKS (C : Addr) (m : Str) (n l : Nat) (sp : Sp) (gV : List V → List V → List V) (E : L2.St → XK) (ta : TE) (t tk : TA) : TE := fun σ H Q => ta σ H fun x H1 => ∃ a dx fs, x = .ref a ∧ H1 a = some (.ins C dx fs) ∧ fs.lookup m = none ∧
  t σ H1 fun vs H2 => tk σ H2 fun zs H3 => vs.length = n ∧ zs.length = l ∧ sp (gV (x :: vs) zs) H3 Q (E σ)
section
variable {X : Cx} {CX : CXT} {k n : Nat} {f C : Addr} {fd : FuncData} {ps ks : List Str} {sp : Sp} {E : L2.St → XK} {m : Str} {pos apos : Pos} {e o : Expr} {es : List Expr} {kws : List Keyword} {ta : TE} {t tk : TA} {g : List Value → List Value → List Value} {gV : List V → List V → List V}
theorem pe_methS {pl : Sem Bool} (he : PE X o ta) (c : Cls X.K C) (hm : Meth X.K C m f) (F : FnOk X.prog X.w X.K X.mg X.base CX k f fd ps sp) (hr : Room k X.A) (hb : Binds X.K fd ps []) (hx : ∀ σ, PassesAt CX X σ (E σ)) (ha : PA X (e :: es) t)
    (hst : starEach (e :: es) X.env = (false, eval e X.env) :: starEach es X.env := by rfl) (hpl : (backTo pos (starEach es X.env)).any (·.1) = false := by rfl)
    (ht : eval (.Call (.Attribute o m apos) (e :: es) [] pos) X.env = (do
      let ov ← eval o X.env
      standAt apos.atName
      let (f, first) ← holding [ov] (getMethod ov m pl)
      callWith pos f first (backTo pos (starEach (e :: es) X.env)) (backToKw pos (keywordEach [] X.env))) := by rfl) :
    PE X (.Call (.Attribute o m apos) (e :: es) [] pos) (tMethS C m sp E ta t) := by
  refine ⟨fun pins s σ H Q I h => ?_⟩
  refine PySem.W.methodCall_KW (pl := pl) (thn (he.run pins s σ H _ I h) fun u s1 ⟨x, H1, I1, rx, a, dx, fs, ex, ea, l, q⟩ => ?_) ht
  subst ex
  obtain rfl : u = Value.ref a := rx
  refine getmeth_ok I1 ea c hm l ?_
  refine PySem.W.callWith_K (first := [.ref a]) (h₀ := X.base) I.ok.mod.kin hm.kp (thn (ha.run pos pins s1 σ H1 _ I1 q) fun us s2 ⟨vs, H2, I2, r, q2⟩ => ⟨I2.kIn, ?_⟩) hst hpl
  exact run_fnS (us := .ref a :: us) (vs := .ref a :: vs) F hr hb (hx σ) I2 (.cons rfl r) q2
theorem pe_methKS {pl : Sem Bool} (he : PE X o ta) (c : Cls X.K C) (hm : Meth X.K C m f) (F : FnOk X.prog X.w X.K X.mg X.base CX k f fd ps sp) (hr : Room k X.A) (hb : KBn X.K fd ps (n + 1) ks g gV) (hx : ∀ σ, PassesAt CX X σ (E σ)) (ha : PA X (e :: es) t) (hkw : PK X kws tk)
    (hall : (backToKw pos (keywordEach kws X.env)).all (·.1.isSome) = true := by rfl) (hks : (backToKw pos (keywordEach kws X.env)).filterMap (·.1) = ks := by rfl) (hst : starEach (e :: es) X.env = (false, eval e X.env) :: starEach es X.env := by rfl)
    (hpl : ((backTo pos (starEach (e :: es) X.env)).any (·.1) || (backToKw pos (keywordEach kws X.env)).any (·.1.isNone)) = false := by rfl)
    (ht : eval (.Call (.Attribute o m apos) (e :: es) kws pos) X.env = (do
      let ov ← eval o X.env
      standAt apos.atName
      let (f, first) ← holding [ov] (getMethod ov m pl)
      callWith pos f first (backTo pos (starEach (e :: es) X.env)) (backToKw pos (keywordEach kws X.env))) := by rfl) :
    PE X (.Call (.Attribute o m apos) (e :: es) kws pos) (tMethKS C m n ks.length sp gV E ta t tk) := by
  refine ⟨fun pins s σ H Q I h => ?_⟩
  refine PySem.W.methodCall_KW (pl := pl) (thn (he.run pins s σ H _ I h) fun u s1 ⟨x, H1, I1, rx, a, dx, fs, ex, ea, l, q⟩ => ?_) ht
  subst ex
  obtain rfl : u = Value.ref a := rx
  refine getmeth_ok I1 ea c hm l ?_
  refine PySem.W.callWith_KW (first := [.ref a]) (h₀ := X.base) I.ok.mod.kin hm.kp hall (thn (ha.run pos pins s1 σ H1 _ I1 q) fun us s2 ⟨vs, H2, I2, r, q2⟩ => ?_) hpl hst
  refine thn (hkw.run pos pins s2 σ H2 _ I2 q2) fun ws s3 ⟨zs, H3, I3, rz, l1, l2, q3⟩ => ⟨I3.kIn, ?_⟩
  rw [hks]
  have r1 : Vals (V.ref a :: vs) (Value.ref a :: us) := .cons rfl r
  have done := F.run X.A X.stack s3 H3 ⟨.ref a :: us, ks.zip ws⟩ (g (.ref a :: us) ws) (gV (.ref a :: vs) zs) Q (E σ) hr I3.env0 (hb.to s3 (.ref a :: us) ws I3.kIn (by rw [List.length_cons, ← r.length, l1]) (rz.length.symm.trans l2)) (hb.rel r1 rz) q3
  refine wpAny_call (codeAny_mono done fun rr s' hq => ?_)
  match rr, hq with
  | .error er, hq => exact hx σ pins H3 s3 er s' I3 hq
  | .ok (.ret u), hq => exact I3.after hq
  | .ok .next, hq => exact False.elim hq
  | .ok .brk, hq => exact False.elim hq
  | .ok .cont, hq => exact False.elim hq
end
end Lc
set_option Elab.async false
set_option linter.all false
set_option maxRecDepth 100000
set_option maxHeartbeats 4000000
/-! An own error class right over any built-in one (not only ValueError), with an __init__ of its own that keeps a field. -/
namespace PySem
namespace LcOex
open PySem.W PySem.Calls PyProof.Rows PySem.HandSPX
section
open Builtin Builtin.ObjectAttr
variable {pr : Program} {wd : World} {Ar : Around} {Rr : Result → Shared → Prop} {hh : Heap} {gn : Array GenState} {dn : Drawn} {tn : Nat} {on : OsState}
theorem first_field {K : W.Frag} {fld : Str} {tok : Tok} {val : Value} {me C : Addr} {parts : Array Value} {cl : ClassData} {B : String} {tail : List Value} (SB : StoreFacts B tail "object.__setattr__" "object")
    (kin : K.In hh) (obj : hh.get? me = some { cls := .ref C, data := .fields parts }) (hcl : W.clsIn K C = some cl) (line : cl.mro = .ref C :: tail) (dct : cl.hasDict = true) (no : W.findIn K (.ref C) fld = some none)
    (go : ∀ h2 tok2 box, (∀ b ob, b ≠ me → hh.get? b = some ob → h2.get? b = some ob) → hh.objs.size ≤ box → box ≠ me → h2.get? me = some { cls := .ref C, dict := some box, data := .fields parts } → h2.Ns1 box (fun z => if z = fld then some val else none) → Rr (.ok (.ret .none)) ⟨h2, gn, dn, tok2, on⟩) :
    codeAny (model pr wd) Ar (.call (.builtin "object.__setattr__") ⟨[.ref me, .str fld tok, val], []⟩) Rr ⟨hh, gn, dn, tn, on⟩ := by
  have at1 : W.InstAt hh me { cls := .ref C, data := .fields parts } C none := ⟨obj, rfl, rfl, trivial⟩
  have so := F.store_object
  have full : cl.mro.isEmpty = false := by rw [line]; rfl
  have top : cl.mro.contains (.type "object") = true := by rw [line, List.contains_cons, SB.hasOwner, Bool.or_true]
  have apart : me ≠ hh.objs.size := Nat.ne_of_lt (Heap.lt_size obj)
  have isi : W.Looks (model pr wd) hh (isInstance (.ref me) (.type "object")) true := at1.type.andThen (W.looks_mroIn kin (by unfold W.mroIn; rw [hcl, Option.bind_some, if_neg (by rw [full]; decide), top]))
  refine codeAny_call_builtin so.slot.plain so.entry (@W.check_slot (model pr wd) _ _ ⟨hh, gn, dn, tn, on⟩ "object.__setattr__" "object" "__setattr__" (.ref me) [.str fld tok, val] [] _ so.kind so.split isi (so.args (.ref me) (.str fld tok) val) ?_)
  have walk : W.Looks (model pr wd) hh (mroOf (.ref C)) cl.mro := (W.looks_clsIn kin hcl).andThen .now
  have nobody : W.Looks (model pr wd) hh (storeTaker? none) none := .now
  have dataC : W.Looks (model pr wd) hh (classData C) cl := W.looks_clsIn kin hcl
  have pass : refuseLoop (.ref me) "__setattr__" cl.mro = pure () := by rw [line, refuseLoop_ref]; exact SB.passes _
  rw [W.osa_eq, refuse_eq]
  refine wpAny_bind (wpAny_bind (at1.type.at (wpAny_bind (walk.at ?_))))
  rw [pass]
  refine wpAny_pure (wpAny_bind (at1.type.at (wpAny_bind ((W.looks_findIn kin no).at (wpAny_bind (nobody.at ?_))))))
  show wpAny _ _ (storeInOwnDict (.ref me) (.ref C) (.str fld tok) fld val false) _ _ _
  obtain ⟨c1, c2, c3, c4, c5, c6, c7, c8, c9, c10, c11⟩ := cl
  dsimp only at dct
  subst dct
  unfold storeInOwnDict ownDictForStores
  repeat (first | with_reducible refine store_in_new ?_ ?_ | with_reducible refine wpAny_loadPart_at obj ?_ | with_reducible refine dataC.at ?_ | wp_step)
  · refine ⟨_, #[], _, (Heap.get?_update_ne _ _ _ _ apart.symm).trans (Heap.get?_push_at rfl rfl), rfl, fun e he => ?_, fun _ => rfl⟩
    exact absurd he (by simp)
  · intro h2 tok2 hn hs
    have obj2 : (hh.push { cls := .type "dict", data := .dict #[] }).get? me = some { cls := .ref C, data := .fields parts } := Heap.get?_push_of_some _ obj
    refine go h2 tok2 hh.objs.size (fun b ob nb eb => ?_) (Nat.le_refl _) apart.symm ?_ hn
    · refine (hs.2 b (Nat.ne_of_lt (Heap.lt_size eb))).trans ?_
      exact (Heap.get?_update_ne _ _ _ _ nb).trans (Heap.get?_push_of_some _ eb)
    · exact (hs.2 me apart).trans (Heap.get?_update_self _ obj2 rfl)
end
end LcOex
end PySem
namespace Lc
open PySem PySem.Spec PyProof.Rows L2
/-- an own error class right over a built-in one -/
structure OexG (K : PySem.W.Frag) (C : Addr) (new : String) (tail : List Value) : Prop where
  at_ : ∃ c1 c2 c3 c4 c5 c6 c7 c8 c9 c10 c11 c12 c13 c14, K.lookup C = some (excClassObj c1 c2 C c3 c4 tail true c5 c6 c7 c8 c9 c10 c11 c12 c13 c14 new)
  put : PySem.W.findIn K (.ref C) "__setattr__" = some (some (.builtin "object.__setattr__"))
  exc : PySem.W.subIn K (.ref C) (.type "BaseException") = some true
  typ : PySem.W.typeIn K (.ref C) = some (.type "type")
  kept : PySem.W.keepIn K (.ref C) = true
section
variable {X : Cx} {pins : List (Addr × Obj)} {σ : L2.St} {H : Hp} {sh : Shared} {a C : Addr} {fld new B : String} {tail : List Value} {y : V} {u : Value} {Qu : Unit → Shared → Prop} {Eu : Value → Shared → Prop} {Au : Around}
theorem put_new {fld : Str} (SB : StoreFacts B tail "object.__setattr__" "object") (T : OexG X.K C new tail) (I : Inv X pins σ H sh) (ea : H a = some (exo a C none)) (no : PySem.W.findIn X.K (.ref C) fld = some none) (ry : RelV y u)
    (go : ∀ box s2, H box = none → box ≠ a → Inv X pins σ (upd (upd H box (exd box [(fld, y)])) a (exo a C (some box))) s2 → Qu () s2) : wpAny (model X.prog X.w) Au (setAttr (.ref a) fld u) Qu Eu sh := by
  obtain ⟨c1, c2, c3, c4, c5, c6, c7, c8, c9, c10, c11, c12, c13, c14, lk⟩ := T.at_
  have data : PySem.W.clsIn X.K C = some { name := c1, bases := c4, mro := .ref C :: tail, ns := c3, qualname := c2, hasDict := true, slotNames := c5, subclasses := c6, abstract := c7, collection := c8, hasDel := false } := by
    unfold PySem.W.clsIn
    rw [lk] <;> rfl
  obtain ⟨args, there⟩ := exo_at I.hok ea
  obtain ⟨hp, g, d, t, os⟩ := sh
  refine PySem.W.set_plain I.kIn (ox := { cls := .ref C, dict := none, data := .fields #[.ref args, .none, .none, .none, .bool false, .none] }) (od := none) ⟨there, rfl, rfl, trivial⟩ T.put ?_
  refine PySem.LcOex.first_field SB I.kIn there data rfl rfl no fun h2 tok2 box keep1 big apart self2 names => ?_
  have nbox : H box = none := I.hok.fresh big
  have old : ∀ {b : Addr} {ob : Obj}, hp.get? b = some ob → b ≠ box := fun {b ob} e => Nat.ne_of_lt (Nat.lt_of_lt_of_le (Heap.lt_size e) big)
  have nota : ∀ {b : Addr}, H b = none → b ≠ a := fun {b} n z => by rw [z, ea] at n; cases n
  have un : Un X.fs [] H (upd (upd H box (exd box [(fld, y)])) a (exo a C (some box))) hp h2 := by
    refine { keep := ?k1, slot := ?k2, free := ?k3, there := ?k4, tups := ?k5, frzs := ?k6, tbls := ?k7 }
    case k1 => exact fun b ob e n _ _ => keep1 b ob (nota n) e
    case k2 => exact fun b ob e n _ _ => ⟨ob.slots, keep1 b ob (nota n) e⟩
    case k3 =>
      intro b ob e n _
      rw [upd_ne (nota n), upd_ne (old e)]
      exact n
    case k4 =>
      intro b ob e _
      by_cases z : b = a
      · rw [z]
        exact ⟨_, self2⟩
      · exact ⟨ob, keep1 b ob z e⟩
    case k5 =>
      intro b zs e
      rw [upd_ne (at_ne ea e exo_tup), upd_ne (ne_of_none e nbox)]
      exact e
    case k6 =>
      intro b ob z e
      rw [upd_ne (at_ne ea e exo_frz), upd_ne (ne_of_none e nbox)]
      exact e
    case k7 =>
      intro b zs e
      refine ⟨#[], ?_⟩
      rw [upd_ne (at_ne ea e exo_tbl), upd_ne (ne_of_none e nbox), e]
      simp
  refine go box _ nbox apart (I.un (t' := tok2) un fun b ob e => ?_)
  by_cases z : b = a
  · subst z
    rw [upd_same] at e
    cases e
    exact exo_ok self2
  · rw [upd_ne z] at e
    by_cases z2 : b = box
    · subst z2
      rw [upd_same] at e
      cases e
      exact exd_ok names (relO_put (fs := []) ry fun _ => True.intro)
    · rw [upd_ne z2] at e
      have off : ∀ {c : Addr}, H c = some (.own b) → c ≠ a := fun {c} ec => at_ne ea ec exo_own
      refine (I.hok b ob e).stay (fun c w hc ec => keep1 c w ?_ ec) (fun c ec => ?_) (fun c zs ec => ?_)
      · rcases hc with hc | hc
        · rw [hc]; exact z
        · exact off hc
      · rw [upd_ne (off ec), upd_ne (ne_of_none ec nbox)]
        exact ec
      · rw [upd_ne (at_ne ea ec exo_tup), upd_ne (ne_of_none ec nbox)]
        exact ec
end
/-- self.f = e in the __init__ of such a class, the first field -/
def tPut (C : Addr) (f : Str) (to te : TE) : TS := fun D σ H => te σ H fun y H1 => to σ H1 fun x H2 => ∃ a : Addr, x = .ref a ∧ H2 a = some (exo a C none) ∧ ∀ box, H2 box = none → box ≠ a → D.nx σ (upd (upd H2 box (exd box [(f, y)])) a (exo a C (some box)))
section
variable {X : Cx} {B new : String} {tail : List Value} {C : Addr} {f : Str} {o e : Expr} {to te : TE} {p' pos : Pos}
theorem ps_put (SB : StoreFacts B tail "object.__setattr__" "object") (T : OexG X.K C new tail) (no : PySem.W.findIn X.K (.ref C) f = some none) (ho : PE X o to) (he : PE X e te) (hs : swapsWith e (some (.Attribute o f p')) pos.line X.env = pure false := by rfl) :
    PS X (.Assign [.Attribute o f p'] e pos) (tPut C f to te) := by
  refine ⟨fun pins s σ H D I h => ?_⟩
  refine plainObj_wpAny_Assign_Attribute (thn (he.run pins s σ H _ I h) fun v s1 ⟨y, H1, I1, ry, q1⟩ => thn (ho.run pins s1 σ H1 _ I1 q1) fun u s2 ⟨x, H2, I2, rx, a, ex, ea, q⟩ => ?_) hs
  subst ex
  obtain rfl : u = Value.ref a := rx
  exact put_new SB T I2 ea no ry fun box s' n ne J => ⟨σ, _, J, q box n ne⟩
end
section
variable {X : Cx} {B new ini : String} {tail : List Value} {CX : CXT} {x : Str} {C fI : Addr} {k : Nat} {fd : FuncData} {ps : List Str} {sp : Sp} {e : Expr} {es : List Expr} {ta : TA} {p pos : Pos}
theorem pmk_oexG {more : List Value} {moreV : List V} (FB : ExcBaseFacts B new ini tail) (T : OexG X.K C new tail) (iC : PySem.W.findIn X.K (.ref C) "__init__" = some (some (.ref fI))) (tI : PySem.W.typeIn X.K (.ref fI) = some (.type "function"))
    (FI : FnOk X.prog X.w X.K X.mg X.base CX k fI fd ps sp) (hr : Room (k + 1) X.A) (hb : Binds X.K fd ps more) (hmore : Vals moreV more) (hx : Passes CX X (fun _ _ _ => False)) (hg : Gl X x) (hm : X.mg x = some (.ref C)) (ha : PA X (e :: es) ta)
    (hdb : (x == ("__debug__" : Str)) = false := by decide) (he : starEach (e :: es) X.env = (false, eval e X.env) :: starEach es X.env := by rfl) (hpl : (backTo pos (starEach es X.env)).any (·.1) = false := by rfl) :
    PMk X (.Call (.Name x p) (e :: es) [] pos) (tMkO C sp moreV ta) := by
  intro pins s σ H Q I h
  obtain ⟨c1, c2, c3, c4, c5, c6, c7, c8, c9, c10, c11, c12, c13, c14, lk⟩ := T.at_
  refine wpAny_Call_Name_kw (ld_glob I hg hm ?_ hdb)
  refine PySem.W.callWith_K (h₀ := X.base) I.ok.mod.kin T.kept (thn (ha.run pos pins s σ H _ I h) fun us s1 ⟨vs, H1, I1, rv1, short, q1⟩ => ⟨I1.kIn, ?_⟩) he hpl
  show wpAny _ _ (call (.ref C) us) _ _ _
  obtain ⟨hp, g, dr, tk, os⟩ := s1
  have nme : H1 (hp.objs.size + 1) = none := I1.hok.fresh (Nat.le_succ _)
  have sp1 := q1 (hp.objs.size + 1) nme
  have grow : ∀ b ob, hp.get? b = some ob → ((hp.push (PySem.W.kdv_tup us)).push (PySem.HandSPX.excO C hp.objs.size)).get? b = some ob := fun b ob eb => Heap.get?_push_of_some _ (Heap.get?_push_of_some _ eb)
  have here : ((hp.push (PySem.W.kdv_tup us)).push (PySem.HandSPX.excO C hp.objs.size)).get? (hp.objs.size + 1) = some (PySem.HandSPX.excO C hp.objs.size) := by heap_get
  have I2 := I1.laid (t' := tk) (a := hp.objs.size + 1) (o := exo (hp.objs.size + 1) C none) grow (Nat.le_succ _) (exo_ok here)
  have rv2 : Vals (V.ref (hp.objs.size + 1) :: (vs ++ moreV)) (Value.ref (hp.objs.size + 1) :: (us ++ more)) := .cons rfl (rv1.append hmore)
  have len : (Value.ref (hp.objs.size + 1) :: us ++ more).length = ps.length := by
    have z := rv2.length
    rw [FI.len _ _ _ _ sp1] at z
    exact z.symm
  have few : us.length ≤ sizeLine := by rw [← Paired.length rv1, sizeLine_eq]; omega
  refine wpAny_call (PySem.HandSPX.call_own FB (fun _ => rfl) (I1.kIn _ _ lk) (PySem.W.looks_findIn I1.kIn iC) (fun self => PySem.W.bind_fn I1.kIn self tI) few ?_)
  refine codeAny_mono (FI.run _ X.stack _ _ ⟨Value.ref (hp.objs.size + 1) :: us, []⟩ (Value.ref (hp.objs.size + 1) :: (us ++ more)) _ _ (fun _ _ _ => False) (hr.make C us []) (I2.env0.make C us []) (hb _ (Value.ref (hp.objs.size + 1) :: us) I2.kIn len) rv2 sp1) fun res s' hq => ?_
  match res, hq with
  | .error er, hq => exact hx pins σ _ _ er s' I2 hq
  | .ok (.ret u), hq =>
    obtain ⟨v, H2, os2, bare2, un2, ok2, rv, ev, dd, fs, ea, ed, nd, q2⟩ := hq
    subst ev
    obtain ⟨h2, g2, d2, t2, os'⟩ := s'
    exact ⟨rv, mk_end (raises_own T.exc T.typ) I1 (Nat.le_succ _) grow un2 ok2 os2 bare2 ea ed nd q2⟩
  | .ok .next, hq => exact False.elim hq
  | .ok .brk, hq => exact False.elim hq
  | .ok .cont, hq => exact False.elim hq
end
end Lc
set_option Elab.async false
set_option linter.all false
set_option maxRecDepth 100000
set_option maxHeartbeats 4000000
namespace Lc
open PySem PySem.Spec PyProof.Rows L2 He
def oexGB (K : PySem.W.Frag) (C : Addr) (new : String) (tail : List Value) : Bool := (match K.lookup C with
  | some ⟨.type "type", _, .cls cd, sl⟩ => (match cd.mro, sl.toList with
    | .ref C' :: bm, [_, _, _, _, some (.builtin n), _] => C' == C && (n == new && (!cd.hasDel && (cd.hasDict && decide (bm = tail))))
    | _, _ => false)
  | _ => false) && (eqO (PySem.W.findIn K (.ref C) "__setattr__") (some (some (.builtin "object.__setattr__"))) && (optB (PySem.W.subIn K (.ref C) (.type "BaseException")) (some true) && (optV (PySem.W.typeIn K (.ref C)) (some (.type "type")) && PySem.W.keepIn K (.ref C))))
theorem oexGB_ok {K : PySem.W.Frag} {C : Addr} {new : String} {tail : List Value} (h : oexGB K C new tail = true) : OexG K C new tail := by
  unfold oexGB at h
  obtain ⟨q, h⟩ := ba h
  obtain ⟨h1, h⟩ := ba h
  obtain ⟨h2, h⟩ := ba h
  obtain ⟨h3, h4⟩ := ba h
  refine ⟨?_, eqO_ok h1, of_decide_eq_true h2, of_decide_eq_true h3, h4⟩
  split at q
  · rename_i dd cd sl lk
    split at q
    · rename_i C' bm k0 k1 k2 k3 n k5 hm hs
      simp only [Bool.and_eq_true, beq_iff_eq, Bool.not_eq_true', decide_eq_true_eq] at q
      obtain ⟨rfl, rfl, q3, q4, rfl⟩ := q
      obtain ⟨z1, z2, z3, z4, z5, z6, z7, z8, z9, z10, z11⟩ := cd
      dsimp only at hm q3 q4
      subst hm q3 q4
      have es : sl = #[k0, k1, k2, k3, some (.builtin n), k5] := by
        obtain ⟨l⟩ := sl
        have hs : l = _ := hs
        rw [hs]
      subst es
      exact ⟨_, _, _, _, _, _, _, _, _, _, _, _, _, _, lk⟩
    · cases q
  · cases q
end Lc
set_option Elab.async false
set_option linter.all false
set_option maxRecDepth 100000
set_option maxHeartbeats 8000000
namespace K19
open PySem PySem.Spec PyProof.Rows L2 Lc He
/-! ## the head -/
def dOf (x : Str) (st : Stmt) : DefD := ⟨(x, none), x, x, defArgs st, defBody st, defScope st, [], []⟩
def dMt (c m q : Str) (st : Stmt) : DefD := ⟨(c, some m), m, q, defArgs st, defBody st, defScope st, [], []⟩
def dKw (x : Str) (st : Stmt) (kw : List (Str × Dv)) : DefD := ⟨(x, none), x, x, defArgs st, defBody st, defScope st, [], kw⟩
def dDf (x : Str) (st : Stmt) (df : List Dv) : DefD := ⟨(x, none), x, x, defArgs st, defBody st, defScope st, df, []⟩
def dMd (c m q : Str) (st : Stmt) (df : List Dv) : DefD := ⟨(c, some m), m, q, defArgs st, defBody st, defScope st, df, []⟩
def fn : List DefD := [dMt "TooLarge" "__init__" "TooLarge.__init__" (inClass (top 5) 0), dMt "Table" "__init__" "Table.__init__" (inClass (top 58) 0), dMt "Table" "columns" "Table.columns" (inClass (top 58) 1), dMt "Table" "rows" "Table.rows" (inClass (top 58) 2), dOf "is_whole" (top 8), dOf "common_divisor" (top 9), dOf "is_rational" (top 10), dOf "is_name" (top 25), dOf "within_limit" (top 26), dOf "is_value" (top 27), dOf "kind_of" (top 33), dOf "kind_or_none" (top 34), dOf "kind_at" (top 35), dOf "has_word" (top 36), dOf "leaf_kind" (top 37), dOf "kind_of_value" (top 38), dOf "evaluate" (top 52), dOf "worth" (top 53), dOf "union_of" (top 56), dOf "names_of" (top 57), dOf "is_between" (top 78), dOf "is_tuple_of" (top 79), dOf "kind_in" (top 80), dOf "are_columns" (top 81), dOf "bounded" (top 82), dOf "behind_keep" (top 83), dOf "behind_first" (top 88), dOf "behind_sample" (top 89), dOf "behind_join" (top 90), dOf "behind_union" (top 91), dOf "word_of" (top 97), dOf "columns_behind" (top 98), dOf "resolved" (top 100), dOf "draw" (top 103), dOf "places_of" (top 104), dOf "picked" (top 105), dOf "kept_rows" (top 106), dOf "first_rows" (top 112), dOf "sampled_rows" (top 113), dOf "grouped" (top 114), dOf "check_size" (top 115), dOf "joined_rows" (top 116), dOf "united_rows" (top 117), dKw "run" (top 122) [("setting", .non)], dOf "_law_tape" (top 124), dOf "_law_draw" (top 125), dOf "_law_lowest" (top 126), dOf "_law_rational" (top 127), dOf "_law_name" (top 128), dOf "_law_fresh" (top 129), dOf "_law_columns" (top 130), dOf "_law_value" (top 131), dOf "_law_values" (top 132), dOf "_law_pick" (top 133), dOf "_law_lineage" (top 134), dOf "_law_union" (top 135), dOf "_law_rows" (top 136), dOf "_law_ran" (top 137), dOf "_law_pair" (top 138), dOf "_law_alike_rows" (top 139), dOf "_law_keyed" (top 140), dOf "_law_joined" (top 141), dOf "_law_due" (top 142), dOf "_law_large" (top 143), dOf "law" (top 144)]
def gl : List Str := (["TooLarge", "BadExpression", "Table", "LENGTHS", "BEHIND", "ROWS_BEHIND", "KINDS", "is_whole", "common_divisor", "is_rational", "is_name", "within_limit", "is_value", "kind_of", "kind_or_none", "kind_at", "has_word", "leaf_kind", "kind_of_value", "evaluate"] : List Str) ++ (["worth", "union_of", "names_of", "is_between", "is_tuple_of", "kind_in", "are_columns", "bounded", "behind_keep", "behind_first", "behind_sample", "behind_join", "behind_union", "word_of", "columns_behind", "resolved", "draw", "places_of", "picked", "kept_rows"] : List Str) ++ (["first_rows", "sampled_rows", "grouped", "check_size", "joined_rows", "united_rows", "run", "_law_tape", "_law_draw", "_law_lowest", "_law_rational", "_law_name", "_law_fresh", "_law_columns", "_law_value", "_law_values", "_law_pick", "_law_lineage", "_law_union", "_law_rows"] : List Str) ++ (["_law_ran", "_law_pair", "_law_alike_rows", "_law_keyed", "_law_joined", "_law_due", "_law_large"] : List Str)
def loose : List Str := gl ++ (["BadNumber", "UnknownName", "DivisionByZero", "BadChoice", "check_rational", "lowest_terms", "add", "subtract", "multiply", "divide", "compare", "LETTERS", "NAME_SIGNS", "LONGEST_NAME", "LIMIT", "MOST_COLUMNS", "DEEPEST", "OPERANDS", "ARITHMETIC", "PAIRED"] : List Str) ++ (["check_operands", "result_kind", "limited", "plus", "minus", "times", "over", "less", "same", "both", "either", "STRICT", "LENIENT", "worth_of_two", "FUNCTIONS", "total", "by_size", "common_scale", "scaled", "sum_of"] : List Str) ++ (["mean_of", "median_of", "least_of", "greatest_of", "OF_SOME", "MOST_COUNT", "MOST_WHOLE", "MOST_SEED", "ORDERS", "MOST_KEYS", "MOST_TOTALS", "behind_set", "behind_select", "behind_rename", "behind_sort", "is_total", "behind_group", "behind_distinct", "chosen_index", "MOST_ROWS"] : List Str) ++ (["set_rows", "selected_rows", "all_rows", "order_key", "sorted_rows", "limited_total", "group_rows", "distinct_rows"] : List Str)
def fa : List Fa := (.glo "law") :: gl.map Fa.glo ++ (btNames ++ (["sorted", "any", "zip", "sum"] : List Str)).map Fa.free ++ [.str "LETTERS" letters, .str "NAME_SIGNS" signs, .int "LONGEST_NAME" 12, .int "LIMIT" lim, .int "DEEPEST" 8, .int "MOST_COLUMNS" 8, .int "MOST_COUNT" 1000, .int "MOST_WHOLE" 1000, .int "MOST_SEED" 1000000000, .int "MOST_KEYS" 3, .int "MOST_ROWS" 1000]
def exL (K : PySem.W.Frag) : List Bool := [oexGB K (ga K "TooLarge") "OverflowError.__new__" [.type "OverflowError", .type "ArithmeticError", .type "Exception", .type "BaseException", .type "object"], eqO (PySem.W.findIn K (.ref (ga K "TooLarge")) "__init__") (some (some (.ref (ma K (ga K "TooLarge") "__init__")))), Lc.optV (PySem.W.typeIn K (.ref (ma K (ga K "TooLarge") "__init__"))) (some (.type "function")), eqO (PySem.W.findIn K (.ref (ga K "TooLarge")) "size") (some none), xfB K (ga K "TooLarge"), xisB K (ga K "TooLarge"), optB (PySem.W.exmOne K (.ref (ga K "TooLarge")) (.ref (ga K "TooLarge"))) (some true), optB (PySem.W.kitOne K (.ref (ga K "TooLarge")) (.type "OverflowError")) (some true), Fa.ok K (.mkr "Table"), Fa.ok K (.cls "Table"), Fa.ok K (.noat "Table" "shape"), Fa.ok K (.noat "Table" "body"), Fa.ok K (.meth "Table" "columns"), Fa.ok K (.meth "Table" "rows"), tupB K "KINDS" [.str "number", .str "word", .str "flag"], diB K (ga K "LENGTHS") "keep" 2, diB K (ga K "LENGTHS") "first" 2, diB K (ga K "LENGTHS") "sample" 4, diB K (ga K "LENGTHS") "join" 3, diB K (ga K "LENGTHS") "union" 2, dfB K (ga K "BEHIND") "keep" "behind_keep", dfB K (ga K "BEHIND") "first" "behind_first", dfB K (ga K "BEHIND") "sample" "behind_sample", dfB K (ga K "BEHIND") "join" "behind_join", dfB K (ga K "BEHIND") "union" "behind_union", decide ([ga K "kept_rows", ga K "first_rows", ga K "sampled_rows", ga K "joined_rows", ga K "united_rows"].Nodup), dfB K (ga K "ROWS_BEHIND") "keep" "kept_rows", dfB K (ga K "ROWS_BEHIND") "first" "first_rows", dfB K (ga K "ROWS_BEHIND") "sample" "sampled_rows", dfB K (ga K "ROWS_BEHIND") "join" "joined_rows", dfB K (ga K "ROWS_BEHIND") "union" "united_rows"]
def ex (K : PySem.W.Frag) : Bool := (exL K).all id
def ts : List Tab := [((fun K => ga K "LENGTHS"), ["keep", "set", "select", "rename", "sort", "first", "sample", "join", "union", "group", "distinct"]), ((fun K => ga K "BEHIND"), ["keep", "set", "select", "rename", "sort", "first", "sample", "join", "union", "group", "distinct"]), ((fun K => ga K "ROWS_BEHIND"), ["keep", "set", "select", "rename", "sort", "first", "sample", "join", "union", "group", "distinct"])]
def ads : List Addr := ([884, 104, 51, 435, 611, 612, 749, 198, 134, 141, 148, 203, 210, 217, 236, 243, 248, 255, 262, 267, 351, 356, 368, 373, 508, 515, 522, 529, 536, 543, 572, 579, 584, 591, 619, 626, 640, 647, 652, 657] : List Addr) ++ ([662, 700, 705, 712, 719, 724, 731, 755, 762, 769, 776, 783, 788, 795, 802, 809, 814, 821, 828, 833, 838, 845, 850, 855, 860, 865, 872, 879, 883, 103, 50, 434, 548, 553, 558, 565, 603, 610, 669, 674] : List Addr) ++ ([681, 693, 743, 748, 133, 140, 147, 202, 209, 216, 235, 242, 247, 254, 261, 266, 350, 355, 367, 372, 507, 514, 521, 528, 535, 542, 571, 578, 583, 590, 618, 625, 639, 646, 651, 656, 661, 699, 704, 711] : List Addr) ++ ([718, 723, 730, 754, 750, 761, 768, 775, 782, 787, 794, 801, 808, 813, 820, 827, 832, 837, 844, 849, 854, 859, 864, 871, 878, 880, 881, 882, 101, 102, 105, 48, 49, 52, 387, 394, 401, 406, 411, 418] : List Addr) ++ ([425, 432, 433, 436, 437, 547, 552, 557, 564, 602, 609, 668, 673, 680, 692, 742, 747, 128, 129, 130, 131, 132, 135, 136, 137, 138, 139, 142, 143, 144, 145, 146, 199, 200, 201, 204, 205, 206, 207, 208] : List Addr) ++ ([211, 212, 213, 214, 215, 232, 233, 234, 237, 238, 239, 240, 241, 244, 245, 246, 249, 250, 251, 252, 253, 256, 257, 258, 259, 260, 263, 264, 265, 347, 348, 349, 352, 353, 354, 364, 365, 366, 369, 370] : List Addr) ++ ([371, 502, 503, 504, 505, 506, 509, 510, 511, 512, 513, 516, 517, 518, 519, 520, 523, 524, 525, 526, 527, 530, 531, 532, 533, 534, 537, 538, 539, 540, 541, 566, 567, 568, 569, 570, 573, 574, 575, 576] : List Addr) ++ ([577, 580, 581, 582, 585, 586, 587, 588, 589, 613, 614, 615, 616, 617, 620, 621, 622, 623, 624, 634, 635, 636, 637, 638, 641, 642, 643, 644, 645, 648, 649, 650, 653, 654, 655, 658, 659, 660, 694, 695] : List Addr) ++ ([696, 697, 698, 701, 702, 703, 706, 707, 708, 709, 710, 713, 714, 715, 716, 717, 720, 721, 722, 725, 726, 727, 728, 729, 751, 752, 753, 756, 757, 758, 759, 760, 763, 764, 765, 766, 767, 770, 771, 772] : List Addr) ++ ([773, 774, 777, 778, 779, 780, 781, 784, 785, 786, 789, 790, 791, 792, 793, 796, 797, 798, 799, 800, 803, 804, 805, 806, 807, 810, 811, 812, 815, 816, 817, 818, 819, 822, 823, 824, 825, 826, 829, 830] : List Addr) ++ ([831, 834, 835, 836, 839, 840, 841, 842, 843, 846, 847, 848, 851, 852, 853, 856, 857, 858, 861, 862, 863, 866, 867, 868, 869, 870, 873, 874, 875, 876, 877, 100, 47, 386, 393, 400, 405, 410, 417, 424] : List Addr) ++ ([431, 544, 545, 546, 549, 550, 551, 554, 555, 556, 559, 560, 561, 562, 563, 599, 600, 601, 604, 605, 606, 607, 608, 663, 664, 665, 666, 667, 670, 671, 672, 675, 676, 677, 678, 679, 689, 690, 691, 739] : List Addr) ++ ([740, 741, 744, 745, 746, 95, 96, 97, 98, 99, 42, 43, 44, 45, 46, 381, 382, 383, 384, 385, 388, 389, 390, 391, 392, 395, 396, 397, 398, 399, 402, 403, 404, 407, 408, 409, 412, 413, 414, 415] : List Addr) ++ ([416, 419, 420, 421, 422, 423, 426, 427, 428, 429, 430] : List Addr)
abbrev R : PySem.W.OpenRow := PySem.W.OpenLaw.row PySem.Challenge.rw_liveclaims_k19_joined_and_united_rows
abbrev hk : PySem.W.Hook := hookA ads fa fn ex ts
def ob (s : PySem.W.SharedT) : AlF := obsA ads fa fn ex ts (HandSHeadRun.getT s)
theorem ob_eq (s : PySem.W.SharedT) : ob s = hk.obs s.abs := obsA_eq (HandSHeadRun.getT_eq s)
open PySem.W PySem.Calls HandSHeadRun in
theorem pL_false (w : World) (os : OsState) : (endF (stepQ (denQ tabQ) R.prog (w.withFollow "special-get-raises" false)) 20000 R.prog (w.withFollow "special-get-raises" false) os).map (fun s => looksF R.prog (boot_heap (w.withFollow "special-get-raises" false).params) s.abs) = some (true) := by
  kernel_rfl
open PySem.W PySem.Calls HandSHeadRun in
theorem pS_false (w : World) (os : OsState) : (endF (stepQ (denQ tabQ) R.prog (w.withFollow "special-get-raises" false)) 20000 R.prog (w.withFollow "special-get-raises" false) os).map (fun s => (seenQ (PySem.W.view R.prog [144]) loose (importedModules R.prog.main.body) (fun s => xlAt (PySem.W.view R.prog [144]) [] s && recOk R.toRowW.records s) s.abs, (ob s).2)) = some ((openGood (PySem.W.view R.prog [144]) loose, (hk.val (w.withFollow "special-get-raises" false)).2)) := by
  kernel_rfl
open PySem.W PySem.Calls HandSHeadRun in
theorem pA_false (w : World) (os : OsState) : (endF (stepQ (denQ tabQ) R.prog (w.withFollow "special-get-raises" false)) 20000 R.prog (w.withFollow "special-get-raises" false) os).map (fun s => (ob s).1.1) = some ((hk.val (w.withFollow "special-get-raises" false)).1.1) := by
  kernel_rfl
open PySem.W PySem.Calls HandSHeadRun in
theorem pE_false (w : World) (os : OsState) : (endF (stepQ (denQ tabQ) R.prog (w.withFollow "special-get-raises" false)) 20000 R.prog (w.withFollow "special-get-raises" false) os).map (fun s => (ob s).1.2) = some ((hk.val (w.withFollow "special-get-raises" false)).1.2) := by
  kernel_rfl
theorem run_false (w : World) : HandSHeadRun.RunEq R (PySem.W.view R.prog [144]) hk ob 20000 loose (w.withFollow "special-get-raises" false) := fun os => opt_run (pL_false w os) (pS_false w os) (pA_false w os) (pE_false w os)
open PySem.W PySem.Calls HandSHeadRun in
theorem pL_true (w : World) (os : OsState) : (endF (stepQ (denQ tabQ) R.prog (w.withFollow "special-get-raises" true)) 20000 R.prog (w.withFollow "special-get-raises" true) os).map (fun s => looksF R.prog (boot_heap (w.withFollow "special-get-raises" true).params) s.abs) = some (true) := by
  kernel_rfl
open PySem.W PySem.Calls HandSHeadRun in
theorem pS_true (w : World) (os : OsState) : (endF (stepQ (denQ tabQ) R.prog (w.withFollow "special-get-raises" true)) 20000 R.prog (w.withFollow "special-get-raises" true) os).map (fun s => (seenQ (PySem.W.view R.prog [144]) loose (importedModules R.prog.main.body) (fun s => xlAt (PySem.W.view R.prog [144]) [] s && recOk R.toRowW.records s) s.abs, (ob s).2)) = some ((openGood (PySem.W.view R.prog [144]) loose, (hk.val (w.withFollow "special-get-raises" true)).2)) := by
  kernel_rfl
open PySem.W PySem.Calls HandSHeadRun in
theorem pA_true (w : World) (os : OsState) : (endF (stepQ (denQ tabQ) R.prog (w.withFollow "special-get-raises" true)) 20000 R.prog (w.withFollow "special-get-raises" true) os).map (fun s => (ob s).1.1) = some ((hk.val (w.withFollow "special-get-raises" true)).1.1) := by
  kernel_rfl
open PySem.W PySem.Calls HandSHeadRun in
theorem pE_true (w : World) (os : OsState) : (endF (stepQ (denQ tabQ) R.prog (w.withFollow "special-get-raises" true)) 20000 R.prog (w.withFollow "special-get-raises" true) os).map (fun s => (ob s).1.2) = some ((hk.val (w.withFollow "special-get-raises" true)).1.2) := by
  kernel_rfl
theorem run_true (w : World) : HandSHeadRun.RunEq R (PySem.W.view R.prog [144]) hk ob 20000 loose (w.withFollow "special-get-raises" true) := fun os => opt_run (pL_true w os) (pS_true w os) (pA_true w os) (pE_true w os)
theorem run (w : World) : HandSHeadRun.RunEq R (PySem.W.view R.prog [144]) hk ob 20000 loose w := PySem.W.byRow2 "special-get-raises" (P := fun w => HandSHeadRun.RunEq R (PySem.W.view R.prog [144]) hk ob 20000 loose w) run_false run_true w
end K19
set_option Elab.async false
set_option linter.all false
set_option maxRecDepth 100000
set_option maxHeartbeats 4000000
namespace K19
open PySem PySem.Spec PyProof.Rows L2 Lc
def spLNm : Sp := fun vs H Q _ => ∃ (t l : Addr), vs = [.ref t] ∧ TapeL l H t ∧ ∀ (x : Str) (H' : Hp), Sh 12 x → nameB (.str x) = true → TapeL l H' t → SameB t H H' → Q (.str x) H'
abbrev sLnm : Stmt := top 128
section
variable {P : Program} {w : World} {K : PySem.W.Frag} {mg : Str → Option Value} {base : Heap} {f fD : Addr} {fd fdD : FuncData}
theorem scLnm : FnScope ["_law_tape_here", "_law_letters", "_law_size", "_law_place", "_law_sign", "_law_k"] ["_law_tape_here"] (defScope sLnm) := ⟨rfl, rfl, rfl, by decide +kernel, rfl, by decide +kernel, by decide +kernel⟩
theorem ok_lnm (F : Fun K "_law_name" "_law_name" sLnm f fd) (T : Bt mg) (GD : FnOk P w K mg base CX0 1 fD fdD ["_law_tape_here", "_law_many"] spDrawL) (mD : mg "_law_draw" = some (.ref fD)) (kD : PySem.W.keepIn K (.ref fD) = true) (bD : Binds K fdD ["_law_tape_here", "_law_many"] []) :
    FnOk P w K mg base CX0 2 f fd ["_law_tape_here"] spLNm := by
  refine F.ok scLnm (fun vs H Q E h => ?_) (fun cdv A outer s H vs Q E hr h => ?_)
  · obtain ⟨t, l, rfl, _⟩ := h
    rfl
  · obtain ⟨t, l, rfl, hT, k⟩ := h
    replace hT : TapeL l H t := hT
    refine ⟨_, pss_cons (ps_set (i := 1) scLnm.nd rfl (Or.inr rfl) pe_str)
      (pss_cons (ps_set (i := 2) scLnm.nd rfl (Or.inl rfl) (pe_op op_add pe_int (pe_call GD hr (by rfl) mD kD bD .nil pass0 (pa_cons (pv 0) (pa_cons pe_int pa_nil)))))
      (pss_cons (ps_if (pt_cmpR op_eq (pe_call GD hr (by rfl) mD kD bD .nil pass0 (pa_cons (pv 0) (pa_cons pe_int pa_nil))) pe_int (nomark _))
        (pss_cons (ps_set (i := 3) scLnm.nd rfl (Or.inl rfl) (pe_call GD hr (by rfl) mD kD bD .nil pass0 (pa_cons (pv 0) (pa_cons (pv 2) pa_nil))))
        (pss_cons (ps_set (i := 4) scLnm.nd rfl (Or.inl rfl) (pe_ix ix_str (pv 1) (pe_call GD hr (by rfl) mD kD bD .nil pass0 (pa_cons (pv 0) (pa_cons (pe_op op_add pe_int (pe_op op_mul pe_int (pe_callTy call_int1 (by rfl) T.int boot_int (pa_cons (pe_cmpR op_gt (pv 3) pe_int (nomark _)) pa_nil)))) pa_nil))) (fun _ _ => rfl)))
        (pss_one (ps_ret (pe_op op_add_str (pe_op op_add_str (pe_op op_mulS pe_str (pv 3)) (pv 4)) (pe_op op_mulS pe_str (pe_op op_sub (pe_op op_sub (pv 2) pe_int) (pv 3)))))))) pss_nil)
      (pss_one (ps_ret (pe_join pe_str (pe_lc (own := [("_law_k", 5)]) (g := gName 5) (tt := tYes) (te := tOp rIxS (tVar 1) (tCall spDrawL [] E0 (tCons (tVar 0) (tCons (tOp (rI0 fun i j => .int (i + j)) (tC (.int 26)) (tOp (rI CMul fun i j => .int (i * j)) (tC (.int 10)) (tCB (fun xs H Q => (∃ i, xs = [.int i] ∧ Q (.int i) H) ∨ ∃ k, xs = [.bl k] ∧ Q (.int (if k then 1 else 0)) H) (tCons (tOp (rI0 fun i j => .bl (decide (j < i))) (tVar 5) (tC (.int 0))) tNil)))) tNil)))) (by rfl) scLnm.nd (pi_range1 (by rfl) T.range (pa_cons (pv 2) pa_nil))
        (blkOk_by (own := [("_law_k", 5)]) (N := ["_law_tape_here", "_law_letters", "_law_size", "_law_place", "_law_sign", "_law_k"]) (sc := defScope sLnm) (by decide +kernel)) (fun _ _ _ _ _ => pg_name (i := 5) scLnm.nd rfl (Or.inl rfl)) (fun _ _ _ _ _ => pts_nil)
        (fun _ _ _ _ _ => pe_ix ix_str (pv 1) (pe_call GD hr (by rfl) mD kD bD .nil pass0 (pa_cons (pv 0) (pa_cons (pe_op op_add pe_int (pe_op op_mul pe_int (pe_callTy call_int1 (by rfl) T.int boot_int (pa_cons (pe_cmpR op_gt (pv 5) pe_int (nomark _)) pa_nil)))) pa_nil))) (fun _ _ => rfl)))))))), ?_⟩
    have big : ∀ z : Int, 0 ≤ z → z ≤ 1000 → z.natAbs < 2 ^ 4000 := fun z h1 h2 => big1000 h1 h2
    have sl : (signs.cps.toList.length : Int) = 36 := by rw [signs_len]; rfl
    have sz : signs.length ≤ sizeLine := by rw [lenL, signs_len]; decide
    refine ⟨_, rfl, t, l, _, rfl, hT, by decide, big _ (by decide) (by decide), fun k1 H1 u1 v1 T1 S1 => ⟨_, _, rfl, rfl, ?_⟩⟩
    refine ⟨_, rfl, t, l, _, rfl, T1, by decide, big _ (by decide) (by decide), fun k2 H2 u2 v2 T2 S2 => ⟨rfl, _, rfl, ?_⟩⟩
    refine ite2 (fun _ => ?_) (fun _ => ?_)
    · refine ⟨_, rfl, _, rfl, t, l, _, rfl, T2, by omega, big _ (by omega) (by omega), fun k3 H3 u3 v3 T3 S3 => ?_⟩
      refine ⟨_, rfl, _, rfl, _, rfl, _, _, rfl, rfl, .inr ⟨_, rfl, _, _, rfl, rfl, .inl ⟨by decide, by decide⟩, _, _, rfl, rfl, t, l, _, rfl, T3, by split <;> decide, big _ (by split <;> decide) (by split <;> decide), fun k4 H4 u4 v4 T4 S4 => ?_⟩⟩
      obtain ⟨c, hc, mc, isc, ilc⟩ := sgn_at (i := k4) u4 (by split at v4 <;> omega)
      refine ⟨signs, k4, c, rfl, rfl, sz, hc, ?_⟩
      have m1 : Sh k3.toNat (Txt.mul (PySem.Str.ofString "a") k3) := sh_mul sh_a (Nat.le_refl _) (Nat.le_refl _)
      have m2 : Sh 1 (⟨#[c]⟩ : Str) := sh_one (signs_ok c mc)
      have m3 : Sh (1 + k1 - 1 - k3).toNat (Txt.mul (PySem.Str.ofString "a") (1 + k1 - 1 - k3)) := sh_mul sh_a (Nat.le_refl _) (Nat.le_refl _)
      have ss : (100 : Nat) ≤ sizeLine := by decide
      refine ⟨_, rfl, _, _, rfl, rfl, mul_ok a_size (by omega) (by omega), _, rfl, _, _, rfl, rfl, ?_, _, rfl, _, _, rfl, rfl, _, rfl, _, _, rfl, rfl, _, _, rfl, rfl, mul_ok a_size (by omega) (by omega), _, _, rfl, rfl, ?_, ?_⟩
      · have := sh_len m1
        have := sh_len m2
        omega
      · have := sh_len (sh_app m1 m2)
        have := sh_len m3
        omega
      · exact k _ _ ((sh_app (sh_app m1 m2) m3).mono (by omega)) (name_one u3 (by omega) (by omega) isc (fun z => ilc (by rw [z] at v4; simpa using v4))) T4 (((S1.trans S2).trans S3).trans S4)
    · refine ⟨⟨_, rfl⟩, _, rfl, _, rfl, by omega, by omega, fun D hD => ?_⟩
      have nD : D ≠ t := T2.tape.ne hD
      have nL : D ≠ l := by
        obtain ⟨xs, z⟩ := T2.list
        exact Ne.symm (ne_of_none z hD)
      let one : Nat → Str := fun c => ⟨#[c]⟩
      refine lc_it walk_range (fun i H' => ∃ cs : List Nat, H' D = some (.lst ((cs.map one).map V.str)) ∧ cs.length = i ∧ (∀ c ∈ cs, c ∈ signs.cps.toList ∧ inS c = true) ∧ (∀ c r, cs = c :: r → inL c = true) ∧ TapeL l H' t ∧ SameB t H2 H') ⟨[], upd_same, rfl, by simp, nofun, T2.same (Same.upd hD), Same.b t (Same.upd hD)⟩ (fun _ _ _ _ => True.intro) ?_ ?_
      · rintro i y H' H'' hi ⟨cs, h1, h2, h3, h3b, h4, h5⟩ ⟨rfl, rfl⟩
        refine ⟨rfl, ?_⟩
        change tOp rIxS (tVar 1) _ _ _ _
        refine ⟨_, rfl, _, rfl, _, rfl, _, _, rfl, rfl, .inr ⟨_, rfl, _, _, rfl, rfl, .inl ⟨by decide, by decide⟩, _, _, rfl, rfl, t, l, _, rfl, h4, by split <;> decide, big _ (by split <;> decide) (by split <;> decide), fun k4 H4 u4 v4 T4 S4 => ?_⟩⟩
        obtain ⟨c, hc, mc, isc, ilc⟩ := sgn_at (i := k4) u4 (by split at v4 <;> omega)
        refine ⟨signs, k4, c, rfl, rfl, sz, hc, _, S4 _ _ nD h1, by rw [List.length_map, List.length_map, h2]; exact Nat.lt_trans hi (Nat.lt_of_le_of_lt (show (1 + k1).toNat ≤ 12 by omega) (by decide)), ?_⟩
        refine ⟨cs ++ [c], by rw [upd_same, List.map_append, List.map_append]; rfl, by rw [List.length_append, h2]; rfl, fun y hy => ?_, fun c' r' e => ?_, T4.upd nD nL, fun b o n e => ?_⟩
        · rcases List.mem_append.mp hy with hy | hy
          · exact h3 y hy
          · rw [List.mem_singleton.mp hy]
            exact ⟨mc, isc⟩
        · cases cs with
          | nil =>
            have e : c = c' := by injection e
            rw [← e]
            have i0 : i = 0 := by rw [← h2]; rfl
            subst i0
            exact ilc (by simpa using v4)
          | cons d r =>
            injection e with e _
            rw [← e]
            exact h3b d r rfl
        · rw [upd_ne (ne_of_none e hD)]
          exact (h5.trans S4) b o n e
      · rintro H' ⟨cs, h1, h2, h3, h3b, h4, h5⟩
        have e12 : cs.length ≤ 12 := by omega
        have s1 : ∀ y ∈ cs.map one, Sh 1 y := fun y hy => by
          obtain ⟨c, hc, rfl⟩ := List.mem_map.mp hy
          exact sh_one (signs_ok c (h3 c hc).1)
        have sum : ∀ l : List Str, (∀ y ∈ l, Sh 1 y) → (l.map (·.length)).sum ≤ l.length := by
          intro l
          induction l with
          | nil => intro _; simp
          | cons y l ih =>
            intro h
            have := ih fun z hz => h z (List.mem_cons_of_mem _ hz)
            have := sh_len (h y List.mem_cons_self)
            simp only [List.map_cons, List.sum_cons, List.length_cons]
            omega
        have lm : (cs.map one).length = cs.length := List.length_map ..
        refine ⟨_, D, cs.map one, rfl, rfl, .inl (SqL.of h1), by have := sum _ s1; show _ + (cs.map one).length * 0 ≤ _; omega, ?_⟩
        exact k _ _ ((join_sh _ s1).mono (by omega)) (name_join (fun z => by rw [z] at h2; have : (0 : Nat) = (1 + k1).toNat := h2; omega) e12 h3b (fun c hc => (h3 c hc).2)) h4 ((S1.trans S2).trans h5)
end
end K19
set_option Elab.async false
set_option linter.all false
set_option maxRecDepth 100000
set_option maxHeartbeats 4000000
namespace Lc
open PySem PySem.Spec PyProof.Rows L2
theorem ud_entry : entryFor table "dict.update.loop" = some Builtin.«dict.update.loop» := entryFor_of_tree (by kernel_rfl)
theorem ud_plain : plainId "dict.update.loop" = true := by decide +kernel
section
variable {prog : Program} {w : World} {A : Around} {E : Value → Shared → Prop}
/-- the walk over the pairs -/
theorem upd_loopT {R : Result → Shared → Prop} {S I l : Addr} {items : Array Value} {res : Value} (hh : A.handled = none) (hlI : l ≠ I) (hSI : S ≠ I) (hSl : S ≠ l) :
    ∀ (rest : List (Key × Value)) (i : Nat) (acc : List (Key × Value)) (ix : Int) (t : Tok) (s : Shared), items.size = i + rest.length → acc.length + rest.length ≤ sizeLine →
      (∀ (j : Nat) (q : Key × Value), rest[j]? = some q → ∃ (b : Addr) (u : Value), items[i + j]? = some (.ref b) ∧ b ≠ S ∧ b ≠ I ∧ IsTup s.heap b #[u, q.2] ∧ keyIs q.1 u = true) →
      s.heap.IsTupleIter I l i → s.heap.IsTuple l items → s.heap.DictOf (mixKind prog w) S acc →
      (∀ h' tk, h'.DictOf (mixKind prog w) S (merged acc rest) → (∀ b o, b ≠ S → b ≠ I → s.heap.get? b = some o → h'.get? b = some o) → R (.ok (.ret res)) { s with heap := h', toks := tk }) →
      codeAny (model prog w) A (.builtin "dict.update.loop" ⟨[.ref S, .ref I, .int ix t, res], []⟩) R s
  | [], i, acc, ix, t, s, hsz, hln, ht, hit, hl, hm, hR => by
    refine codeAny_builtin ud_entry ?_
    rw [Around.under_plainId ud_plain _]
    show wpAny _ A.in1 (pyNext (.ref I) >>= _) _ _ s
    refine wpAny_bind (wpAny_pyNext_tuple_end (A := A.in1) hh hit hl (by first | exact Array.getElem?_eq_none (Nat.le_of_eq hsz) | (simp at hsz; simp; omega)) fun h' he => ?_)
    show wpAny _ A.in1 (Builtin.Dict.addKeywords S [] >>= _) _ _ _
    refine wpAny_bind (wpAny_pure (wpAny_pure ?_))
    exact hR h' s.toks (hm.extBut he hSI) fun b o _ hb e => he b o hb e
  | q :: rest, i, acc, ix, t, s, hsz, hln, ht, hit, hl, hm, hR => by
    obtain ⟨b, u, hb, hbS, hbI, htup, hk⟩ := ht 0 q rfl
    rw [List.length_cons] at hsz hln
    refine codeAny_builtin ud_entry ?_
    rw [Around.under_plainId ud_plain _]
    show wpAny _ A.in1 (pyNext (.ref I) >>= _) _ _ s
    refine wpAny_bind (wpAny_pyNext_tuple_item (x := .ref b) hit hl (by simpa using hb) fun h1 hit1 hs1 => ?_)
    have ht1 : IsTup h1 b #[u, q.2] := htup.extBut hs1.extBut hbI
    have hl1 : h1.IsTuple l items := hl.extBut hs1.extBut hlI
    have hm1 : h1.DictOf (mixKind prog w) S acc := hm.extBut hs1.extBut hSI
    obtain ⟨o, ho, hc, n, hd⟩ := id ht1
    show wpAny _ A.in1 (holding [Value.ref b] _ >>= _) _ _ _
    refine wpAny_bind (wpAny_holding ?_)
    refine wpAny_bind (wpAny_tryCatch ?_)
    unfold Builtin.Dict.pairItems
    refine wpAny_bind (wpAny_typeOf (T := "tuple") ⟨o, ho, hc⟩ ?_)
    rw [if_pos (by first | decide | rfl | simp)]
    refine wpAny_bind (wpAny_seqItems ho hd (wpAny_pure ?_))
    show wpAny _ A.in1 (holding [u, q.2] (dictSet S u q.2)) _ _ _
    refine wpAny_holding (wpAny_dictSet_pairs (knd := mixKind prog w) (k := q.1) hk hm1 (fun h2 hm2 hs2 => ?_) (by omega))
    refine wpAny_pure ⟨plainId_quiet ud_plain _, upd_loopT (items := items) hh hlI hSI hSl rest (i + 1) (stored acc q.1 q.2) (ix + 1) 0 _ (show items.size = i + 1 + rest.length by omega) ?_ (fun j q' e => ?_) ?_ ?_ hm2 fun h' tk hd' k => ?_⟩
    · have z := stored_length_le acc q.1 q.2
      omega
    · obtain ⟨b', u', hb', hbS', hbI', htup', hk'⟩ := ht (j + 1) q' (by simpa using e)
      refine ⟨b', u', ?_, hbS', hbI', (htup'.extBut hs1.extBut hbI').extBut hs2.extBut hbS', hk'⟩
      rw [show i + 1 + j = i + (j + 1) by omega]
      exact hb'
    · exact hit1.at fun o' e => hs2.extBut I o' (Ne.symm hSI) e
    · exact hl1.extBut hs2.extBut (Ne.symm hSl)
    · exact hR h' tk hd' fun c oc h3 h4 e => k c oc h3 h4 (hs2.extBut c oc h3 (hs1.extBut c oc h4 e))
/-- dict(t) of a tuple of pairs -/
theorem call_dict_pairsT {s : Shared} {l : Addr} {ol : Obj} {items : Array Value} {n : Nat} {prs : List (Key × Value)} {Q : Value → Shared → Prop} (hh : A.handled = none) (hl : s.heap.get? l = some ol) (hc : ol.cls = .type "tuple") (hd : ol.dict = none)
    (hdat : ol.data = .seq items n) (hsz : items.size = prs.length) (hln : prs.length ≤ sizeLine)
    (ht : ∀ (j : Nat) (q : Key × Value), prs[j]? = some q → ∃ (b : Addr) (u : Value), items[j]? = some (.ref b) ∧ IsTup s.heap b #[u, q.2] ∧ keyIs q.1 u = true)
    (h : ∀ h' tk, h'.DictOf (mixKind prog w) s.heap.objs.size (merged [] prs) → (∀ b o, s.heap.get? b = some o → h'.get? b = some o) → Q (.ref s.heap.objs.size) { s with heap := h', toks := tk }) :
    wpAny (model prog w) A (call (.type "dict") [.ref l]) Q E s := by
  refine callType_codes (Q₁ := fun obj s₁ => obj = .ref s.heap.objs.size ∧ s₁ = { s with heap := s.heap.push { cls := .type "dict", data := .dict #[] } }) PySem.F.kt_called_dict (PySem.F.kt_typeCall_dict_1 _) PySem.F.entry_dict_init (kt_code_dict_new _ ⟨rfl, rfl⟩) ?_
  rintro obj s₁ ⟨rfl, rfl⟩
  have hnew : (s.heap.push { cls := .type "dict", data := .dict #[] }).DictOf (mixKind prog w) s.heap.objs.size [] := Heap.DictOf.new s.heap
  have k0 : ∀ b o, s.heap.get? b = some o → (s.heap.push { cls := .type "dict", data := .dict #[] }).get? b = some o := fun b o e => Heap.get?_push_of_some _ e
  refine ⟨hnew.typeIs, PySem.F.args_dict_init_2 _ _, ?_⟩
  unfold Builtin.«dict.__init__»
  refine wpAny_bind ?_
  unfold Builtin.Dict.selfAndRest
  refine wpAny_bind (wpAny_notOrdered_dict hnew.typeIs ?_)
  show wpAny _ _ (pure (s.heap.objs.size, [Value.ref l])) _ _ _
  refine wpAny_pure ?_
  show wpAny _ _ (Builtin.Dict.updateFrom "dict.__init__" s.heap.objs.size (.ref l) [] .none) _ _ _
  unfold Builtin.Dict.updateFrom
  refine wpAny_bind (wpAny_typeOf (T := "tuple") ⟨ol, k0 _ _ hl, hc⟩ ?_)
  rw [if_pos (by first | decide | rfl | simp)]
  refine wpAny_bind (getAttrOr_miss_tuple (k0 _ _ hl) hc hdat hd tuple_no_keys (by decide +kernel) hh fun h1 tk1 hk1 => ?_)
  rw [if_pos (show (none : Option Value).isNone = true from rfl)]
  refine wpAny_bind (wpAny_rule ?_)
  have hl1 : h1.IsTuple l items := ⟨ol, hk1 _ _ (k0 _ _ hl), hc, n, hdat⟩
  have hS1 : s.heap.objs.size < h1.objs.size := by
    have e : (s.heap.push { cls := .type "dict", data := .dict #[] }).get? s.heap.objs.size = some { cls := .type "dict", data := .dict #[] } := Heap.get?_push_size _ rfl
    exact Heap.lt_size (hk1 _ _ e)
  refine wpAny_bind (wpAny_pyIter_tuple hl1 ?_)
  have k2 : ∀ b o, h1.get? b = some o → (h1.push { cls := .type "tuple_iterator", data := .fields #[.ref l, .int 0 0] }).get? b = some o := fun b o e => Heap.get?_push_of_some _ e
  have hlt : l < s.heap.objs.size := Heap.lt_size hl
  have key := upd_loopT (prog := prog) (w := w) (A := A.in1) (R := wants (fun r s₂ => r = .none ∧ Q (.ref s.heap.objs.size) s₂) E) (S := s.heap.objs.size) (I := h1.objs.size) (l := l) (items := items) (res := Value.none) hh
    (Nat.ne_of_lt (Nat.lt_trans hlt hS1)) (Nat.ne_of_lt hS1) (Nat.ne_of_gt hlt) prs 0 [] 0 0
    { s with heap := h1.push { cls := .type "tuple_iterator", data := .fields #[.ref l, .int 0 0] }, toks := tk1 } (by rw [hsz, Nat.zero_add]) (by rw [List.length_nil, Nat.zero_add]; exact hln)
    (fun j q e => by
      obtain ⟨b, u, e1, e2, e3⟩ := ht j q e
      have hb : b < s.heap.objs.size := e2.lt
      exact ⟨b, u, by rw [Nat.zero_add]; exact e1, Nat.ne_of_lt hb, Nat.ne_of_lt (Nat.lt_trans hb hS1), e2.keeps fun c o z => k2 _ _ (hk1 _ _ (k0 _ _ z)), e3⟩)
    ⟨_, Heap.get?_push_size _ rfl, rfl, rfl⟩ (hl1.at fun o e => k2 _ _ e) ((hnew.at fun o e => hk1 _ _ e).at fun o e => k2 _ _ e)
    (fun h' tk hd' k => ⟨rfl, h h' tk hd' fun b o e => k b o (Nat.ne_of_lt (Heap.lt_size e)) (Nat.ne_of_lt (Nat.lt_trans (Heap.lt_size e) hS1)) (k2 _ _ (hk1 _ _ (k0 _ _ e)))⟩)
  first
    | exact wpAny_pure ⟨plainId_quiet ud_plain _, key⟩
    | exact wpAny_bind (wpAny_pure (wpAny_pure ⟨plainId_quiet ud_plain _, key⟩))
end
/-! ## tuples whose very object is known: they have no table of their own -/
def ZT (H : Hp) (a : Addr) (xs : List V) : Prop := ∃ ob : Obj, ob.cls = .type "tuple" ∧ ob.dict = none ∧ H a = some (.frz ob (.tup xs))
theorem ZT.rd {H : Hp} {a : Addr} {xs : List V} (h : ZT H a xs) : Rd H a (.tup xs) := let ⟨ob, _, _, e⟩ := h; .inr ⟨ob, e⟩
theorem ZT.sq {K : PySem.W.Frag} {H : Hp} {a : Addr} {xs : List V} (h : ZT H a xs) : SqT K H a xs := .inl h.rd
theorem ZT.same {H H' : Hp} {a : Addr} {xs : List V} (h : ZT H a xs) (s : Same H H') : ZT H' a xs := let ⟨ob, c, d, e⟩ := h; ⟨ob, c, d, s _ _ e⟩
theorem _root_.L2.Rd.same {H H' : Hp} {a : Addr} {xs : List V} (h : Rd H a (.tup xs)) (s : Same H H') : Rd H' a (.tup xs) := by
  rcases h with h | ⟨o, h⟩
  · exact .inl (s _ _ h)
  · exact .inr ⟨o, s _ _ h⟩
theorem _root_.L2.Rd.sq {K : PySem.W.Frag} {H : Hp} {a : Addr} {xs : List V} (h : Rd H a (.tup xs)) : SqT K H a xs := .inl h
theorem Tape.neR {t p : Addr} {H : Hp} {xs : List V} (h : Tape H t) (e : Rd H p (.tup xs)) : p ≠ t := by
  intro z
  subst z
  obtain ⟨_, _, _, _, _, h1, _⟩ := h
  rcases e with e | ⟨o, e⟩ <;> (rw [h1] at e; cases e)
theorem _root_.L2.Rd.b {t : Addr} {H H' : Hp} {a : Addr} {xs : List V} (h : Rd H a (.tup xs)) (T : Tape H t) (s : SameB t H H') : Rd H' a (.tup xs) := by
  have n := T.neR h
  rcases h with h | ⟨o, h⟩
  · exact .inl (s _ _ n h)
  · exact .inr ⟨o, s _ _ n h⟩
theorem ZT.b {t : Addr} {H H' : Hp} {a : Addr} {xs : List V} (h : ZT H a xs) (T : Tape H t) (s : SameB t H H') : ZT H' a xs := by
  have n := T.neR h.rd
  obtain ⟨ob, c, d, e⟩ := h
  exact ⟨ob, c, d, s _ _ n e⟩
section
variable {X : Cx}
theorem zt_new {pins : List (Addr × Obj)} {σ : L2.St} {H : Hp} {s : Shared} {ys : List V} {its : List Value} (I : Inv X pins σ H s) (hz : ys.length ≤ sizeLine) (r : Vals ys its) :
    Inv X pins σ (upd H s.heap.objs.size (.frz { cls := .type "tuple", data := .seq its.toArray } (.tup ys))) { s with heap := s.heap.push { cls := .type "tuple", data := .seq its.toArray } } :=
  I.laid (t' := s.toks) (fun b o e => Heap.get?_push_of_some _ e) (Nat.le_refl _) (show ObjOk X.prog X.w _ _ _ (.frz _ (.tup ys)) from ⟨Heap.get?_push_size _ rfl, hz, its, r, IsTup.new _ _⟩)
/-- tuple(list): what is made is known to be plain -/
theorem call_tupleZ : CallR X (.type "tuple") (fun xs H Q => ∃ p ys, xs = [.ref p] ∧ SqL X.K H p ys ∧ ∀ l ob, H l = none → ob.cls = .type "tuple" → ob.dict = none → Q (.ref l) (upd H l (.frz ob (.tup ys)))) := by
  intro pins s σ H xs us Q I r h
  obtain ⟨p, ys, rfl, hq, q⟩ := h
  obtain ⟨u, rfl, rx⟩ := vals1 r
  cases rx
  obtain ⟨its, r', pl, hz⟩ := I.list hq
  have hlen := r'.length
  refine call_tuple_list pl.isList (fun h' kp => ?_) (by simp only [List.size_toArray] <;> omega)
  have I1 : Inv X pins σ H { s with heap := h' } := I.kept (t' := s.toks) kp
  exact ⟨.ref h'.objs.size, _, zt_new I1 hz r', rfl, q _ _ (I1.hok.fresh (Nat.le_refl _)) rfl rfl⟩
abbrev rCatZ (K : PySem.W.Frag) : V → V → Hp → VK → Prop := fun x y H Q => ∃ (a b : Addr) (xs ys : List V), x = .ref a ∧ y = .ref b ∧ SqT K H a xs ∧ SqT K H b ys ∧ xs ≠ [] ∧ xs.length + ys.length ≤ sizeLine ∧ (ys = [] → Q (.ref a) H) ∧ (ys ≠ [] → ∀ p ob, H p = none → ob.cls = .type "tuple" → ob.dict = none → Q (.ref p) (upd H p (.frz ob (.tup (xs ++ ys)))))
theorem op_catZ : OpR X (binaryOp .Add) (rCatZ X.K) := by
  intro pins s σ H x y v u Q I rx ry h
  obtain ⟨a, b, xs, ys, rfl, rfl, ha, hb, hx, hz, q1, q2⟩ := h
  cases rx
  cases ry
  obtain ⟨its, r1, p1, _⟩ := I.tuple ha
  obtain ⟨its2, r2, p2, _⟩ := I.tuple hb
  refine HT.cat_tup p1 p2 (fun z => hx (r1.nil_iff.mp z)) (fun z => ⟨.ref a, H, I, rfl, q1 (r2.nil_iff.mp z)⟩) (fun z => ?_) (by rw [← r1.length, ← r2.length]; exact hz)
  exact ⟨.ref s.heap.objs.size, _, zt_new I (by rw [List.length_append]; exact hz) (r1.append r2), rfl, q2 (fun w => z (r2.nil_iff.mpr w)) _ _ (I.hok.fresh (Nat.le_refl _)) rfl rfl⟩
/-- dict(t) of a plain tuple of pairs: later pairs win -/
theorem call_dictZ (hcalm : X.calm = true) : CallR X (.type "dict") (fun xs H Q => ∃ (a : Addr) (ps : List Addr) (kvs : List (Key × V)), xs = [.ref a] ∧ ZT H a (ps.map V.ref) ∧ Paired (fun p kv => SqT X.K H p [kV kv.1, kv.2]) ps kvs ∧
    ∀ p, H p = none → Q (.ref p) (upd H p (.dK (mergeK [] kvs)))) := by
  intro pins s σ H xs us Q I r q
  obtain ⟨a, ps, kvs, ex, ⟨o, hc, hd, hq⟩, hp, q⟩ := q
  subst ex
  obtain ⟨u, eu, rx⟩ := vals1 r
  subst eu
  cases rx
  obtain ⟨ho, hz, its, rv, o', ho', _, n, hdat⟩ := I.hok a _ hq
  rw [ho] at ho'
  cases ho'
  have ei := refs_at rv
  subst ei
  rw [List.length_map] at hz
  obtain ⟨prs, rel, hl, hpr⟩ := pairs_of I hp
  refine call_dict_pairsT (prs := prs) (I.ok.hd hcalm) ho hc hd hdat (by simp [hl]) (by rw [hl]; exact hz) (fun j q' e => ?_) fun h' tk hd' k => ?_
  · obtain ⟨b, u, e1, e2, e3⟩ := hpr j q' e
    exact ⟨b, u, by simp [e1], e2, e3⟩
  · have hm : (s.heap.objs.size == sysModules) = false := beq_eq_false_iff_ne.mpr (Nat.ne_of_gt I.big)
    have hlen : (mergeK [] kvs).length ≤ sizeLine := by
      refine Nat.le_trans (length_mergeK kvs []) ?_
      rw [List.length_nil, Nat.zero_add, rel.length, hl]
      exact hz
    exact ⟨.ref s.heap.objs.size, upd H s.heap.objs.size (.dK (mergeK [] kvs)), I.laid (t' := tk) k (Nat.le_refl _) (show ObjOk X.prog X.w _ _ _ (.dK (mergeK [] kvs)) from ⟨hlen, hm, merged [] prs, KV.merge rel .nil, hd'⟩), rfl, q _ (I.hok.fresh (Nat.le_refl _))⟩
end
end Lc
namespace Lc
open PySem PySem.Spec PyProof.Rows L2
/-- a tuple, or a list -/
def LT (H : Hp) (a : Addr) (xs : List V) : Prop := H a = some (.tup xs) ∨ H a = some (.lst xs)
theorem LT.same {H H' : Hp} {a : Addr} {xs : List V} (h : LT H a xs) (s : Same H H') : LT H' a xs := h.imp (s _ _) (s _ _)
theorem LT.sq {K : PySem.W.Frag} {H : Hp} {a : Addr} {xs : List V} (h : LT H a xs) : SqL K H a xs ∨ SqT K H a xs := h.symm.imp SqL.of SqT.of
end Lc
set_option Elab.async false
set_option linter.all false
set_option maxRecDepth 100000
set_option maxHeartbeats 4000000
namespace K19
open PySem PySem.Spec PyProof.Rows L2 Lc
abbrev sFr : Stmt := top 129
def spFr : Sp := fun vs H Q _ => ∃ (t c l : Addr) (ss : List Str), vs = [.ref t, .ref l] ∧ TapeL c H t ∧ H l = some (.lst (ss.map V.str)) ∧ ss.length < 36 ∧ ∀ (x : Str) (H' : Hp), Sh 12 x → nameB (.str x) = true → x ∉ ss → TapeL c H' t → SameB t H H' → Q (.str x) H'
theorem ne_tape {H : Hp} {t l : Addr} {ss : List Str} (T : Tape H t) (h : H l = some (.lst (ss.map V.str))) : l ≠ t := fun z => by
  obtain ⟨a, _, _, _, _, ht, _⟩ := T
  rw [z, ht] at h
  cases ss with
  | nil => cases h
  | cons x r =>
    injection h with h
    injection h with h
    injection h with h1 _
    cases h1
section
variable {P : Program} {w : World} {K : PySem.W.Frag} {mg : Str → Option Value} {base : Heap} {f fN : Addr} {fd fdN : FuncData}
theorem scFr : FnScope ["_law_tape_here", "_law_taken", "_law_name_here", "_law_letter"] ["_law_tape_here", "_law_taken"] (defScope sFr) := ⟨rfl, rfl, rfl, by decide +kernel, rfl, by decide +kernel, by decide +kernel⟩
theorem ok_fr (F : Fun K "_law_fresh" "_law_fresh" sFr f fd) (GN : FnOk P w K mg base CX0 2 fN fdN ["_law_tape_here"] spLNm) (mN : mg "_law_name" = some (.ref fN)) (kN : PySem.W.keepIn K (.ref fN) = true) (bN : Binds K fdN ["_law_tape_here"] []) :
    FnOk P w K mg base CX0 3 f fd ["_law_tape_here", "_law_taken"] spFr := by
  refine F.ok scFr (fun vs H Q E h => ?_) (fun cdv A outer s H vs Q E hr h => ?_)
  · obtain ⟨t, c, l, ss, rfl, _⟩ := h
    rfl
  · obtain ⟨t, tl, l, ss, rfl, hT, hl, l36, k⟩ := h
    refine ⟨_, pss_cons (ps_set (i := 2) scFr.nd rfl (Or.inl rfl) (pe_call GN hr (by rfl) mN kN bN .nil pass0 (pa_cons (pv 0) pa_nil)))
      (pss_cons (ps_if (pt_cmpR op_notIn_seq (pv 2) (pv 1) (by rfl)) (pss_one (ps_ret (pv 2))) pss_nil)
      (pss_cons (ps_for PassesOwn.never rfl (pi_str pe_str) (pg_name (i := 3) scFr.nd rfl (Or.inl rfl))
        (pss_one (ps_if (pt_cmpR op_notIn_seq (pe_op op_add_str (pe_slice sl_str (pv 2) po_none (po_some pe_int)) (pv 3)) (pv 1) (by rfl)) (pss_one (ps_ret (pe_op op_add_str (pe_slice sl_str (pv 2) po_none (po_some pe_int)) (pv 3)))) pss_nil)))
      (pss_one (ps_ret (pv 2))))), ?_⟩
    refine ⟨_, rfl, t, tl, rfl, hT, fun x H1 hx nx T1 S1 => ?_⟩
    have hl1 := S1 _ _ (ne_tape hT.tape hl) hl
    have fl : (ss.map V.str).all flatV = true := by simp [flatV]
    have ln := hx.line (by decide)
    refine ⟨_, rfl, _, rfl, l, _, rfl, .inl (SqL.of hl1), rfl, fl, _, rfl, ite2 (fun y => ?_) (fun y => ?_)⟩
    · refine ⟨_, rfl, k x H1 hx nx (fun m => ?_) T1 S1⟩
      rw [if_pos rfl, in_strs, decide_eq_true m] at y
      cases y
    · refine ⟨_, rfl, for_it walk_str (fun i σ H' => (∃ x3 : Option V, σ = [some (.ref t), some (.ref l), some (.str x), x3]) ∧ H' = H1 ∧ ∀ (j : Nat) (c : Nat), j < i → signs.cps[j]? = some c → cutS x none (some 11) ++ (⟨#[c]⟩ : Str) ∈ ss) ⟨⟨_, rfl⟩, rfl, fun j c h => absurd h (Nat.not_lt_zero _)⟩ (fun _ _ _ _ _ => trivial) ?_ ?_⟩
      · rintro i v σ Ha Hb hi ⟨⟨x3, rfl⟩, rfl, all⟩ ⟨rfl, c, hc, rfl⟩
        have hc : signs.cps[i]? = some c := hc
        have mc : c ∈ signs.cps.toList := Array.mem_toList_iff.mpr (Array.mem_of_getElem? hc)
        have isc : inS c = true := decide_eq_true mc
        have cs : c < 1114112 := signs_ok c mc
        have sc : Sh 11 (cutS x none (some 11)) := ⟨by rw [cut_list, List.length_take]; omega, (sh_cut none (some 11) hx).ok⟩
        have so : Sh 1 (⟨#[c]⟩ : Str) := sh_one cs
        have lt : (cutS x none (some 11)).length + (⟨#[c]⟩ : Str).length ≤ sizeLine := Nat.le_trans (Nat.add_le_add (sh_len sc) (sh_len so)) (by decide)
        refine ⟨_, rfl, 11, rfl, x, rfl, ln, _, rfl, _, _, rfl, rfl, lt, _, rfl, l, _, rfl, .inl (SqL.of hl1), rfl, fl, _, rfl, ite2 (fun y => ?_) (fun y => ?_)⟩
        · refine ⟨_, rfl, 11, rfl, x, rfl, ln, _, rfl, _, _, rfl, rfl, lt, k _ _ (sh_app sc so) (name_cut nx isc) (fun m => ?_) T1 S1⟩
          rw [if_pos rfl, in_strs, decide_eq_true m] at y
          cases y
        · refine ⟨⟨_, rfl⟩, rfl, fun j c' hj hc' => ?_⟩
          by_cases e : j = i
          · subst e
            rw [hc] at hc'
            cases hc'
            rw [if_pos rfl, in_strs] at y
            exact of_decide_eq_true (by simpa using y)
          · exact all j c' (by omega) hc'
      · rintro σ H' ⟨⟨x3, rfl⟩, rfl, all⟩
        refine (free_letter (x := x) l36 fun c mc => ?_).elim
        obtain ⟨j, hj⟩ := List.mem_iff_getElem?.mp mc
        rw [Array.getElem?_toList] at hj
        exact all j c (Array.getElem?_eq_some_iff.mp hj).1 hj
end
theorem Same.gone {H H' : Hp} {p : Addr} (s : Same H H') (e : H' p = none) : H p = none := by
  cases q : H p with
  | none => rfl
  | some o => rw [s p o q] at e; cases e
abbrev sCls : Stmt := top 130
/-! ## columns: pairs of texts -/
inductive Cols (H : Hp) : List V → List (Str × Str) → Prop
  | nil : Cols H [] []
  | cons {a : Addr} {z k : Str} {xs : List V} {ps : List (Str × Str)} (e : H a = some (.tup [.str z, .str k])) (r : Cols H xs ps) : Cols H (.ref a :: xs) ((z, k) :: ps)
theorem Cols.t {H H' : Hp} (s : SameT H H') : ∀ {xs : List V} {ps : List (Str × Str)}, Cols H xs ps → Cols H' xs ps
  | _, _, .nil => .nil
  | _, _, .cons e r => .cons (s _ _ e) (Cols.t s r)
theorem Cols.app {H : Hp} : ∀ {xs ys : List V} {ps qs : List (Str × Str)}, Cols H xs ps → Cols H ys qs → Cols H (xs ++ ys) (ps ++ qs)
  | _, _, _, _, .nil, r => r
  | _, _, _, _, .cons e h, r => .cons e (Cols.app h r)
theorem Cols.len {H : Hp} : ∀ {xs : List V} {ps : List (Str × Str)}, Cols H xs ps → xs.length = ps.length
  | _, _, .nil => rfl
  | _, _, .cons _ r => by rw [List.length_cons, List.length_cons, Cols.len r]
def colP (p : Str × Str) : PyData := .tuple [.str p.1, .str p.2]
theorem Cols.dh {H : Hp} : ∀ {xs : List V} {ps : List (Str × Str)}, Cols H xs ps → DhAll H xs (ps.map colP)
  | _, _, .nil => .nil
  | _, _, .cons e r => .cons (.tup e (.cons (.str _) (.cons (.str _) .nil))) (Cols.dh r)
def KindS (k : Str) : Prop := k = "number" ∨ k = "word" ∨ k = "flag"
theorem KindS.sh {k : Str} (h : KindS k) : Sh 100 k := by
  rcases h with rfl | rfl | rfl <;> exact ⟨by decide +kernel, by decide +kernel⟩
def spCls : Sp := fun vs H Q _ => ∃ (t c l n : Addr) (m : Int) (lead tk : List Str), vs = [.ref t, .ref l, .int m, .ref n] ∧ TapeL c H t ∧ LT H l (lead.map V.str) ∧ LT H n (tk.map V.str) ∧ tk.length ≤ 8 ∧ 0 ≤ m ∧ m ≤ 7 ∧ lead.length + m.toNat ≤ 8 ∧ (∀ k ∈ lead, KindS k) ∧
  ∀ (r : Addr) (xs : List V) (ps : List (Str × Str)) (H' : Hp), ZT H' r xs → Cols H' xs ps → (∀ p ∈ ps, Sh 12 p.1 ∧ nameB (.str p.1) = true ∧ KindS p.2) → (ps.map (·.1)).Nodup → (∀ p ∈ ps, p.1 ∉ tk) → lead.length ≤ ps.length → ps.length ≤ lead.length + m.toNat → TapeL c H' t → SameB t H H' → Q (.ref r) H'
section
variable {P : Program} {w : World} {K : PySem.W.Frag} {mg : Str → Option Value} {base : Heap} {f fD fF : Addr} {fd fdD fdF : FuncData}
theorem scCls : FnScope ["_law_tape_here", "_law_lead", "_law_many", "_law_taken", "_law_names", "_law_columns_here", "_law_kinds", "_law_k", "_law_kind"] ["_law_tape_here", "_law_lead", "_law_many", "_law_taken"] (defScope sCls) := ⟨rfl, rfl, rfl, by decide +kernel, rfl, by decide +kernel, by decide +kernel⟩
theorem ok_cls (F : Fun K "_law_columns" "_law_columns" sCls f fd) (T : Bt mg) (GD : FnOk P w K mg base CX0 1 fD fdD ["_law_tape_here", "_law_many"] spDrawL) (mD : mg "_law_draw" = some (.ref fD)) (kD : PySem.W.keepIn K (.ref fD) = true) (bD : Binds K fdD ["_law_tape_here", "_law_many"] [])
    (GF : FnOk P w K mg base CX0 3 fF fdF ["_law_tape_here", "_law_taken"] spFr) (mF : mg "_law_fresh" = some (.ref fF)) (kF : PySem.W.keepIn K (.ref fF) = true) (bF : Binds K fdF ["_law_tape_here", "_law_taken"] []) :
    FnOk P w K mg base CX0 4 f fd ["_law_tape_here", "_law_lead", "_law_many", "_law_taken"] spCls := by
  refine F.ok scCls (fun vs H Q E h => ?_) (fun cdv A outer s H vs Q E hr h => ?_)
  · obtain ⟨t, c, l, n, m, lead, tk, rfl, _⟩ := h
    rfl
  · obtain ⟨t, c, l, n, m, lead, tk, rfl, hT, hl, hn, tk8, m0, m7, ld8, hkl, k⟩ := h
    have hr1 : Room 1 _ := hr.mono (by decide)
    refine ⟨_, pss_cons (ps_set (i := 4) scCls.nd rfl (Or.inl rfl) (pe_callTy call_list_of (by rfl) T.list boot_list (pa_cons (pv 3) pa_nil)))
      (pss_cons (ps_set (i := 5) scCls.nd rfl (Or.inl rfl) (pe_lst pa_nil))
      (pss_cons (ps_set (i := 6) scCls.nd rfl (Or.inl rfl) (pe_callTy call_list_of (by rfl) T.list boot_list (pa_cons (pv 1) pa_nil)))
      (Evl.pss_cut (ps_for PassesOwn.never rfl (pi_range1 (by rfl) T.range (pa_cons (pe_call GD hr1 (by rfl) mD kD bD .nil pass0 (pa_cons (pv 0) (pa_cons (pe_op op_add (pv 2) pe_int) pa_nil))) pa_nil)) (pg_name (i := 7) scCls.nd rfl (Or.inl rfl))
        (pss_one (ps_expr (pe_bm PySem.F.plainAttrs_list PySem.F.slot_list_append PySem.F.type_list_append mt_append (pv 6) (pa_cons (pe_ix ix_list (pe_lst (pa_cons pe_str (pa_cons pe_str (pa_cons pe_str pa_nil)))) (pe_call GD hr1 (by rfl) mD kD bD .nil pass0 (pa_cons (pv 0) (pa_cons pe_int pa_nil))) (fun _ _ => rfl)) pa_nil)))))
      (pss_cons (ps_for PassesOwn.never rfl (pi_list (pv 6)) (pg_name (i := 8) scCls.nd rfl (Or.inl rfl))
        (pss_cons (ps_expr (pe_bm PySem.F.plainAttrs_list PySem.F.slot_list_append PySem.F.type_list_append mt_append (pv 4) (pa_cons (pe_call GF hr (by rfl) mF kF bF .nil pass0 (pa_cons (pv 0) (pa_cons (pv 4) pa_nil))) pa_nil)))
        (pss_one (ps_expr (pe_bm PySem.F.plainAttrs_list PySem.F.slot_list_append PySem.F.type_list_append mt_append (pv 5) (pa_cons (pe_tup (pa_cons (pe_ix ix_list (pv 4) (pe_un un_neg pe_int) (fun _ _ => rfl)) (pa_cons (pv 8) pa_nil))) pa_nil))))))
      (pss_one (ps_ret (pe_callTy call_tupleZ (by rfl) T.tuple boot_tuple (pa_cons (pv 5) pa_nil)))))))), ?_⟩
    refine ⟨_, rfl, n, _, rfl, hn.sq, fun L hL => ⟨by show 0 ≤ sizeLine; decide, fun M hM => ?_⟩⟩
    have yL := Same.upd (o := .lst (tk.map V.str)) hL
    have yM := Same.upd (o := .lst []) hM
    refine ⟨_, rfl, l, _, rfl, (hl.same (yL.trans yM)).sq, fun N hN => ?_⟩
    have yN := Same.upd (o := .lst (lead.map V.str)) hN
    have nLt := hT.tape.ne hL
    have nMt := (hT.same yL).tape.ne hM
    have nNt := (hT.same (yL.trans yM)).tape.ne hN
    obtain ⟨ys, hc⟩ := hT.list
    have nLc : L ≠ c := Ne.symm (ne_of_none hc hL)
    have nMc : M ≠ c := Ne.symm (ne_of_none (yL _ _ hc) hM)
    have nNc : N ≠ c := Ne.symm (ne_of_none ((yL.trans yM) _ _ hc) hN)
    have eL : upd H L (.lst (tk.map V.str)) L = some (.lst (tk.map V.str)) := upd_same
    have nML : L ≠ M := ne_of_none eL hM
    have nNL : L ≠ N := ne_of_none (yM _ _ eL) hN
    have nNM : M ≠ N := ne_of_none (show upd (upd H L (.lst (tk.map V.str))) M (.lst []) M = some (.lst []) from upd_same) hN
    have hL3 := (yM.trans yN) _ _ eL
    have hM3 := yN _ _ (show upd (upd H L (.lst (tk.map V.str))) M (.lst []) M = some (.lst []) from upd_same)
    have hN3 : upd (upd (upd H L (.lst (tk.map V.str))) M (.lst [])) N (.lst (lead.map V.str)) N = some (.lst (lead.map V.str)) := upd_same
    have s3 := yL.trans (yM.trans yN)
    have gM := Same.gone yL hM
    have gN := Same.gone (yL.trans yM) hN
    have hT3 := hT.same s3
    generalize upd (upd (upd H L (.lst (tk.map V.str))) M (.lst [])) N (.lst (lead.map V.str)) = H3 at hL3 hM3 hN3 s3 hT3 yN ⊢
    clear yN yM yL eL
    have o3 : 3 ≤ sizeLine := by decide
    let Md : Option V → Option V → List Str → L2.St → Hp → Prop := fun x7 x8 ks σ H' => σ = [some (.ref t), some (.ref l), some (.int m), some (.ref n), some (.ref L), some (.ref M), some (.ref N), x7, x8] ∧ H' N = some (.lst (ks.map V.str)) ∧ (∀ k ∈ ks, KindS k) ∧ TapeL c H' t ∧ SameB t H H'
    refine ⟨fun σ H' => ∃ x7 ks, Md x7 none ks σ H' ∧ H' L = some (.lst (tk.map V.str)) ∧ H' M = some (.lst []) ∧ lead.length ≤ ks.length ∧ ks.length ≤ lead.length + m.toNat, ?_, ?_⟩
    · refine ⟨_, rfl, _, rfl, _, _, rfl, rfl, t, c, _, rfl, hT3, by omega, big1000 (by omega) (by omega), fun k2 H4 u2 w2 T4 S4 => ⟨k2, rfl, by omega, by omega, for_range (n := k2.toNat) (fun i σ H' => ∃ x7 ks, Md x7 none ks σ H' ∧ H' L = some (.lst (tk.map V.str)) ∧ H' M = some (.lst []) ∧ ks.length = i + lead.length)
        ⟨_, lead, ⟨rfl, S4 _ _ nNt hN3, hkl, T4, (Same.b t s3).trans S4⟩, S4 _ _ nLt hL3, S4 _ _ nMt hM3, (Nat.zero_add _).symm⟩ ?_ ?_⟩⟩
      · rintro i σ H5 hi ⟨x7, ks, ⟨rfl, hN5, hk5, T5, S5⟩, hL5, hM5, e5⟩
        refine ⟨_, rfl, .inl ⟨rfl, _, SqL.of hN5⟩, o3, fun q hq => ?_⟩
        have zq := Same.upd (o := .lst [.str "number", .str "word", .str "flag"]) hq
        have nq := T5.tape.ne hq
        refine ⟨_, rfl, t, c, _, rfl, T5.same zq, by decide, big1000 (by decide) (by decide), fun k3 H6 u3 w3 T6 S6 => ?_⟩
        obtain ⟨kk, hkk, skk⟩ : ∃ kk : Str, ([.str "number", .str "word", .str "flag"] : List V)[k3.toNat]? = some (.str kk) ∧ KindS kk := by
          have : k3.toNat = 0 ∨ k3.toNat = 1 ∨ k3.toNat = 2 := by omega
          rcases this with e | e | e <;> rw [e]
          · exact ⟨_, rfl, .inl rfl⟩
          · exact ⟨_, rfl, .inr (.inl rfl)⟩
          · exact ⟨_, rfl, .inr (.inr rfl)⟩
        have S7 : SameB t H5 H6 := (Same.b t zq).trans S6
        have hN6 := S7 _ _ nNt hN5
        refine ⟨q, _, _, _, rfl, rfl, SqL.of (S6 _ _ nq upd_same), at_of (j := k3.toNat) (by omega) hkk, N, _, _, rfl, rfl, hN6, ?_, ?_⟩
        · rw [List.length_map, e5]
          exact Nat.lt_of_le_of_lt (show i + lead.length ≤ 8 by omega) (by decide)
        · refine ⟨_, ks ++ [kk], ⟨rfl, by rw [upd_same, List.map_append]; rfl, fun k hk => ?_, T6.upd nNt nNc, fun b o n e => ?_⟩, by rw [upd_ne nNL]; exact S7 _ _ nLt hL5, by rw [upd_ne nNM]; exact S7 _ _ nMt hM5, by rw [List.length_append, e5, List.length_singleton]; omega⟩
          · rcases List.mem_append.mp hk with hk | hk
            · exact hk5 k hk
            · rw [List.mem_singleton.mp hk]; exact skk
          · rw [upd_ne (fun z => by rw [z, gN] at e; cases e)]
            exact (S5.trans S7) b o n e
      · rintro σ H5 ⟨x7, ks, h5, hL5, hM5, e5⟩
        exact ⟨x7, ks, h5, hL5, hM5, by omega, by omega⟩
    · rintro σ H5 ⟨x7, ks, ⟨rfl, hN5, hk5, T5, S5⟩, hL5, hM5, e5, e6⟩
      refine ⟨_, rfl, N, rfl, ⟨_, SqL.of hN5⟩, for_list (K := K) (a := N) (xs := ks.map V.str) (fun i σ H' => ∃ (x8 : Option V) (ns : List Str) (xs : List V) (ps : List (Str × Str)), Md x7 x8 ks σ H' ∧ H' L = some (.lst ((tk ++ ns).map V.str)) ∧ H' M = some (.lst xs) ∧ Cols H' xs ps ∧ (∀ p ∈ ps, Sh 12 p.1 ∧ nameB (.str p.1) = true ∧ KindS p.2) ∧ ns.length = i ∧ ps.length = i ∧ ps.map (·.1) = ns ∧ ns.Nodup ∧ ∀ x ∈ ns, x ∉ tk)
        ⟨_, [], [], [], ⟨rfl, hN5, hk5, T5, S5⟩, by rw [List.append_nil]; exact hL5, hM5, .nil, nofun, rfl, rfl, rfl, List.nodup_nil, nofun⟩ (fun i σ H' _ p => by obtain ⟨_, _, _, _, ⟨_, z, _⟩, _⟩ := p; exact SqL.of z) ?_ ?_⟩
      · rintro i x σ H6 hx ⟨x8, ns, xs, ps, ⟨rfl, hN6, _, T6, S6⟩, hL6, hM6, hc6, hp6, e7, e8, en, nd, ntk⟩
        obtain ⟨kk, hkk, rfl⟩ : ∃ kk, ks[i]? = some kk ∧ V.str kk = x := by
          rw [List.getElem?_map] at hx
          cases q : ks[i]? with
          | none => rw [q] at hx; cases hx
          | some kk => rw [q] at hx; exact ⟨kk, rfl, Option.some.inj hx⟩
        have hi8 : i < 8 := Nat.lt_of_lt_of_le (List.getElem?_eq_some_iff.mp hkk).1 (show ks.length ≤ 8 by omega)
        have skk := hk5 kk (List.mem_of_getElem? hkk)
        have lim : ∀ {m : Nat}, m ≤ 8 → m < sizeLine := fun h => Nat.lt_of_le_of_lt h (by decide)
        refine ⟨_, rfl, .inl ⟨rfl, _, SqL.of hL6⟩, _, rfl, _, rfl, t, c, L, tk ++ ns, rfl, T6, hL6, by rw [List.length_append]; omega, fun z H7 hz nz fz T7 S7 => ?_⟩
        have hL7 := S7 _ _ nLt hL6
        have hM7 := S7 _ _ nMt hM6
        have hN7 := S7 _ _ nNt hN6
        have hc7 := hc6.t (SameT.b T6.tape S7)
        refine ⟨L, _, _, rfl, rfl, hL7, by rw [List.length_map, List.length_append, e7]; exact Nat.lt_of_le_of_lt (show _ ≤ 16 by omega) (by decide), ?_⟩
        have hc8 := hc7.t (SameT.lst (o := .lst ((tk ++ ns).map V.str ++ [.str z])) hL7)
        have T8 := T7.upd (o := .lst ((tk ++ ns).map V.str ++ [.str z])) nLt nLc
        have hL8 : upd H7 L (.lst ((tk ++ ns).map V.str ++ [.str z])) L = some (.lst ((tk ++ ns).map V.str ++ [.str z])) := upd_same
        have hM8 : upd H7 L (.lst ((tk ++ ns).map V.str ++ [.str z])) M = some (.lst xs) := by rw [upd_ne (Ne.symm nML)]; exact hM7
        have hN8 : upd H7 L (.lst ((tk ++ ns).map V.str ++ [.str z])) N = some (.lst (ks.map V.str)) := by rw [upd_ne (Ne.symm nNL)]; exact hN7
        have S8 : SameB t H (upd H7 L (.lst ((tk ++ ns).map V.str ++ [.str z]))) := fun b o n e => by
          rw [upd_ne (fun z => by rw [z, hL] at e; cases e)]
          exact (S6.trans S7) b o n e
        generalize upd H7 L (.lst ((tk ++ ns).map V.str ++ [.str z])) = H8 at hc8 T8 hL8 hM8 hN8 S8 ⊢
        refine ⟨_, rfl, .inl ⟨rfl, _, SqL.of hM8⟩, _, rfl, _, rfl, L, _, _, _, rfl, rfl, SqL.of hL8, (show atI ((tk ++ ns).map V.str ++ [.str z]) (-1) = some (.str z) from ?_), _, rfl, by show 2 ≤ sizeLine; decide, fun q hq => ?_⟩
        · unfold atI
          rw [show ixN ((tk ++ ns).map V.str ++ [V.str z]).length (-1) = some (tk ++ ns).length from ?_]
          · simp
          · have hl : ((tk ++ ns).map V.str ++ [V.str z]).length = (tk ++ ns).length + 1 := by rw [List.length_append, List.length_map]; rfl
            unfold ixN
            rw [hl, if_neg (by decide), if_pos (by omega)]
            exact congrArg some (by omega)
        have zq := Same.upd (o := .tup [.str z, .str kk]) hq
        have hM9 := zq _ _ hM8
        have lx := hc6.len
        refine ⟨M, _, _, rfl, rfl, hM9, lim (by omega), ?_⟩
        refine ⟨_, ns ++ [z], xs ++ [.ref q], ps ++ [(z, kk)], ⟨rfl, by rw [upd_ne (Ne.symm nNM)]; exact zq _ _ hN8, hk5, (T8.same zq).upd nMt nMc, fun b o n e => ?_⟩, by rw [upd_ne nML, zq _ _ hL8, ← List.append_assoc, List.map_append (l₁ := tk ++ ns)]; rfl, upd_same, ?_, ?_, by rw [List.length_append, e7]; rfl, by rw [List.length_append, e8]; rfl, by rw [List.map_append, en]; rfl, List.nodup_append.mpr ⟨nd, List.nodup_cons.mpr ⟨nofun, List.nodup_nil⟩, fun a ha b hb => by rw [List.mem_singleton.mp hb]; exact fun e => fz (List.mem_append_right _ (by rw [← e]; exact ha))⟩, fun x hx => ?_⟩
        · rw [upd_ne (fun z => by rw [z, gM] at e; cases e)]
          exact (S8.trans (Same.b t zq)) b o n e
        · have eq : upd H8 q (.tup [.str z, .str kk]) q = some (.tup [.str z, .str kk]) := upd_same
          have hc9 := (hc8.t (SameT.of zq)).app (.cons eq .nil)
          exact hc9.t (SameT.lst hM9)
        · intro p hp
          rcases List.mem_append.mp hp with hp | hp
          · exact hp6 p hp
          · rw [List.mem_singleton.mp hp]; exact ⟨hz, nz, skk⟩
        · rcases List.mem_append.mp hx with hx | hx
          · exact ntk x hx
          · rw [List.mem_singleton.mp hx]; exact fun q => fz (List.mem_append_left _ q)
      · rintro σ H6 ⟨x8, ns, xs, ps, ⟨rfl, hN6, _, T6, S6⟩, hL6, hM6, hc6, hp6, e7, e8, en, nd, ntk⟩
        rw [List.length_map] at e8
        refine ⟨_, rfl, M, xs, rfl, SqL.of hM6, fun r ob hr c1 c2 => ?_⟩
        have zr := Same.upd (o := .frz ob (.tup xs)) hr
        exact k r xs ps _ ⟨ob, c1, c2, upd_same⟩ (hc6.t (SameT.of zr)) hp6 (by rw [en]; exact nd) (fun p hp => ntk p.1 (by rw [← en]; exact List.mem_map_of_mem hp)) (by omega) (by omega) (T6.same zr) (S6.trans (Same.b t zr))
end
end K19
set_option Elab.async false
set_option linter.all false
set_option maxRecDepth 100000
set_option maxHeartbeats 4000000
namespace K19
open PySem PySem.Spec PyProof.Rows L2 Lc
def spRatL : Sp := fun vs H Q _ => ∃ (t c : Addr) (b : Bool), vs = [.ref t, .bl b] ∧ TapeL c H t ∧ ∀ (p : Addr) (n d : Int) (H' : Hp), Rt n d → n.natAbs ≤ 10000000000000000000000000000000000000000 → d.natAbs ≤ 10000000000000000000000000000000000000000 → H' p = some (.tup [.int n, .int d]) → H p = none → TapeL c H' t → SameB t H H' → Q (.ref p) H'
abbrev sRat : Stmt := top 127
section
variable {P : Program} {w : World} {K : PySem.W.Frag} {mg : Str → Option Value} {base : Heap} {f : Addr} {fd : FuncData}
theorem scRat : FnScope ["_law_tape_here", "_law_wide", "_law_size", "_law_number", "_law_edge"] ["_law_tape_here", "_law_wide"] (defScope sRat) := ⟨rfl, rfl, rfl, by decide +kernel, rfl, by decide +kernel, by decide +kernel⟩
theorem ok_rat {fD fL : Addr} {fdD fdL : FuncData} (F : Fun K "_law_rational" "_law_rational" sRat f fd) (T : Bt mg) (GD : FnOk P w K mg base CX0 1 fD fdD ["_law_tape_here", "_law_many"] spDrawL) (mD : mg "_law_draw" = some (.ref fD)) (kD : PySem.W.keepIn K (.ref fD) = true) (bD : Binds K fdD ["_law_tape_here", "_law_many"] [])
    (GL : FnOk P w K mg base CX0 1 fL fdL ["_law_n", "_law_d"] spLowest) (mL : mg "_law_lowest" = some (.ref fL)) (kL : PySem.W.keepIn K (.ref fL) = true) (bL : Binds K fdL ["_law_n", "_law_d"] []) : FnOk P w K mg base CX0 2 f fd ["_law_tape_here", "_law_wide"] spRatL := by
  refine F.ok scRat (fun vs H Q E h => ?_) (fun cdv A outer s H vs Q E hr h => ?_)
  · obtain ⟨t, c, b, rfl, _⟩ := h
    rfl
  · obtain ⟨t, c, b, rfl, hT, k⟩ := h
    refine ⟨_, pss_cons (ps_set (i := 2) scRat.nd rfl (Or.inl rfl) (pe_call GD hr (by rfl) mD kD bD .nil pass0 (pa_cons (pv 0) (pa_cons (pe_op op_add pe_int (pe_op op_mul pe_int (pe_callTy call_int1 (by rfl) T.int boot_int (pa_cons (pv 1) pa_nil)))) pa_nil))))
      (pss_cons (ps_if (pt_cmpR op_lt (pv 2) pe_int (nomark _)) (pss_one (ps_ret (pe_tup (pa_cons (pe_op op_sub (pe_call GD hr (by rfl) mD kD bD .nil pass0 (pa_cons (pv 0) (pa_cons pe_int pa_nil))) pe_int) (pa_cons pe_int pa_nil))))) pss_nil)
      (pss_cons (ps_if (pt_cmpR op_lt (pv 2) pe_int (nomark _)) (pss_one (ps_ret (pe_call GL hr (by rfl) mL kL bL .nil pass0 (pa_cons (pe_op op_sub (pe_call GD hr (by rfl) mD kD bD .nil pass0 (pa_cons (pv 0) (pa_cons pe_int pa_nil))) pe_int) (pa_cons (pe_op op_add pe_int (pe_call GD hr (by rfl) mD kD bD .nil pass0 (pa_cons (pv 0) (pa_cons pe_int pa_nil)))) pa_nil))))) pss_nil)
      (pss_cons (ps_if (pt_cmpR op_eq (pv 2) pe_int (nomark _)) (pss_cons (ps_set (i := 3) scRat.nd rfl (Or.inl rfl) (pe_op op_sub (pe_call GD hr (by rfl) mD kD bD .nil pass0 (pa_cons (pv 0) (pa_cons (pe_op op_add (pe_op op_mul pe_int (pe_op op_pow pe_int pe_int)) pe_int) pa_nil))) (pe_op op_pow pe_int pe_int)))
          (pss_one (ps_ret (pe_call GL hr (by rfl) mL kL bL .nil pass0 (pa_cons (pv 3) (pa_cons (pe_op op_add pe_int (pe_call GD hr (by rfl) mD kD bD .nil pass0 (pa_cons (pv 0) (pa_cons (pe_op op_pow pe_int pe_int) pa_nil)))) pa_nil)))))) pss_nil)
      (pss_cons (ps_set (i := 4) scRat.nd rfl (Or.inl rfl) (pe_op op_sub (pe_op op_pow pe_int pe_int) (pe_call GD hr (by rfl) mD kD bD .nil pass0 (pa_cons (pv 0) (pa_cons pe_int pa_nil)))))
      (pss_one (ps_ret (pe_ix ix_list (pe_lst (pa_cons (pe_tup (pa_cons (pv 4) (pa_cons pe_int pa_nil))) (pa_cons (pe_tup (pa_cons (pe_op op_sub pe_int (pv 4)) (pa_cons pe_int pa_nil))) (pa_cons (pe_tup (pa_cons pe_int (pa_cons (pv 4) pa_nil))) (pa_cons (pe_tup (pa_cons (pe_un un_neg pe_int) (pa_cons (pv 4) pa_nil))) pa_nil)))))
        (pe_call GD hr (by rfl) mD kD bD .nil pass0 (pa_cons (pv 0) (pa_cons pe_int pa_nil))) (fun _ _ => rfl)))))))), ?_⟩
    have two : 2 ≤ sizeLine := by decide
    have pw18 : CPow 10 18 := ⟨by decide, by decide, by decide⟩
    have pw40 : CPow 10 40 := ⟨by decide, by decide, by decide⟩
    have b140 : ∀ z : Int, -100000000000000000000000000000000000000000 ≤ z → z ≤ 100000000000000000000000000000000000000000 → z.natAbs < 2 ^ 140 := by
      intro z h1 h2
      have : (2 : Nat) ^ 140 = 1393796574908163946345982392040522594123776 := by decide
      omega
    have big : ∀ z : Int, -100000000000000000000000000000000000000000 ≤ z → z ≤ 100000000000000000000000000000000000000000 → z.natAbs < 2 ^ 4000 := fun z h1 h2 => Nat.lt_of_lt_of_le (b140 z h1 h2) (Nat.pow_le_pow_right (by decide) (by decide))
    have b40 : ∀ z : Int, -10000000000000000000000000000000000000000 ≤ z → z ≤ 10000000000000000000000000000000000000000 → z.natAbs ≤ 10000000000000000000000000000000000000000 := by
      intro z h1 h2
      omega
    refine ⟨_, rfl, _, rfl, .inr ⟨b, rfl, _, _, rfl, rfl, .inl ⟨by decide, by decide⟩, _, _, rfl, rfl, t, c, _, rfl, hT, by cases b <;> decide, by cases b <;> exact big _ (by decide) (by decide), fun k1 H1 u1 v1 T1 S1 => ?_⟩⟩
    refine ⟨_, rfl, _, _, rfl, rfl, _, rfl, ?_⟩
    refine ite2 (fun _ => ?_) (fun _ => ?_)
    · refine ⟨_, rfl, t, c, _, rfl, T1, by decide, big _ (by decide) (by decide), fun k2 H2 u2 v2 T2 S2 => ?_⟩
      refine ⟨_, _, rfl, rfl, two, fun p hp => ?_⟩
      exact k p (k2 - 7) 1 _ (rt_one _) (b40 _ (by omega) (by omega)) (b40 _ (by decide) (by decide)) upd_same ((S1.trans S2).free T2.tape hp) (T2.same (Same.upd hp)) ((S1.trans S2).trans (Same.b t (Same.upd hp)))
    · refine ⟨_, rfl, _, _, rfl, rfl, _, rfl, ?_⟩
      refine ite2 (fun _ => ?_) (fun _ => ?_)
      · refine ⟨_, rfl, t, c, _, rfl, T1, by decide, big _ (by decide) (by decide), fun k2 H2 u2 v2 T2 S2 => ?_⟩
        refine ⟨_, _, rfl, rfl, _, rfl, t, c, _, rfl, T2, by decide, big _ (by decide) (by decide), fun k3 H3 u3 v3 T3 S3 => ?_⟩
        refine ⟨_, _, rfl, rfl, _, _, rfl, by omega, big _ (by omega) (by omega), fun p hp => ?_⟩
        have le := low_le (n := k2 - 200) (d := 1 + k3) (by omega)
        exact k p _ _ _ (low_rt (by omega)) (Nat.le_trans le.1 (b40 _ (by omega) (by omega))) (Nat.le_trans le.2 (b40 _ (by omega) (by omega))) upd_same (((S1.trans S2).trans S3).free T3.tape hp) (T3.same (Same.upd hp)) (((S1.trans S2).trans S3).trans (Same.b t (Same.upd hp)))
      · refine ⟨_, rfl, rfl, _, rfl, ?_⟩
        refine ite2 (fun _ => ?_) (fun _ => ?_)
        · refine ⟨_, rfl, _, _, rfl, rfl, pw18, _, _, rfl, rfl, .inl ⟨by decide, by decide⟩, _, _, rfl, rfl, t, c, _, rfl, T1, ?_, ?_, fun k2 H2 u2 v2 T2 S2 => ?_⟩
          · rw [p18]
            decide
          · rw [p18]
            exact big _ (by decide) (by decide)
          rw [p18] at v2
          refine ⟨_, _, rfl, rfl, pw18, _, _, rfl, rfl, _, rfl, _, rfl, _, _, rfl, rfl, pw18, t, c, _, rfl, T2, ?_, ?_, fun k3 H3 u3 v3 T3 S3 => ?_⟩
          · rw [p18]
            decide
          · rw [p18]
            exact big _ (by decide) (by decide)
          rw [p18] at v3
          refine ⟨_, _, rfl, rfl, _, _, rfl, by omega, big _ (by omega) (by omega), fun p hp => ?_⟩
          have le := low_le (n := k2 - 10 ^ (18 : Int).toNat) (d := 1 + k3) (by omega)
          rw [p18] at le
          refine k p _ _ _ (low_rt (by omega)) ?_ (Nat.le_trans le.2 (b40 _ (by omega) (by omega))) upd_same (((S1.trans S2).trans S3).free T3.tape hp) (T3.same (Same.upd hp)) (((S1.trans S2).trans S3).trans (Same.b t (Same.upd hp)))
          exact Nat.le_trans le.1 (b40 _ (by omega) (by omega))
        · refine ⟨_, _, rfl, rfl, pw40, _, rfl, t, c, _, rfl, T1, by decide, big _ (by decide) (by decide), fun k2 H2 u2 v2 T2 S2 => ?_⟩
          refine ⟨_, _, rfl, rfl, ?_⟩
          rw [p40]
          obtain ⟨ed, he⟩ : ∃ ed : Int, ed = 10000000000000000000000000000000000000000 - k2 := ⟨_, rfl⟩
          rw [show (fun i j : Int => V.int (i - j)) 10000000000000000000000000000000000000000 k2 = V.int ed by rw [he]]
          refine ⟨_, rfl, two, fun a1 ha1 => ⟨_, rfl, _, _, rfl, rfl, two, fun a2 ha2 => ⟨_, rfl, two, fun a3 ha3 => ⟨_, rfl, _, rfl, two, fun a4 ha4 => ⟨by show 4 ≤ sizeLine; decide, fun a5 ha5 => ?_⟩⟩⟩⟩⟩
          have z1 := Same.upd (o := .tup [.int ed, .int 1]) ha1
          have z2 := Same.upd (o := .tup [.int (0 - ed), .int 1]) ha2
          have z3 := Same.upd (o := .tup [.int 1, .int ed]) ha3
          have z4 := Same.upd (o := .tup [.int (-1), .int ed]) ha4
          have z5 := Same.upd (o := .lst [.ref a1, .ref a2, .ref a3, .ref a4]) ha5
          have zz := z1.trans (z2.trans (z3.trans (z4.trans z5)))
          have T5 := T2.same zz
          refine ⟨_, rfl, t, c, _, rfl, T5, by decide, big _ (by decide) (by decide), fun k3 H3 u3 v3 T3 S3 => ?_⟩
          have n5 : a5 ≠ t := (T2.same (z1.trans (z2.trans (z3.trans z4)))).tape.ne ha5
          have n1 : a1 ≠ t := T2.tape.ne ha1
          have n2 : a2 ≠ t := (T2.same z1).tape.ne ha2
          have n3 : a3 ≠ t := (T2.same (z1.trans z2)).tape.ne ha3
          have n4 : a4 ≠ t := (T2.same (z1.trans (z2.trans z3))).tape.ne ha4
          have f0 := S1.trans S2
          have g1 : H a1 = none := f0.free T2.tape ha1
          have g2 : H a2 = none := f0.free T2.tape (z1.free ha2)
          have g3 : H a3 = none := f0.free T2.tape ((z1.trans z2).free ha3)
          have g4 : H a4 = none := f0.free T2.tape ((z1.trans (z2.trans z3)).free ha4)
          have sb := (f0.trans (Same.b t zz)).trans S3
          have e1 := S3 _ _ n1 ((z2.trans (z3.trans (z4.trans z5))) _ _ upd_same)
          have e2 := S3 _ _ n2 ((z3.trans (z4.trans z5)) _ _ upd_same)
          have e3 := S3 _ _ n3 ((z4.trans z5) _ _ upd_same)
          have e4 := S3 _ _ n4 (z5 _ _ upd_same)
          have hL := S3 _ _ n5 (upd_same)
          rcases (by omega : k3 = 0 ∨ k3 = 1 ∨ k3 = 2 ∨ k3 = 3) with rfl | rfl | rfl | rfl
          · exact ⟨a5, _, _, _, rfl, rfl, SqL.of hL, rfl, k a1 _ _ _ (rt_one _) (b40 _ (by omega) (by omega)) (b40 _ (by omega) (by omega)) e1 g1 T3 sb⟩
          · exact ⟨a5, _, _, _, rfl, rfl, SqL.of hL, rfl, k a2 _ _ _ (rt_one _) (b40 _ (by omega) (by omega)) (b40 _ (by omega) (by omega)) e2 g2 T3 sb⟩
          · exact ⟨a5, _, _, _, rfl, rfl, SqL.of hL, rfl, k a3 _ _ _ (rt_inv (by omega)) (b40 _ (by omega) (by omega)) (b40 _ (by omega) (by omega)) e3 g3 T3 sb⟩
          · exact ⟨a5, _, _, _, rfl, rfl, SqL.of hL, rfl, k a4 _ _ _ (rt_ninv (by omega)) (b40 _ (by omega) (by omega)) (b40 _ (by omega) (by omega)) e4 g4 T3 sb⟩
end
end K19
set_option Elab.async false
set_option linter.all false
set_option maxRecDepth 100000
set_option maxHeartbeats 4000000
namespace K19
open PySem PySem.Spec PyProof.Rows L2 Lc
abbrev sLv : Stmt := top 131
abbrev sLvs : Stmt := top 132
/-! ## values -/
inductive Vk : Str → PyData → Prop
  | non (k : Str) : Vk k .none
  | num {n d : Int} (h : Rt n d) (h1 : n.natAbs ≤ 10000000000000000000000000000000000000000) (h2 : d.natAbs ≤ 10000000000000000000000000000000000000000) : Vk "number" (.tuple [.int n, .int d])
  | flag (b : Bool) : Vk "flag" (.bool b)
  | word {x : Str} (h : Sh 12 x) (hn : nameB (.str x) = true) : Vk "word" (.str x)
inductive Vks : List Str → List PyData → Prop
  | nil : Vks [] []
  | cons {k : Str} {d : PyData} {ks : List Str} {ds : List PyData} (h : Vk k d) (r : Vks ks ds) : Vks (k :: ks) (d :: ds)
theorem Vks.app {k : Str} {d : PyData} (h : Vk k d) : ∀ {ks : List Str} {ds : List PyData}, Vks ks ds → Vks (ks ++ [k]) (ds ++ [d])
  | _, _, .nil => .cons h .nil
  | _, _, .cons a r => .cons a (Vks.app h r)
theorem Vks.len : ∀ {ks : List Str} {ds : List PyData}, Vks ks ds → ks.length = ds.length
  | _, _, .nil => rfl
  | _, _, .cons _ r => by rw [List.length_cons, List.length_cons, Vks.len r]
/-- v is d, all its parts are new since H -/
def DhF (H H' : Hp) (v : V) (d : PyData) : Prop := ∀ H2 : Hp, (∀ b o, H b = none → H' b = some o → H2 b = some o) → Dh H2 v d
theorem DhF.now {H H' : Hp} {v : V} {d : PyData} (h : DhF H H' v d) : Dh H' v d := h H' fun _ _ _ e => e
def spVal : Sp := fun vs H Q _ => ∃ (t c : Addr) (kind : Str) (b : Bool), vs = [.ref t, .str kind, .bl b] ∧ TapeL c H t ∧ KindS kind ∧ ∀ (v : V) (d : PyData) (H' : Hp), DhF H H' v d → Vk kind d → TapeL c H' t → SameB t H H' → Q v H'
def spVals : Sp := fun vs H Q _ => ∃ (t c L : Addr) (b : Bool) (xs : List V) (ps : List (Str × Str)), vs = [.ref t, .ref L, .bl b] ∧ TapeL c H t ∧ Rd H L (.tup xs) ∧ Cols H xs ps ∧ (∀ p ∈ ps, KindS p.2) ∧ ps.length ≤ 8 ∧
  ∀ (r : Addr) (ds : List PyData) (H' : Hp), DhF H H' (.ref r) (.tuple ds) → Vks (ps.map (·.2)) ds → TapeL c H' t → SameB t H H' → Q (.ref r) H'
abbrev teVs : TE := tCall spVal [] E0 (tCons (tVar 0) (tCons (tVar 4) (tCons (tVar 2) tNil)))
theorem Cols.get {H : Hp} : ∀ {xs : List V} {ps : List (Str × Str)}, Cols H xs ps → ∀ (i : Nat) (x : V), xs[i]? = some x → ∃ a z kk, x = .ref a ∧ H a = some (.tup [.str z, .str kk]) ∧ ps[i]? = some (z, kk)
  | _, _, .nil, i, x, e => by simp at e
  | _, _, .cons h r, 0, x, e => by
    obtain rfl := Option.some.inj e
    exact ⟨_, _, _, rfl, h, rfl⟩
  | _, _, .cons h r, i + 1, x, e => by
    obtain ⟨a, z, kk, h1, h2, h3⟩ := Cols.get r i x (by simpa using e)
    exact ⟨a, z, kk, h1, h2, by simpa using h3⟩
section
variable {P : Program} {w : World} {K : PySem.W.Frag} {mg : Str → Option Value} {base : Heap} {f fD fR fN fV : Addr} {fd fdD fdR fdN fdV : FuncData}
theorem scLv : FnScope ["_law_tape_here", "_law_kind", "_law_wide"] ["_law_tape_here", "_law_kind", "_law_wide"] (defScope sLv) := ⟨rfl, rfl, rfl, by decide +kernel, rfl, by decide +kernel, by decide +kernel⟩
theorem ok_lv (F : Fun K "_law_value" "_law_value" sLv f fd) (GD : FnOk P w K mg base CX0 1 fD fdD ["_law_tape_here", "_law_many"] spDrawL) (mD : mg "_law_draw" = some (.ref fD)) (kD : PySem.W.keepIn K (.ref fD) = true) (bD : Binds K fdD ["_law_tape_here", "_law_many"] [])
    (GR : FnOk P w K mg base CX0 2 fR fdR ["_law_tape_here", "_law_wide"] spRatL) (mR : mg "_law_rational" = some (.ref fR)) (kR : PySem.W.keepIn K (.ref fR) = true) (bR : Binds K fdR ["_law_tape_here", "_law_wide"] [])
    (GN : FnOk P w K mg base CX0 2 fN fdN ["_law_tape_here"] spLNm) (mN : mg "_law_name" = some (.ref fN)) (kN : PySem.W.keepIn K (.ref fN) = true) (bN : Binds K fdN ["_law_tape_here"] []) : FnOk P w K mg base CX0 3 f fd ["_law_tape_here", "_law_kind", "_law_wide"] spVal := by
  refine F.ok scLv (fun vs H Q E h => ?_) (fun cdv A outer s H vs Q E hr h => ?_)
  · obtain ⟨t, c, kind, b, rfl, _⟩ := h
    rfl
  · obtain ⟨t, c, kind, b, rfl, hT, hk, k⟩ := h
    have hr1 : Room 1 _ := hr.mono (by decide)
    refine ⟨_, pss_cons (ps_if (pt_cmpR op_eq (pe_call GD hr1 (by rfl) mD kD bD .nil pass0 (pa_cons (pv 0) (pa_cons pe_int pa_nil))) pe_int (nomark _)) (pss_one (ps_ret pe_non)) pss_nil)
      (pss_cons (ps_if (pt_cmpR op_eq (pv 1) pe_str (nomark _)) (pss_one (ps_ret (pe_call GR hr (by rfl) mR kR bR .nil pass0 (pa_cons (pv 0) (pa_cons (pv 2) pa_nil))))) pss_nil)
      (pss_cons (ps_if (pt_cmpR op_eq (pv 1) pe_str (nomark _)) (pss_one (ps_ret (pe_cmpR op_eq (pe_call GD hr1 (by rfl) mD kD bD .nil pass0 (pa_cons (pv 0) (pa_cons pe_int pa_nil))) pe_int (nomark _)))) pss_nil)
      (pss_cons (ps_if (pt_cmpR op_gt (pe_call GD hr1 (by rfl) mD kD bD .nil pass0 (pa_cons (pv 0) (pa_cons pe_int pa_nil))) pe_int (nomark _)) (pss_one (ps_ret (pe_ix ix_list (pe_lst (pa_cons pe_str (pa_cons pe_str (pa_cons pe_str (pa_cons pe_str pa_nil))))) (pe_call GD hr1 (by rfl) mD kD bD .nil pass0 (pa_cons (pv 0) (pa_cons pe_int pa_nil))) (fun _ _ => rfl)))) pss_nil)
      (pss_one (ps_ret (pe_call GN hr (by rfl) mN kN bN .nil pass0 (pa_cons (pv 0) pa_nil))))))), ?_⟩
    have sh : ∀ {x : Str}, kind ≠ "number" → kind ≠ "flag" → Sh 12 x → nameB (.str x) = true → Vk kind (.str x) := fun n1 n2 h1 h2 => by
      rcases hk with rfl | rfl | rfl
      · exact absurd rfl n1
      · exact .word h1 h2
      · exact absurd rfl n2
    refine ⟨_, rfl, t, c, _, rfl, hT, by decide, big1000 (by decide) (by decide), fun k1 H1 u1 w1 T1 S1 => ⟨rfl, _, rfl, ite2 (fun _ => ?_) (fun _ => ?_)⟩⟩
    · exact k .non .none H1 (fun _ _ => .non) (.non _) T1 S1
    refine ⟨_, rfl, rfl, _, rfl, ite2 (fun y => ?_) (fun y => ?_)⟩
    · have ek : kind = "number" := by have := of_decide_eq_true y; injection this
      refine ⟨_, rfl, _, rfl, t, c, b, rfl, T1, fun p n d H2 rt h1 h2 hp gp T2 S2 => k (.ref p) _ H2 (fun H3 s3 => ?_) (by rw [ek]; exact .num rt h1 h2) T2 (S1.trans S2)⟩
      have gH : H p = none := by
        cases q : H p with
        | none => rfl
        | some o =>
          by_cases z : p = t
          · obtain ⟨_, _, _, _, ht, _⟩ := T1
            rw [z, ht] at gp
            cases gp
          · rw [S1 p o z q] at gp
            cases gp
      exact .tup (s3 _ _ gH hp) (.cons (.int n) (.cons (.int d) .nil))
    have n1 : kind ≠ "number" := fun e => y (decide_eq_true (by rw [e]))
    refine ⟨_, rfl, rfl, _, rfl, ite2 (fun y => ?_) (fun y => ?_)⟩
    · have ek : kind = "flag" := by have := of_decide_eq_true y; injection this
      exact ⟨_, rfl, t, c, _, rfl, T1, by decide, big1000 (by decide) (by decide), fun k2 H2 u2 w2 T2 S2 => ⟨rfl, k _ (.bool _) H2 (fun _ _ => .bl _) (by rw [ek]; exact .flag _) T2 (S1.trans S2)⟩⟩
    have n2 : kind ≠ "flag" := fun e => y (decide_eq_true (by rw [e]))
    refine ⟨_, rfl, t, c, _, rfl, T1, by decide, big1000 (by decide) (by decide), fun k2 H2 u2 w2 T2 S2 => ⟨_, _, rfl, rfl, _, rfl, ite2 (fun _ => ?_) (fun _ => ?_)⟩⟩
    · refine ⟨by show 4 ≤ sizeLine; decide, fun q hq => ?_⟩
      have zq := Same.upd (o := .lst [.str "a", .str "b", .str "ab", .str "b0"]) hq
      have nq := T2.tape.ne hq
      refine ⟨_, rfl, t, c, _, rfl, T2.same zq, by decide, big1000 (by decide) (by decide), fun k3 H3 u3 w3 T3 S3 => ?_⟩
      obtain ⟨x, hx, sx, nx⟩ : ∃ x : Str, ([.str "a", .str "b", .str "ab", .str "b0"] : List V)[k3.toNat]? = some (.str x) ∧ Sh 12 x ∧ nameB (.str x) = true := by
        have : k3.toNat = 0 ∨ k3.toNat = 1 ∨ k3.toNat = 2 ∨ k3.toNat = 3 := by omega
        rcases this with e | e | e | e <;> rw [e]
        · exact ⟨_, rfl, ⟨by decide +kernel, by decide +kernel⟩, by decide +kernel⟩
        · exact ⟨_, rfl, ⟨by decide +kernel, by decide +kernel⟩, by decide +kernel⟩
        · exact ⟨_, rfl, ⟨by decide +kernel, by decide +kernel⟩, by decide +kernel⟩
        · exact ⟨_, rfl, ⟨by decide +kernel, by decide +kernel⟩, by decide +kernel⟩
      exact ⟨q, _, _, _, rfl, rfl, SqL.of (S3 _ _ nq upd_same), at_of (j := k3.toNat) (by omega) hx, k _ (.str x) H3 (fun _ _ => .str x) (sh n1 n2 sx nx) T3 (((S1.trans S2).trans (Same.b t zq)).trans S3)⟩
    · exact ⟨_, rfl, t, c, rfl, T2, fun x H3 hx nx T3 S3 => k _ (.str x) H3 (fun _ _ => .str x) (sh n1 n2 hx nx) T3 ((S1.trans S2).trans S3)⟩
theorem scLvs : FnScope ["_law_tape_here", "_law_columns_here", "_law_wide", "_law_name_here", "_law_kind"] ["_law_tape_here", "_law_columns_here", "_law_wide"] (defScope sLvs) := ⟨rfl, rfl, rfl, by decide +kernel, rfl, by decide +kernel, by decide +kernel⟩
theorem ok_lvs (F : Fun K "_law_values" "_law_values" sLvs f fd) (T : Bt mg) (GV : FnOk P w K mg base CX0 3 fV fdV ["_law_tape_here", "_law_kind", "_law_wide"] spVal) (mV : mg "_law_value" = some (.ref fV)) (kV : PySem.W.keepIn K (.ref fV) = true) (bV : Binds K fdV ["_law_tape_here", "_law_kind", "_law_wide"] []) : FnOk P w K mg base CX0 4 f fd ["_law_tape_here", "_law_columns_here", "_law_wide"] spVals := by
  refine F.ok scLvs (fun vs H Q E h => ?_) (fun cdv A outer s H vs Q E hr h => ?_)
  · obtain ⟨t, c, L, b, xs, ps, rfl, _⟩ := h
    rfl
  · obtain ⟨t, c, L, b, xs, ps, rfl, hT, hL, hc, hk, l8, k⟩ := h
    refine ⟨_, pss_one (ps_ret (pe_callTy call_tuple_of (by rfl) T.tuple boot_tuple (pa_cons (pe_lc (own := [("_law_name_here", 3), ("_law_kind", 4)]) (g := gTup K 2 (gCons (gName 3) (gCons (gName 4) gNil))) (tt := tYes) (te := teVs) (by rfl) scLvs.nd (pi_tup (pv 1)) (blkOk_by (own := [("_law_name_here", 3), ("_law_kind", 4)]) (N := ["_law_tape_here", "_law_columns_here", "_law_wide", "_law_name_here", "_law_kind"]) (sc := defScope sLvs) (by decide +kernel))
      (fun _ _ _ _ _ => pg_tup rfl (pgs_cons (pg_name (i := 3) scLvs.nd rfl (.inl rfl)) (pgs_cons (pg_name (i := 4) scLvs.nd rfl (.inl rfl)) pgs_nil))) (fun _ _ _ _ _ => pts_nil) (fun _ _ _ _ _ => pe_call GV hr (by rfl) mV kV bV .nil pass0 (pa_cons (pv 0) (pa_cons (pv 4) (pa_cons (pv 2) pa_nil))))) pa_nil))), ?_⟩
    refine ⟨_, rfl, L, rfl, ⟨_, hL.sq⟩, fun D hD => lc_tup (K := K) (a := L) (xs := xs) (fun i H' => ∃ (ys : List V) (ds : List PyData), H' D = some (.lst ys) ∧ ys.length = i ∧ (∀ H2 : Hp, (∀ b o, b ≠ D → H b = none → H' b = some o → H2 b = some o) → DhAll H2 ys ds) ∧ Vks ((ps.take i).map (·.2)) ds ∧ TapeL c H' t ∧ SameB t H H')
      ⟨[], [], upd_same, rfl, fun _ _ => .nil, .nil, hT.same (Same.upd hD), Same.b t (Same.upd hD)⟩ (fun i H' _ p => by obtain ⟨_, _, _, _, _, _, _, s'⟩ := p; exact (hL.b hT.tape s').sq) ?_ ?_⟩
    · rintro i x H1 hx ⟨ys, ds, hD1, rfl, hds, hv, T1, S1⟩
      obtain ⟨a, z, kk, rfl, ea, ep⟩ := hc.get _ _ hx
      have ea1 := S1 _ _ (hT.tape.neT ea) ea
      have lx := hc.len
      have hi : ys.length < xs.length := (List.getElem?_eq_some_iff.mp hx).1
      have nD := hT.tape.ne hD
      refine ⟨a, _, rfl, SqT.of ea1, rfl, _, _, rfl, _, _, rfl, rfl, rfl, ?_⟩
      change teVs _ _ _
      refine ⟨_, rfl, _, rfl, _, rfl, t, c, kk, b, rfl, T1, hk _ (List.mem_of_getElem? ep), fun v d H2 hv2 vk T2 S2 => ?_⟩
      refine ⟨ys, S2 _ _ nD hD1, Nat.lt_of_lt_of_le hi (Nat.le_trans (show xs.length ≤ 8 by omega) (by decide)), ys ++ [v], ds ++ [d], upd_same, by rw [List.length_append]; rfl, fun H3 h3 => ?_, ?_, ?_, fun b' o n e => ?_⟩
      · refine DhAll.append (hds H3 fun b' o n1 n2 e => h3 b' o n1 n2 ?_) (.cons (hv2 H3 fun b' o n2 e => ?_) .nil)
        · rw [upd_ne n1]
          exact S2 b' o (hT.tape.ne n2) e
        · have nb : b' ≠ D := fun z => by rw [z, hD1] at n2; cases n2
          have nh : H b' = none := by
            cases q : H b' with
            | none => rfl
            | some o' =>
              by_cases z : b' = t
              · obtain ⟨_, _, _, _, ht, _⟩ := T1
                rw [z, ht] at n2
                cases n2
              · rw [S1 b' o' z q] at n2
                cases n2
          exact h3 b' o nb nh (by rw [upd_ne nb]; exact e)
      · rw [List.take_add_one, ep, List.map_append]
        exact Vks.app vk hv
      · have nc : D ≠ c := by
          obtain ⟨zs, hz⟩ := hT.list
          exact Ne.symm (ne_of_none hz hD)
        exact T2.upd nD nc
      · rw [upd_ne (ne_of_none e hD)]
        exact (S1.trans S2) b' o n e
    · rintro H1 ⟨ys, ds, hD1, _, hds, hv, T1, S1⟩
      refine ⟨D, ys, rfl, .inl ⟨SqL.of hD1, fun r hr => ?_⟩⟩
      have zr := Same.upd (o := .tup ys) hr
      have lx := hc.len
      rw [lx, List.take_length] at hv
      have nt := T1.tape.ne hr
      have gr : H r = none := S1.free T1.tape hr
      refine k r ds _ (fun H2 h2 => .tup (h2 _ _ gr upd_same) (hds H2 fun b' o n1 n2 e => h2 b' o n2 (zr _ _ e))) hv (T1.same zr) (S1.trans (Same.b t zr))
end
end K19
set_option Elab.async false
set_option linter.all false
set_option maxRecDepth 100000
set_option maxHeartbeats 4000000
namespace K19
open PySem PySem.Spec PyProof.Rows L2 Lc
/-! ## columns and steps -/
inductive Ps where
  | keep (e : PyData)
  | first (n : Nat)
  | sample (n w s : Nat)
  | join (t : Str) (ks : List Str)
  | union (t : Str)
def strT (ns : List Str) : PyData := .tuple (ns.map PyData.str)
def Ps.d : Ps → PyData
  | .keep e => .tuple [.str "keep", e]
  | .first n => .tuple [.str "first", .int n]
  | .sample n w s => .tuple [.str "sample", .int n, .int w, .int s]
  | .join t ks => .tuple [.str "join", .str t, strT ks]
  | .union t => .tuple [.str "union", .str t]
def Ps.w : Ps → Str
  | .keep _ => "keep"
  | .first _ => "first"
  | .sample _ _ _ => "sample"
  | .join _ _ => "join"
  | .union _ => "union"
abbrev nmS (x : Str) : Prop := nameB (.str x) = true
abbrev vS (ss : List Str) : List V := ss.map V.str
abbrev CsL : Type := List (Str × Str)
structure ColP (ps : CsL) : Prop where
  ok : ∀ p ∈ ps, Sh 12 p.1 ∧ nameB (.str p.1) = true ∧ KindS p.2
  nd : (ps.map (·.1)).Nodup
  l1 : 1 ≤ ps.length
  l8 : ps.length ≤ 8
abbrev nms (ps : CsL) : List Str := ps.map (·.1)
theorem ColP.nm {ps : CsL} (h : ColP ps) {x : Str} (hx : x ∈ nms ps) : Sh 12 x ∧ nmS x := by
  obtain ⟨p, hp, rfl⟩ := List.mem_map.mp hx
  exact ⟨(h.ok p hp).1, (h.ok p hp).2.1⟩
def kdOf (ps : CsL) (n : Str) : Str := ((ps.find? fun p => decide (p.1 = n)).map (·.2)).getD ""
theorem kdOf_mem {ps : CsL} (h : (ps.map (·.1)).Nodup) {p : Str × Str} (hp : p ∈ ps) : kdOf ps p.1 = p.2 := by
  induction ps with
  | nil => cases hp
  | cons q r ih =>
    unfold kdOf
    rw [List.find?_cons]
    rcases List.mem_cons.mp hp with rfl | hp
    · rw [decide_eq_true rfl]
      rfl
    · rw [List.map_cons, List.nodup_cons] at h
      have : ¬ q.1 = p.1 := fun e => h.1 (by rw [e]; exact List.mem_map_of_mem hp)
      rw [decide_eq_false this]
      exact ih h.2 hp
theorem ColP.kd {ps : CsL} (h : ColP ps) {x : Str} (hx : x ∈ nms ps) : (x, kdOf ps x) ∈ ps ∧ KindS (kdOf ps x) := by
  obtain ⟨p, hp, rfl⟩ := List.mem_map.mp hx
  rw [kdOf_mem h.nd hp]
  exact ⟨hp, (h.ok p hp).2.2⟩
theorem Vk.noL {k : Str} {d : PyData} (h : Vk k d) : noL d = true := by cases h <;> rfl
/-- the expression that is always true -/
def vT : PyData := .tuple [.str "value", .bool true]
inductive Lead (os : List (Str × CsL)) (ps : CsL) : Ps → CsL → Prop
  | keep : Lead os ps (.keep vT) ps
  | first {n : Nat} (h : n ≤ 1000) : Lead os ps (.first n) ps
  | sample {n w s : Nat} (h1 : n ≤ w) (h2 : 1 ≤ w) (h3 : w ≤ 1000) (h4 : s ≤ 1000000000) : Lead os ps (.sample n w s) ps
  | union {t : Str} (ht : (t, ps) ∈ os) : Lead os ps (.union t) ps
  | join {t : Str} {ks : List Str} {qs : CsL} (ht : (t, qs) ∈ os) (nd : ks.Nodup) (l1 : 1 ≤ ks.length) (l3 : ks.length ≤ 3) (h : ∀ k, k ∈ ks ↔ k ∈ nms qs ∧ k ∈ nms ps) (hk : ∀ k ∈ ks, kdOf ps k = kdOf qs k) (l8 : ps.length + (qs.filter fun p => decide (p.1 ∉ nms ps)).length ≤ 8) :
      Lead os ps (.join t ks) (ps ++ qs.filter fun p => decide (p.1 ∉ nms ps))
theorem nodup_map {α β : Type} {f : α → β} {l : List α} (h : l.Nodup) (inj : ∀ a ∈ l, ∀ b ∈ l, f a = f b → a = b) : (l.map f).Nodup := by
  induction l with
  | nil => exact List.nodup_nil
  | cons a r ih =>
    rw [List.nodup_cons] at h
    rw [List.map_cons, List.nodup_cons]
    refine ⟨fun m => ?_, ih h.2 fun x hx y hy => inj x (List.mem_cons_of_mem _ hx) y (List.mem_cons_of_mem _ hy)⟩
    obtain ⟨b, hb, e⟩ := List.mem_map.mp m
    exact h.1 (by rw [← inj b (List.mem_cons_of_mem _ hb) a List.mem_cons_self e]; exact hb)
theorem Lead.go {os : List (Str × CsL)} {ps qs : CsL} {p : Ps} (h : Lead os ps p qs) (c : ColP ps) (ho : ∀ o ∈ os, ColP o.2) : ColP qs := by
  cases h with
  | keep => exact c
  | first h => exact c
  | sample h1 h2 h3 h4 => exact c
  | union ht => exact c
  | @join t ks cs ht nd l1 l3 h hk l8 =>
    have cC := ho _ ht
    refine ⟨?_, ?_, ?_, ?_⟩
    · intro p hp
      rcases List.mem_append.mp hp with hp | hp
      · exact c.ok p hp
      · exact cC.ok p (List.mem_filter.mp hp).1
    · rw [List.map_append, List.nodup_append]
      refine ⟨c.nd, ?_, fun a ha b hb e => ?_⟩
      · exact List.Pairwise.sublist ((List.filter_sublist).map _) cC.nd
      · obtain ⟨p, hp, rfl⟩ := List.mem_map.mp hb
        exact of_decide_eq_true (List.mem_filter.mp hp).2 (by rw [← e]; exact ha)
    · rw [List.length_append]
      have := c.l1
      omega
    · rw [List.length_append]
      exact l8
theorem Ps.of_keep {st : Ps} (h : st.w = "keep") : ∃ e, st = .keep e := by
  cases st
  · exact ⟨_, rfl⟩
  · exact absurd h (by show ¬ ("first" : Str) = "keep"; decide +kernel)
  · exact absurd h (by show ¬ ("sample" : Str) = "keep"; decide +kernel)
  · exact absurd h (by show ¬ ("join" : Str) = "keep"; decide +kernel)
  · exact absurd h (by show ¬ ("union" : Str) = "keep"; decide +kernel)
theorem Ps.of_first {st : Ps} (h : st.w = "first") : ∃ n, st = .first n := by
  cases st
  · exact absurd h (by show ¬ ("keep" : Str) = "first"; decide +kernel)
  · exact ⟨_, rfl⟩
  · exact absurd h (by show ¬ ("sample" : Str) = "first"; decide +kernel)
  · exact absurd h (by show ¬ ("join" : Str) = "first"; decide +kernel)
  · exact absurd h (by show ¬ ("union" : Str) = "first"; decide +kernel)
theorem Ps.of_sample {st : Ps} (h : st.w = "sample") : ∃ n w s, st = .sample n w s := by
  cases st
  · exact absurd h (by show ¬ ("keep" : Str) = "sample"; decide +kernel)
  · exact absurd h (by show ¬ ("first" : Str) = "sample"; decide +kernel)
  · exact ⟨_, _, _, rfl⟩
  · exact absurd h (by show ¬ ("join" : Str) = "sample"; decide +kernel)
  · exact absurd h (by show ¬ ("union" : Str) = "sample"; decide +kernel)
theorem Ps.of_join {st : Ps} (h : st.w = "join") : ∃ t ks, st = .join t ks := by
  cases st
  · exact absurd h (by show ¬ ("keep" : Str) = "join"; decide +kernel)
  · exact absurd h (by show ¬ ("first" : Str) = "join"; decide +kernel)
  · exact absurd h (by show ¬ ("sample" : Str) = "join"; decide +kernel)
  · exact ⟨_, _, rfl⟩
  · exact absurd h (by show ¬ ("union" : Str) = "join"; decide +kernel)
theorem Ps.of_union {st : Ps} (h : st.w = "union") : ∃ t, st = .union t := by
  cases st
  · exact absurd h (by show ¬ ("keep" : Str) = "union"; decide +kernel)
  · exact absurd h (by show ¬ ("first" : Str) = "union"; decide +kernel)
  · exact absurd h (by show ¬ ("sample" : Str) = "union"; decide +kernel)
  · exact absurd h (by show ¬ ("join" : Str) = "union"; decide +kernel)
  · exact ⟨_, rfl⟩
theorem Cols.b {t : Addr} {H H' : Hp} {xs : List V} {ps : List (Str × Str)} (h : Cols H xs ps) (T : Tape H t) (s : SameB t H H') : Cols H' xs ps := h.t (SameT.b T s)
/-! ## columns in the heap -/
def dl (t : Addr) (H : Hp) : Hp := fun b => if b = t then none else H b
theorem dl_at {t a : Addr} {H : Hp} {o : HO} (n : a ≠ t) (e : H a = some o) : dl t H a = some o := by
  unfold dl
  rw [if_neg n]
  exact e
theorem dl_of {t a : Addr} {H : Hp} {o : HO} (e : dl t H a = some o) : a ≠ t ∧ H a = some o := by
  unfold dl at e
  by_cases q : a = t
  · rw [if_pos q] at e; cases e
  · rw [if_neg q] at e; exact ⟨q, e⟩
theorem dl_same {t : Addr} {H H' : Hp} (s : SameB t H H') : Same (dl t H) (dl t H') := fun b o e => dl_at (dl_of e).1 (s b o (dl_of e).1 (dl_of e).2)
theorem dl_here {t : Addr} {H : Hp} : Same (dl t H) H := fun b o e => (dl_of e).2
abbrev DhT (t : Addr) (H : Hp) (v : V) (d : PyData) : Prop := Dh (dl t H) v d
theorem dts {t : Addr} {H H1 : Hp} {v : V} {d : PyData} (h : DhT t H v d) (s : Same H H1) : DhT t H1 v d := h.same (dl_same (Same.b t s))
theorem dtb {t : Addr} {H H1 : Hp} {v : V} {d : PyData} (h : DhT t H v d) (s : SameB t H H1) : DhT t H1 v d := h.same (dl_same s)
theorem dtsA {t : Addr} {H H1 : Hp} {vs : List V} {ds : List PyData} (h : DhAll (dl t H) vs ds) (s : Same H H1) : DhAll (dl t H1) vs ds := h.same (dl_same (Same.b t s))
theorem dtbA {t : Addr} {H H1 : Hp} {vs : List V} {ds : List PyData} (h : DhAll (dl t H) vs ds) (s : SameB t H H1) : DhAll (dl t H1) vs ds := h.same (dl_same s)
theorem DhF.t {t : Addr} {H H' : Hp} {v : V} {d : PyData} (T : Tape H t) (h : DhF H H' v d) : DhT t H' v d := h (dl t H') fun b o n e => dl_at (T.ne n) e
/-- a new tuple of data -/
theorem dh_tupT {t p : Addr} {H : Hp} {vs : List V} {ds : List PyData} (T : Tape H t) (h : DhAll (dl t H) vs ds) (hp : H p = none) : DhT t (upd H p (.tup vs)) (.ref p) (.tuple ds) := .tup (dl_at (T.ne hp) upd_same) (dtsA h (Same.upd hp))
def CA (H : Hp) (L : Addr) (ps : CsL) : Prop := ∃ xs, ZT H L xs ∧ Cols H xs ps
theorem CA.b {t : Addr} {H H' : Hp} {L : Addr} {ps : CsL} (h : CA H L ps) (T : Tape H t) (s : SameB t H H') : CA H' L ps := by
  obtain ⟨xs, z, c⟩ := h
  exact ⟨xs, z.b T s, c.b T s⟩
theorem CA.same {H H' : Hp} {L : Addr} {ps : CsL} (h : CA H L ps) (s : Same H H') : CA H' L ps := by
  obtain ⟨xs, z, c⟩ := h
  exact ⟨xs, z.same s, c.t (SameT.of s)⟩
theorem SameT.b2 {t : Addr} {H H' : Hp} (T : Tape H t) (s : SameB t H H') : SameT H H' := SameT.b T s
/-- a text of these columns as it is: the names -/
theorem cols_at {H : Hp} {xs : List V} {ps : CsL} (c : Cols H xs ps) {i : Nat} {x : V} (h : xs[i]? = some x) : ∃ a z k, x = .ref a ∧ H a = some (.tup [.str z, .str k]) ∧ ps[i]? = some (z, k) := c.get _ _ h
/-- what is new stays when the tape is drawn from and when a list is written -/
theorem dlT {t a : Addr} {H : Hp} {zs ys : List V} (e : H a = some (.lst zs)) : SameT (dl t H) (dl t (upd H a (.lst ys))) := fun b xs q => by
  obtain ⟨n, q⟩ := dl_of q
  exact dl_at n (by rw [upd_ne (ne_of q e nofun)]; exact q)
theorem DhT.upd {t a : Addr} {H : Hp} {zs ys : List V} {v : V} {d : PyData} (h : DhT t H v d) (n : noL d = true) (e : H a = some (.lst zs)) : DhT t (L2.upd H a (.lst ys)) v d := h.t (dlT e) n
theorem dhtA_upd {t a : Addr} {H : Hp} {zs ys vs : List V} {ds : List PyData} (h : DhAll (dl t H) vs ds) (n : ∀ d ∈ ds, noL d = true) (e : H a = some (.lst zs)) : DhAll (dl t (L2.upd H a (.lst ys))) vs ds := by
  induction ds generalizing vs with
  | nil => cases h; exact .nil
  | cons d ds ih =>
    cases h with
    | cons h r => exact .cons (DhT.upd h (n d List.mem_cons_self) e) (ih r fun x hx => n x (List.mem_cons_of_mem _ hx))
end K19
set_option Elab.async false
set_option linter.all false
set_option maxRecDepth 100000
set_option maxHeartbeats 4000000
namespace Lc
open PySem PySem.Spec PyProof.Rows L2
/-! ## sorted(xs), xs a list of things that are read as alike data -/
abbrev dLe : PyData → PyData → Bool := PySem.W.dataLe false (fun d : PyData => d)
def rSortD (K : PySem.W.Frag) : List V → Hp → VK → Prop := fun vs H Q => ∃ (a : Addr) (xs : List V) (ds : List PyData), vs = [.ref a] ∧ SqL K H a xs ∧ (∀ x ∈ xs, ∃ b, x = V.ref b) ∧ DhAll H xs ds ∧ PySem.W.AllAlike ds ∧ PySem.W.Sortable ds ∧ (∀ d ∈ ds, d.hasDict = false ∧ d.depth ≤ 50) ∧
  ∀ (ys : List V) (p : Addr), ys.Perm xs → DhAll H ys (ds.mergeSort dLe) → H p = none → Q (.ref p) (upd H p (.lst ys))
theorem back_perm {us out : List Value} {xs : List V} (e : xs = us.map backV) (h : out.Perm us) : (out.map backV).Perm xs := by
  rw [e]
  exact h.map backV
theorem each_dh {H : Hp} : ∀ {us : List Value} {ds : List PyData}, PySem.W.EachIs (fun (v : Value) d => Dh H (backV v) d) us ds → DhAll H (us.map backV) ds
  | _, _, .nil => .nil
  | _, _, .cons h r => .cons h (each_dh r)
theorem dh_each {H : Hp} : ∀ {us : List Value} {ds : List PyData}, DhAll H (us.map backV) ds → PySem.W.EachIs (fun (v : Value) d => Dh H (backV v) d) us ds
  | [], _, .nil => .nil
  | _ :: _, _, .cons h r => .cons h (dh_each r)
section
variable {X : Cx}
theorem dh_readsAll {pins : List (Addr × Obj)} {σ : L2.St} {H : Hp} {s : Shared} (I : Inv X pins σ H s) : ∀ {xs : List V} {us : List Value} {ds : List PyData}, Vals xs us → DhAll H xs ds → (∀ d ∈ ds, d.hasDict = false ∧ d.depth ≤ 50) → PySem.W.EachIs (fun v d => ∃ as, Reads s.heap v d as) us ds
  | _, _, _, .nil, .nil, _ => .nil
  | _, _, _, .cons r rs, .cons h hs, n => by
    obtain ⟨as, q⟩ := Dp.reads I _ _ _ (h.dp (n _ List.mem_cons_self).1) r
    exact .cons ⟨as, q⟩ (dh_readsAll I rs hs fun d hd => n d (List.mem_cons_of_mem _ hd))
theorem each_mono' {α β : Type} {R S : α → β → Prop} (f : ∀ a b, R a b → S a b) : ∀ {as : List α} {bs : List β}, PySem.W.EachIs R as bs → PySem.W.EachIs S as bs
  | _, _, .nil => .nil
  | _, _, .cons h r => .cons (f _ _ h) (each_mono' f r)
theorem call_sortedDt (hu : X.A.units + 64 < cLine) : CallR X (.builtin "sorted") (rSortD X.K) := by
  intro pins s σ H vs us Q I r h
  obtain ⟨a, xs, ds, rfl, hs, hx, hd, al, so, dp, q⟩ := h
  obtain ⟨its, rv, hl, hz⟩ := I.list hs
  obtain ⟨u, rfl, ru⟩ := vals1 r
  obtain rfl : u = Value.ref a := ru
  obtain ⟨e1, e2⟩ := refs_back rv hx
  have rd : PySem.W.EachIs (fun v d => ∃ as, Reads s.heap v d as) its ds := dh_readsAll I rv hd dp
  have lz : its.length ≤ sizeLine := by rw [← rv.length]; exact hz
  have keep : ∀ b o, s.heap.get? b = some o → (PySem.W.sortingHeap (PySem.W.copyHeap s.heap its) (s.heap.objs.size + 1) its).get? b = some o := fun b o e => PySem.W.sorting_copy_old e
  have rd2 : PySem.W.EachIs (fun v d => ∃ as, Reads (PySem.W.sortingHeap (PySem.W.copyHeap s.heap its) (s.heap.objs.size + 1) its) v d as) its ds := each_mono' (fun v d ⟨as, r⟩ => ⟨as, Reads.keeps keep r⟩) rd
  have S := PySem.W.SortsAt.data (prog := X.prog) (w := X.w) (A := X.A.in1.in1) (s := { s with heap := PySem.W.sortingHeap (PySem.W.copyHeap s.heap its) (s.heap.objs.size + 1) its }) rd2 al so fun d hm => by
    have := (dp d hm).2
    show X.A.units + 1 + 1 + d.depth < cLine
    omega
  have e3 : PySem.W.EachIs (fun (v : Value) d => Dh H (backV v) d) (PySem.W.sortVals (PySem.W.dataKind (PySem.W.sortingHeap (PySem.W.copyHeap s.heap its) (s.heap.objs.size + 1) its) ds) false its its) (ds.mergeSort dLe) :=
    PySem.W.sortVals_each (κ := PySem.W.dataKind (PySem.W.sortingHeap (PySem.W.copyHeap s.heap its) (s.heap.objs.size + 1) its) ds) (rev := false) (fun d : PyData => PySem.W.keyToks d) (dh_each (by rw [← e1]; exact hd)) (PySem.W.each_keys al rd2)
  have pm : (PySem.W.sortVals (PySem.W.dataKind (PySem.W.sortingHeap (PySem.W.copyHeap s.heap its) (s.heap.objs.size + 1) its) ds) false its its).Perm its := by
    unfold PySem.W.sortVals
    have z := (List.mergeSort_perm (its.zip its) (PySem.W.sortLe (PySem.W.dataKind (PySem.W.sortingHeap (PySem.W.copyHeap s.heap its) (s.heap.objs.size + 1) its) ds).toKeyOrd false fun p : Keyed => PySem.W.keyD (PySem.W.dataKind (PySem.W.sortingHeap (PySem.W.copyHeap s.heap its) (s.heap.objs.size + 1) its) ds) p.1)).map Prod.snd
    rw [List.map_snd_zip (Nat.le_refl _)] at z
    exact z
  refine PySem.W.sorted_vals hl.isList S lz ?_
  generalize PySem.W.sortVals (PySem.W.dataKind (PySem.W.sortingHeap (PySem.W.copyHeap s.heap its) (s.heap.objs.size + 1) its) ds) false its its = out at e3 pm ⊢
  have h3 : ∀ u ∈ out, ∃ a, u = Value.ref a := fun u hu => e2 u (pm.mem_iff.mp hu)
  obtain ⟨n, hn⟩ := sortedAll_at s.heap its out.toArray
  refine ⟨.ref _, upd H (s.heap.objs.size + 1) (.lst (out.map backV)), I.laid (t' := s.toks) (fun b o e => sortedAll_old e) (Nat.le_succ _) ⟨?_, out, n, vals_back h3, hn⟩, rfl, q _ _ (back_perm e1 pm) (each_dh e3) (I.hok.fresh (Nat.le_succ _))⟩
  rw [List.length_map, pm.length_eq]
  exact lz
end
end Lc
set_option Elab.async false
set_option linter.all false
set_option maxRecDepth 100000
set_option maxHeartbeats 4000000
namespace Lc
open PySem PySem.Spec PyProof.Rows L2
/-! ## sets whose members are keys that stand in the heap, at most 63 of them -/
section
variable {P : Program} {w : World} {J : Type} [DecidableEq J]
/-- what a set asks of such a kind of keys -/
structure Mem (κ : HeapKind P w J) : Prop where
  stay : ∀ {h h' : Heap} {j : J} {b : Addr}, κ.is h j b → (∀ c o vs n, h.get? c = some o → o.data = .seq vs n → h'.get? c = some o) → κ.is h' j b
  value : ∀ {A : Around} {E : Value → Shared → Prop} {s : Shared} {j : J} {b : Addr} {Q : Bool → Shared → Prop}, κ.is s.heap j b → (∀ v, Q v s) → wpAny (model P w) A (hashByValue 8 (.ref b)) Q E s
  class_ : ∀ {A : Around} {E : Value → Shared → Prop} {s : Shared} {j : J} {b : Addr} {Q : Bool → Shared → Prop}, κ.is s.heap j b → Q false s → wpAny (model P w) A (ofAClassStatement 8 (.ref b)) Q E s
variable {κ : HeapKind P w J}
theorem Mem.keep (m : Mem κ) {h h' : Heap} {j : J} {b : Addr} (x : κ.is h j b) (up : ∀ c o, h.get? c = some o → h'.get? c = some o) : κ.is h' j b := m.stay x fun c o _ _ e _ => up c o e
/-- a member is not the set -/
theorem Mem.but (m : Mem κ) {h h' : Heap} {j : J} {a b : Addr} {o : Obj} {es : Array (Int × Value)} {ep : Nat} {t : SetTable} (x : κ.is h j b) (e : h.get? a = some o) (d : o.data = .set es ep t) (sb : Heap.SameBut a h h') : κ.is h' j b :=
  m.stay x fun c u vs n eu du => (sb.2 c fun z => by
    rw [z, e] at eu
    rw [Option.some.inj eu] at d
    rw [d] at du
    cases du).trans eu
/-! ### a search shows nothing -/
theorem Mem.unseen (m : Mem κ) {A : Around} {E : Value → Shared → Prop} {s : Shared} {j : J} {b : Addr} {Q : Bool → Shared → Prop} (x : κ.is s.heap j b) {us : List Value} (all : ∀ u ∈ us, ∃ i c, u = .ref c ∧ κ.is s.heap i c) (q : Q false s) :
    wpAny (model P w) A (searchCouldBeSeen (.ref b) us) Q E s := by
  unfold searchCouldBeSeen
  refine wpAny_bind (wpAny_forIn_list _ (fun left r s' => r.1 = none ∧ s' = s ∧ ∀ u ∈ left, ∃ i c, u = .ref c ∧ κ.is s.heap i c) _ ?_ ?_ _ _ ⟨rfl, rfl, all⟩)
  · rintro u left r s' ⟨e, rfl, more⟩
    obtain ⟨i, c, rfl, y⟩ := more u List.mem_cons_self
    have back : ∀ v ∈ left, ∃ i c, v = Value.ref c ∧ κ.is s'.heap i c := fun v hv => more v (List.mem_cons_of_mem _ hv)
    dsimp only
    by_cases same : (b == c || (carriedByValue (.ref b) && carriedByValue (.ref c))) = true
    · exact wp_if_pos same (wpAny_pure ⟨rfl, rfl, back⟩)
    · refine wp_if_neg same (wpAny_bind (κ.quiet x ?_))
      rw [Bool.not_true]
      simp only [Bool.false_eq_true, ↓reduceIte]
      refine wpAny_bind (κ.quiet y ?_)
      rw [Bool.not_true]
      simp only [Bool.false_eq_true, ↓reduceIte]
      refine wpAny_bind (m.class_ x ?_)
      simp only [Bool.false_eq_true, ↓reduceIte]
      refine wpAny_bind (m.class_ y ?_)
      simp only [Bool.false_eq_true, ↓reduceIte]
      exact wpAny_pure ⟨rfl, rfl, back⟩
  · rintro ⟨r, z⟩ s' ⟨e, rfl, _⟩
    dsimp only at e
    subst e
    exact wpAny_pure q
/-! ### the set -/
def ents (κ : HeapKind P w J) (L : List (Addr × J)) : List (Int × Value) := L.map fun y => (κ.hash y.2, Value.ref y.1)
structure Ms (κ : HeapKind P w J) (h : Heap) (a : Addr) (L : List (Addr × J)) (es : Array (Int × Value)) (ep : Nat) (t : SetTable) : Prop where
  obj : ∃ o, h.get? a = some o ∧ o.ExactSet ∧ o.data = .set es ep t
  ent : es.toList = ents κ L
  tab : TabOk t (L.map fun y => κ.hash y.2)
  nd : (L.map (·.2)).Nodup
  mem : ∀ y ∈ L, κ.is h y.2 y.1
  led : w.params.followText "set-order" = true ∨ t.led = true
  room : L.length * 5 < t.mask * 3
  few : L.length < 64
variable {h : Heap} {a : Addr} {L : List (Addr × J)} {es : Array (Int × Value)} {ep : Nat} {t : SetTable}
theorem ents_len {κ : HeapKind P w J} {L : List (Addr × J)} {es : Array (Int × Value)} (e : es.toList = ents κ L) : es.size = L.length := by
  rw [← Array.length_toList, e]
  exact List.length_map _
theorem ents_get {κ : HeapKind P w J} {L : List (Addr × J)} {es : Array (Int × Value)} (e : es.toList = ents κ L) {i : Nat} {y : Addr × J} (hy : L[i]? = some y) : es[i]? = some (κ.hash y.2, .ref y.1) := by
  rw [← Array.getElem?_toList, e, ents, List.getElem?_map, hy]
  rfl
theorem tab_fits {hs : List Int} {n : Nat} (T : TabOk t hs) (hn : hs.length = n) (le : n ≤ t.mask) : t.fits n = true := by
  have := T.sz
  unfold SetTable.fits SetTable.fill
  simp only [T.dm, Bool.and_eq_true, beq_iff_eq, decide_eq_true_eq, Array.size_empty]
  omega
theorem Ms.fit (R : Ms κ h a L es ep t) : t.fits es.size = true := by
  have := R.room
  refine tab_fits R.tab ?_ ?_
  · rw [List.length_map, ents_len R.ent]
  · rw [ents_len R.ent]
    omega
theorem Ms.steady (R : Ms κ h a L es ep t) : ¬ t.gaveWay = true := by
  unfold SetTable.gaveWay
  rw [mask_odd R.tab.mok]
  decide
theorem nth_clean (n : Nat) : ∀ (k : Nat) (p : SetTable.Probe), p.dummy = none → (nth n p k).dummy = none
  | 0, _, e => e
  | k + 1, p, e => nth_clean n k (adv n p) (by unfold adv; split <;> exact e)
/-- the search of a key, from any step of its way on -/
theorem Ms.from_ (m : Mem κ) {A : Around} {E : Value → Shared → Prop} {s : Shared} (R : Ms κ s.heap a L es ep t) {x : Addr} {j : J} (hx : κ.is s.heap j x) (rm : κ.room A) {K : Nat} (lim : K < 10 * SetTable.turns t.mask)
    (free : way t.mask (κ.hash j) K ∉ t.place.toList) (full : ∀ c, c < K → way t.mask (κ.hash j) c ∈ t.place.toList) {Q : SetFound → Shared → Prop} (yes : j ∈ L.map (·.2) → Q (.there none) s) (no : j ∉ L.map (·.2) → Q (.free (way t.mask (κ.hash j) K) false) s) :
    ∀ (n c : Nat) (st : Option SetTable.Probe), st.getD (t.probeStart (κ.hash j)) = nth t.mask (t.probeStart (κ.hash j)) c → c ≤ K → K - c < n →
      (∀ (i : Nat) y, L[i]? = some y → y.2 = j → ∃ d, c ≤ d ∧ d < K ∧ t.place.toList[i]? = some (way t.mask (κ.hash j) d)) → wpAny (model P w) A (setSearchFrom a (.ref x) (κ.hash j) true n st) Q E s := by
  obtain ⟨o, eo, ex, ed⟩ := R.obj
  intro n
  induction n with
  | zero => intro c st _ _ z; exact absurd z (Nat.not_lt_zero _)
  | succ n ih =>
    intro c st est le lt ahead
    rw [setSearchFrom_succ]
    refine wpAny_bind (wpAny_setState_of eo ed R.fit ?_)
    dsimp only
    refine wp_if_neg R.steady ?_
    generalize hH : κ.hash j = H at *
    have stp : ∀ k, (nth t.mask (nth t.mask (t.probeStart H) c) k).j = way t.mask H (c + k) := fun k => by rw [← nth_add]; rfl
    have hat : ∀ {i : Nat} {y : Addr × J}, L[i]? = some y → (es[i]?.map (·.1)).getD 0 = κ.hash y.2 := fun e => by rw [ents_get R.ent e]; rfl
    have word := go_spec t R.tab.ris R.tab.dm (fun i => (es[i]?.map (·.1)).getD 0) H (10 * SetTable.turns t.mask) (K - c) (nth t.mask (t.probeStart H) c) (nth_clean _ _ _ rfl) (by omega) (fun k hk => by rw [stp]; exact full _ (by omega)) (by rw [stp, Nat.add_sub_of_le le]; exact free)
    rw [est]
    have opn : ∀ q, t.probe (fun i => (es[i]?.map (·.1)).getD 0) H q = SetTable.probe.go t (fun i => (es[i]?.map (·.1)).getD 0) H (10 * SetTable.turns t.mask) q := fun _ => rfl
    rw [opn]
    rcases word with ⟨k, i, hk, hi, hh, first, eg⟩ | ⟨none_, eg⟩
    · rw [eg]
      dsimp only
      rw [stp] at hi
      have li : i < L.length := by
        have h1 := (List.getElem?_eq_some_iff.mp hi).1
        have h2 := R.tab.sz
        rw [List.length_map] at h2
        rw [Array.length_toList] at h1
        omega
      obtain ⟨y, ey⟩ : ∃ y, L[i]? = some y := ⟨_, List.getElem?_eq_getElem li⟩
      have my := List.mem_of_getElem? ey
      have sl := slot_live R.tab.ris hi
      have next : wpAny (model P w) A (searchRest a (.ref x) H true n es t (nth t.mask (nth t.mask (t.probeStart H) c) k).j i (nth t.mask (nth t.mask (t.probeStart H) c) (k + 1))) Q E s := by
        unfold searchRest
        rw [ents_get R.ent ey]
        dsimp only
        refine wpAny_bind (wpAny_holding (κ.eqBool rm (R.mem y my) hx ?_))
        refine wpAny_bind (wpAny_setState_of eo ed R.fit ?_)
        dsimp only
        by_cases ej : y.2 = j
        · exact wp_if_pos (by simp [ej]) (wpAny_pure (yes (List.mem_map.mpr ⟨y, my, ej⟩)))
        · refine wp_if_neg (by simp [ej]) ?_
          rw [sameMem]
          dsimp only
          rw [stp]
          simp only [↓reduceIte, sl, ents_get R.ent ey]
          refine wpAny_bind (wpAny_isSame_ref_self (wpAny_bind (wpAny_pure ?_)))
          simp only [↓reduceIte]
          refine wp_if_neg (by simp [ej]) ?_
          refine ih (c + (k + 1)) _ (nth_add t.mask c _ (k + 1)).symm (by omega) (by omega) fun i0 y0 e0 j0 => ?_
          obtain ⟨d, d1, d2, d3⟩ := ahead i0 y0 e0 j0
          refine ⟨d, ?_, d2, d3⟩
          rcases Nat.lt_trichotomy d (c + k) with z | z | z
          · refine absurd ((hat e0).trans (by rw [j0]; exact hH)) (first (d - c) i0 (by omega) ?_)
            rw [stp, Nat.add_sub_of_le d1]
            exact d3
          · rw [z] at d3
            have s0 := slot_live R.tab.ris d3
            rw [sl] at s0
            injection s0 with s0
            rw [← s0, ey] at e0
            rw [Option.some.inj e0] at ej
            exact absurd j0 ej
          · exact z
      by_cases ld : t.led = true
      · exact wp_if_neg (by simp [ld]) next
      · refine wp_if_pos (by simp [ld]) (wpAny_bind (m.unseen hx (fun u hu => ?_) (wp_if_neg (by decide) next)))
        obtain ⟨e, he, rfl⟩ := List.mem_map.mp hu
        have he : e ∈ es.toList := by
          have : e ∈ es ∧ e.1 = H := by simpa using he
          simpa using this.1
        rw [R.ent] at he
        obtain ⟨y2, h2, rfl⟩ := List.mem_map.mp he
        exact ⟨y2.2, y2.1, rfl, R.mem y2 h2⟩
    · rw [eg]
      dsimp only
      rw [stp, Nat.add_sub_of_le le]
      refine wpAny_pure (no fun z => ?_)
      obtain ⟨y, my, ej⟩ := List.mem_map.mp z
      obtain ⟨i, hi, ey⟩ := List.getElem_of_mem my
      have ey : L[i]? = some y := by rw [List.getElem?_eq_getElem hi, ey]
      obtain ⟨d, d1, d2, d3⟩ := ahead i y ey ej
      refine none_ (d - c) i (by omega) ?_ ((hat ey).trans (by rw [ej]; exact hH))
      rw [stp, Nat.add_sub_of_le d1]
      exact d3
/-- the search, as adding asks for it -/
theorem Ms.look (m : Mem κ) {A : Around} {E : Value → Shared → Prop} {s : Shared} (R : Ms κ s.heap a L es ep t) {x : Addr} {j : J} (hx : κ.is s.heap j x) (rm : κ.room A) {Q : SetFound → Shared → Prop} (yes : j ∈ L.map (·.2) → Q (.there none) s)
    (no : ∀ K, j ∉ L.map (·.2) → way t.mask (κ.hash j) K ∉ t.place.toList → (∀ c, c < K → way t.mask (κ.hash j) c ∈ t.place.toList) → Q (.free (way t.mask (κ.hash j) K) false) s) : wpAny (model P w) A (setSearch a (.ref x) (κ.hash j) true) Q E s := by
  have rom := R.room
  obtain ⟨K, lim, free, full⟩ := R.tab.first (by rw [List.length_map]; omega) (κ.hash j)
  have small : 10 * SetTable.turns t.mask ≤ 1420 := by
    unfold SetTable.turns
    rcases R.tab.mok with e | e | e <;> rw [e] <;> decide
  unfold setSearch
  refine R.from_ m hx rm lim free full yes (fun n => no K n free full) 100000 0 none rfl (Nat.zero_le _) (by omega) fun i y ey ej => ?_
  have lp : i < t.place.toList.length := by
    have h1 := (List.getElem?_eq_some_iff.mp ey).1
    have h2 := R.tab.sz
    rw [List.length_map] at h2
    rw [Array.length_toList]
    omega
  obtain ⟨c, h1, h2⟩ := R.tab.before (h := κ.hash j) (i := i) free (by rw [List.getElem?_map, ey, ← ej]; rfl) (List.getElem?_eq_getElem lp)
  exact ⟨c, Nat.zero_le _, h1, by rw [h2]; exact List.getElem?_eq_getElem lp⟩
/-! ### laid anew -/
theorem fm_congr {α β : Type} {f g : α → Option β} : ∀ {l : List α}, (∀ i ∈ l, f i = g i) → l.filterMap f = l.filterMap g
  | [], _ => rfl
  | x :: l, e => by
    rw [List.filterMap_cons, List.filterMap_cons, e x List.mem_cons_self, fm_congr fun i hi => e i (List.mem_cons_of_mem _ hi)]
theorem range_all {α : Type} (l : List α) : (List.range l.length).filterMap (fun i => l[i]?) = l := by
  have e : (List.range l.length).map (fun i => l[i]?) = l.map some := by
    refine List.ext_getElem? fun i => ?_
    rw [List.getElem?_map, List.getElem?_map]
    by_cases z : i < l.length
    · rw [List.getElem?_range z, List.getElem?_eq_getElem z]
      simp [List.getElem?_eq_getElem z]
    · rw [List.getElem?_eq_none (by rw [List.length_range]; omega), List.getElem?_eq_none (by omega)]
      rfl
  have f : (List.range l.length).filterMap (fun i => l[i]?) = ((List.range l.length).map fun i => l[i]?).filterMap id := by
    rw [List.filterMap_map]
    rfl
  rw [f, e]
  simp
theorem ents_order {L : List (Addr × J)} {es : Array (Int × Value)} {order : Array Nat} (e : es.toList = ents κ L) (pm : order.toList.Perm (List.range L.length)) :
    ∃ L2 : List (Addr × J), L2.Perm L ∧ (order.filterMap (es[·]?)).toList = ents κ L2 ∧ (L2.map fun y => κ.hash y.2) = order.toList.map fun i => (es.map (·.1)).getD i 0 := by
  refine ⟨order.toList.filterMap fun i => L[i]?, ?_, ?_, ?_⟩
  · have := pm.filterMap fun i => L[i]?
    rw [range_all] at this
    exact this
  · rw [Array.toList_filterMap, ents, List.map_filterMap]
    refine fm_congr fun i _ => ?_
    rw [← Array.getElem?_toList, e, ents, List.getElem?_map]
  · rw [List.map_filterMap, ← List.filterMap_eq_map']
    refine fm_congr fun i hi => ?_
    have li := List.mem_range.mp (pm.mem_iff.mp hi)
    obtain ⟨y, ey⟩ : ∃ y, L[i]? = some y := ⟨_, List.getElem?_eq_getElem li⟩
    have q : (es.map (·.1))[i]? = some (κ.hash y.2) := by rw [Array.getElem?_map, ents_get e ey]; rfl
    rw [ey, Array.getD_eq_getD_getElem?, q]
    rfl
theorem sb_store {h : Heap} {a : Addr} {es : Array (Int × Value)} {t : SetTable} : Heap.SameBut a h (h.update a (Obj.putSet es t)) := Heap.SameBut.update ..
theorem Ms.relay (m : Mem κ) {A : Around} {E : Value → Shared → Prop} {s : Shared} {o : Obj} (eo : s.heap.get? a = some o) (ex : o.ExactSet) (ed : o.data = .set es ep t) (en : es.toList = ents κ L) (sz : t.place.size = es.size) (dm : t.dummies = #[]) (le : es.size ≤ t.mask) (nd : (L.map (·.2)).Nodup)
    (mem : ∀ y ∈ L, κ.is s.heap y.2 y.1) (led : w.params.followText "set-order" = true ∨ t.led = true) (few : L.length < 64) {n M : Nat} (hw : SetTable.sizeAbove n - 1 = M) (hM : MaskOk M) (big : SetTable.sizeAbove n ≤ 128) (room : L.length * 5 < M * 3) {Q : Unit → Shared → Prop}
    (q : ∀ h' L' es' ep' t', Heap.SameBut a s.heap h' → Ms κ h' a L' es' ep' t' → L'.Perm L → Q () { s with heap := h' }) : wpAny (model P w) A (setRelay a n) Q E s := by
  have el := ents_len en
  have ft : t.fits es.size = true := by
    unfold SetTable.fits SetTable.fill
    simp only [dm, Bool.and_eq_true, beq_iff_eq, decide_eq_true_eq, Array.size_empty]
    omega
  obtain ⟨t', order, e1, pm, T, e2, e3, e4, e5⟩ := relaid_ok t (hs := es.map (·.1)) (wanted := n) hw hM (by rw [Array.size_map, el]; omega)
  rw [Array.size_map, el] at pm
  obtain ⟨L2, p2, en2, hh⟩ := ents_order en pm
  rw [← hh] at T
  have sz2 : (order.filterMap (es[·]?)).size = es.size := by rw [ents_len en2, p2.length_eq, el]
  rw [setRelay_eq]
  refine wpAny_bind (wpAny_setState_of eo ed ft ?_)
  dsimp only
  refine wp_if_neg (by rw [sizeLine_eq]; omega) ?_
  rw [e1]
  dsimp only
  refine wpAny_bind (wp_if_neg (by simp [sz2]) (wpAny_pure ?_))
  dsimp only
  refine wpAny_storeSet_of eo ed ?_ (by rw [sz2, el, sizeLine_eq]; omega)
  refine q _ L2 _ (ep + 1) t' sb_store ⟨⟨_, store_at eo ed, ⟨ex.1, ex.2.1, ex.2.2⟩, rfl⟩, en2, T, (p2.map (·.2)).nodup_iff.mpr nd, fun y hy => m.but (mem y (p2.mem_iff.mp hy)) eo ed sb_store, by rw [e3]; exact led, by rw [p2.length_eq, e2]; exact room, by rw [p2.length_eq]; exact few⟩ p2
theorem ents_put (L : List (Addr × J)) (p : Nat) (y : Addr × J) : ents κ (L.take p ++ y :: L.drop p) = (ents κ L).take p ++ (κ.hash y.2, .ref y.1) :: (ents κ L).drop p := by
  unfold ents
  rw [List.map_append, List.map_cons, List.map_take, List.map_drop]
/-- a key is added -/
theorem Ms.add (m : Mem κ) {A : Around} {E : Value → Shared → Prop} {s : Shared} (R : Ms κ s.heap a L es ep t) {x : Addr} {j : J} (hx : κ.is s.heap j x) (rm : κ.room A) (few : L.length + 1 < 64) {Q : Bool → Shared → Prop}
    (q : ∀ b h' L' es' ep' t', Heap.SameBut a s.heap h' → Ms κ h' a L' es' ep' t' → (j ∈ L.map (·.2) → L' = L) → (j ∉ L.map (·.2) → L'.Perm ((x, j) :: L)) → Q b { s with heap := h' }) :
    wpAny (model P w) A (setAddHashed a (.ref x) (κ.hash j)) Q E s := by
  obtain ⟨o, eo, ex, ed⟩ := R.obj
  have el := ents_len R.ent
  have rom := R.room
  unfold setAddHashed
  refine wpAny_holding ?_
  show wpAny _ _ (setAddHashedIn a (.ref x) (κ.hash j) (99999 + 1)) _ _ _
  rw [setAddHashedIn_succ]
  refine wpAny_bind (wpAny_setState_of eo ed R.fit ?_)
  dsimp only
  refine wp_if_neg (by simp [byScan, Value.scannable]) ?_
  refine wpAny_bind (R.look m hx rm (fun z => ?_) fun K z free full => ?_)
  · exact wpAny_pure (q false s.heap L es ep t (Heap.SameBut.refl a s.heap) R (fun _ => rfl) fun n => absurd z n)
  dsimp only
  refine wpAny_bind (wpAny_setState_of eo ed R.fit ?_)
  dsimp only
  obtain ⟨f1, f2, f3, f4, f5, f6, f7, f8, f9⟩ := R.tab.put free full
  generalize t.put (way t.mask (κ.hash j) K) = pt at f1 f3 f4 f5 f6 f7 f8 f9 ⊢
  obtain ⟨t1, p⟩ := pt
  dsimp only at f1 f3 f4 f5 f6 f7 f8 f9 ⊢
  subst f1
  have off : ∀ {t1 : SetTable} {hs : List Int}, TabOk t1 hs → TabOk { t1 with plain := false } hs := fun T => ⟨T.ris, T.dm, T.sz, T.mok, T.bd, T.reach⟩
  -- whether its hash is known by its value
  suffices go : ∀ t1 : SetTable, TabOk t1 ((L.map fun y => κ.hash y.2).take (SetTable.below t.place (way t.mask (κ.hash j) K)) ++ κ.hash j :: (L.map fun y => κ.hash y.2).drop (SetTable.below t.place (way t.mask (κ.hash j) K))) → t1.mask = t.mask → t1.led = t.led → t1.fill = (L.map fun y => κ.hash y.2).length + 1 →
      wpAny (model P w) A (do
        storeSet a (SetTable.insertAt es (SetTable.below t.place (way t.mask (κ.hash j) K)) (κ.hash j, .ref x)) t1
        if (!false && t1.tooFull) = true then do
          setRelay a (SetTable.grown (es.size + 1))
          pure true
        else pure true) Q E s by
    by_cases pt : t1.plain = true
    · refine wp_if_pos pt (wpAny_bind (m.value hx fun v => ?_))
      cases v with
      | true => exact go t1 f3 f4 f5 f9
      | false => exact go { t1 with plain := false } (off f3) f4 f5 f9
    · exact wp_if_neg pt (wpAny_bind (wpAny_pure (go t1 f3 f4 f5 f9)))
  clear f3 f4 f5 f6 f7 f8 f9 off t1
  intro t1 f3 f4 f5 f9
  generalize SetTable.below t.place (way t.mask (κ.hash j) K) = p at f2 f3 ⊢
  have en1 : (SetTable.insertAt es p (κ.hash j, .ref x)).toList = ents κ (L.take p ++ (x, j) :: L.drop p) := by rw [SetTable.toList_insertAt, ents_put, R.ent]
  have pm := put_perm L p (x, j)
  have T1 : TabOk t1 ((L.take p ++ (x, j) :: L.drop p).map fun y => κ.hash y.2) := by
    rw [List.map_append, List.map_cons, List.map_take, List.map_drop]
    exact f3
  generalize SetTable.insertAt es p (κ.hash j, .ref x) = es1 at en1 ⊢
  generalize L.take p ++ (x, j) :: L.drop p = L1 at en1 pm T1
  have l1 : L1.length = L.length + 1 := pm.length_eq
  have el1 := ents_len en1
  have nd1 : (L1.map (·.2)).Nodup := (pm.map (·.2)).nodup_iff.mpr (List.nodup_cons.mpr ⟨z, R.nd⟩)
  refine wpAny_bind (wpAny_storeSet_of eo ed ?_ (by rw [el1, sizeLine_eq]; omega))
  have sb : Heap.SameBut a s.heap (s.heap.update a (Obj.putSet es1 t1)) := sb_store
  have eo1 := store_at (es' := es1) (t' := t1) eo ed
  generalize s.heap.update a (Obj.putSet es1 t1) = h1 at sb eo1 ⊢
  have mem1 : ∀ y ∈ L1, κ.is h1 y.2 y.1 := fun y hy => by
    rcases List.mem_cons.mp (pm.mem_iff.mp hy) with rfl | hy
    · exact m.but hx eo ed sb
    · exact m.but (R.mem y hy) eo ed sb
  have led1 : w.params.followText "set-order" = true ∨ t1.led = true := by rw [f5]; exact R.led
  have ex1 : ({ o with data := .set es1 (ep + 1) t1 } : Obj).ExactSet := ⟨ex.1, ex.2.1, ex.2.2⟩
  by_cases full : t1.tooFull = true
  · refine wp_if_pos (by simp [full]) (wpAny_bind ?_)
    have hf : (L.length + 1) * 5 ≥ t1.mask * 3 := by
      unfold SetTable.tooFull at full
      rw [decide_eq_true_eq, f9, List.length_map] at full
      exact full
    have sz1 : t1.place.size = es1.size := by rw [T1.sz, List.length_map, el1]
    rw [f4] at hf
    rw [el]
    have run : ∀ M, SetTable.sizeAbove (SetTable.grown (L.length + 1)) - 1 = M → MaskOk M → SetTable.sizeAbove (SetTable.grown (L.length + 1)) ≤ 128 → (L.length + 1) * 5 < M * 3 →
        wpAny (model P w) A (setRelay a (SetTable.grown (L.length + 1))) (fun _ s' => wpAny (model P w) A (pure true) Q E s') E { s with heap := h1 } := fun M m1 m2 m3 m4 =>
      Ms.relay m (s := { s with heap := h1 }) eo1 ex1 rfl en1 sz1 T1.dm (by rw [el1, f4, l1]; omega) nd1 mem1 led1 (by rw [l1]; exact few) m1 m2 m3 (by rw [l1]; exact m4) fun h2 L2 es2 ep2 t2 sb2 R2 p2 =>
        wpAny_pure (q true h2 L2 es2 ep2 t2 (sb.trans sb2) R2 (fun y => absurd y z) fun _ => p2.trans pm)
    rcases R.tab.mok with e | e | e
    · have : L.length = 4 := by rw [e] at hf rom; omega
      exact run 31 (by rw [this, size_20]) (.inr (.inl rfl)) (by rw [this, size_20]; decide) (by omega)
    · have : L.length = 18 := by rw [e] at hf rom; omega
      exact run 127 (by rw [this, size_76]) (.inr (.inr rfl)) (by rw [this, size_76]; decide) (by omega)
    · rw [e] at hf
      omega
  · refine wp_if_neg (by simp [full]) ?_
    refine wpAny_pure (q true h1 L1 es1 (ep + 1) t1 sb ⟨⟨_, eo1, ex1, rfl⟩, en1, T1, nd1, mem1, led1, ?_, by rw [l1]; exact few⟩ (fun y => absurd y z) fun _ => pm)
    unfold SetTable.tooFull at full
    rw [decide_eq_true_eq, f9, List.length_map] at full
    rw [l1]
    omega
/-- a new set -/
theorem Ms.new {κ : HeapKind P w J} {h : Heap} {a : Addr} (e : h.get? a = some { cls := .type "set", dict := none, data := .set #[] 0 (.fresh 0 0 (!w.params.followText "set-order")) }) : Ms κ h a [] #[] 0 (.fresh 0 0 (!w.params.followText "set-order")) := by
  refine ⟨⟨_, e, ⟨rfl, rfl, rfl⟩, rfl⟩, rfl, ⟨List.Pairwise.nil, rfl, rfl, .inl rfl, nofun, fun i h j hi => by simp at hi⟩, List.nodup_nil, nofun, ?_, by show 0 * 5 < 7 * 3; decide, by show 0 < 64; decide⟩
  show _ ∨ (!w.params.followText "set-order") = true
  cases w.params.followText "set-order" <;> simp
end
end Lc
set_option Elab.async false
set_option linter.all false
set_option maxRecDepth 100000
set_option maxHeartbeats 4000000
namespace Lc
open PySem PySem.Spec PyProof.Rows L2
/-! ## {x for a in as for x in a}: a set of tuples of texts and whole numbers -/
section
variable {P : Program} {w : World} {A : Around} {E : Value → Shared → Prop} {s : Shared}
theorem plain_class (n : Nat) {k : Key} {v : Value} (x : keyIs k v = true) : ofAClassStatement n v = pure false ∧ hashByValue n v = pure (plainKind v) := by
  rcases keyIs_shape x with ⟨i, t, rfl, rfl⟩ | ⟨y, t, rfl, rfl⟩ <;> exact ⟨by cases n <;> rfl, hashByValue_scannable n rfl⟩
theorem plain_items {ks : List Key} {us : List Value} (x : ItemsAre (mixKind P w) ks us) : ∀ u ∈ us, ∃ k, keyIs k u = true := by
  induction x with
  | nil => exact nofun
  | @cons k v ks us h _ ih =>
    intro u hu
    rcases List.mem_cons.mp hu with rfl | hu
    · exact ⟨k, h⟩
    · exact ih u hu
theorem mem_mix : Mem (tupleKind (mixKind P w)) where
  stay := fun x up => tupleKind_stays.stays up x
  value := fun {A E s j b Q} x q => by
    have ty := IsTupleKey.typeIs x
    obtain ⟨o, us, n, eo, _, ed, ei⟩ := x
    unfold hashByValue
    refine wpAny_bind (wpAny_specialOf ty F.slot_tuple_hash.lookup ?_)
    show wpAny _ _ (seqItems? (.ref b) >>= _) Q E s
    refine wpAny_bind (wpAny_seqItems eo ed (wpAny_bind ?_))
    show wpAny _ _ (forIn us _ _) _ E s
    rw [← Array.forIn_toList]
    refine wpAny_forIn_list _ (fun left r s' => r.1 = none ∧ s' = s ∧ ∀ u ∈ left, ∃ k, keyIs k u = true) _ ?_ ?_ _ _ ⟨rfl, rfl, plain_items ei⟩
    · rintro u left r s' ⟨e, rfl, more⟩
      obtain ⟨k, hk⟩ := more u List.mem_cons_self
      rw [(plain_class _ hk).2]
      refine wpAny_bind (wpAny_pure ?_)
      cases plainKind u with
      | true => exact wp_if_neg (by decide) (wpAny_pure ⟨rfl, rfl, fun v hv => more v (List.mem_cons_of_mem _ hv)⟩)
      | false => exact wp_if_pos rfl (wpAny_pure (wpAny_pure (q false)))
    · rintro ⟨r, z⟩ s' ⟨e, rfl, _⟩
      dsimp only at e
      subst e
      exact wpAny_pure (q true)
  class_ := fun {A E s j b Q} x q => by
    have ty := IsTupleKey.typeIs x
    obtain ⟨o, us, n, eo, _, ed, ei⟩ := x
    unfold ofAClassStatement
    refine wpAny_bind (wpAny_typeOf ty ?_)
    dsimp only
    rw [show (("tuple" : String) == "tuple") = true by decide]
    simp only [Bool.not_true, Bool.false_eq_true, ↓reduceIte]
    show wpAny _ _ (seqItems? (.ref b) >>= _) Q E s
    refine wpAny_bind (wpAny_seqItems eo ed ?_)
    dsimp only
    refine wpAny_bind ?_
    show wpAny _ _ (forIn us _ _) _ E s
    rw [← Array.forIn_toList]
    refine wpAny_forIn_list _ (fun left r s' => r.1 = none ∧ s' = s ∧ ∀ u ∈ left, ∃ k, keyIs k u = true) _ ?_ ?_ _ _ ⟨rfl, rfl, plain_items ei⟩
    · rintro u left r s' ⟨e, rfl, more⟩
      obtain ⟨k, hk⟩ := more u List.mem_cons_self
      rw [(plain_class _ hk).1]
      refine wpAny_bind (wpAny_pure ?_)
      simp only [Bool.false_eq_true, ↓reduceIte]
      exact wpAny_pure ⟨rfl, rfl, fun v hv => more v (List.mem_cons_of_mem _ hv)⟩
    · rintro ⟨r, z⟩ s' ⟨e, rfl, _⟩
      dsimp only at e
      subst e
      exact wpAny_pure q
end
/-! ### the set as a thing of ours -/
abbrev Kt (P : Program) (w : World) : HeapKind P w (List Key) := tupleKind (mixKind P w)
structure MsW (P : Program) (w : World) (h : Heap) (a : Addr) (L : List (Addr × List Key)) (es : Array (Int × Value)) (ep : Nat) (t : SetTable) : Prop where
  obj : ∃ o, h.get? a = some o ∧ o.ExactSet ∧ o.data = .set es ep t
  ent : es.toList = ents (Kt P w) L
  tab : TabOk t (L.map fun y => (Kt P w).hash y.2)
  nd : (L.map (·.2)).Nodup
  led : w.params.followText "set-order" = true ∨ t.led = true
  room : L.length * 5 < t.mask * 3
  few : L.length < 64
def MsO (P : Program) (w : World) (a : Addr) (L : List (Addr × List Key)) : HO := .ext fun h => ∃ es ep t, MsW P w h a L es ep t
section
variable {P : Program} {w : World} {h h' : Heap} {a : Addr} {L : List (Addr × List Key)}
theorem MsW.full {es : Array (Int × Value)} {ep : Nat} {t : SetTable} (R : MsW P w h a L es ep t) (m : ∀ y ∈ L, (Kt P w).is h y.2 y.1) : Ms (Kt P w) h a L es ep t := ⟨R.obj, R.ent, R.tab, R.nd, m, R.led, R.room, R.few⟩
theorem Ms.light {es : Array (Int × Value)} {ep : Nat} {t : SetTable} (R : Ms (Kt P w) h a L es ep t) : MsW P w h a L es ep t := ⟨R.obj, R.ent, R.tab, R.nd, R.led, R.room, R.few⟩
theorem msO_new {H : Hp} (R : ∃ es ep t, MsW P w h a L es ep t) : ObjOk P w H h a (MsO P w a L) := by
  obtain ⟨es, ep, t, R⟩ := id R
  obtain ⟨o, eo, _⟩ := id R.obj
  refine ⟨⟨es, ep, t, R⟩, ⟨o, eo⟩, fun h1 h2 p up => ?_⟩
  obtain ⟨es, ep, t, R⟩ := p
  obtain ⟨o, eo, r⟩ := R.obj
  exact ⟨es, ep, t, ⟨o, up o eo, r⟩, R.ent, R.tab, R.nd, R.led, R.room, R.few⟩
end
section
variable {X : Cx}
theorem msO_get {pins : List (Addr × Obj)} {σ : L2.St} {H : Hp} {s : Shared} {a : Addr} {L : List (Addr × List Key)} (I : Inv X pins σ H s) (e : H a = some (MsO X.prog X.w a L)) : ∃ es ep t, MsW X.prog X.w s.heap a L es ep t := (I.hok a _ e).1
/-- a tuple of ours is such a key -/
theorem items_mix {P : Program} {w : World} : ∀ {j : List Key} {us : List Value}, Vals (j.map kV) us → ItemsAre (mixKind P w) j us
  | [], _, r => by cases r; exact .nil
  | k :: j, _, r => by
    cases r with
    | cons h t =>
      refine .cons ?_ (items_mix t)
      cases k with
      | inl i => obtain ⟨u, rfl⟩ := h; exact keyIs_int i u
      | inr x => obtain ⟨u, rfl⟩ := h; exact keyIs_str x u
theorem Inv.mixT {pins : List (Addr × Obj)} {σ : L2.St} {H : Hp} {s : Shared} {b : Addr} {j : List Key} (I : Inv X pins σ H s) (e : SqT X.K H b (j.map kV)) : (Kt X.prog X.w).is s.heap j b := by
  obtain ⟨us, r, ⟨o, eo, ec, n, ed⟩, _⟩ := I.tuple e
  exact ⟨o, us.toArray, n, eo, ec, ed, by simpa using items_mix r⟩
end
/-! ### set.add -/
section
variable {P : Program} {w : World} {A : Around} {E : Value → Shared → Prop} {s : Shared}
theorem call_setadd {a x : Addr} {j : List Key} {L : List (Addr × List Key)} {es : Array (Int × Value)} {ep : Nat} {t : SetTable} {Q : Value → Shared → Prop} (R : Ms (Kt P w) s.heap a L es ep t) (hx : (Kt P w).is s.heap j x) (rm : A.units + 64 < cLine) (few : L.length + 1 < 64)
    (q : ∀ h' tk L', Heap.SameBut a s.heap h' → (∃ es ep t, MsW P w h' a L' es ep t) → (j ∈ L.map (·.2) → L' = L) → (j ∉ L.map (·.2) → L'.Perm ((x, j) :: L)) → Q .none { s with heap := h', toks := tk }) :
    wpAny (model P w) A (call (.builtin "set.add") [.ref a, .ref x]) Q E s := by
  have ty : s.TypeIs (.ref a) "set" := by
    obtain ⟨o, eo, ex, _⟩ := R.obj
    exact ⟨o, eo, ex.1⟩
  refine wpAny_call_entry F.slot_set_add ty F.entry_set_add ?_ (F.args_set_add_2 _ _)
  unfold Builtin.«set.add» Builtin.Frozenset.oneOther
  simp only [List.isEmpty_nil, bind_assoc]
  unfold Builtin.Frozenset.addrOf setAdd
  refine wpAny_bind (wpAny_pure ?_)
  try dsimp only
  refine wpAny_bind (wpAny_pure ?_)
  try dsimp only
  refine wpAny_bind (wpAny_holding (wpAny_bind ((Kt P w).pyHash (show _ < cLine by first | omega | (show A.in1.units < cLine; have := A.in1_units; omega)) hx ?_)))
  refine Ms.add (s := { s with toks := s.toks + (Kt P w).draws j }) mem_mix R hx (show _ < cLine by first | omega | (show A.in1.units < cLine; have := A.in1_units; omega)) few fun b h' L' es' ep' t' sb R' c1 c2 => ?_
  show wpAny _ _ (ret Value.none) _ _ _
  exact wpAny_pure ⟨_, rfl, q h' _ L' sb ⟨es', ep', t', R'.light⟩ c1 c2⟩
end
/-- the key at y is put into the set at D -/
def PutM (K : PySem.W.Frag) (P : Program) (w : World) (D : Addr) (y : V) (H : Hp) (N : Hp → Prop) : Prop :=
  ∃ (b : Addr) (j : List Key) (L : List (Addr × List Key)), y = .ref b ∧ SqT K H b (j.map kV) ∧ H D = some (MsO P w D L) ∧ (∀ z ∈ L, SqT K H z.1 (z.2.map kV)) ∧ L.length + 1 < 64 ∧
    ∀ L', (j ∈ L.map (·.2) → L' = L) → (j ∉ L.map (·.2) → L'.Perm ((b, j) :: L)) → N (upd H D (MsO P w D L'))
section
variable {X : Cx}
theorem putM_ok {pins : List (Addr × Obj)} {σ : L2.St} {H : Hp} {s : Shared} {E : Value → Shared → Prop} {D : Addr} {y : V} {v : Value} {Q : Value → Shared → Prop} {N : Hp → Prop} (I : Inv X pins σ H s) (hu : X.A.units + 64 < cLine) (r : RelV y v) (p : PutM X.K X.prog X.w D y H N)
    (h : ∀ s' H', Inv X pins σ H' s' → N H' → Q .none s') : wpAny (model X.prog X.w) X.A (call (.builtin "set.add") [.ref D, v]) Q E s := by
  obtain ⟨b, j, L, rfl, e1, e2, e3, few, n⟩ := p
  cases r
  obtain ⟨es, ep, t, R⟩ := msO_get I e2
  refine call_setadd (R.full fun z hz => Inv.mixT I (e3 z hz)) (Inv.mixT I e1) hu few fun h' tk L' sb R' c1 c2 => ?_
  have he : ∃ u, h'.get? D = some u := by
    obtain ⟨_, _, _, R'⟩ := R'
    obtain ⟨o, eo, _⟩ := R'.obj
    exact ⟨o, eo⟩
  exact h _ _ (I.write (e := D) (t' := tk) (by rw [e2]; trivial) (.inl rfl) (fun c u hc hu => (sb.2 c hc).trans hu) he (msO_new R')) (n L' c1 c2)
end
/-! ### the two clauses -/
theorem turn_first (x t0 i0 t1 i1 : Expr) (c0 c1 : List Expr) (sc : Scope) (pos : Pos) (it acc : Value) (env : Env) :
    compTurn (.SetComp x [⟨t0, i0, c0, 0⟩, ⟨t1, i1, c1, 0⟩] sc pos) 0 it acc env = (do
      standAt i0.pos
      match ← pyNext it with
      | none => pure (.done .next)
      | some v =>
        letOwnedTupleGo t0 it v
        assign t0 env v
        let mut go := true
        for c in c0 do
          if go then go ← isTrue c env (eval c env)
        if go then
          let y ← eval i1 env
          standAt i1.pos
          let y ← foldedSetIterable i1 env y
          let _ ← runOwn (.compStart (.SetComp x [⟨t0, i0, c0, 0⟩, ⟨t1, i1, c1, 0⟩] sc pos) 1 (← holding [y] (pyIter y)) acc env) env
        again (.compLoop (.SetComp x [⟨t0, i0, c0, 0⟩, ⟨t1, i1, c1, 0⟩] sc pos) 0 it acc env)) := by rfl
theorem turn_second (x t0 i0 t1 i1 : Expr) (c0 c1 : List Expr) (sc : Scope) (pos : Pos) (it acc : Value) (env : Env) :
    compTurn (.SetComp x [⟨t0, i0, c0, 0⟩, ⟨t1, i1, c1, 0⟩] sc pos) 1 it acc env = (do
      standAt i1.pos
      match ← pyNext it with
      | none => pure (.done .next)
      | some v =>
        letOwnedTupleGo t1 it v
        assign t1 env v
        let mut go := true
        for c in c1 do
          if go then go ← isTrue c env (eval c env)
        if go then
          (do let v ← eval x env; standAt x.pos; let _ ← call (.builtin "set.add") [acc, v])
        again (.compLoop (.SetComp x [⟨t0, i0, c0, 0⟩, ⟨t1, i1, c1, 0⟩] sc pos) 1 it acc env)) := by rfl
section
variable {prog : Program} {w : World} {A : Around} {R : Result → Shared → Prop} {s : Shared} {x t0 i0 t1 i1 : Expr} {c0 c1 : List Expr} {sc : Scope} {pos : Pos} {it acc : Value} {env : Env}
abbrev Oops (prog : Program) (w : World) (A : Around) (env : Env) (R : Result → Shared → Prop) : Value → Shared → Prop := notedBy (model prog w) A env fun e s' => R (.error e) s'
theorem loop_first (hs : ∀ y, foldedSetIterable i1 env y = pure y) (I : Nat → Shared → Prop)
    (turn : ∀ n s, I n s → wpAny (model prog w) A (pyNext it) (fun r s1 => match r with
      | none => R (.ok .next) s1
      | some v => wpAny (model prog w) A (letOwnedTupleGo t0 it v) (fun _ s2 => wpAny (model prog w) A (assign t0 env v) (fun _ s3 =>
          wpAny (model prog w) A (forIn c0 true fun c r => if r = true then do let ok ← isTrue c env (eval c env); pure (ForInStep.yield ok) else pure (ForInStep.yield r)) (fun ok s4 =>
            if ok = true then wpAny (model prog w) A (eval i1 env) (fun y s5 => wpAny (model prog w) A (pyIter y) (fun it1 s6 =>
              codeAny (model prog w) A (.compStart (.SetComp x [⟨t0, i0, c0, 0⟩, ⟨t1, i1, c1, 0⟩] sc pos) 1 it1 acc env) (fun r s' => match r with
                | .ok _ => ∃ m, m < n ∧ I m s'
                | .error _ => False) s6) (Oops prog w A env R) s5) (Oops prog w A env R) s4
            else ∃ m, m < n ∧ I m s4) (Oops prog w A env R) s3) (Oops prog w A env R) s2) (Oops prog w A env R) s1) (Oops prog w A env R) s)
    (n : Nat) (h : I n s) : codeAny (model prog w) A (.compLoop (.SetComp x [⟨t0, i0, c0, 0⟩, ⟨t1, i1, c1, 0⟩] sc pos) 0 it acc env) R s := by
  refine codeAny_loop rfl I (fun n s i => ?_) n h
  show wpAny _ A ((compTurn (.SetComp x [⟨t0, i0, c0, 0⟩, ⟨t1, i1, c1, 0⟩] sc pos) 0 it acc env).onRaise (fun z => do noteFrame z env; theTreesLotGoes z)) _ _ s
  refine wpAny_noted ?_
  rw [turn_first]
  refine wpAny_bind (wpAny_standAt (wpAny_bind (wpAny_mono (turn n s i) (fun r s1 q1 => ?_) fun _ _ z => z)))
  match r, q1 with
  | none, q1 => exact wpAny_pure q1
  | some v, q1 =>
    refine wpAny_bind (wpAny_mono q1 (fun _ s2 q2 => wpAny_bind (wpAny_mono q2 (fun _ s3 q3 => wpAny_bind (wpAny_mono q3 (fun ok s4 q4 => ?_) fun _ _ z => z)) fun _ _ z => z)) fun _ _ z => z)
    cases ok with
    | false => exact wpAny_pure ⟨rfl, q4⟩
    | true =>
      refine wpAny_bind (wpAny_mono q4 (fun y s5 q5 => wpAny_bind (wpAny_standAt (wpAny_bind (wpAny_of_eq (hs y) (wpAny_bind (wpAny_holding (wpAny_mono q5 (fun it1 s6 q6 => ?_) fun _ _ z => z))))))) fun _ _ z => z)
      refine wpAny_bind (wpAny_runOwn ?_)
      rw [Around.mark_none]
      refine codeAny_mono q6 fun r s' q => ?_
      match r, q with
      | .ok f, q =>
        first
          | exact wpAny_pure ⟨rfl, q⟩
          | exact wpAny_bind (wpAny_pure (wpAny_pure ⟨rfl, q⟩))
      | .error e, q => exact q.elim
theorem loop_second (I : Nat → Shared → Prop)
    (turn : ∀ n s, I n s → wpAny (model prog w) A (pyNext it) (fun r s1 => match r with
      | none => R (.ok .next) s1
      | some v => wpAny (model prog w) A (letOwnedTupleGo t1 it v) (fun _ s2 => wpAny (model prog w) A (assign t1 env v) (fun _ s3 =>
          wpAny (model prog w) A (forIn c1 true fun c r => if r = true then do let ok ← isTrue c env (eval c env); pure (ForInStep.yield ok) else pure (ForInStep.yield r)) (fun ok s4 =>
            if ok = true then wpAny (model prog w) A (eval x env) (fun y s5 => wpAny (model prog w) A (call (.builtin "set.add") [acc, y]) (fun _ s6 => ∃ m, m < n ∧ I m s6) (Oops prog w A env R) s5) (Oops prog w A env R) s4
            else ∃ m, m < n ∧ I m s4) (Oops prog w A env R) s3) (Oops prog w A env R) s2) (Oops prog w A env R) s1) (Oops prog w A env R) s)
    (n : Nat) (h : I n s) : codeAny (model prog w) A (.compLoop (.SetComp x [⟨t0, i0, c0, 0⟩, ⟨t1, i1, c1, 0⟩] sc pos) 1 it acc env) R s := by
  refine codeAny_loop rfl I (fun n s i => ?_) n h
  show wpAny _ A ((compTurn (.SetComp x [⟨t0, i0, c0, 0⟩, ⟨t1, i1, c1, 0⟩] sc pos) 1 it acc env).onRaise (fun z => do noteFrame z env; theTreesLotGoes z)) _ _ s
  refine wpAny_noted ?_
  rw [turn_second]
  refine wpAny_bind (wpAny_standAt (wpAny_bind (wpAny_mono (turn n s i) (fun r s1 q1 => ?_) fun _ _ z => z)))
  match r, q1 with
  | none, q1 => exact wpAny_pure q1
  | some v, q1 =>
    refine wpAny_bind (wpAny_mono q1 (fun _ s2 q2 => wpAny_bind (wpAny_mono q2 (fun _ s3 q3 => wpAny_bind (wpAny_mono q3 (fun ok s4 q4 => ?_) fun _ _ z => z)) fun _ _ z => z)) fun _ _ z => z)
    cases ok with
    | false => exact wpAny_pure ⟨rfl, q4⟩
    | true => exact wpAny_bind (wpAny_bind (wpAny_mono q4 (fun y s5 q5 => wpAny_bind (wpAny_standAt (wpAny_bind (wpAny_mono q5 (fun _ s6 q6 => wpAny_pure (wpAny_pure ⟨rfl, q6⟩)) fun _ _ z => z)))) fun _ _ z => z))
theorem start_second (h0 : codeAny (model prog w) A (.compLoop (.SetComp x [⟨t0, i0, c0, 0⟩, ⟨t1, i1, c1, 0⟩] sc pos) 1 it acc env) R s)
    (h : wpAny (model prog w) A (pyIter it) (fun it' s' => codeAny (model prog w) A (.compLoop (.SetComp x [⟨t0, i0, c0, 0⟩, ⟨t1, i1, c1, 0⟩] sc pos) 1 it' acc env) R s') (Oops prog w A env R) s) :
    codeAny (model prog w) A (.compStart (.SetComp x [⟨t0, i0, c0, 0⟩, ⟨t1, i1, c1, 0⟩] sc pos) 1 it acc env) R s := by
  refine codeAny_of_tree ?_
  show wpAny _ _ ((compStart (.SetComp x [⟨t0, i0, c0, 0⟩, ⟨t1, i1, c1, 0⟩] sc pos) 1 it acc env).onRaise (fun z => do noteFrame z env; standAt theWindowsPlace)) _ _ s
  refine wpAny_notedAt ?_
  unfold compStart
  show wpAny _ _ (ask >>= _) _ _ s
  refine wpAny_bind (wpAny_askSetting (wpAny_ite ?_))
  split
  · first
      | exact wpAny_bind (wpAny_pure (wpAny_pure (And.intro rfl h0)))
      | exact wpAny_pure (And.intro rfl h0)
  · first
      | exact wpAny_bind (wpAny_rule (wpAny_bind (wpAny_standAt (wpAny_bind (wpAny_mono h (fun _ _ z => wpAny_pure (And.intro rfl z)) fun _ _ z => z)))))
      | (refine wpAny_bind (wpAny_rule ?_); show wpAny _ _ (standAt i1.pos >>= _) _ _ s; exact wpAny_bind (wpAny_standAt (wpAny_bind (wpAny_mono h (fun _ _ z => wpAny_pure (And.intro rfl z)) fun _ _ z => z))))
end
/-! ### the comprehension -/
def tSt (K : PySem.W.Frag) (P : Program) (w : World) (wi : TI) (g : TG) (tt : TT) (wi1 : TI) (g1 : TG) (tt1 : TT) (te : TE) (vs vs1 : List Nat) : TE := fun σ H Q => wi σ H fun J H1 => ∀ D, H1 D = none → ∃ W : Nat → Nat → Hp → Prop, (∃ m, W 0 m (upd H1 D (MsO P w D []))) ∧ ∀ i m H, W i m H →
  (J.stop i H ∧ Q (.ref D) H) ∨ (J.go i H ∧ ∃ Nx : Hp → Prop, (∀ H', Nx H' → ∃ m', m' < m ∧ W (i + 1) m' H') ∧ ∀ x H', J.yld i H x H' → g x (wipe σ vs) H' fun σ2 H2 => wipe σ2 vs = wipe σ vs ∧ tt σ2 H2 fun b H3 =>
    if b = true then wi1 σ2 H3 fun J1 H4 => ∃ W1 : Nat → Nat → Hp → Prop, (∃ m, W1 0 m H4) ∧ ∀ j k H, W1 j k H →
      (J1.stop j H ∧ Nx H) ∨ (J1.go j H ∧ ∃ N1 : Hp → Prop, (∀ H', N1 H' → ∃ k', k' < k ∧ W1 (j + 1) k' H') ∧ ∀ x H', J1.yld j H x H' → g1 x (wipe σ2 vs1) H' fun σ3 H5 => wipe σ3 vs1 = wipe σ2 vs1 ∧ tt1 σ3 H5 fun b H6 =>
        if b = true then te σ3 H6 fun y H7 => PutM K P w D y H7 N1 else N1 H6)
    else Nx H3)
section
variable {X : Cx}
theorem st_core {pins : List (Addr × Obj)} {s : Shared} {σ : L2.St} {H : Hp} {Q : VK} {x tg iter tg1 iter1 : Expr} {c0 c1 : List Expr} {scope : Scope} {own : List (PySem.Str × Nat)} {vs1 : List Nat} {pos pos' : Pos} {wi wi1 : TI} {g g1 : TG} {tt tt1 : TT} {te : TE} {use : Option (Value → Sem Unit)} {Qf : Value → Shared → Prop}
    (hu : X.A.units + 64 < cLine) (hc : X.calm = true) (hN : X.N.Nodup) (I : Inv X pins σ H s) (hi : PI X tg iter wi) (ok : BlkOk X.N X.env.scope scope own) (hv : ∀ i ∈ vs1, i ∈ own.map (·.2))
    (hg : ∀ (s : Shared) (H : Hp) (C : Addr) (cl : List (PySem.Str × Addr)) (fp : List Addr), PG (X.blk s H scope (compEnvC scope cl C X.env) fp) tg g) (ht : ∀ (s : Shared) (H : Hp) (C : Addr) (cl : List (PySem.Str × Addr)) (fp : List Addr), PTs (X.blk s H scope (compEnvC scope cl C X.env) fp) c0 tt)
    (hi1 : ∀ (s : Shared) (H : Hp) (C : Addr) (cl : List (PySem.Str × Addr)) (fp : List Addr), PI (X.blk s H scope (compEnvC scope cl C X.env) fp) tg1 iter1 wi1) (hg1 : ∀ (s : Shared) (H : Hp) (C : Addr) (cl : List (PySem.Str × Addr)) (fp : List Addr), PG (X.blk s H scope (compEnvC scope cl C X.env) fp) tg1 g1)
    (ht1 : ∀ (s : Shared) (H : Hp) (C : Addr) (cl : List (PySem.Str × Addr)) (fp : List Addr), PTs (X.blk s H scope (compEnvC scope cl C X.env) fp) c1 tt1) (he : ∀ (s : Shared) (H : Hp) (C : Addr) (cl : List (PySem.Str × Addr)) (fp : List Addr), PE (X.blk s H scope (compEnvC scope cl C X.env) fp) x te)
    (hs : ∀ y, foldedSetIterable iter X.env y = pure y) (hs1 : ∀ env y, foldedSetIterable iter1 env y = pure y) (h : tSt X.K X.prog X.w wi g tt wi1 g1 tt1 te (own.map (·.2)) vs1 σ H Q)
    (fin : ∀ D C s' m H', Inv X pins σ H' s' → Q (.ref D) H' → s'.heap.Ns C m → FpOk X pins H' C → compPost (model X.prog X.w) X.A X.xe use Qf (.ref D) C (.ok .next) s') :
    wpAny (model X.prog X.w) X.A (comprehension (.SetComp x [⟨tg, iter, c0, 0⟩, ⟨tg1, iter1, c1, 0⟩] scope pos) scope X.env pos' (newSet (.type "set")) false (eval iter X.env) use) Qf X.xe s := by
  have inScope : ∀ y ∈ scope.names, y.2 = .free → ∃ c, X.env.cells.lookup y.1 = some c := fun y hy e => (ok.free y hy e).elim (fun k => I.ok.has _ (.inl k)) fun k => I.ok.has _ (.inr k)
  refine wpAny_comprehension_free (use := use) rfl hs (closure_ok inScope) ok.kind (fun y hy e => by rw [ok.uniq y hy, e]) (thn (hi.run pins s σ H _ I h) fun _ s1 h1 => thn h1 fun itv s2 h2 => ?_)
  obtain ⟨it, fp, tn, J, H2, rfl, I2, T, st2, f2, q⟩ := h2
  refine PpSet.newSet_ok (newEnv_comp ?_)
  generalize eD : s2.heap.objs.size = D
  have nD : H2 D = none := I2.hok.fresh (Nat.le_of_eq eD)
  obtain ⟨W, ⟨m0, w0⟩, turn⟩ := q D nD
  generalize e3 : ({ s2 with heap := s2.heap.push { cls := .type "set", dict := none, data := .set #[] 0 (.fresh 0 0 (!X.w.params.followText "set-order")) } } : Shared) = s3
  have hp3 : s3.heap = s2.heap.push { cls := .type "set", dict := none, data := .set #[] 0 (.fresh 0 0 (!X.w.params.followText "set-order")) } := by rw [← e3]
  have I3 : Inv X pins σ (upd H2 D (MsO X.prog X.w D [])) s3 := by
    rw [← e3]
    refine I2.laid (t' := s2.toks) (fun b o e => Heap.get?_push_of_some _ e) (Nat.le_of_eq eD) ?_
    rw [← eD]
    exact msO_new ⟨_, _, _, (Ms.new (Heap.get?_push_size _ rfl)).light⟩
  have lt : ∀ b ∈ fp, b < s2.heap.objs.size := fun b hb => let ⟨_, e, _⟩ := T.obj _ _ st2 b hb; Heap.lt_size e
  have f3 : ∀ b ∈ fp, FpOk X pins (upd H2 D (MsO X.prog X.w D [])) b ∧ b < s3.heap.objs.size := fun b hb => by
    have l := lt b hb
    refine ⟨⟨?_, (f2 b hb).2⟩, by rw [hp3, Heap.size_push]; exact Nat.lt_of_lt_of_le l (Nat.le_succ _)⟩
    rw [upd_ne fun z => Nat.lt_irrefl D (by rw [← z] at eD ⊢; exact eD ▸ l)]
    exact (f2 b hb).1
  have st3 : tn 0 s3.heap := T.keep _ _ _ st2 fun b _ o e => by rw [hp3]; exact Heap.get?_push_of_some _ e
  have I4 := block_start I3 ok hN f3
  have pg := hg s3 (upd H2 D (MsO X.prog X.w D [])) s3.heap.objs.size (cellsFrom (s3.heap.objs.size + 1) scope.names (cloFrom X.env.cells scope.names [])) fp
  have pt := ht s3 (upd H2 D (MsO X.prog X.w D [])) s3.heap.objs.size (cellsFrom (s3.heap.objs.size + 1) scope.names (cloFrom X.env.cells scope.names [])) fp
  have pe := he s3 (upd H2 D (MsO X.prog X.w D [])) s3.heap.objs.size (cellsFrom (s3.heap.objs.size + 1) scope.names (cloFrom X.env.cells scope.names [])) fp
  have pi1 := hi1 s3 (upd H2 D (MsO X.prog X.w D [])) s3.heap.objs.size (cellsFrom (s3.heap.objs.size + 1) scope.names (cloFrom X.env.cells scope.names [])) fp
  have pg1 := hg1 s3 (upd H2 D (MsO X.prog X.w D [])) s3.heap.objs.size (cellsFrom (s3.heap.objs.size + 1) scope.names (cloFrom X.env.cells scope.names [])) fp
  have pt1 := ht1 s3 (upd H2 D (MsO X.prog X.w D [])) s3.heap.objs.size (cellsFrom (s3.heap.objs.size + 1) scope.names (cloFrom X.env.cells scope.names [])) fp
  show codeAny _ _ (.compStart (.SetComp x [⟨tg, iter, c0, 0⟩, ⟨tg1, iter1, c1, 0⟩] scope pos) 0 (.ref it) (.ref D) (compEnvC scope (cellsFrom (s3.heap.objs.size + 1) scope.names (cloFrom X.env.cells scope.names [])) s3.heap.objs.size X.env)) (compPost (model X.prog X.w) X.A X.xe use Qf (.ref D) s3.heap.objs.size) { s3 with heap := pushCells (s3.heap.push { cls := .type "dict", data := .dict #[] }) scope.names }
  have none3 : ∀ b ∈ fp, upd H2 D (MsO X.prog X.w D []) b = none := fun b hb => (f3 b hb).1.1
  generalize ec : compEnvC scope (cellsFrom (s3.heap.objs.size + 1) scope.names (cloFrom X.env.cells scope.names [])) s3.heap.objs.size X.env = ce at I4 pg pt pe pi1 pg1 pt1 ⊢
  have loc : ce.locals = s3.heap.objs.size := by rw [← ec]; rfl
  generalize upd H2 D (MsO X.prog X.w D []) = H3 at I3 I4 pg pt pe pi1 pg1 pt1 w0 none3 f3
  generalize e4 : ({ s3 with heap := pushCells (s3.heap.push { cls := .type "dict", data := .dict #[] }) scope.names } : Shared) = s4 at I4 ⊢
  have st4 : tn 0 s4.heap := T.keep _ _ _ st3 fun b _ o e => by rw [← e4]; exact pushCells_keeps _ _ _ _ (Heap.get?_push_of_some _ e)
  have foot : ∀ {σ' : L2.St} {H' : Hp} {s' : Shared}, Inv (X.blk s3 H3 scope ce fp) [] σ' H' s' → (∀ b ∈ fp, H' b = none) → ∀ b ∈ fp, FpOk (X.blk s3 H3 scope ce fp) [] H' b := fun I' n b hb =>
    ⟨n b hb, (I'.ok.exf b hb).1, I'.ok.exfs b hb, .inl hb, fun y c e => (I'.ok.exf b hb).2 y c e, fun p z => by cases z⟩
  have all : codeAny (model X.prog X.w) X.A (.compLoop (.SetComp x [⟨tg, iter, c0, 0⟩, ⟨tg1, iter1, c1, 0⟩] scope pos) 0 (.ref it) (.ref D) ce) (compPost (model X.prog X.w) X.A X.xe use Qf (.ref D) s3.heap.objs.size) s4 := by
    refine loop_first (hs1 ce) (fun n s' => ∃ i H', Inv (X.blk s3 H3 scope ce fp) [] (wipe σ (own.map (·.2))) H' s' ∧ tn i s'.heap ∧ (∀ b ∈ fp, H' b = none) ∧ W i n H') ?_ m0 ⟨0, H3, I4, st4, none3, w0⟩
    rintro n s5 ⟨i, H5, I5, st5, n5, w5⟩
    rcases turn i n H5 w5 with ⟨stop, qq⟩ | ⟨go, Nx, down, step⟩
    · refine thnF (T.done (X.blk s3 H3 scope ce fp) rfl rfl rfl hc i [] s5 _ H5 (fun _ _ => False) I5 (foot I5 n5) st5 stop) fun r s6 ⟨er, I6⟩ => ?_
      subst er
      obtain ⟨m, ns, _⟩ := I6.loc
      have ns : s6.heap.Ns ce.locals m := ns
      have fr : H5 ce.locals = none := I6.free
      rw [loc] at ns fr
      exact fin D _ s6 m H5 (I3.call' (ch := fp) I6.os I6.base I6.hok I6.bare fun b hb => ⟨(f3 b hb).1.2.2.2.1, (f3 b hb).1.2.1, (f3 b hb).1.2.2.2.2.1, (f3 b hb).1.2.2.2.2.2⟩) qq ns (I3.fpOk (Nat.le_refl _) fr)
    refine thnF (T.item (X.blk s3 H3 scope ce fp) rfl rfl rfl hc i [] s5 _ H5 (fun _ _ => False) I5 (foot I5 n5) st5 go) fun r s6 ⟨u, er, h6⟩ => ?_
    subst er
    refine thnF h6 fun _ s7 ⟨y, H7, I7, r7, y7, st7, n7⟩ => ?_
    refine thnF (pg.run _ s7 _ H7 y u _ (I7.pinned (foot I7 n7) (T.obj _ _ st7)) r7 (step y H7 y7)) fun _ s8 ⟨σ8, H8, I8, w8, q8⟩ => ?_
    refine thnF (pt.run _ s8 σ8 H8 _ I8 q8) fun b s9 ⟨H9, I9, q9⟩ => ?_
    -- the end of a turn
    have over : ∀ {σ9 : L2.St} {s' : Shared} {H' : Hp}, Inv (X.blk s3 H3 scope ce fp) ([] ++ pinsAt fp s7.heap) σ9 H' s' → (wipe σ (own.map (·.2))).length = σ9.length → (∀ (k : Nat) v, (wipe σ (own.map (·.2)))[k]? = some (some v) → σ9[k]? = some (some v)) → Nx H' →
        ∃ m, m < n ∧ ∃ i H', Inv (X.blk s3 H3 scope ce fp) [] (wipe σ (own.map (·.2))) H' s' ∧ tn i s'.heap ∧ (∀ b ∈ fp, H' b = none) ∧ W i m H' := fun {σ9 s' H'} I' len know nx => by
      obtain ⟨m', lm, w'⟩ := down H' nx
      have still : ∀ b ∈ fp, ∀ o, s7.heap.get? b = some o → s'.heap.get? b = some o ∧ H' b = none := fun b hb o e =>
        have z := I'.pin (b, o) (List.mem_append_right _ (List.mem_append_right _ (mem_pinsAt hb e)))
        ⟨z.1, z.2.1⟩
      exact ⟨m', lm, i + 1, H', (I'.unpinned (pins := [])).weak len know, T.keep _ _ _ st7 fun b hb o e => (still b hb o e).1, fun b hb => let ⟨o, e, _⟩ := T.obj _ _ st7 b hb; (still b hb o e).2, w'⟩
    have len8 : (wipe σ (own.map (·.2))).length = σ8.length := by rw [← w8, wipe_length]
    have know8 : ∀ (k : Nat) v, (wipe σ (own.map (·.2)))[k]? = some (some v) → σ8[k]? = some (some v) := fun k v e => (wipe_some (w8 ▸ e)).1
    have know9 : ∀ (k : Nat) v, (wipe σ (own.map (·.2)))[k]? = some (some v) → (wipe σ8 vs1)[k]? = some (some v) := fun k v e => by
      obtain ⟨a1, a2⟩ := wipe_some (w8 ▸ e)
      rw [wipe_out fun z => a2 (hv k z)]
      exact a1
    cases b with
    | false =>
      rw [if_neg Bool.false_ne_true] at q9 ⊢
      exact over I9 len8 know8 q9
    | true =>
    rw [if_pos rfl] at q9 ⊢
    refine thnF (pi1.run _ s9 σ8 H9 _ I9 q9) fun _ s10 h10 => thnF h10 fun itv s11 h11 => ?_
    obtain ⟨it1, fp1, tn1, J1, H11, rfl, I11, T1, st11, f11, W1, ⟨m1, w1⟩, turn1⟩ := h11
    have foot1 : ∀ {H' : Hp}, (∀ b ∈ fp1, H' b = none) → ∀ b ∈ fp1, FpOk (X.blk s3 H3 scope ce fp) ([] ++ pinsAt fp s7.heap) H' b := fun n b hb => ⟨n b hb, (f11 b hb).2⟩
    have inner : codeAny (model X.prog X.w) X.A (.compLoop (.SetComp x [⟨tg, iter, c0, 0⟩, ⟨tg1, iter1, c1, 0⟩] scope pos) 1 (.ref it1) (.ref D) ce)
        (fun r s' => match r with
          | .ok _ => ∃ m, m < n ∧ ∃ i H', Inv (X.blk s3 H3 scope ce fp) [] (wipe σ (own.map (·.2))) H' s' ∧ tn i s'.heap ∧ (∀ b ∈ fp, H' b = none) ∧ W i m H'
          | .error _ => False) s11 := by
      refine loop_second (fun k s' => ∃ j H', Inv (X.blk s3 H3 scope ce fp) ([] ++ pinsAt fp s7.heap) (wipe σ8 vs1) H' s' ∧ tn1 j s'.heap ∧ (∀ b ∈ fp1, H' b = none) ∧ W1 j k H') ?_ m1 ⟨0, H11, I11.weak (wipe_length _ _) (fun k v e => (wipe_some e).1), st11, fun b hb => (f11 b hb).1, w1⟩
      rintro k s12 ⟨j, H12, I12, st12, n12, w12⟩
      rcases turn1 j k H12 w12 with ⟨stop1, nx1⟩ | ⟨go1, N1, down1, step1⟩
      · refine thnF (T1.done (X.blk s3 H3 scope ce fp) rfl rfl rfl hc j _ s12 (wipe σ8 vs1) H12 (fun _ _ => False) I12 (foot1 n12) st12 stop1) fun r s13 ⟨er, I13⟩ => ?_
        subst er
        exact over I13 (len8.trans (wipe_length σ8 vs1).symm) know9 nx1
      refine thnF (T1.item (X.blk s3 H3 scope ce fp) rfl rfl rfl hc j _ s12 (wipe σ8 vs1) H12 (fun _ _ => False) I12 (foot1 n12) st12 go1) fun r s13 ⟨u1, er, h13⟩ => ?_
      subst er
      refine thnF h13 fun _ s14 ⟨y1, H14, I14, r14, y14, st14, n14⟩ => ?_
      refine thnF (pg1.run _ s14 (wipe σ8 vs1) H14 y1 u1 _ (I14.pinned (foot1 n14) (T1.obj _ _ st14)) r14 (step1 y1 H14 y14)) fun _ s15 ⟨σ15, H15, I15, w15, q15⟩ => ?_
      refine thnF (pt1.run _ s15 σ15 H15 _ I15 q15) fun b1 s16 ⟨H16, I16, q16⟩ => ?_
      have over1 : ∀ {s' : Shared} {H' : Hp}, Inv (X.blk s3 H3 scope ce fp) (([] ++ pinsAt fp s7.heap) ++ pinsAt fp1 s14.heap) σ15 H' s' → N1 H' → ∃ m, m < k ∧ ∃ j H', Inv (X.blk s3 H3 scope ce fp) ([] ++ pinsAt fp s7.heap) (wipe σ8 vs1) H' s' ∧ tn1 j s'.heap ∧ (∀ b ∈ fp1, H' b = none) ∧ W1 j m H' := fun {s' H'} I' nx => by
        obtain ⟨m', lm, w'⟩ := down1 H' nx
        have still : ∀ b ∈ fp1, ∀ o, s14.heap.get? b = some o → s'.heap.get? b = some o ∧ H' b = none := fun b hb o e =>
          have z := I'.pin (b, o) (List.mem_append_right _ (List.mem_append_right _ (mem_pinsAt hb e)))
          ⟨z.1, z.2.1⟩
        exact ⟨m', lm, j + 1, H', I'.unpinned.weak (by rw [← w15, wipe_length]) (fun k v e => (wipe_some (w15 ▸ e)).1), T1.keep _ _ _ st14 fun b hb o e => (still b hb o e).1, fun b hb => let ⟨o, e, _⟩ := T1.obj _ _ st14 b hb; (still b hb o e).2, w'⟩
      cases b1 with
      | false =>
        rw [if_neg Bool.false_ne_true] at q16 ⊢
        exact over1 I16 q16
      | true =>
        rw [if_pos rfl] at q16 ⊢
        exact thnF (pe.run _ s16 σ15 H16 _ I16 q16) fun v s17 ⟨yv, H17, I17, r17, put⟩ => putM_ok (X := X.blk s3 H3 scope ce fp) I17 hu r17 put fun s18 H18 I18 nx => over1 I18 nx
    exact start_second inner (T1.self X.A 0 _ _ _ st11 inner)
  exact PpSet.codeAny_compStart_set all (T.self X.A 0 _ _ _ st4 all)
/-- as a value -/
theorem pe_st {x tg iter tg1 iter1 : Expr} {c0 c1 : List Expr} {scope : Scope} {own : List (PySem.Str × Nat)} {vs1 : List Nat} {pos : Pos} {wi wi1 : TI} {g g1 : TG} {tt tt1 : TT} {te : TE} (hu : X.A.units + 64 < cLine) (hc : X.calm = true) (hN : X.N.Nodup) (hi : PI X tg iter wi) (ok : BlkOk X.N X.env.scope scope own) (hv : ∀ i ∈ vs1, i ∈ own.map (·.2))
    (hg : ∀ (s : Shared) (H : Hp) (C : Addr) (cl : List (PySem.Str × Addr)) (fp : List Addr), PG (X.blk s H scope (compEnvC scope cl C X.env) fp) tg g) (ht : ∀ (s : Shared) (H : Hp) (C : Addr) (cl : List (PySem.Str × Addr)) (fp : List Addr), PTs (X.blk s H scope (compEnvC scope cl C X.env) fp) c0 tt)
    (hi1 : ∀ (s : Shared) (H : Hp) (C : Addr) (cl : List (PySem.Str × Addr)) (fp : List Addr), PI (X.blk s H scope (compEnvC scope cl C X.env) fp) tg1 iter1 wi1) (hg1 : ∀ (s : Shared) (H : Hp) (C : Addr) (cl : List (PySem.Str × Addr)) (fp : List Addr), PG (X.blk s H scope (compEnvC scope cl C X.env) fp) tg1 g1)
    (ht1 : ∀ (s : Shared) (H : Hp) (C : Addr) (cl : List (PySem.Str × Addr)) (fp : List Addr), PTs (X.blk s H scope (compEnvC scope cl C X.env) fp) c1 tt1) (he : ∀ (s : Shared) (H : Hp) (C : Addr) (cl : List (PySem.Str × Addr)) (fp : List Addr), PE (X.blk s H scope (compEnvC scope cl C X.env) fp) x te)
    (hs : ∀ y, foldedSetIterable iter X.env y = pure y := by intro _; rfl) (hs1 : ∀ env y, foldedSetIterable iter1 env y = pure y := by intro _ _; rfl) :
    PE X (.SetComp x [⟨tg, iter, c0, 0⟩, ⟨tg1, iter1, c1, 0⟩] scope pos) (tSt X.K X.prog X.w wi g tt wi1 g1 tt1 te (own.map (·.2)) vs1) := by
  refine ⟨fun pins s σ H Q I h => ?_⟩
  rw [PpSet.eval_SetComp]
  refine st_core hu hc hN I hi ok hv hg ht hi1 hg1 ht1 he hs hs1 h fun D C s' m H' I' q ns f => ⟨m, ns, fun h'' sb => ?_⟩
  exact ⟨.ref D, H', I'.turned (t' := s'.toks) (fun b o hb e => (sb.2 b hb).trans e) f.1 f.2.1 f.2.2.2.1 f.2.2.2.2.1 f.2.2.2.2.2, rfl, q⟩
end
end Lc
set_option Elab.async false
set_option linter.all false
set_option maxRecDepth 100000
set_option maxHeartbeats 4000000
namespace Lc
open PySem PySem.Spec PyProof.Rows L2
/-! ## sorted(s), s a set of tuples of texts and whole numbers -/
def kD : Key → PyData
  | .inl i => .int i
  | .inr x => .str x
abbrev tkD (j : List Key) : PyData := .tuple (j.map kD)
theorem kD_dh {H : Hp} : ∀ (j : List Key), DhAll H (j.map kV) (j.map kD)
  | [] => .nil
  | .inl i :: j => .cons (.int i) (kD_dh j)
  | .inr x :: j => .cons (.str x) (kD_dh j)
theorem kD_nd : ∀ (j : List Key), PyData.hasDictAll (j.map kD) = false
  | [] => rfl
  | .inl i :: j => by show PyData.hasDictAll (.int i :: _) = _; rw [PyData.hasDictAll, kD_nd j]; rfl
  | .inr x :: j => by show PyData.hasDictAll (.str x :: _) = _; rw [PyData.hasDictAll, kD_nd j]; rfl
theorem kD_dep : ∀ (j : List Key), PyData.depthAll (j.map kD) ≤ 1
  | [] => by simp [PyData.depthAll]
  | .inl i :: j => by
    have := kD_dep j
    show PyData.depthAll (.int i :: _) ≤ _
    simp only [PyData.depthAll, PyData.depth]
    omega
  | .inr x :: j => by
    have := kD_dep j
    show PyData.depthAll (.str x :: _) ≤ _
    simp only [PyData.depthAll, PyData.depth]
    omega
section
variable {P : Program} {w : World} {A : Around} {E : Value → Shared → Prop} {s : Shared}
theorem sorted_msG {a : Addr} {L : List (Addr × List Key)} {es : Array (Int × Value)} {ep : Nat} {t : SetTable} {Q : Value → Shared → Prop} (R : MsW P w s.heap a L es ep t) (hh : A.handled = none)
    (S : ∀ (s1 : Shared) (vs : List Value) (h' : Heap), (∀ b o, s.heap.get? b = some o → h'.get? b = some o) → vs.Perm (L.map fun z => Value.ref z.1) → ∃ κ : PyProof.Rows.KeyKind, PySem.W.SortsAt P w A.in1.in1 { s1 with heap := h' } κ vs ∧
      ∀ p (h'' : Heap) n, (∀ b o, s.heap.get? b = some o → h''.get? b = some o) → s.heap.objs.size ≤ p → h''.get? p = some (seqObj "list" (PySem.W.sortVals κ false vs vs).toArray n) → s1.gens = s.gens → s1.os = s.os → Q (.ref p) { s1 with heap := h'' }) :
    wpAny (model P w) A (call (.builtin "sorted") [.ref a]) Q E s := by
  obtain ⟨o, eo, ex, ed⟩ := id R.obj
  have el := ents_len R.ent
  have rom := R.room
  refine Calls.call_function_entry kind_sorted plain_sorted entry_sorted (args_sorted1 _) ?_
  unfold Builtin.«sorted»
  refine wpAny_bind (m := checkCount "sorted" 1 1 _) (wpAny_pure ?_)
  have ft : t.fits es.size = true := by
    refine tab_fits R.tab ?_ ?_
    · rw [List.length_map, el]
    · rw [el]; omega
  refine wpAny_bind (collect_set (A := A.in1) hh ⟨o, eo, ex.1, ed⟩ ft (by have := R.few; rw [el]; show L.length < 4096; omega) R.tab.ris R.led fun s1 vs k1 hz g1 o1 pm => ?_)
  have e2 : es.toList.map (·.2) = L.map fun z => Value.ref z.1 := by
    rw [R.ent]
    unfold ents
    rw [List.map_map]
    rfl
  rw [e2] at pm
  have hvl : vs.length ≤ sizeLine := by have := R.few; rw [pm.length_eq, List.length_map, sizeLine_eq]; omega
  refine wpAny_bind (wpAny_newList ?_ hvl)
  have hoL : (s1.heap.push (seqObj "list" vs.toArray 0)).get? s1.heap.objs.size = some (seqObj "list" vs.toArray 0) := Heap.get?_push_size _ rfl
  have up : ∀ b o, s.heap.get? b = some o → (PySem.W.sortingHeap (s1.heap.push (seqObj "list" vs.toArray 0)) s1.heap.objs.size vs).get? b = some o := fun b u e => by
    have q := k1 b u e
    have hlt := Heap.lt_size q
    exact PySem.W.sortingHeap_old (Nat.ne_of_lt hlt) (Heap.get?_push_of_some _ q)
  obtain ⟨κ, SS, fin⟩ := S s1 vs (PySem.W.sortingHeap (s1.heap.push (seqObj "list" vs.toArray 0)) s1.heap.objs.size vs) up pm
  refine wpAny_bind (wpAny_holding (wpAny_call_entry slot_list_sort ⟨_, hoL, rfl⟩ entry_list_sort
    (PySem.W.list_sort_vals (s := { s1 with heap := s1.heap.push (seqObj "list" vs.toArray 0) }) hoL SS hvl ⟨_, rfl, ?_⟩) (args_list_sort _)))
  obtain ⟨c, hc⟩ := sortedHeap_at (vs := vs) (out := (PySem.W.sortVals κ false vs vs).toArray) hoL
  refine wpAny_pure ⟨_, rfl, fin s1.heap.objs.size _ c (fun b u e => ?_) hz hc g1 o1⟩
  have q := k1 b u e
  have hlt := Heap.lt_size q
  rw [sortedHeap_old (Nat.ne_of_lt hlt) (by rw [size_push']; exact Nat.lt_succ_of_lt hlt)]
  exact Heap.get?_push_of_some _ q
end
section
variable {X : Cx}
def rSortM (P : Program) (w : World) : List V → Hp → VK → Prop := fun vs H Q => ∃ (a : Addr) (L : List (Addr × List Key)), vs = [.ref a] ∧ H a = some (MsO P w a L) ∧ (∀ z ∈ L, H z.1 = some (.tup (z.2.map kV))) ∧ PySem.W.AllAlike (L.map fun z => tkD z.2) ∧ (∀ z ∈ L, z.2 ≠ []) ∧
  ∀ (L2 : List (Addr × List Key)) (ys : List V) (p : Addr), L2.Perm L → ys.Perm (L.map fun z => V.ref z.1) → DhAll H ys ((L2.map fun z => tkD z.2).mergeSort dLe) → H p = none → Q (.ref p) (upd H p (.lst ys))
theorem vals_refs (L : List (Addr × List Key)) : Vals (L.map fun z => V.ref z.1) (L.map fun z => Value.ref z.1) := by
  induction L with
  | nil => exact .nil
  | cons z L ih => exact .cons rfl ih
theorem dh_refs {H : Hp} : ∀ {L : List (Addr × List Key)}, (∀ z ∈ L, H z.1 = some (.tup (z.2.map kV))) → DhAll H (L.map fun z => V.ref z.1) (L.map fun z => tkD z.2)
  | [], _ => .nil
  | z :: L, h => .cons (.tup (h z List.mem_cons_self) (kD_dh _)) (dh_refs fun y hy => h y (List.mem_cons_of_mem _ hy))
theorem map_perm_lift {α β : Type} (f : α → β) : ∀ {vs : List β} {L : List α}, vs.Perm (L.map f) → ∃ L2 : List α, L2.Perm L ∧ vs = L2.map f := by
  intro vs L h
  generalize e : L.map f = us at h
  induction h generalizing L with
  | nil =>
    have : L = [] := by simpa using e
    subst this
    exact ⟨[], .nil, rfl⟩
  | @cons x l1 l2 h ih =>
    cases L with
    | nil => simp at e
    | cons y L =>
      rw [List.map_cons] at e
      obtain ⟨e1, e2⟩ := List.cons.inj e
      obtain ⟨L2, p, q⟩ := ih e2
      exact ⟨y :: L2, p.cons y, by rw [List.map_cons, e1, q]⟩
  | swap x y l =>
    cases L with
    | nil => simp at e
    | cons a L =>
      cases L with
      | nil => simp at e
      | cons b L =>
        rw [List.map_cons, List.map_cons] at e
        obtain ⟨e1, e2⟩ := List.cons.inj e
        obtain ⟨e3, e4⟩ := List.cons.inj e2
        exact ⟨b :: a :: L, .swap a b L, by rw [List.map_cons, List.map_cons, e1, e3, e4]⟩
  | trans _ _ ih1 ih2 =>
    obtain ⟨L2, p2, q2⟩ := ih2 e
    obtain ⟨L1, p1, q1⟩ := ih1 q2.symm
    exact ⟨L1, p1.trans p2, q1⟩
theorem cr_sortM (hc : X.calm = true) (hu : X.A.units + 64 < cLine) : CallR X (.builtin "sorted") (rSortM X.prog X.w) := by
  intro pins s σ H vs us Q I r h
  obtain ⟨a, L, rfl, ha, hT, al, ne, q⟩ := h
  obtain ⟨es, ep, t, R⟩ := msO_get I ha
  rw [Vals.ref1 r]
  refine sorted_msG R (I.ok.hd hc) fun s1 vs h' up pm => ?_
  obtain ⟨L2, p2, rfl⟩ := map_perm_lift (fun z : Addr × List Key => Value.ref z.1) pm
  have hT2 : ∀ z ∈ L2, H z.1 = some (.tup (z.2.map kV)) := fun z hz => hT z (p2.mem_iff.mp hz)
  have dp : ∀ d ∈ L2.map (fun z => tkD z.2), d.hasDict = false ∧ d.depth ≤ 50 := fun d hd => by
    obtain ⟨z, _, rfl⟩ := List.mem_map.mp hd
    refine ⟨by rw [PyData.hasDict]; exact kD_nd _, ?_⟩
    have := kD_dep z.2
    simp only [PyData.depth]
    omega
  have al2 : PySem.W.AllAlike (L2.map fun z => tkD z.2) := fun d hd d' hd' => al d ((p2.map _).mem_iff.mp hd) d' ((p2.map _).mem_iff.mp hd')
  have so : PySem.W.Sortable (L2.map fun z => tkD z.2) := .inl fun d hd => by
    obtain ⟨z, hz, rfl⟩ := List.mem_map.mp hd
    have n := ne z (p2.mem_iff.mp hz)
    cases e : z.2 with
    | nil => exact absurd e n
    | cons k j => exact ⟨kD k, j.map kD, rfl⟩
  have dh : DhAll H (L2.map fun z => V.ref z.1) (L2.map fun z => tkD z.2) := dh_refs hT2
  have rd : PySem.W.EachIs (fun v d => ∃ as, Reads h' v d as) (L2.map fun z => Value.ref z.1) (L2.map fun z => tkD z.2) :=
    each_mono' (fun v d ⟨as, r⟩ => ⟨as, Reads.keeps up r⟩) (dh_readsAll I (vals_refs L2) dh dp)
  have SS := PySem.W.SortsAt.data (prog := X.prog) (w := X.w) (A := X.A.in1.in1) (s := { s1 with heap := h' }) rd al2 so fun d hm => by
    have := (dp d hm).2
    show X.A.units + 1 + 1 + d.depth < cLine
    omega
  refine ⟨_, SS, fun p h'' n up2 hp hg g1 o1 => ?_⟩
  have eb : (L2.map fun z => V.ref z.1) = (L2.map fun z => Value.ref z.1).map backV := by
    rw [List.map_map]
    rfl
  have e3 : PySem.W.EachIs (fun (v : Value) d => Dh H (backV v) d) (PySem.W.sortVals (PySem.W.dataKind h' (L2.map fun z => tkD z.2)) false (L2.map fun z => Value.ref z.1) (L2.map fun z => Value.ref z.1)) ((L2.map fun z => tkD z.2).mergeSort dLe) :=
    PySem.W.sortVals_each (κ := PySem.W.dataKind h' (L2.map fun z => tkD z.2)) (rev := false) (fun d : PyData => PySem.W.keyToks d) (dh_each (by rw [← eb]; exact dh)) (PySem.W.each_keys al2 rd)
  have pm3 : (PySem.W.sortVals (PySem.W.dataKind h' (L2.map fun z => tkD z.2)) false (L2.map fun z => Value.ref z.1) (L2.map fun z => Value.ref z.1)).Perm (L2.map fun z => Value.ref z.1) := by
    unfold PySem.W.sortVals
    generalize (L2.map fun z => Value.ref z.1) = its
    have z := (List.mergeSort_perm (its.zip its) (PySem.W.sortLe (PySem.W.dataKind h' (L2.map fun z => tkD z.2)).toKeyOrd false fun p : Keyed => PySem.W.keyD (PySem.W.dataKind h' (L2.map fun z => tkD z.2)) p.1)).map Prod.snd
    rw [List.map_snd_zip (Nat.le_refl _)] at z
    exact z
  generalize PySem.W.sortVals (PySem.W.dataKind h' (L2.map fun z => tkD z.2)) false (L2.map fun z => Value.ref z.1) (L2.map fun z => Value.ref z.1) = out at e3 pm3 hg
  have h3 : ∀ u ∈ out, ∃ a, u = Value.ref a := fun u hu => by
    obtain ⟨z, _, e⟩ := List.mem_map.mp (pm3.mem_iff.mp hu)
    exact ⟨_, e.symm⟩
  have py : (out.map backV).Perm (L.map fun z => V.ref z.1) := by
    have q1 := pm3.map backV
    rw [← eb] at q1
    exact q1.trans (p2.map _)
  have hn : H p = none := I.hok.fresh hp
  have hl : (out.map backV).length ≤ sizeLine := by
    have := R.few
    rw [py.length_eq, List.length_map, sizeLine_eq]
    omega
  have J : Inv X pins σ (upd H p (.lst (out.map backV))) { s with heap := h'', gens := s1.gens, drawn := s1.drawn, toks := s1.toks } :=
    I.call (ch := []) (Un.laid up2 hp hn) (I.hok.laid up2 hp ⟨hl, out, n, vals_back h3, hg⟩) (by rw [g1]; exact I.bare) (fun _ z => nomatch z)
  have e : ({ s1 with heap := h'' } : Shared) = { s with heap := h'', gens := s1.gens, drawn := s1.drawn, toks := s1.toks } := by
    cases s1
    cases s
    cases o1
    rfl
  rw [e]
  exact ⟨.ref p, _, J, rfl, q L2 (out.map backV) p p2 py (each_dh e3) hn⟩
end
/-! ### there is one sorted order -/
theorem dLe_total (a b : PyData) : dLe a b = true ∨ dLe b a = true := (PySem.W.sortLe_total (listOrd itemOrd) false fun d : PyData => PySem.W.keyToks d).total a b
theorem dLe_trans (a b c : PyData) (h1 : dLe a b = true) (h2 : dLe b c = true) : dLe a c = true := (PySem.W.sortLe_total (listOrd itemOrd) false fun d : PyData => PySem.W.keyToks d).trans a b c h1 h2
theorem dLe_anti {a b : PyData} (h1 : dLe a b = true) (h2 : dLe b a = true) : PySem.W.keyToks a = PySem.W.keyToks b := by
  have e1 : (listOrd itemOrd).blt (PySem.W.keyToks b) (PySem.W.keyToks a) = false := by simpa [dLe, PySem.W.dataLe, PySem.W.sortLe] using h1
  have e2 : (listOrd itemOrd).blt (PySem.W.keyToks a) (PySem.W.keyToks b) = false := by simpa [dLe, PySem.W.dataLe, PySem.W.sortLe] using h2
  exact (listOrd itemOrd).total _ _ e2 e1
/-- a place: a text and a number -/
def plD (p : Str × Int) : PyData := .tuple [.str p.1, .int p.2]
theorem plD_toks (p : Str × Int) : PySem.W.keyToks (plD p) = [.inl 1, .inr p.1.cps.toList, .inl 1, .inl p.2, .inl 0] := by
  simp [plD, PySem.W.keyToks, PySem.W.keyToksAll]
theorem str_cps {x y : Str} (e : x.cps.toList = y.cps.toList) : x = y := by
  cases x
  cases y
  congr 1
  exact Array.toList_inj.mp e
theorem plD_inj {p q : Str × Int} (e : PySem.W.keyToks (plD p) = PySem.W.keyToks (plD q)) : p = q := by
  rw [plD_toks, plD_toks] at e
  simp only [List.cons.injEq, Sum.inl.injEq, Sum.inr.injEq, and_true, true_and] at e
  exact Prod.ext (str_cps e.1) e.2
theorem pl_alike (p q : Str × Int) : PySem.W.alike (plD p) (plD q) = true := rfl
theorem dLe_plD {p q : Str × Int} (h1 : dLe (plD p) (plD q) = true) (h2 : dLe (plD q) (plD p) = true) : p = q := plD_inj (dLe_anti h1 h2)
theorem srt_perm : ∀ {L1 L2 : List (Str × Int)}, L1.Perm L2 → (L1.map plD).mergeSort dLe = (L2.map plD).mergeSort dLe := by
  intro L1 L2 p
  have tot : ∀ a b : PyData, (dLe a b || dLe b a) = true := fun a b => by
    rcases dLe_total a b with h | h <;> simp [h]
  refine List.Perm.eq_of_pairwise (le := fun a b => dLe a b = true) (fun a b ha hb h1 h2 => ?_) (List.pairwise_mergeSort (le := dLe) dLe_trans tot _) (List.pairwise_mergeSort (le := dLe) dLe_trans tot _) ((List.mergeSort_perm _ _).trans ((p.map plD).trans (List.mergeSort_perm _ _).symm))
  obtain ⟨x, _, rfl⟩ := List.mem_map.mp ((List.mergeSort_perm _ _).mem_iff.mp ha)
  obtain ⟨y, _, rfl⟩ := List.mem_map.mp ((List.mergeSort_perm _ _).mem_iff.mp hb)
  exact congrArg plD (dLe_plD h1 h2)
end Lc
set_option Elab.async false
set_option linter.all false
set_option maxRecDepth 100000
set_option maxHeartbeats 4000000
namespace Lc
open PySem PySem.Spec PyProof.Rows L2
/-! ## {x for a in as for x in a} over a list of tuples: the two walks -/
theorem st_out {K : PySem.W.Frag} {a : Addr} {xs : List V} {g g1 : TG} {tt tt1 : TT} {wi1 : TI} {vs vs1 : List Nat} {σ : L2.St} {Qd : Hp → Prop} {H0 : Hp} {Put : V → Hp → (Hp → Prop) → Prop} {te : TE} (Pv : Nat → Hp → Prop) (h0 : Pv 0 H0) (hl : ∀ i H, i ≤ xs.length → Pv i H → SqL K H a xs)
    (hs : ∀ i x H, xs[i]? = some x → Pv i H → g x (wipe σ vs) H fun σ2 H2 => wipe σ2 vs = wipe σ vs ∧ tt σ2 H2 fun b H3 =>
      if b = true then wi1 σ2 H3 fun J1 H4 => ∃ W1 : Nat → Nat → Hp → Prop, (∃ m, W1 0 m H4) ∧ ∀ j k H, W1 j k H →
      (J1.stop j H ∧ Pv (i + 1) H) ∨ (J1.go j H ∧ ∃ Nx1 : Hp → Prop, (∀ H', Nx1 H' → ∃ k', k' < k ∧ W1 (j + 1) k' H') ∧ ∀ x H', J1.yld j H x H' → g1 x (wipe σ2 vs1) H' fun σ3 H5 => wipe σ3 vs1 = wipe σ2 vs1 ∧ tt1 σ3 H5 fun b H6 =>
        if b = true then te σ3 H6 fun y H7 => Put y H7 Nx1 else Nx1 H6)
      else Pv (i + 1) H3) (hd : ∀ H, Pv xs.length H → Qd H) :
    ∃ W : Nat → Nat → Hp → Prop, (∃ m, W 0 m H0) ∧ ∀ i m H, W i m H →
      ((Itl K a).stop i H ∧ Qd H) ∨ ((Itl K a).go i H ∧ ∃ Nx : Hp → Prop, (∀ H', Nx H' → ∃ m', m' < m ∧ W (i + 1) m' H') ∧ ∀ x H', (Itl K a).yld i H x H' → g x (wipe σ vs) H' fun σ2 H2 => wipe σ2 vs = wipe σ vs ∧ tt σ2 H2 fun b H3 =>
        if b = true then wi1 σ2 H3 fun J1 H4 => ∃ W1 : Nat → Nat → Hp → Prop, (∃ m, W1 0 m H4) ∧ ∀ j k H, W1 j k H →
      (J1.stop j H ∧ Nx H) ∨ (J1.go j H ∧ ∃ Nx1 : Hp → Prop, (∀ H', Nx1 H' → ∃ k', k' < k ∧ W1 (j + 1) k' H') ∧ ∀ x H', J1.yld j H x H' → g1 x (wipe σ2 vs1) H' fun σ3 H5 => wipe σ3 vs1 = wipe σ2 vs1 ∧ tt1 σ3 H5 fun b H6 =>
        if b = true then te σ3 H6 fun y H7 => Put y H7 Nx1 else Nx1 H6)
        else Nx H3) := by
  refine ⟨fun i m H => m = xs.length - i ∧ i ≤ xs.length ∧ Pv i H, ⟨xs.length, by simp, Nat.zero_le _, h0⟩, ?_⟩
  rintro i m H ⟨rfl, hi, p⟩
  have q := hl i H hi p
  by_cases hlt : i < xs.length
  · refine .inr ⟨⟨xs, xs[i], q, by simp [hlt]⟩, Pv (i + 1), fun H' p' => ⟨xs.length - (i + 1), by omega, rfl, hlt, p'⟩, fun x H' y => ?_⟩
    obtain ⟨e, y⟩ := y
    subst e
    exact hs i x _ (y xs q) p
  · have e : i = xs.length := by omega
    subst e
    exact .inl ⟨⟨xs, q, Nat.le_refl _⟩, hd H p⟩
theorem st_in {K : PySem.W.Frag} {a : Addr} {xs : List V} {g1 : TG} {tt1 : TT} {vs1 : List Nat} {σ2 : L2.St} {H4 : Hp} {Nx : Hp → Prop} {Put : V → Hp → (Hp → Prop) → Prop} {te : TE} (Pv : Nat → Hp → Prop) (h0 : Pv 0 H4) (hl : ∀ i H, i ≤ xs.length → Pv i H → SqT K H a xs)
    (hs : ∀ i x H, xs[i]? = some x → Pv i H → g1 x (wipe σ2 vs1) H fun σ3 H5 => wipe σ3 vs1 = wipe σ2 vs1 ∧ tt1 σ3 H5 fun b H6 =>
      if b = true then te σ3 H6 fun y H7 => Put y H7 (Pv (i + 1)) else Pv (i + 1) H6) (hd : ∀ H, Pv xs.length H → Nx H) :
    ∃ W1 : Nat → Nat → Hp → Prop, (∃ m, W1 0 m H4) ∧ ∀ j k H, W1 j k H →
      ((Itt K a).stop j H ∧ Nx H) ∨ ((Itt K a).go j H ∧ ∃ Nx1 : Hp → Prop, (∀ H', Nx1 H' → ∃ k', k' < k ∧ W1 (j + 1) k' H') ∧ ∀ x H', (Itt K a).yld j H x H' → g1 x (wipe σ2 vs1) H' fun σ3 H5 => wipe σ3 vs1 = wipe σ2 vs1 ∧ tt1 σ3 H5 fun b H6 =>
        if b = true then te σ3 H6 fun y H7 => Put y H7 Nx1 else Nx1 H6) := by
  refine ⟨fun i m H => m = xs.length - i ∧ i ≤ xs.length ∧ Pv i H, ⟨xs.length, by simp, Nat.zero_le _, h0⟩, ?_⟩
  rintro i m H ⟨rfl, hi, p⟩
  have q := hl i H hi p
  by_cases hlt : i < xs.length
  · refine .inr ⟨⟨xs, xs[i], q, by simp [hlt]⟩, Pv (i + 1), fun H' p' => ⟨xs.length - (i + 1), by omega, rfl, hlt, p'⟩, fun x H' y => ?_⟩
    obtain ⟨e, y⟩ := y
    subst e
    exact hs i x _ (y xs q) p
  · have e : i = xs.length := by omega
    subst e
    exact .inl ⟨⟨xs, q, Nat.le_refl _⟩, hd H p⟩
theorem tyesT {σ : L2.St} {H : Hp} {A B : Hp → Prop} (h : A H) : tYes σ H (fun b H3 => if b = true then A H3 else B H3) := iteT (A := A H) (B := B H) h
/-! ### the union of lineages -/
abbrev PlL : Type := List (Str × Int)
def plK (p : Str × Int) : List Key := [.inr p.1, .inl p.2]
theorem plK_inj {p q : Str × Int} (e : plK p = plK q) : p = q := by
  unfold plK at e
  simp only [List.cons.injEq, Sum.inr.injEq, Sum.inl.injEq, and_true] at e
  exact Prod.ext e.1 e.2
theorem plK_D (p : Str × Int) : tkD (plK p) = plD p := rfl
def srtL (l : PlL) : PlL := l.mergeSort fun a b => dLe (plD a) (plD b)
theorem srtL_map (l : PlL) : (l.map plD).mergeSort dLe = (srtL l).map plD := (List.map_mergeSort (f := plD) (s := dLe) (r := fun a b => dLe (plD a) (plD b)) fun _ _ _ _ => rfl).symm
theorem srtL_perm {l m : PlL} (h : l.Perm m) : srtL l = srtL m := by
  have e := srt_perm h
  rw [srtL_map, srtL_map] at e
  have inj : ∀ {a b : PlL}, a.map plD = b.map plD → a = b := by
    intro a
    induction a with
    | nil =>
      intro b e
      cases b with
      | nil => rfl
      | cons _ _ => cases e
    | cons x a ih =>
      intro b e
      cases b with
      | nil => cases e
      | cons y b =>
        rw [List.map_cons, List.map_cons] at e
        obtain ⟨e1, e2⟩ := List.cons.inj e
        rw [plD_inj (congrArg PySem.W.keyToks e1), ih e2]
  exact inj e
theorem srtL_mem {l : PlL} {p : Str × Int} : p ∈ srtL l ↔ p ∈ l := (List.mergeSort_perm l _).mem_iff
theorem srtL_nd {l : PlL} (h : l.Nodup) : (srtL l).Nodup := (List.mergeSort_perm l _).nodup_iff.mpr h
theorem srtL_len {l : PlL} : (srtL l).length = l.length := (List.mergeSort_perm l _).length_eq
/-- all of them, each once, as they come -/
def allL (ls : List PlL) : PlL := ls.foldl (fun acc l => acc ++ l.filter fun p => decide (p ∉ acc)) []
def unL (ls : List PlL) : PlL := srtL (allL ls)
theorem allL_snoc (ls : List PlL) (l : PlL) : allL (ls ++ [l]) = allL ls ++ l.filter fun p => decide (p ∉ allL ls) := by
  unfold allL
  rw [List.foldl_append]
  rfl
theorem snoc_ind {α : Type} {P : List α → Prop} (h0 : P []) (h1 : ∀ l x, P l → P (l ++ [x])) (l : List α) : P l := by
  have : ∀ m : List α, P m.reverse := fun m => by
    induction m with
    | nil => exact h0
    | cons x m ih => rw [List.reverse_cons]; exact h1 _ _ ih
  have := this l.reverse
  rwa [List.reverse_reverse] at this
theorem allL_mem {ls : List PlL} {p : Str × Int} : p ∈ allL ls ↔ ∃ l ∈ ls, p ∈ l := by
  induction ls using snoc_ind with
  | h0 => simp [allL]
  | h1 ls l ih =>
    rw [allL_snoc, List.mem_append, List.mem_filter]
    constructor
    · rintro (h | ⟨h1, _⟩)
      · obtain ⟨m, h1, h2⟩ := ih.mp h
        exact ⟨m, List.mem_append_left _ h1, h2⟩
      · exact ⟨l, List.mem_append_right _ List.mem_cons_self, h1⟩
    · rintro ⟨m, h1, h2⟩
      by_cases z : ∃ l ∈ ls, p ∈ l
      · exact .inl (ih.mpr z)
      · rcases List.mem_append.mp h1 with h1 | h1
        · exact .inl (ih.mpr ⟨m, h1, h2⟩)
        · rw [List.mem_singleton.mp h1] at h2
          exact .inr ⟨h2, decide_eq_true fun q => z (ih.mp q)⟩
theorem allL_nd {ls : List PlL} (h : ∀ l ∈ ls, l.Nodup) : (allL ls).Nodup := by
  induction ls using snoc_ind with
  | h0 => exact List.nodup_nil
  | h1 ls l ih =>
    rw [allL_snoc]
    refine List.nodup_append.mpr ⟨ih fun m hm => h m (List.mem_append_left _ hm), (h l (List.mem_append_right _ List.mem_cons_self)).sublist List.filter_sublist, fun a ha b hb e => ?_⟩
    subst e
    exact of_decide_eq_true (List.mem_filter.mp hb).2 ha
theorem unL_mem {ls : List PlL} {p : Str × Int} : p ∈ unL ls ↔ ∃ l ∈ ls, p ∈ l := srtL_mem.trans allL_mem
theorem unL_nd {ls : List PlL} (h : ∀ l ∈ ls, l.Nodup) : (unL ls).Nodup := srtL_nd (allL_nd h)
/-- whatever order a list without repeats comes in -/
theorem unL_any {ls : List PlL} (h : ∀ l ∈ ls, l.Nodup) {m : PlL} (nd : m.Nodup) (hm : ∀ p, p ∈ m ↔ ∃ l ∈ ls, p ∈ l) : srtL m = unL ls :=
  srtL_perm ((List.perm_ext_iff_of_nodup nd (allL_nd h)).mpr fun p => (hm p).trans allL_mem.symm)
end Lc
set_option Elab.async false
set_option linter.all false
set_option maxRecDepth 100000
set_option maxHeartbeats 4000000
namespace K19
open PySem PySem.Spec PyProof.Rows L2 Lc
/-! ## rows and lineages -/
abbrev Lin : Type := List (Str × Int)
/-- the parts that lineages have -/
def linU : Lin := (["a", "b", "aa", "z9"] : List Str).flatMap fun z => (List.range 12).map fun i : Nat => (z, Int.ofNat i)
theorem linU_len : linU.length = 48 := by decide +kernel
def partD (p : Str × Int) : PyData := .tuple [.str p.1, .int p.2]
def linD (l : Lin) : PyData := .tuple (l.map partD)
structure RowD where
  vals : List PyData
  lin : Lin
def RowD.d (r : RowD) : PyData := .tuple [.tuple r.vals, linD r.lin]
def PartOk (p : Str × Int) : Prop := Sh 12 p.1 ∧ 0 ≤ p.2 ∧ p.2 < 400 ∧ p ∈ linU
def LinOk (l : Lin) : Prop := l.Nodup ∧ ∀ p ∈ l, PartOk p
theorem LinOk.len {l : Lin} (h : LinOk l) : l.length ≤ 48 := by rw [← linU_len]; exact h.1.length_le_of_subset fun p hp => (h.2 p hp).2.2.2
/-- where the sum of a lineage stands behind some of its parts -/
def sumL (seed : Int) (l : Lin) : Int := l.foldl (fun h p => (h * 48271 + p.2 * 69621 + 11) % 2147483647) (seed + 1)
def numL (seed : Int) (l : Lin) (whole : Int) : Int := sumL seed l % whole
theorem sumL_snoc (seed : Int) (l : Lin) (p : Str × Int) : sumL seed (l ++ [p]) = (sumL seed l * 48271 + p.2 * 69621 + 11) % 2147483647 := by
  unfold sumL
  rw [List.foldl_append]
  rfl
theorem sumL_lt {seed : Int} (h0 : 0 ≤ seed) (h1 : seed ≤ 1000000000) (l : Lin) : 0 ≤ sumL seed l ∧ sumL seed l < 2147483647 := by
  rcases List.eq_nil_or_concat l with rfl | ⟨l, p, rfl⟩
  · show 0 ≤ seed + 1 ∧ seed + 1 < 2147483647
    omega
  · rw [List.concat_eq_append, sumL_snoc]
    exact ⟨Int.emod_nonneg _ (by decide), Int.emod_lt_of_pos _ (by decide)⟩
theorem lin_get {H : Hp} {xs : List V} {l : Lin} {i : Nat} {x : V} (h : DhAll H xs (l.map partD)) (e : xs[i]? = some x) : ∃ p a, l[i]? = some p ∧ x = .ref a ∧ H a = some (.tup [.str p.1, .int p.2]) := by
  obtain ⟨d, e1, e2⟩ := h.get i x e
  rw [List.getElem?_map] at e1
  cases q : l[i]? with
  | none => rw [q] at e1; cases e1
  | some p =>
    rw [q] at e1
    cases e1
    cases e2 with
    | tup ea hs =>
      cases hs with
      | cons h1 r1 =>
        cases r1 with
        | cons h2 r2 =>
          cases r2
          cases h1
          cases h2
          exact ⟨p, _, rfl, rfl, ea⟩
def spNum : Sp := fun vs H Q _ => ∃ (seed whole : Int) (v : V) (l : Lin), vs = [.int seed, v, .int whole] ∧ Dh H v (linD l) ∧ LinOk l ∧ 0 ≤ seed ∧ seed ≤ 1000000000 ∧ 0 < whole ∧ Q (.int (numL seed l whole)) H
/-- data of parts -/
theorem parts_of : ∀ {es : List PyData}, (∀ e ∈ es, ∃ p, PartOk p ∧ e = partD p) → ∃ l : Lin, es = l.map partD ∧ ∀ p ∈ l, PartOk p
  | [], _ => ⟨[], rfl, nofun⟩
  | e :: es, h => by
    obtain ⟨l, e1, e2⟩ := parts_of (es := es) fun x hx => h x (List.mem_cons_of_mem _ hx)
    obtain ⟨p, h1, h2⟩ := h e List.mem_cons_self
    exact ⟨p :: l, by rw [List.map_cons, e1, h2], fun q hq => by
      rcases List.mem_cons.mp hq with rfl | hq
      · exact h1
      · exact e2 q hq⟩
theorem part_tm {p : Str × Int} (h : PartOk p) : Tm 1 40100 (partD p) := by
  have h1 : Tm 0 20000 (.str p.1) := tm_fl (v := .str p.1) (fl_str h.1 (by decide))
  have h2 : Tm 0 20000 (.int p.2) := tm_fl (v := .int p.2) (fl_int (by
    have := h.2
    exact Nat.lt_of_lt_of_le (show p.2.natAbs < 2 ^ 10 by omega) (Nat.pow_le_pow_right (by decide) (by decide))))
  have := tm_tup (k := 0) (n := 20000) (ds := [.str p.1, .int p.2]) fun d hd => by
    simp only [List.mem_cons, List.not_mem_nil, or_false] at hd
    rcases hd with rfl | rfl
    · exact h1
    · exact h2
  exact this.mono (Nat.le_refl _) (by show 20000 * 2 + 2 * 2 + 4 ≤ 40100; decide)
theorem hu65 {A : Around} {k : Nat} (hr : Room k A) : A.units + 65 < cLine := by
  have := hr.un
  omega
theorem can_strL {x : Str} (h : ∀ c ∈ x.cps.toList, c < 1114112) : (PyData.str x).canLay0 = true := by
  unfold PyData.canLay0
  show x.cps.all (· < 1114112) = true
  rw [← Array.all_toList, List.all_eq_true]
  intro c hc
  exact decide_eq_true (h c hc)
theorem part_lay {p : Str × Int} (h : PartOk p) : (partD p).canLay0 = true ∧ (partD p).depth = 1 := by
  have c := can_strL h.1.ok
  unfold partD
  refine ⟨?_, by simp [PyData.depth, PyData.depthAll]⟩
  rw [PyData.canLay0, PyData.canLayAll0, c, PyData.canLayAll0, PyData.canLayAll0]
  rfl
theorem parts_lay {l : Lin} (h : ∀ p ∈ l, PartOk p) : PyData.canLayAll0 (l.map partD) = true ∧ PyData.depthAll (l.map partD) ≤ 1 := by
  induction l with
  | nil => exact ⟨rfl, by decide⟩
  | cons p l ih =>
    have ih := ih fun q hq => h q (List.mem_cons_of_mem _ hq)
    have hp := part_lay (h p List.mem_cons_self)
    refine ⟨?_, ?_⟩
    · rw [List.map_cons, PyData.canLayAll0, hp.1, ih.1]
      rfl
    · rw [List.map_cons, PyData.depthAll, hp.2]
      omega
theorem parts_shp {l : Lin} (h : ∀ p ∈ l, PartOk p) : SeqAt.shaped (.list (l.map partD)) = true := by
  unfold SeqAt.shaped
  rw [PyData.canLay0, (parts_lay h).1, Bool.true_and]
  refine decide_eq_true ?_
  rw [PyData.depth]
  have := (parts_lay h).2
  omega
theorem part_shp {p : Str × Int} (h : PartOk p) : SeqAt.shaped (partD p) = true := by
  unfold SeqAt.shaped
  rw [(part_lay h).1, (part_lay h).2]
  rfl
theorem parts_dh {H : Hp} {xs : List V} {l : Lin} (h : DhAll H xs (l.map partD)) : ∀ x ∈ xs, ∃ b, x = V.ref b := fun x hx => by
  obtain ⟨i, hi⟩ := List.getElem?_of_mem hx
  obtain ⟨p, a, _, e, _⟩ := lin_get h hi
  exact ⟨a, e⟩
theorem parts_alike (l : Lin) : PySem.W.AllAlike (l.map partD) ∧ PySem.W.Sortable (l.map partD) ∧ ∀ d ∈ l.map partD, d.hasDict = false ∧ d.depth ≤ 50 := by
  refine ⟨fun d hd e he => ?_, .inl fun d hd => ?_, fun d hd => ?_⟩
  · obtain ⟨p, _, rfl⟩ := List.mem_map.mp hd
    obtain ⟨q, _, rfl⟩ := List.mem_map.mp he
    rfl
  · obtain ⟨p, _, rfl⟩ := List.mem_map.mp hd
    exact ⟨_, _, rfl⟩
  · obtain ⟨p, _, rfl⟩ := List.mem_map.mp hd
    exact ⟨by simp [partD, PyData.hasDict, PyData.hasDictAll], by simp [partD, PyData.depth, PyData.depthAll]⟩
theorem lin_mem {z : Str} {q : Int} (mz : z ∈ (["a", "b", "aa", "z9"] : List Str)) (h0 : 0 ≤ q) (h1 : q < 12) : (z, q) ∈ linU := by
  unfold linU
  refine List.mem_flatMap.mpr ⟨z, mz, List.mem_map.mpr ⟨q.toNat, List.mem_range.mpr (by omega), ?_⟩⟩
  rw [show Int.ofNat q.toNat = q from Int.toNat_of_nonneg h0]
theorem eqv_part (a b : Str × Int) : PyData.eqv (partD a) (partD b) = decide (a = b) := by
  obtain ⟨a1, a2⟩ := a
  obtain ⟨b1, b2⟩ := b
  show PyData.eqv (.tuple [.str a1, .int a2]) (.tuple [.str b1, .int b2]) = _
  simp only [PyData.eqv, PyData.eqvAll, Bool.and_true]
  by_cases h1 : a1 = b1
  · by_cases h2 : a2 = b2
    · subst h1; subst h2
      simp
    · have : (a2 == b2) = false := beq_eq_false_iff_ne.mpr h2
      rw [this]
      simp [h2]
  · have : (a1 == b1) = false := beq_eq_false_iff_ne.mpr h1
    rw [this]
    simp [h1]
theorem any_part (l : Lin) (p : Str × Int) : ((l.map partD).any fun z => PyData.eqv z (partD p)) = decide (p ∈ l) := by
  rw [List.any_map]
  by_cases h : p ∈ l
  · rw [decide_eq_true h]
    exact List.any_eq_true.mpr ⟨p, h, by show PyData.eqv (partD p) (partD p) = true; rw [eqv_part]; exact decide_eq_true rfl⟩
  · rw [decide_eq_false h]
    refine List.any_eq_false.mpr fun q hq => ?_
    show ¬ PyData.eqv (partD q) (partD p) = true
    rw [eqv_part]
    simpa using fun e => h (by rw [← e]; exact hq)
theorem part_new {l : Lin} {p : Str × Int} (h : (!(l.map partD).any fun z => PyData.eqv z (partD p)) = true) (nd : l.Nodup) : (l ++ [p]).Nodup := by
  rw [any_part] at h
  have h : p ∉ l := by simpa using h
  exact List.nodup_append.mpr ⟨nd, List.nodup_cons.mpr ⟨nofun, List.nodup_nil⟩, fun a ha b hb e => h (by rw [← List.mem_singleton.mp hb, ← e]; exact ha)⟩
theorem partD_inj {a b : Str × Int} (e : partD a = partD b) : a = b := plD_inj (congrArg PySem.W.keyToks e)
theorem map_partD_inj : ∀ {a b : Lin}, a.map partD = b.map partD → a = b
  | [], [], _ => rfl
  | [], _ :: _, e => by cases e
  | _ :: _, [], e => by cases e
  | x :: a, y :: b, e => by
    rw [List.map_cons, List.map_cons] at e
    obtain ⟨e1, e2⟩ := List.cons.inj e
    rw [partD_inj e1, map_partD_inj e2]
/-- a drawn lineage -/
def spFar : Sp := fun vs H Q _ => ∃ (t c : Addr), vs = [.ref t] ∧ TapeL c H t ∧ ∀ (v : V) (l : Lin) (H' : Hp), Dh H' v (linD l) → LinOk l → TapeL c H' t → SameB t H H' → Q v H'
section
variable {P : Program} {w : World} {K : PySem.W.Frag} {mg : Str → Option Value} {base : Heap} {f : Addr} {fd : FuncData}
abbrev sFar : Stmt := top 134
abbrev nFar : List Str := ["_law_tape_here", "_law_found", "_law_k", "_law_part"]
abbrev pFar : List Str := ["_law_tape_here"]
theorem scFar : FnScope nFar pFar (defScope sFar) := ⟨rfl, rfl, rfl, by decide +kernel, rfl, by decide +kernel, by decide +kernel⟩
section
variable {fA_ : Addr} {fdA_ : FuncData}
theorem ok_Far (F : Fun K "_law_lineage" "_law_lineage" sFar f fd) (T : Bt mg) (mS : mg "sorted" = none)
    (GA_ : FnOk P w K mg base CX0 1 fA_ fdA_ ["_law_tape_here", "_law_many"] (spDrawL)) (mA_ : mg "_law_draw" = some (.ref fA_)) (kA_ : PySem.W.keepIn K (.ref fA_) = true) (bA_ : Binds K fdA_ ["_law_tape_here", "_law_many"] []) : FnOk P w K mg base CX0 2 f fd pFar (spFar) := by
  refine F.ok scFar (fun vs H Q E h => ?_) (fun cdv A outer s H vs Q E hr h => ?_)
  · obtain ⟨t, c, rfl, _⟩ := h
    rfl
  · obtain ⟨t, c, rfl, hT, k⟩ := h
    have hrA_ : Room (1) _ := hr.mono (by first | decide | omega)
    refine ⟨_, (pss_cons (ps_set (i := 1) scFar.nd rfl (Or.inl rfl) (pe_lst pa_nil))
      (pss_cons (ps_for PassesOwn.never rfl (pi_range1 (by rfl) T.range (pa_cons (pe_call GA_ hrA_ (by rfl) mA_ kA_ bA_ .nil pass0 (pa_cons (pv 0) (pa_cons pe_int pa_nil))) pa_nil)) (pg_name (i := 2) scFar.nd rfl (.inl rfl)) (pss_cons (ps_set (i := 3) scFar.nd rfl (Or.inl rfl) (pe_tup (pa_cons (pe_ix ix_list (pe_lst (pa_cons pe_str (pa_cons pe_str (pa_cons pe_str (pa_cons pe_str pa_nil))))) (pe_call GA_ hrA_ (by rfl) mA_ kA_ bA_ .nil pass0 (pa_cons (pv 0) (pa_cons pe_int pa_nil))) (fun _ _ => rfl)) (pa_cons (pe_call GA_ hrA_ (by rfl) mA_ kA_ bA_ .nil pass0 (pa_cons (pv 0) (pa_cons pe_int pa_nil))) pa_nil))))
      (pss_one (ps_if (pt_cmpR (op_notInD (hu65 hr)) (pv 3) (pv 1) (by rfl)) (pss_one (ps_expr (pe_bm PySem.F.plainAttrs_list PySem.F.slot_list_append PySem.F.type_list_append mt_append (pv 1) (pa_cons (pv 3) pa_nil)))) pss_nil))))
      (pss_one (ps_ret (pe_callTy call_tuple_of (by rfl) T.tuple boot_tuple (pa_cons (pe_callB (call_sortedDt hr.units) (by rfl) mS (by decide +kernel) (pa_cons (pv 1) pa_nil)) pa_nil)))))), ?_⟩
    have two : 2 ≤ sizeLine := by decide
    have four : 4 ≤ sizeLine := by decide
    refine ⟨by show 0 ≤ sizeLine; decide, fun L hL => ?_⟩
    have zL := Same.upd (o := .lst []) hL
    have eL : upd H L (.lst []) L = some (.lst []) := upd_same
    have nt : L ≠ t := hT.tape.ne hL
    have nc : L ≠ c := by
      obtain ⟨xs, e⟩ := hT.list
      exact (ne_of_none e hL).symm
    have T1 := hT.same zL
    generalize upd H L (.lst []) = H1 at zL eL T1 ⊢
    refine ⟨_, rfl, t, c, _, rfl, T1, by decide, big1000 (by decide) (by decide), fun m H2 m0 m5 T2 S2 => ⟨m, rfl, by omega, by omega, for_range (n := m.toNat) (fun i σ H' => (∃ x2 x3 : Option V, σ = [some (.ref t), some (.ref L), x2, x3]) ∧ (∃ (xs : List V) (l : Lin), H' L = some (.lst xs) ∧ DhAll H' xs (l.map partD) ∧ l.length ≤ i ∧ LinOk l) ∧ TapeL c H' t ∧ SameB t H H') ⟨⟨_, _, rfl⟩, ⟨[], [], S2 _ _ nt eL, .nil, Nat.le_refl _, List.nodup_nil, nofun⟩, T2, (Same.b t zL).trans S2⟩ ?_ ?_⟩⟩
    · rintro i σ H3 hi ⟨⟨x2, x3, rfl⟩, ⟨xs, l, e3, d3, ll, ok⟩, T3, S3⟩
      refine ⟨four, fun Y hY => ?_⟩
      have zY := Same.upd (o := .lst [.str "a", .str "b", .str "aa", .str "z9"]) hY
      have nY := T3.tape.ne hY
      refine ⟨_, rfl, t, c, _, rfl, T3.same zY, by decide, big1000 (by decide) (by decide), fun j H4 j0 j4 T4 S4 => ?_⟩
      have all : ∀ v ∈ ([.str "a", .str "b", .str "aa", .str "z9"] : List V), ∃ z : Str, v = .str z ∧ Sh 12 z ∧ z ∈ (["a", "b", "aa", "z9"] : List Str) := by
        intro v hv
        simp only [List.mem_cons, List.not_mem_nil, or_false] at hv
        rcases hv with rfl | rfl | rfl | rfl <;> exact ⟨_, rfl, ⟨by decide +kernel, by decide +kernel⟩, by decide +kernel⟩
      have hj : j.toNat < ([.str "a", .str "b", .str "aa", .str "z9"] : List V).length := by show j.toNat < 4; omega
      obtain ⟨z, ez, sz, mz⟩ := all _ (List.getElem_mem hj)
      refine ⟨Y, _, _, _, rfl, rfl, SqL.of (S4 _ _ nY upd_same), at_of (j := j.toNat) (by omega) ((List.getElem?_eq_getElem hj).trans (congrArg some ez)), ?_⟩
      refine ⟨_, rfl, t, c, _, rfl, T4, by decide, big1000 (by decide) (by decide), fun q H5 q0 q4 T5 S5 => ⟨two, fun p hp => ?_⟩⟩
      have S35 : SameB t H3 H5 := ((Same.b t zY).trans S4).trans S5
      have zp := Same.upd (o := .tup [.str z, .int q]) hp
      have ep : upd H5 p (.tup [.str z, .int q]) p = some (.tup [.str z, .int q]) := upd_same
      have e6 := zp _ _ (S35 _ _ nt e3)
      have T6 := T5.same zp
      have S6 : SameB t H3 (upd H5 p (.tup [.str z, .int q])) := S35.trans (Same.b t zp)
      have nl : ∀ l : Lin, noLs (l.map partD) = true := fun l => noLs_all.mpr fun d hd => by
        obtain ⟨_, _, rfl⟩ := List.mem_map.mp hd
        rfl
      have d6 := DhAll.t (SameT.b T3.tape S6) d3 (nl l)
      have hp0 : H p = none := S3.free T3.tape (S35.free T5.tape hp)
      generalize upd H5 p (.tup [.str z, .int q]) = H6 at ep e6 T6 S6 d6 ⊢
      have pok : PartOk (z, q) := ⟨sz, q0, by show q < 400; omega, lin_mem mz q0 q4⟩
      have dp : Dh H6 (.ref p) (partD (z, q)) := .tup ep (.cons (.str _) (.cons (.int _) .nil))
      have nd1 : (partD (z, q)).hasDict = false := PyData.hasDict_of_canLay _ (part_lay pok).1
      have nd2 : (PyData.list (l.map partD)).hasDict = false := PyData.hasDict_of_canLay _ (SeqAt.canLay_of_shaped (parts_shp ok.2))
      refine ⟨_, rfl, _, rfl, partD (z, q), l.map partD, dp.dp nd1, (Dh.lst e6 d6).dp nd2, part_shp pok, parts_shp ok.2, _, rfl, ite2 (fun nq => ?_) (fun _ => ⟨⟨_, _, rfl⟩, ⟨xs, l, e6, d6, by omega, ok⟩, T6, S3.trans S6⟩)⟩
      have lx := d6.len
      rw [List.length_map] at lx
      refine ⟨_, rfl, .inl ⟨rfl, _, SqL.of e6⟩, _, rfl, L, _, _, rfl, rfl, e6, Nat.lt_of_le_of_lt (show xs.length ≤ 5 by omega) (by decide), ⟨⟨_, _, rfl⟩, ⟨xs ++ [.ref p], l ++ [(z, q)], upd_same, ?_, by rw [List.length_append]; show l.length + 1 ≤ i + 1; omega, part_new nq ok.1, fun r hr => ?_⟩, T6.upd nt nc, fun b o n e => by rw [upd_ne (ne_of_none e hL)]; exact (S3.trans S6) b o n e⟩⟩
      · rw [List.map_append]
        exact DhAll.append (DhAll.t (SameT.lst e6) d6 (nl l)) (.cons (dp.t (SameT.lst e6) rfl) .nil)
      · rcases List.mem_append.mp hr with hr | hr
        · exact ok.2 r hr
        · rw [List.mem_singleton.mp hr]
          exact pok
    · rintro σ H3 ⟨⟨x2, x3, rfl⟩, ⟨xs, l, e3, d3, ll, ok⟩, T3, S3⟩
      obtain ⟨al, so, dp⟩ := parts_alike l
      refine ⟨_, rfl, L, xs, l.map partD, rfl, SqL.of e3, parts_dh d3, d3, al, so, dp, fun ys p pm dy hp => ?_⟩
      have zp := Same.upd (o := .lst ys) hp
      refine ⟨p, ys, rfl, .inl ⟨SqL.of upd_same, fun r hr => ?_⟩⟩
      have zr := Same.upd (o := .tup ys) hr
      have pm2 := List.mergeSort_perm (l.map partD) dLe
      obtain ⟨l', e', ok'⟩ := parts_of (es := (l.map partD).mergeSort dLe) fun e he => by
        obtain ⟨q, hq, rfl⟩ := List.mem_map.mp (pm2.mem_iff.mp he)
        exact ⟨q, ok.2 q hq, rfl⟩
      have nd' : l'.Nodup := by
        have e2 : l' = srtL l := map_partD_inj (by rw [← e']; exact srtL_map l)
        rw [e2]
        exact srtL_nd ok.1
      exact k _ l' _ (.tup upd_same (by rw [← e']; exact (DhAll.same (zp.trans zr) dy))) ⟨nd', ok'⟩ (T3.same (zp.trans zr)) (S3.trans (Same.b t (zp.trans zr)))
end
end
end K19
set_option Elab.async false
set_option linter.all false
set_option maxRecDepth 100000
set_option maxHeartbeats 4000000
namespace K19
open PySem PySem.Spec PyProof.Rows L2 Lc
/-! ## tables -/
abbrev sTI : Stmt := inClass (top 58) 0
abbrev sTC : Stmt := inClass (top 58) 1
abbrev sTR : Stmt := inClass (top 58) 2
structure TbF (K : PySem.W.Frag) (mg : Str → Option Value) (C fI : Addr) : Prop where
  mkC : Mk K C fI
  cls : Cls K C
  a1 : NoAttr K C "shape"
  a2 : NoAttr K C "body"
  gC : mg "Table" = some (.ref C)
abbrev RowsL : Type := List (V × RowD)
def fsT (cv bv : Addr) : List (Str × V) := [("shape", .ref cv), ("body", .ref bv)]
def RowsAt (H : Hp) (rs : RowsL) : Prop := ∀ r ∈ rs, Dh H r.1 r.2.d
def RowsOk (rs : RowsL) : Prop := ∀ r ∈ rs, noLs r.2.vals = true ∧ LinOk r.2.lin
def IsTb (C : Addr) (H : Hp) (a cv : Addr) (rs : RowsL) : Prop := ∃ dx bv, H a = some (.ins C dx (fsT cv bv)) ∧ H bv = some (.tup (rs.map (·.1))) ∧ RowsAt H rs
theorem lin_noL (l : Lin) : noL (linD l) = true := by
  unfold linD
  rw [noL]
  refine noLs_all.mpr fun d hd => ?_
  obtain ⟨p, _, rfl⟩ := List.mem_map.mp hd
  rfl
theorem row_noL {r : RowD} (h : noLs r.vals = true) : noL r.d = true := by
  unfold RowD.d
  rw [noL, noLs, noL, h, noLs, lin_noL, noLs]
  rfl
theorem RowsAt.t {H H' : Hp} {rs : RowsL} (h : RowsAt H rs) (s : SameT H H') (o : RowsOk rs) : RowsAt H' rs := fun r hr => (h r hr).t s (row_noL (o r hr).1)
theorem RowsAt.same {H H' : Hp} {rs : RowsL} (h : RowsAt H rs) (s : Same H H') : RowsAt H' rs := fun r hr => (h r hr).same s
theorem IsTb.same {C : Addr} {H H' : Hp} {a cv : Addr} {rs : RowsL} (h : IsTb C H a cv rs) (s : Same H H') : IsTb C H' a cv rs := by
  obtain ⟨dx, bv, h1, h2, h3⟩ := h
  exact ⟨dx, bv, s _ _ h1, s _ _ h2, h3.same s⟩
/-- the tape alone changes -/
theorem IsTb.b {C t : Addr} {H H' : Hp} {a cv : Addr} {rs : RowsL} (h : IsTb C H a cv rs) (T : Tape H t) (s : SameB t H H') (o : RowsOk rs) : IsTb C H' a cv rs := by
  obtain ⟨dx, bv, h1, h2, h3⟩ := h
  obtain ⟨_, _, _, _, _, q, _⟩ := id T
  exact ⟨dx, bv, s _ _ (ne_of h1 q nofun) h1, SameT.b T s _ _ h2, h3.t (SameT.b T s) o⟩
theorem IsTb.upd {C : Addr} {H : Hp} {a cv b : Addr} {rs : RowsL} {u o : HO} (h : IsTb C H a cv rs) (hb : H b = some u) (nu : (∀ xs, u ≠ .tup xs) ∧ ∀ c d f, u ≠ .ins c d f) (ok : RowsOk rs) : IsTb C (upd H b o) a cv rs := by
  obtain ⟨dx, bv, h1, h2, h3⟩ := h
  have st : SameT H (L2.upd H b o) := fun x xs e => by rw [upd_ne (ne_of e hb fun z => nu.1 _ z.symm)]; exact e
  exact ⟨dx, bv, by rw [upd_ne (ne_of h1 hb fun z => nu.2 _ _ _ z.symm)]; exact h1, st _ _ h2, h3.t st ok⟩
def spTI (C : Addr) : Sp := fun vs H Q _ => ∃ (a dx cv R : Addr) (rs : RowsL), vs = [.ref a, .ref cv, .ref R] ∧ H a = some (.ins C dx []) ∧ (H R = some (.lst (rs.map (·.1))) ∨ H R = some (.tup (rs.map (·.1)))) ∧ RowsAt H rs ∧ RowsOk rs ∧
  ∀ H', SameB a H H' → IsTb C H' a cv rs → Q .non H'
def spTC (C : Addr) : Sp := fun vs H Q _ => ∃ (a cv : Addr) (rs : RowsL), vs = [.ref a] ∧ IsTb C H a cv rs ∧ Q (.ref cv) H
def spTR (C : Addr) : Sp := fun vs H Q _ => ∃ (a cv : Addr) (rs : RowsL), vs = [.ref a] ∧ IsTb C H a cv rs ∧ ∀ l, H l = none → Q (.ref l) (upd H l (.lst (rs.map (·.1))))
structure TbM (P : Program) (w : World) (K : PySem.W.Frag) (mg : Str → Option Value) (base : Heap) (C : Addr) : Prop where
  i : ∃ fI fdI, TbF K mg C fI ∧ FnOk P w K mg base CX0 1 fI fdI ["self", "columns", "rows"] (spTI C) ∧ Binds K fdI ["self", "columns", "rows"] []
  c : ∃ fC fdC, Meth K C "columns" fC ∧ FnOk P w K mg base CX0 1 fC fdC ["self"] (spTC C) ∧ Binds K fdC ["self"] []
  r : ∃ fR fdR, Meth K C "rows" fR ∧ FnOk P w K mg base CX0 1 fR fdR ["self"] (spTR C) ∧ Binds K fdR ["self"] []
theorem mk_tb {C cv R : Addr} {rs : RowsL} {H : Hp} {Q : Addr → Hp → Prop} {E : XK} (hR : H R = some (.lst (rs.map (·.1))) ∨ H R = some (.tup (rs.map (·.1)))) (ha : RowsAt H rs) (o : RowsOk rs)
    (k : ∀ (a : Addr) (H' : Hp), Same H H' → H a = none → IsTb C H' a cv rs → Q a H') :
    ∀ x dx, H x = none → H dx = none → dx ≠ x → spTI C [.ref x, .ref cv, .ref R] (L2.upd (L2.upd H dx (.own x)) x (.ins C dx [])) (fun v H2 => v = .non ∧ Q x H2) E := by
  intro x ex hx hex hne
  have s1 : Same H (L2.upd (L2.upd H ex (.own x)) x (.ins C ex [])) := fun b o' e => by
    rw [upd_ne (ne_of_none e hx), upd_ne (ne_of_none e hex)]
    exact e
  exact ⟨x, ex, cv, R, rs, rfl, upd_same, hR.imp (s1 _ _) (s1 _ _), ha.same s1, o, fun H1 b1 hI1 => ⟨rfl, k x H1 (fun b o' e => b1 b o' (ne_of_none e hx) (s1 b o' e)) hx hI1⟩⟩
section
variable {P : Program} {w : World} {K : PySem.W.Frag} {mg : Str → Option Value} {base : Heap} {f C fI : Addr} {fd : FuncData}
theorem scTI : FnScope ["self", "columns", "rows"] ["self", "columns", "rows"] (defScope sTI) := ⟨rfl, rfl, rfl, by decide +kernel, rfl, by decide +kernel, by decide +kernel⟩
theorem ok_ti (F : Fun K "__init__" "Table.__init__" sTI f fd) (T : Bt mg) (G : TbF K mg C fI) : FnOk P w K mg base CX0 1 f fd ["self", "columns", "rows"] (spTI C) := by
  refine F.ok scTI (fun vs H Q E h => ?_) (fun cdv A outer s H vs Q E hr h => ?_)
  · obtain ⟨a, dx, cv, R, rs, rfl, _⟩ := h
    rfl
  · obtain ⟨a, dx, cv, R, rs, rfl, ha, hR, hrs, o, k⟩ := h
    refine ⟨_, pss_cons (ps_fld (pv 0) (pv 1) (by rfl)) (pss_one (ps_fld (pv 0) (pe_callTy call_tuple_of (by rfl) T.tuple boot_tuple (pa_cons (pv 2) pa_nil)) (by rfl))), ?_⟩
    refine ⟨_, rfl, _, rfl, a, C, dx, _, rfl, ha, G.cls, G.a1, by decide, ?_⟩
    have nR : R ≠ a := by rcases hR with e | e <;> exact ne_of e ha nofun
    have b1 : SameB a H (L2.upd H a (.ins C dx (putF "shape" (.ref cv) []))) := SameB.upd
    have e1 : L2.upd H a (.ins C dx (putF "shape" (.ref cv) [])) a = some (.ins C dx [("shape", .ref cv)]) := upd_same
    have st1 : SameT H (L2.upd H a (.ins C dx (putF "shape" (.ref cv) []))) := SameT.at ha (fun xs => nofun) b1
    dsimp only
    generalize L2.upd H a (.ins C dx (putF "shape" (.ref cv) [])) = H1 at b1 e1 st1 ⊢
    have fin : ∀ (bv : Addr) (H2 : Hp), SameB a H H2 → H2 a = some (.ins C dx [("shape", .ref cv)]) → H2 bv = some (.tup (rs.map (·.1))) → RowsAt H2 rs → ∃ a' C' dx' fs, V.ref a = V.ref a' ∧ H2 a' = some (.ins C' dx' fs) ∧ Cls K C' ∧ NoAttr K C' "body" ∧ fs.length < 1000 ∧ Q .non (L2.upd H2 a' (.ins C' dx' (putF "body" (.ref bv) fs))) := fun bv H2 b2 e2 e3 r2 => by
      refine ⟨a, C, dx, _, rfl, e2, G.cls, G.a2, by show 1 < 1000; decide, ?_⟩
      have b3 : SameB a H2 (L2.upd H2 a (.ins C dx (fsT cv bv))) := SameB.upd
      have st3 : SameT H2 (L2.upd H2 a (.ins C dx (fsT cv bv))) := SameT.at e2 (fun xs => nofun) b3
      exact k _ (b2.trans b3) ⟨dx, bv, upd_same, st3 _ _ e3, r2.t st3 o⟩
    rcases hR with hR | hR
    · refine ⟨_, rfl, R, _, rfl, .inl ⟨SqL.of (b1 _ _ nR hR), fun l hl => ⟨_, rfl, ?_⟩⟩⟩
      have zl := Same.upd (o := .tup (rs.map (·.1))) hl
      exact fin l _ (b1.trans (Same.b a zl)) (zl _ _ e1) upd_same ((hrs.t st1 o).same zl)
    · exact ⟨_, rfl, R, _, rfl, .inr ⟨SqT.of (b1 _ _ nR hR), ⟨_, rfl, fin R _ b1 e1 (b1 _ _ nR hR) (hrs.t st1 o)⟩⟩⟩
theorem scTC : FnScope ["self"] ["self"] (defScope sTC) := ⟨rfl, rfl, rfl, by decide +kernel, rfl, by decide +kernel, by decide +kernel⟩
theorem ok_tc (F : Fun K "columns" "Table.columns" sTC f fd) (G : TbF K mg C fI) : FnOk P w K mg base CX0 1 f fd ["self"] (spTC C) := by
  refine F.ok scTC (fun vs H Q E h => ?_) (fun cdv A outer s H vs Q E hr h => ?_)
  · obtain ⟨a, cv, rs, rfl, _⟩ := h
    rfl
  · obtain ⟨a, cv, rs, rfl, ⟨dx, bv, h1, h2, h3⟩, k⟩ := h
    exact ⟨_, pss_one (ps_ret (pe_fld (pv 0) (by rfl))), ⟨_, rfl, a, C, dx, _, _, rfl, h1, G.cls, G.a1, rfl, k⟩⟩
theorem scTR : FnScope ["self"] ["self"] (defScope sTR) := ⟨rfl, rfl, rfl, by decide +kernel, rfl, by decide +kernel, by decide +kernel⟩
theorem ok_tr (F : Fun K "rows" "Table.rows" sTR f fd) (T : Bt mg) (G : TbF K mg C fI) : FnOk P w K mg base CX0 1 f fd ["self"] (spTR C) := by
  refine F.ok scTR (fun vs H Q E h => ?_) (fun cdv A outer s H vs Q E hr h => ?_)
  · obtain ⟨a, cv, rs, rfl, _⟩ := h
    rfl
  · obtain ⟨a, cv, rs, rfl, ⟨dx, bv, h1, h2, h3⟩, k⟩ := h
    exact ⟨_, pss_one (ps_ret (pe_callTy call_list_of (by rfl) T.list boot_list (pa_cons (pe_fld (pv 0) (by rfl)) pa_nil))), ⟨_, rfl, a, C, dx, _, _, rfl, h1, G.cls, G.a2, rfl, bv, _, rfl, .inr (SqT.of h2), fun l hl => k l hl⟩⟩
end
end K19
set_option Elab.async false
set_option linter.all false
set_option maxRecDepth 100000
set_option maxHeartbeats 4000000
namespace K19
open PySem PySem.Spec PyProof.Rows L2 Lc
/-! ## the union of lineages -/
inductive LinsAt (H : Hp) : List V → List Lin → Prop
  | nil : LinsAt H [] []
  | cons {v : V} {vs : List V} {l : Lin} {ls : List Lin} (h : Dh H v (linD l)) (r : LinsAt H vs ls) : LinsAt H (v :: vs) (l :: ls)
theorem LinsAt.same {H H' : Hp} (s : Same H H') : ∀ {vs : List V} {ls : List Lin}, LinsAt H vs ls → LinsAt H' vs ls
  | _, _, .nil => .nil
  | _, _, .cons h r => .cons (h.same s) (r.same s)
theorem LinsAt.len {H : Hp} : ∀ {vs : List V} {ls : List Lin}, LinsAt H vs ls → vs.length = ls.length
  | _, _, .nil => rfl
  | _, _, .cons h r => by rw [List.length_cons, List.length_cons, r.len]
theorem LinsAt.get {H : Hp} : ∀ {vs : List V} {ls : List Lin}, LinsAt H vs ls → ∀ {i : Nat} {v : V}, vs[i]? = some v → ∃ l, ls[i]? = some l ∧ Dh H v (linD l)
  | _, _, .nil, i, v, e => by simp at e
  | _, _, .cons h r, 0, v, e => by cases e; exact ⟨_, rfl, h⟩
  | _, _, .cons h r, i + 1, v, e => by
    obtain ⟨l, e1, e2⟩ := r.get (i := i) (by simpa using e)
    exact ⟨l, by simpa using e1, e2⟩
theorem LinsAt.snoc {H : Hp} {v : V} {l : Lin} : ∀ {vs : List V} {ls : List Lin}, LinsAt H vs ls → Dh H v (linD l) → LinsAt H (vs ++ [v]) (ls ++ [l])
  | _, _, .nil, g => .cons g .nil
  | _, _, .cons h r, g => .cons h (r.snoc g)
theorem LinsAt.t {H H' : Hp} (s : SameT H H') : ∀ {vs : List V} {ls : List Lin}, LinsAt H vs ls → LinsAt H' vs ls
  | _, _, .nil => .nil
  | _, _, .cons h r => .cons (h.t s (lin_noL _)) (r.t s)
theorem unL_ok {ls : List Lin} (h : ∀ l ∈ ls, LinOk l) : LinOk (unL ls) :=
  ⟨unL_nd fun l hl => (h l hl).1, fun p hp => by
    obtain ⟨l, hl, h1⟩ := unL_mem.mp hp
    exact (h l hl).2 p h1⟩
def spUn : Sp := fun vs H Q _ => ∃ (a : Addr) (xs : List V) (ls : List Lin), vs = [.ref a] ∧ H a = some (.lst xs) ∧ LinsAt H xs ls ∧ (∀ l ∈ ls, LinOk l) ∧ ∀ (v : V) (H' : Hp), Same H H' → Dh H' v (linD (unL ls)) → Q v H'
/-- the members of the set so far -/
def MemAt (H : Hp) (L : List (Addr × List Key)) (ok : Str × Int → Prop) : Prop := (∀ z ∈ L, ∃ p, z.2 = plK p ∧ ok p ∧ H z.1 = some (.tup (z.2.map kV))) ∧ (L.map (·.2)).Nodup ∧ ∀ p, ok p → plK p ∈ L.map (·.2)
theorem lin_plL (l : Lin) : linD l = .tuple (l.map plD) := rfl
theorem mem_lin {H : Hp} {L : List (Addr × List Key)} {ok : Str × Int → Prop} (h : MemAt H L ok) : ∃ m : Lin, L.map (·.2) = m.map plK ∧ (L.map fun z => tkD z.2) = m.map plD ∧ m.Nodup ∧ ∀ p, p ∈ m ↔ ok p := by
  obtain ⟨h1, h2, h3⟩ := h
  have ex : ∀ {L : List (Addr × List Key)}, (∀ z ∈ L, ∃ p, z.2 = plK p ∧ ok p ∧ H z.1 = some (.tup (z.2.map kV))) → ∃ m : Lin, L.map (·.2) = m.map plK ∧ (L.map fun z => tkD z.2) = m.map plD ∧ ∀ p ∈ m, ok p := by
    intro L
    induction L with
    | nil => exact fun _ => ⟨[], rfl, rfl, nofun⟩
    | cons z L ih =>
      intro h
      obtain ⟨p, e1, e2, _⟩ := h z List.mem_cons_self
      obtain ⟨m, e3, e4, e5⟩ := ih fun y hy => h y (List.mem_cons_of_mem _ hy)
      refine ⟨p :: m, by rw [List.map_cons, List.map_cons, e1, e3], by rw [List.map_cons, List.map_cons, e1, e4]; rfl, fun q hq => ?_⟩
      rcases List.mem_cons.mp hq with rfl | hq
      · exact e2
      · exact e5 q hq
  obtain ⟨m, e1, e2, e3⟩ := ex h1
  rw [e1] at h2 h3
  refine ⟨m, e1, e2, ?_, fun p => ⟨e3 p, fun hp => ?_⟩⟩
  · exact List.Pairwise.of_map (S := fun a b => a ≠ b) (R := fun a b => a ≠ b) plK (fun a b n e => n (by rw [e])) h2
  · obtain ⟨q, hq, e⟩ := List.mem_map.mp (h3 p hp)
    rw [← plK_inj e]
    exact hq
theorem MemAt.congr {H : Hp} {L : List (Addr × List Key)} {ok ok' : Str × Int → Prop} (h : MemAt H L ok) (e : ∀ p, ok p ↔ ok' p) : MemAt H L ok' :=
  ⟨fun z hz => let ⟨p, h1, h2, h3⟩ := h.1 z hz; ⟨p, h1, (e p).mp h2, h3⟩, h.2.1, fun p hp => h.2.2 p ((e p).mpr hp)⟩
theorem MemAt.put {P : Program} {w : World} {H : Hp} {L L' Lx : List (Addr × List Key)} {ok : Str × Int → Prop} {D b : Addr} {p : Str × Int} (h : MemAt H L ok) (eD : H D = some (MsO P w D L)) (hb : H b = some (.tup [.str p.1, .int p.2])) (c1 : plK p ∈ L.map (·.2) → L' = L) (c2 : plK p ∉ L.map (·.2) → L'.Perm ((b, plK p) :: L)) :
    MemAt (upd H D (MsO P w D Lx)) L' fun q => ok q ∨ q = p := by
  obtain ⟨h1, h2, h3⟩ := h
  have st : ∀ {c : Addr} {xs : List V}, H c = some (.tup xs) → upd H D (MsO P w D Lx) c = some (.tup xs) := fun e => by rw [upd_ne (ne_of e eD nofun)]; exact e
  by_cases z : plK p ∈ L.map (·.2)
  · rw [c1 z]
    refine ⟨fun y hy => let ⟨q, e1, e2, e3⟩ := h1 y hy; ⟨q, e1, .inl e2, st e3⟩, h2, fun q hq => ?_⟩
    rcases hq with hq | rfl
    · exact h3 q hq
    · exact z
  · have pm := c2 z
    refine ⟨fun y hy => ?_, (pm.map (·.2)).nodup_iff.mpr (List.nodup_cons.mpr ⟨z, h2⟩), fun q hq => (pm.map (·.2)).mem_iff.mpr ?_⟩
    · rcases List.mem_cons.mp (pm.mem_iff.mp hy) with rfl | hy
      · exact ⟨p, rfl, .inr rfl, st hb⟩
      · obtain ⟨q, e1, e2, e3⟩ := h1 y hy
        exact ⟨q, e1, .inl e2, st e3⟩
    · rcases hq with hq | rfl
      · exact List.mem_cons_of_mem _ (h3 q hq)
      · exact List.mem_cons_self
theorem fun_un (ls : List Lin) (i : Nat) (l : Lin) (e : ls[i]? = some l) (p : Str × Int) : (∃ m ∈ ls.take (i + 1), p ∈ m) ↔ (∃ m ∈ ls.take i, p ∈ m) ∨ p ∈ l := by
  rw [List.take_add_one, e]
  constructor
  · rintro ⟨m, h1, h2⟩
    rcases List.mem_append.mp h1 with h1 | h1
    · exact .inl ⟨m, h1, h2⟩
    · rw [Option.toList_some, List.mem_singleton] at h1
      rw [← h1]
      exact .inr h2
  · rintro (⟨m, h1, h2⟩ | h)
    · exact ⟨m, List.mem_append_left _ h1, h2⟩
    · exact ⟨l, List.mem_append_right _ (by simp), h⟩
section
variable {P : Program} {w : World} {K : PySem.W.Frag} {mg : Str → Option Value} {base : Heap} {f : Addr} {fd : FuncData}
abbrev sUn : Stmt := top 56
abbrev nUn : List Str := ["lineages", "lineage", "place"]
abbrev pUn : List Str := ["lineages"]
theorem scUn : FnScope nUn pUn (defScope sUn) := ⟨rfl, rfl, rfl, by decide +kernel, rfl, by decide +kernel, by decide +kernel⟩
section
theorem ok_Un (F : Fun K "union_of" "union_of" sUn f fd) (T : Bt mg) (mS : mg "sorted" = none) : FnOk P w K mg base CX0 1 f fd pUn (spUn) := by
  refine F.ok scUn (fun vs H Q E h => ?_) (fun cdv A outer s H vs Q E hr h => ?_)
  · obtain ⟨a, xs, ls, rfl, _⟩ := h
    rfl
  · obtain ⟨a, xs, ls, rfl, ha, hl, ok, k⟩ := h
    refine ⟨_, (pss_one (ps_ret (pe_callTy call_tuple_of (by rfl) T.tuple boot_tuple (pa_cons (pe_callB (cr_sortM (by rfl) hr.units) (by rfl) mS (by decide +kernel) (pa_cons (pe_st (own := [("lineage", 1), ("place", 2)]) (vs1 := [2]) (wi := iList K (tVar 0)) (g := (gName 1)) (tt := tYes) (wi1 := iTup K (tVar 1)) (g1 := (gName 2)) (tt1 := tYes) (te := tVar 2) hr.units (by rfl) scUn.nd (pi_list (pv 0)) (blkOk_by (own := [("lineage", 1), ("place", 2)]) (N := nUn) (sc := defScope sUn) (by decide +kernel)) (by decide) (fun _ _ _ _ _ => (pg_name (i := 1) scUn.nd rfl (.inl rfl))) (fun _ _ _ _ _ => pts_nil) (fun _ _ _ _ _ => (pi_tup (pv 1))) (fun _ _ _ _ _ => (pg_name (i := 2) scUn.nd rfl (.inl rfl))) (fun _ _ _ _ _ => pts_nil) (fun _ _ _ _ _ => (pv 2))) pa_nil)) pa_nil)))), ?_⟩
    have hlen := hl.len
    refine ⟨_, rfl, a, rfl, ⟨_, SqL.of ha⟩, fun D hD => st_out (K := K) (a := a) (xs := xs) (fun i H' => (∃ L, H' D = some (MsO P w D L) ∧ MemAt H' L fun p => ∃ m ∈ ls.take i, p ∈ m) ∧ Same H H') ⟨⟨[], upd_same, nofun, List.nodup_nil, fun p ⟨m, h1, _⟩ => by simp at h1⟩, Same.upd hD⟩ (fun i H' _ pr => SqL.of (pr.2 _ _ ha)) ?_ ?_⟩
    · rintro i x H1 hx ⟨⟨L, eD, mL⟩, s1⟩
      obtain ⟨l, el, dl⟩ := hl.get hx
      have lo := ok l (List.mem_of_getElem? el)
      cases dl with
      | @tup b us _ eb hs =>
      refine ⟨rfl, tyesT ?_⟩
      refine ⟨_, rfl, b, rfl, ⟨_, SqT.of (s1 _ _ eb)⟩, st_in (K := K) (a := b) (xs := us) (fun j H' => (∃ L, H' D = some (MsO P w D L) ∧ MemAt H' L fun p => (∃ m ∈ ls.take i, p ∈ m) ∨ p ∈ l.take j) ∧ Same H H') ⟨⟨L, eD, mL.congr fun p => by simp⟩, s1⟩ (fun j H' _ pr => SqT.of (pr.2 _ _ eb)) ?_ ?_⟩
      · rintro j y H2 hy ⟨⟨L2, eD2, mL2⟩, s2⟩
        obtain ⟨p, c, ep, rfl, ec⟩ := lin_get hs hy
        obtain ⟨m, e1, _, nd, hm⟩ := mem_lin mL2
        have hp := lo.2 p (List.mem_of_getElem? ep)
        have l48 : L2.length ≤ 48 := by
          have e2 := congrArg List.length e1
          rw [List.length_map, List.length_map] at e2
          rw [e2, ← linU_len]
          refine nd.length_le_of_subset fun q hq => ?_
          rcases (hm q).mp hq with ⟨n, h1, h2⟩ | h1
          · exact ((ok n (List.mem_of_mem_take h1)).2 q h2).2.2.2
          · exact (lo.2 q (List.mem_of_mem_take h1)).2.2.2
        refine ⟨rfl, ?_⟩
        dsimp only [tYes]
        refine iteT ⟨_, rfl, c, plK p, L2, rfl, SqT.of (s2 _ _ ec), eD2, fun z hz => ?_, by omega, fun L3 c1 c2 => ⟨⟨L3, upd_same, (mL2.put eD2 (s2 _ _ ec) c1 c2).congr fun q => ?_⟩, fun b' o e => by rw [upd_ne (ne_of_none e hD)]; exact s2 b' o e⟩⟩
        · obtain ⟨_, _, _, h3⟩ := mL2.1 z hz
          exact SqT.of h3
        · rw [List.take_add_one, ep, Option.toList_some, List.mem_append, List.mem_singleton, or_assoc]
      · rintro H2 ⟨⟨L2, eD2, mL2⟩, s2⟩
        have lu := hs.len
        rw [List.length_map] at lu
        rw [lu, List.take_length] at mL2
        exact ⟨⟨L2, eD2, mL2.congr fun p => (fun_un ls i l el p).symm⟩, s2⟩
    rintro H1 ⟨⟨L, eD, mL⟩, s1⟩
    rw [hlen, List.take_length] at mL
    obtain ⟨m, e1, e2, nd, hm⟩ := mem_lin mL
    refine ⟨D, L, rfl, eD, fun z hz => ?_, ?_, fun z hz e => ?_, fun L2 ys p p2 py dy hp => ?_⟩
    · obtain ⟨_, _, _, h3⟩ := mL.1 z hz
      exact h3
    · rw [e2]
      exact fun d hd d' hd' => by
        obtain ⟨x, _, rfl⟩ := List.mem_map.mp hd
        obtain ⟨y, _, rfl⟩ := List.mem_map.mp hd'
        rfl
    · obtain ⟨q, h1, _⟩ := mL.1 z hz
      rw [h1] at e
      cases e
    have e3 : (L2.map fun z => tkD z.2).Perm (m.map plD) := by rw [← e2]; exact p2.map _
    obtain ⟨m2, pm, em⟩ := map_perm_lift plD e3
    rw [em, srtL_map, srtL_perm pm, unL_any (fun l hl => (ok l hl).1) nd hm] at dy
    have zp := Same.upd (o := .lst ys) hp
    refine ⟨p, ys, rfl, .inl ⟨SqL.of upd_same, fun r hr' => ?_⟩⟩
    have zr := Same.upd (o := .tup ys) hr'
    exact k _ _ (s1.trans (zp.trans zr)) (.tup upd_same (DhAll.same (zp.trans zr) dy))
end
end
end K19
set_option Elab.async false
set_option linter.all false
set_option maxRecDepth 100000
set_option maxHeartbeats 4000000
namespace K19
open PySem PySem.Spec PyProof.Rows L2 Lc
section
variable {P : Program} {w : World} {K : PySem.W.Frag} {mg : Str → Option Value} {base : Heap} {f : Addr} {fd : FuncData}
abbrev sDrw : Stmt := top 103
abbrev nDrw : List Str := ["seed", "lineage", "whole", "h", "origin", "number"]
abbrev pDrw : List Str := ["seed", "lineage", "whole"]
theorem scDrw : FnScope nDrw pDrw (defScope sDrw) := ⟨rfl, rfl, rfl, by decide +kernel, rfl, by decide +kernel, by decide +kernel⟩
section
theorem ok_Drw (F : Fun K "draw" "draw" sDrw f fd) (T : Bt mg) : FnOk P w K mg base CX0 1 f fd pDrw (spNum) := by
  refine F.ok scDrw (fun vs H Q E h => ?_) (fun cdv A outer s H vs Q E hr h => ?_)
  · obtain ⟨seed, whole, v, l, rfl, _⟩ := h
    rfl
  · obtain ⟨seed, whole, v, l, rfl, hv, hl, h0, h1, hw, k⟩ := h
    refine ⟨_, (pss_cons (ps_set (i := 3) scDrw.nd rfl (Or.inl rfl) (pe_op op_add (pv 0) pe_int))
      (pss_cons (ps_for PassesOwn.never rfl (pi_tup (pv 1)) (pg_tup rfl (pgs_cons (pg_name (i := 4) scDrw.nd rfl (.inl rfl)) (pgs_cons (pg_name (i := 5) scDrw.nd rfl (.inl rfl)) pgs_nil))) (pss_one (ps_set (i := 3) scDrw.nd rfl (Or.inl rfl) (pe_op op_mod (pe_op op_add (pe_op op_add (pe_op op_mul (pv 3) pe_int) (pe_op op_mul (pv 5) pe_int)) pe_int) pe_int))))
      (pss_one (ps_ret (pe_op op_mod (pv 3) (pv 2)))))), ?_⟩
    cases hv with
    | @tup a xs _ ea hs =>
    have ls := hs.len
    rw [List.length_map] at ls
    have b64 : (-(2 ^ 64) : Int) < 2147483647 ∧ (2147483647 : Int) < 2 ^ 64 := by decide
    refine ⟨_, rfl, _, _, rfl, rfl, ?_⟩
    refine ⟨_, rfl, a, rfl, ⟨_, SqT.of ea⟩, for_tup (K := K) (a := a) (xs := xs) (fun i σ H' => (∃ x4 x5 : Option V, σ = [some (.int seed), some (.ref a), some (.int whole), some (.int (sumL seed (l.take i))), x4, x5]) ∧ H' = H) ⟨⟨_, _, rfl⟩, rfl⟩ (fun i σ H' _ p => by rw [p.2]; exact SqT.of ea) ?_ ?_⟩
    · rintro i x σ H' hx ⟨⟨x4, x5, rfl⟩, rfl⟩
      obtain ⟨p, b, e1, rfl, e2⟩ := lin_get hs hx
      have hp := hl.2 p (List.mem_of_getElem? e1)
      have hn := hp.2
      have hb := sumL_lt h0 h1 (l.take i)
      rw [show l.take (i + 1) = l.take i ++ [p] by rw [List.take_add_one, e1]; rfl, sumL_snoc]
      refine ⟨b, _, rfl, SqT.of e2, rfl, _, _, rfl, _, _, rfl, rfl, ?_⟩
      dsimp only [gNil]
      refine ⟨_, rfl, _, _, rfl, rfl, .inl ⟨by omega, by omega⟩, _, rfl, _, _, rfl, rfl, .inl ⟨by omega, by omega⟩, _, _, rfl, rfl, _, _, rfl, rfl, _, _, rfl, rfl, (by decide : (0 : Int) < 2147483647), ⟨⟨_, _, rfl⟩, rfl⟩⟩
    · rintro σ H' ⟨⟨x4, x5, rfl⟩, rfl⟩
      rw [ls, List.take_length]
      exact ⟨_, rfl, _, rfl, _, _, rfl, rfl, hw, k⟩
end
end
end K19
set_option Elab.async false
set_option linter.all false
set_option maxRecDepth 100000
set_option maxHeartbeats 4000000
namespace Lc
open PySem PySem.Spec PyProof.Rows L2
/-! ## sets of texts: made of a list, sorted -/
def keyX (e : Int × Value) : Str := match e.2 with | .str k _ => k | _ => Str.empty
def GoodX (w : World) (e : Int × Value) : Prop := ∃ k tk, e.2 = Value.str k tk ∧ e.1 = hashStr w k
/-- the set of the texts ks at a -/
def SetX (w : World) (h : Heap) (a : Addr) (ks : List Str) : Prop :=
  ∃ o es ep t, h.get? a = some o ∧ o.ExactSet ∧ o.data = .set es ep t ∧ (∀ e ∈ es.toList, GoodX w e) ∧ (es.toList.map keyX).Nodup ∧ (∀ k, k ∈ ks ↔ k ∈ es.toList.map keyX) ∧
    es.size < scanBound ∧ es.size ≤ ks.length ∧ t.fits es.size = true ∧ Ris t.place.toList ∧ (w.params.followText "set-order" = true ∨ t.led = true)
section
variable {P : Program} {w : World} {h h' : Heap} {a : Addr} {ks : List Str}
theorem SetX.at (R : SetX w h a ks) (k : ∀ o, h.get? a = some o → h'.get? a = some o) : SetX w h' a ks := by
  obtain ⟨o, es, ep, t, ho, r⟩ := R
  exact ⟨o, es, ep, t, k o ho, r⟩
theorem goodX_elems {l : List (Int × Value)} (g : ∀ e ∈ l, GoodX w e) : ElemsOf (strKind P w) l := fun e he => by
  obtain ⟨k, tk, h1, h2⟩ := g e he
  exact ⟨⟨k, by rw [h1]; exact strKind_is _ _ _ _, h2⟩, by rw [h1] <;> rfl⟩
theorem goodX_is {e : Int × Value} (g : GoodX w e) (k : Str) : (strKind P w).is k e.2 = true ↔ keyX e = k := by
  obtain ⟨k0, tk, h1, _⟩ := g
  unfold keyX
  rw [h1]
  constructor
  · intro q
    exact (strKind P w).inj (.str k0 tk) k0 k (strKind_is _ _ _ _) q
  · intro q
    rw [← q]
    exact strKind_is _ _ _ _
theorem goodX_mem {l : List (Int × Value)} (g : ∀ e ∈ l, GoodX w e) (k : Str) : k ∈ l.map keyX ↔ ∃ e ∈ l, (strKind P w).is k e.2 = true := by
  rw [List.mem_map]
  constructor
  · rintro ⟨e, he, q⟩
    exact ⟨e, he, (goodX_is (g e he) k).2 q⟩
  · rintro ⟨e, he, q⟩
    exact ⟨e, he, (goodX_is (g e he) k).1 q⟩
end
section
variable {P : Program} {w : World} {A : Around} {E : Value → Shared → Prop} {s : Shared} {a : Addr} {ks : List Str}
theorem setX_tail {g : Bool → Sem Unit} (hg : ∀ (b : Bool) (s₁ : Shared) (Q' : Unit → Shared → Prop), Q' () s₁ → wpAny (model P w) A (g b) Q' E s₁)
    {o : Obj} {es : Array (Int × Value)} {ep : Nat} {t : SetTable} (ho : s.heap.get? a = some o) (hex : o.ExactSet) (hd : o.data = .set es ep t)
    {es1 : Array (Int × Value)} {t2 : SetTable} {ks' : List Str} (g1 : ∀ e ∈ es1.toList, GoodX w e) (nd1 : (es1.toList.map keyX).Nodup) (m1 : ∀ k, k ∈ ks' ↔ k ∈ es1.toList.map keyX)
    (hb1 : es1.size < scanBound) (hl1 : es1.size ≤ ks'.length) (hf2 : t2.fits es1.size = true) (hr : Ris t2.place.toList) (hl : w.params.followText "set-order" = true ∨ t2.led = true) {wasDummy : Bool} {R : Option Bool → Shared → Prop}
    (hR : ∀ h', Heap.SameBut a s.heap h' → SetX w h' a ks' → R (some true) { s with heap := h' }) :
    wpAny (model P w) A (do
        storeSet a es1 t2
        if (!wasDummy && t2.tooFull) = true then do
            g (relayAll t2 es1 (SetTable.grown es1.size)).2.2
            storeSet a (relayAll t2 es1 (SetTable.grown es1.size)).1 (relayAll t2 es1 (SetTable.grown es1.size)).2.1
            pure (some true)
          else pure (some true)) R E s := by
  refine wpAny_bind (wpAny_storeSet_of ho hd ?_ (fits_of_scanBound hb1))
  have ho1 := store_at (es' := es1) (t' := t2) ho hd
  have sb1 := Heap.SameBut.update s.heap a (Obj.putSet es1 t2)
  split
  · have pm := relayAll_perm t2 es1 (SetTable.grown es1.size)
    have hf3 := relayAll_fits t2 es1 (SetTable.grown es1.size)
    have hr3 := relayAll_ris t2 es1 (SetTable.grown es1.size)
    have hl3 := relayAll_led t2 es1 (SetTable.grown es1.size)
    generalize relayAll t2 es1 (SetTable.grown es1.size) = Z at pm hf3 hr3 hl3 ⊢
    obtain ⟨es2, t3, gave⟩ := Z
    dsimp only at pm hf3 hr3 hl3 ⊢
    have hsz : es2.size = es1.size := by rw [← Array.length_toList, pm.length_eq, Array.length_toList]
    refine wpAny_bind (hg _ _ _ ?_)
    refine wpAny_bind (wpAny_storeSet_of ho1 rfl ?_ (fits_of_scanBound (by rw [hsz]; exact hb1)))
    have ho2 := store_at (es' := es2) (t' := t3) ho1 rfl
    refine wpAny_pure (hR _ (sb1.trans (Heap.SameBut.update _ a _)) ?_)
    exact ⟨_, es2, _, t3, ho2, hex, rfl, fun e he => g1 e (pm.mem_iff.mp he), (pm.map keyX).nodup_iff.mpr nd1, fun k => (m1 k).trans (pm.map keyX).mem_iff.symm, by rw [hsz]; exact hb1, by rw [hsz]; exact hl1, hf3, hr3,
      hl.imp id fun z => by rw [hl3]; exact z⟩
  · exact wpAny_pure (hR _ sb1 ⟨_, es1, _, t2, ho1, hex, rfl, g1, nd1, m1, hb1, hl1, hf2, hr, hl⟩)
theorem setX_add {k : Str} {tk : Tok} {Q : Bool → Shared → Prop} (R : SetX w s.heap a ks) (room : ks.length + 1 < scanBound)
    (hQ : ∀ b h', Heap.SameBut a s.heap h' → SetX w h' a (ks ++ [k]) → Q b { s with heap := h' }) :
    wpAny (model P w) A (setAddHashed a (.str k tk) ((strKind P w).hash k)) Q E s := by
  obtain ⟨o, es, ep, t, ho, hex, hd, g, nd, hm, hb, hlen, hf, hr, hl⟩ := R
  have hkey : (strKind P w).is k (.str k tk) = true := strKind_is _ _ _ _
  have hsc : (Value.str k tk).scannable = true := rfl
  have hel : ElemsOf (strKind P w) es.toList := goodX_elems g
  unfold setAddHashed setAddHashedIn
  refine wpAny_holding (wpAny_bind (wpAny_setState_of ho hd hf ?_))
  dsimp only
  rw [byScan_of hsc hb hel]
  simp only [↓reduceIte]
  unfold setAddByScan
  refine wpAny_bind ?_
  refine wpAny_bind (wpAny_rule ?_)
  refine wpAny_bind (wpAny_setScan_of hkey ho hd hf hel ?_)
  cases hfi : List.findIdx? (fun e => (strKind P w).is k e.2) es.toList with
  | some j =>
    dsimp only
    obtain ⟨hj, pj, _⟩ := List.findIdx?_eq_some_iff_getElem.mp hfi
    have hk : k ∈ es.toList.map keyX := (goodX_mem (P := P) (w := w) g k).2 ⟨es.toList[j], List.getElem_mem hj, pj⟩
    refine wpAny_pure (wpAny_pure ?_)
    exact hQ _ s.heap (Heap.SameBut.refl a s.heap) ⟨o, es, ep, t, ho, hex, hd, g, nd, fun i => by
      rw [List.mem_append, List.mem_singleton, hm i]
      exact ⟨fun z => z.elim id (fun e => e ▸ hk), .inl⟩, hb, by rw [List.length_append]; omega, hf, hr, hl⟩
  | none =>
    dsimp only
    have hnk : k ∉ es.toList.map keyX := fun z => by
      obtain ⟨e, he, q⟩ := (goodX_mem (P := P) (w := w) g k).1 z
      have c := List.findIdx?_eq_none_iff.mp hfi e he
      rw [q] at c
      cases c
    have hgw : ∀ (b : Bool) {s₁ : Shared} {Q' : Unit → Shared → Prop}, Q' () s₁ → wpAny (model P w) A (match b with | true => rule "set.scan.the-table-gave-way" | false => pure ()) Q' E s₁ :=
      fun b s₁ Q' q => by cases b <;> first | exact wpAny_pure q | exact wpAny_rule q
    have pm := layNew_perm t es ((strKind P w).hash k) (.str k tk)
    have hf1 := layNew_fits t es ((strKind P w).hash k) (.str k tk)
    have hr1 := layNew_ris t es ((strKind P w).hash k) (.str k tk) hr
    have hl1 := layNew_led t es ((strKind P w).hash k) (.str k tk)
    generalize layNew t es ((strKind P w).hash k) (.str k tk) = Z at pm hf1 hr1 hl1 ⊢
    obtain ⟨es1, t1, wasDummy, gave⟩ := Z
    dsimp only at pm hf1 hr1 hl1 ⊢
    rw [Array.toList_push] at pm
    have pc : es1.toList.Perm (((strKind P w).hash k, Value.str k tk) :: es.toList) := pm.trans (List.perm_append_singleton _ _)
    have pk : (es1.toList.map keyX).Perm (k :: es.toList.map keyX) := pc.map keyX
    have g1 : ∀ e ∈ es1.toList, GoodX w e := fun e he => by
      rcases List.mem_cons.mp (pc.mem_iff.mp he) with z | z
      · rw [z]; exact ⟨k, tk, rfl, rfl⟩
      · exact g e z
    have nd1 : (es1.toList.map keyX).Nodup := pk.nodup_iff.mpr (List.nodup_cons.mpr ⟨hnk, nd⟩)
    have m1 : ∀ i, i ∈ ks ++ [k] ↔ i ∈ es1.toList.map keyX := fun i => by
      rw [List.mem_append, List.mem_singleton, hm i, pk.mem_iff, List.mem_cons]
      exact Or.comm
    have hsz : es1.size = es.size + 1 := by rw [← Array.length_toList, pc.length_eq, List.length_cons, Array.length_toList]
    have hb1 : es1.size < scanBound := by omega
    have hln : es1.size ≤ (ks ++ [k]).length := by rw [List.length_append]; show _ ≤ _ + 1; omega
    have hled : w.params.followText "set-order" = true ∨ t1.led = true := hl.imp id fun z => by rw [hl1]; exact z
    refine wpAny_bind (hgw _ ?_)
    split
    · refine wpAny_bind ?_
      rw [hashByValue_scannable 8 hsc]
      refine wpAny_pure ?_
      refine setX_tail ?_ ho hex hd g1 nd1 m1 hb1 hln ?_ ?_ ?_ ?_
      · intro b s₁ Q' q; cases b <;> first | exact wpAny_pure q | exact wpAny_rule q
      · first | (split <;> first | exact hf1 | exact SetTable.fits_plain_off hf1) | exact hf1
      · first | (split <;> exact hr1) | exact hr1
      · first | (split <;> exact hled) | exact hled
      · intro h' sb r; dsimp only; exact wpAny_pure (hQ _ h' sb r)
    · refine wpAny_bind (wpAny_pure ?_)
      simp only [↓reduceIte]
      refine setX_tail ?_ ho hex hd g1 nd1 m1 hb1 hln hf1 hr1 hled ?_
      · intro b s₁ Q' q; cases b <;> first | exact wpAny_pure q | exact wpAny_rule q
      · intro h' sb r; dsimp only; exact wpAny_pure (hQ _ h' sb r)
theorem setX_fresh {h : Heap} {a : Addr} (ho : h.get? a = some { cls := .type "set", dict := none, data := .set #[] 0 (.fresh 0 0 (!w.params.followText "set-order")) }) : SetX w h a [] :=
  ⟨_, #[], 0, _, ho, ⟨rfl, rfl, rfl⟩, rfl, (fun e he => by simp at he), (by simp), (fun k => by simp), (by decide), Nat.le_refl _, (by rfl), List.Pairwise.nil, by
    show _ ∨ (!w.params.followText "set-order") = true
    cases w.params.followText "set-order"
    · exact .inr rfl
    · exact .inl rfl⟩
end
/-! ### set(xs) -/
section
variable {P : Program} {w : World} {A : Around} {R : Result → Shared → Prop} {I : Addr} {fp wr : List Addr} {G : Array GenState → Array GenState → Prop} {n : Nat} {Pv : Nat → Value → Prop} {St : Nat → Shared → Prop}
theorem setX_loop (W : WalksS P w A.in1 I fp wr G n Pv St) (S : Addr) (hSf : S ∉ fp) (ks : List Str) (hn : n = ks.length) (hfew : ks.length < 1000) (hval : ∀ i v, Pv i v → ∃ x t, ks[i]? = some x ∧ v = .str x t) :
    ∀ (k i : Nat) (s : Shared), n - i = k → i ≤ n → St i s → SetX w s.heap S (ks.take i) →
      (∀ s', Moved (S :: wr) G s s' → SetX w s'.heap S ks → R (.ok (.ret .none)) s') →
      codeAny (model P w) A (.builtin "set.update.loop" ⟨[.ref S, .ref I], []⟩) R s := by
  have hSw : S ∉ wr := fun h => hSf (W.sub _ h)
  have hsub : ∀ b ∈ wr, b ∈ S :: wr := fun b hb => List.mem_cons_of_mem _ hb
  intro k
  induction k with
  | zero =>
    intro i s hk hi hst hS hR
    have hin : i = n := by omega
    subst hin
    refine codeAny_builtin F.entry_set_update_loop ?_
    rw [Around.under_plainId F.plain_set_update_loop _]
    show wpAny _ A.in1 (pyNext (.ref I) >>= _) _ _ s
    refine wpAny_bind (W.done s _ _ hst fun s' hm => ?_)
    show wpAny _ A.in1 (ret Value.none) _ _ s'
    rw [hn, List.take_length] at hS
    exact wpAny_pure (hR s' (hm.mono hsub) (hS.at fun o e => hm.heap S o hSw e))
  | succ k ih =>
    intro i s hk hi hst hS hR
    have hlt : i < n := by omega
    refine codeAny_builtin F.entry_set_update_loop ?_
    rw [Around.under_plainId F.plain_set_update_loop _]
    show wpAny _ A.in1 (pyNext (.ref I) >>= _) _ _ s
    refine wpAny_bind (W.item i s _ _ hlt hst fun v s' hP hst' hm => ?_)
    obtain ⟨x, t, ex, rfl⟩ := hval i v hP
    have hS' : SetX w s'.heap S (ks.take i) := hS.at fun o e => hm.heap S o hSw e
    show wpAny _ A.in1 (holding [Value.str x t] (setAdd S (.str x t)) >>= _) _ _ s'
    refine wpAny_bind (wpAny_holding ?_)
    unfold setAdd
    refine wpAny_holding ?_
    refine wpAny_bind ((strKind P w).pyHash (k := x) (strKind_is _ _ _ _) ?_)
    refine setX_add (s := { s' with toks := s'.toks + 1 }) hS' (by rw [List.length_take]; unfold scanBound; omega) fun b h' hsb hS2 => ?_
    have e2 : ks.take i ++ [x] = ks.take (i + 1) := by rw [List.take_add_one, ex] <;> rfl
    rw [e2] at hS2
    refine wpAny_pure ⟨plainId_quiet F.plain_set_update_loop _, ih (i + 1) _ (by omega) hlt (W.frame _ s' _ _ hst' (Nat.le_succ _) fun b hb o e => ?_) hS2 fun s'' hm'' hS'' => ?_⟩
    · rw [hsb.2 b (fun h : b = S => hSf (by rw [← h]; exact hb))]; exact e
    · refine hR s'' (Moved.trans W.gtrans ((hm.mono hsub).then_heap (Nat.le_succ _) fun b o hb e => ?_) hm'') hS''
      rw [hsb.2 b (fun h : b = S => hb (by rw [h]; exact List.mem_cons_self))]; exact e
end
section
variable {P : Program} {w : World} {A : Around} {E : Value → Shared → Prop} {s : Shared}
theorem call_setX {l : Addr} {items : Array Value} {ks : List Str} {Q : Value → Shared → Prop} (hh : A.handled = none) (hl : s.heap.IsList l items) (hit : StrsAre items.toList ks) (hfew : ks.length < 1000)
    (h : ∀ (h' : Heap) (tk : Nat), SetX w h' s.heap.objs.size ks → (∀ b o, s.heap.get? b = some o → h'.get? b = some o) → Q (.ref s.heap.objs.size) { s with heap := h', toks := tk }) :
    wpAny (model P w) A (call (.type "set") [.ref l]) Q E s := by
  have hisz : items.size = ks.length := by rw [← Array.length_toList]; exact StrsAre.len_eq hit
  obtain ⟨c, tl, hmro⟩ := F.called_set.mro
  have hmade := F.called_set.made
  have hsub := F.called_set.sub
  refine wpAny_call (codeAny_of_tree ?_)
  show wpAny _ _ (callAny (.type "set") _) _ _ _
  refine wpAny_pure ⟨Code.quiet_builtin _ (by decide +kernel), codeAny_builtin F.entry_type_call ?_⟩
  rw [Around.under_plain (weight_type_call_type "set" [.ref l] []) rfl]
  have h1 := F.called_set.notType
  have h2 := F.called_set.canCreate
  have hct := F.typeCall_set_1 (.ref l)
  repeat (any_goals (first | assumption | wp_step))
  refine codeAny_mono (code_set_led1 (.ref l) (E := E) (Q₁ := fun obj s₁ => obj = .ref s.heap.objs.size ∧ s₁ = { s with heap := s.heap.push { cls := .type "set", dict := none, data := .set #[] 0 (.fresh 0 0 (!w.params.followText "set-order")) } }) ⟨rfl, rfl⟩) fun r s₁ hr => ?_
  cases r with
  | error e => exact hr
  | ok fl =>
    cases fl with
    | ret obj =>
      obtain ⟨rfl, rfl⟩ := hr
      have hS : (s.heap.push { cls := .type "set", dict := none, data := .set #[] 0 (.fresh 0 0 (!w.params.followText "set-order")) }).get? s.heap.objs.size = some { cls := .type "set", dict := none, data := .set #[] 0 (.fresh 0 0 (!w.params.followText "set-order")) } := Heap.get?_push_size _ rfl
      have hT : Shared.TypeIs { s with heap := s.heap.push { cls := .type "set", dict := none, data := .set #[] 0 (.fresh 0 0 (!w.params.followText "set-order")) } } (.ref s.heap.objs.size) "set" := ⟨_, hS, rfl⟩
      have hli := F.called_set.init.lookup
      have hbi := F.called_set.init.bind (.ref s.heap.objs.size)
      repeat (any_goals (first | assumption | wp_step))
      refine codeAny_mono (codeAny_call_builtin (R := wants (fun r s₂ => r = .none ∧ ∃ h' tk, s₂ = { s with heap := h', toks := tk } ∧ SetX w h' s.heap.objs.size ks ∧ (∀ b o, s.heap.get? b = some o → h'.get? b = some o)) E) F.called_set.init.plain F.entry_set_init (check_set_init_1 hT ?_)) fun r₂ s₂ hr₂ => ?_
      · obtain ⟨ol, hol, hcl, nl, hdl⟩ := hl
        obtain ⟨ocls, odict, odata, oslots⟩ := ol
        simp only at hcl hdl
        subst hcl; subst hdl
        have hol' : (s.heap.push { cls := .type "set", dict := none, data := .set #[] 0 (.fresh 0 0 (!w.params.followText "set-order")) }).get? l = some { cls := .type "list", dict := odict, data := .seq items nl, slots := oslots } := Heap.get?_push_of_some _ hol
        have hsls := F.sub_list_set
        have hslf := F.sub_list_frozenset
        have hne : (Value.type "list" == Value.type "dict") = false := by decide
        have hl1 : (s.heap.push { cls := .type "set", dict := none, data := .set #[] 0 (.fresh 0 0 (!w.params.followText "set-order")) }).IsList l items := ⟨_, hol', rfl, nl, rfl⟩
        unfold Builtin.«set.__init__» noKeywords Builtin.Frozenset.updateFrom
        generalize hPI : pyIter = PI
        wp_walk
        subst hPI
        refine wpAny_pyIter_list hl1 ?_
        refine wpAny_bind (wpAny_runValue ?_)
        have hlS : l < s.heap.objs.size := Heap.lt_size hol
        have hh3 : A.in1.in1.in1.handled = none := by simp [hh]
        have hneI : l ≠ (s.heap.push { cls := .type "set", dict := none, data := .set #[] 0 (.fresh 0 0 (!w.params.followText "set-order")) }).objs.size := by
          rw [Heap.size_push]; exact Nat.ne_of_lt (Nat.lt_succ_of_lt hlS)
        have hSf : s.heap.objs.size ∉ [(s.heap.push { cls := .type "set", dict := none, data := .set #[] 0 (.fresh 0 0 (!w.params.followText "set-order")) }).objs.size, l] := by
          rw [Heap.size_push]; simp only [List.mem_cons, List.mem_singleton, List.not_mem_nil, or_false, not_or]
          exact ⟨Nat.ne_of_lt (Nat.lt_succ_self _), Nat.ne_of_gt hlS⟩
        have hval : ∀ (i : Nat) (v : Value), items[i]? = some v → ∃ x t, ks[i]? = some x ∧ v = .str x t := fun i v hv => by
          obtain ⟨t, e⟩ := SS.strs_at hit i v (by rw [Array.getElem?_toList]; exact hv)
          have hi : i < ks.length := by rw [← hisz]; exact (Array.getElem?_eq_some_iff.mp hv).1
          refine ⟨_, t, List.getElem?_eq_getElem hi, ?_⟩
          rw [e, List.getD_eq_getElem?_getD, List.getElem?_eq_getElem hi] <;> rfl
        refine setX_loop ((Walks.list hh3 _ l hneI items).toS) s.heap.objs.size hSf ks hisz hfew hval (items.size - 0) 0 _ (by omega) (Nat.zero_le _)
          ⟨⟨_, Heap.get?_push_size _ rfl, rfl, rfl⟩, (hl1.push _)⟩ ?hS0 ?hR
        case hS0 =>
          exact setX_fresh (Heap.get?_push_of_some _ hS)
        case hR =>
          intro s' hm hS'
          obtain ⟨h', g2, d', tk', os'⟩ := s'
          have eg : g2 = s.gens := hm.gens
          have ed : d' = s.drawn := hm.drawn
          have eo : os' = s.os := hm.os
          subst eg; subst ed; subst eo
          show wpAny _ _ _ _ _ _
          refine wpAny_pure ?_
          show wpAny _ _ (ret Value.none) _ _ _
          refine wpAny_pure ⟨rfl, h', tk', rfl, hS', fun b o e => ?_⟩
          have hb := Heap.lt_size e
          have hb1 : b ≠ s.heap.objs.size := Nat.ne_of_lt hb
          have hb2 : b ≠ (s.heap.push { cls := .type "set", dict := none, data := .set #[] 0 (.fresh 0 0 (!w.params.followText "set-order")) }).objs.size := by
            rw [Heap.size_push]; exact Nat.ne_of_lt (Nat.lt_succ_of_lt hb)
          exact hm.heap b o (by simp only [List.mem_cons, List.mem_singleton, List.not_mem_nil, or_false, not_or]; exact ⟨hb1, hb2⟩) (Heap.get?_push_of_some _ (Heap.get?_push_of_some _ e))
      · cases r₂ with
        | error e => exact hr₂
        | ok fl₂ =>
          cases fl₂ with
          | ret r =>
            obtain ⟨rfl, h', tk, rfl, hS', hk'⟩ := hr₂
            repeat (any_goals (first | assumption | wp_step))
            exact h _ _ hS' hk'
          | _ => exact hr₂.elim
    | _ => exact hr.elim
end
end Lc
set_option Elab.async false
set_option linter.all false
set_option maxRecDepth 100000
set_option maxHeartbeats 4000000
namespace Lc
open PySem PySem.Spec PyProof.Rows L2
/-! ## sorted(set(xs)), xs a list of texts -/
def SetXO (w : World) (a : Addr) (ks : List Str) : HO := .ext fun h => SetX w h a ks
theorem setXO_new {P : Program} {w : World} {H : Hp} {h : Heap} {a : Addr} {ks : List Str} (R : SetX w h a ks) : ObjOk P w H h a (SetXO w a ks) := by
  have ⟨o, es, ep, t, ho, r⟩ := R
  refine ⟨R, ⟨o, ho⟩, fun h1 h2 p k => ?_⟩
  exact SetX.at (show SetX w h1 a ks from p) k
theorem strs_vals : ∀ {ks : List Str} {us : List Value}, Vals (ks.map V.str) us → StrsAre us ks
  | [], _, .nil => .nil
  | k :: ks, _, .cons r t => by
    obtain ⟨tk, rfl⟩ := r
    exact .cons _ _ (strs_vals t)
section
variable {P : Program} {w : World} {A : Around} {E : Value → Shared → Prop} {s : Shared} {a : Addr} {ks : List Str}
theorem strs_key : ∀ (l : List Value), (∀ v ∈ l, ∃ k tk, v = Value.str k tk) → StrsAre l (l.map fun v => keyX (0, v))
  | [], _ => .nil
  | v :: l, h => by
    obtain ⟨k, tk, rfl⟩ := h v List.mem_cons_self
    exact .cons k tk (strs_key l fun u hu => h u (List.mem_cons_of_mem _ hu))
theorem sorted_setX {Q : Value → Shared → Prop} (R : SetX w s.heap a ks) (hh : A.handled = none) (h64 : ks.length < 64)
    (hQ : ∀ s' p (out : Array Value) (c : Nat) (ys : List Str), (∀ b o, s.heap.get? b = some o → s'.heap.get? b = some o) → s'.gens = s.gens → s'.os = s.os → s.heap.objs.size ≤ p →
      s'.heap.get? p = some (seqObj "list" out c) → StrsAre out.toList ys → sortedS ys = true → ys.Nodup → (∀ k, k ∈ ys ↔ k ∈ ks) → ys.length < 64 → Q (.ref p) s') :
    wpAny (model P w) A (call (.builtin "sorted") [.ref a]) Q E s := by
  obtain ⟨o, es, ep, t, ho, hex, hd, g, nd, hm, hb, hlen, hf, hr, hl⟩ := R
  refine Calls.call_function_entry kind_sorted plain_sorted entry_sorted (args_sorted1 _) ?_
  unfold Builtin.«sorted»
  refine wpAny_bind (m := checkCount "sorted" 1 1 _) (wpAny_pure ?_)
  refine wpAny_bind (collect_set (A := A.in1) hh ⟨o, ho, hex.1, hd⟩ hf hb hr hl fun s1 vs k1 hz g1 o1 pm => ?_)
  have hvl : vs.length = es.size := by rw [pm.length_eq, List.length_map, Array.length_toList]
  have hI : StrsAre vs (vs.map fun v => keyX (0, v)) := strs_key vs fun v hv => by
    obtain ⟨e, he, q⟩ := List.mem_map.mp (pm.mem_iff.mp hv)
    obtain ⟨k, tk, h1, _⟩ := g e he
    exact ⟨k, tk, by rw [← q]; exact h1⟩
  have pk : (vs.map fun v => keyX (0, v)).Perm (es.toList.map keyX) := by
    have q := pm.map fun v => keyX (0, v)
    rw [List.map_map] at q
    exact q
  refine wpAny_bind (wpAny_newList ?_ (by rw [hvl, sizeLine_eq]; omega))
  have hoL : (s1.heap.push (seqObj "list" vs.toArray 0)).get? s1.heap.objs.size = some (seqObj "list" vs.toArray 0) := Heap.get?_push_size _ rfl
  refine wpAny_bind (wpAny_holding (wpAny_call_entry slot_list_sort ⟨_, hoL, rfl⟩ entry_list_sort
    (list_sort_treeK strKind_oneLt (s := { s1 with heap := s1.heap.push (seqObj "list" vs.toArray 0) }) hoL hI.keysOf (fun v₁ v₂ rest e => keyKind_strs (by rw [← e]; exact hI)) (by rw [hvl]; omega) fun st' hp hs => ⟨_, rfl, ?_⟩) (args_list_sort _)))
  obtain ⟨ys, q1, q2, q3⟩ := sorted_out_str hI hp hs
  obtain ⟨c, hc⟩ := sortedHeap_at (vs := vs) (out := (arrOf st').map (·.2)) hoL
  have pn : ys.Perm (es.toList.map keyX) := q2.trans pk
  refine wpAny_pure ⟨_, rfl, hQ _ s1.heap.objs.size ((arrOf st').map (·.2)) c ys (fun b u e => ?_) g1 o1 hz hc q1 q3 (pn.nodup_iff.mpr nd) (fun k => by rw [pn.mem_iff, ← hm k]) ?_⟩
  · have q := k1 b u e
    have hlt := Heap.lt_size q
    rw [sortedHeap_old (Nat.ne_of_lt hlt) (by rw [size_push']; exact Nat.lt_succ_of_lt hlt)]
    exact Heap.get?_push_of_some _ q
  · rw [pn.length_eq, List.length_map, Array.length_toList]; omega
end
section
variable {X : Cx}
def rSetX (K : PySem.W.Frag) (w : World) : List V → Hp → VK → Prop := fun xs H Q => ∃ (l : Addr) (ks : List Str), xs = [V.ref l] ∧ SqL K H l (ks.map V.str) ∧ ks.length < 1000 ∧ ∀ a, H a = none → Q (.ref a) (upd H a (SetXO w a ks))
theorem cr_setX (hc : X.calm = true) : CallR X (.type "set") (rSetX X.K X.w) := by
  intro pins s σ H xs us Q I r h
  obtain ⟨l, ks, rfl, hl, hf, q⟩ := h
  rw [Vals.ref1 r]
  obtain ⟨its, rv, pl, hz⟩ := I.list hl
  have hn : H s.heap.objs.size = none := I.hok.fresh (Nat.le_refl _)
  refine call_setX (P := X.prog) (w := X.w) (I.ok.hd hc) pl.isList (by simpa using strs_vals rv) hf fun h' tk R k => ?_
  exact ⟨.ref s.heap.objs.size, upd H s.heap.objs.size (SetXO X.w s.heap.objs.size ks), I.laid (t' := tk) k (Nat.le_refl _) (setXO_new R), rfl, q _ hn⟩
def rSortX (w : World) : List V → Hp → VK → Prop := fun vs H Q => ∃ (a : Addr) (ks : List Str), vs = [V.ref a] ∧ H a = some (SetXO w a ks) ∧ ks.length < 64 ∧
  ∀ (ys : List Str) (p : Addr), sortedS ys = true → ys.Nodup → (∀ k, k ∈ ys ↔ k ∈ ks) → H p = none → Q (.ref p) (upd H p (.lst (ys.map V.str)))
theorem cr_sortX (hc : X.calm = true) : CallR X (.builtin "sorted") (rSortX X.w) := by
  intro pins s σ H vs us Q I r h
  obtain ⟨a, ks, rfl, ha, h64, q⟩ := h
  have R0 : SetX X.w s.heap a ks := (I.hok a _ ha).1
  rw [Vals.ref1 r]
  refine sorted_setX R0 (I.ok.hd hc) h64 fun s' p out c ys k g o hp hg hout so nd mem few => ?_
  have hlen : (ys.map V.str).length ≤ sizeLine := by rw [List.length_map, sizeLine_eq]; omega
  have hn : H p = none := I.hok.fresh hp
  have J : Inv X pins σ (upd H p (.lst (ys.map V.str))) { s with heap := s'.heap, gens := s'.gens, drawn := s'.drawn, toks := s'.toks } :=
    I.call (ch := []) (Un.laid k hp hn) (I.hok.laid k hp ⟨hlen, out.toList, c, vals_of_strs hout, hg⟩) (by rw [g]; exact I.bare) (fun _ z => nomatch z)
  have e : s' = { s with heap := s'.heap, gens := s'.gens, drawn := s'.drawn, toks := s'.toks } := by
    cases s'
    cases s
    cases o
    rfl
  rw [e]
  exact ⟨.ref p, _, J, rfl, q ys p so nd mem hn⟩
end
end Lc
set_option Elab.async false
set_option linter.all false
set_option maxRecDepth 100000
set_option maxHeartbeats 4000000
namespace Lc
open PySem PySem.Spec PyProof.Rows L2
/-! ## len(set(xs)), xs a list of texts: as many as there are different ones -/
theorem nodup_of_len {α : Type} [DecidableEq α] : ∀ {ks l : List α}, l.Nodup → (∀ k ∈ l, k ∈ ks) → l.length = ks.length → ks.Nodup
  | [], _, _, _, _ => List.nodup_nil
  | x :: r, l, n, s, e => by
    have xr : x ∉ r := fun hx => by
      have := List.Nodup.length_le_of_subset n (l₂ := r) fun k hk => by
        rcases List.mem_cons.mp (s k hk) with q | q
        · rw [q]; exact hx
        · exact q
      rw [List.length_cons] at e
      omega
    have xl : x ∈ l := Classical.byContradiction fun hx => by
      have := List.Nodup.length_le_of_subset n (l₂ := r) fun k hk => by
        rcases List.mem_cons.mp (s k hk) with q | q
        · rw [q] at hk; exact absurd hk hx
        · exact q
      rw [List.length_cons] at e
      omega
    refine List.nodup_cons.mpr ⟨xr, nodup_of_len (l := l.erase x) (n.erase x) (fun k hk => ?_) ?_⟩
    · have hk2 := (List.Nodup.mem_erase_iff n).mp hk
      rcases List.mem_cons.mp (s k hk2.2) with q | q
      · exact absurd q hk2.1
      · exact q
    · rw [List.length_erase_of_mem xl, e, List.length_cons]
      rfl
def rLenX (w : World) : List V → Hp → VK → Prop := fun xs H Q => ∃ (S : Addr) (ks : List Str), xs = [.ref S] ∧ H S = some (SetXO w S ks) ∧ ∀ n : Nat, n ≤ ks.length → (n = ks.length ↔ ks.Nodup) → Q (.int n) H
theorem call_lenX {X : Cx} : CallR X (.builtin "len") (rLenX X.w) := by
  intro pins s σ H xs us Q I r h
  obtain ⟨S, ks, rfl, hS, q⟩ := h
  obtain ⟨u, rfl, ru⟩ := vals1 r
  obtain rfl : u = Value.ref S := ru
  obtain ⟨R, _⟩ := (show ObjOk X.prog X.w H s.heap S (SetXO X.w S ks) from I.hok S _ hS)
  obtain ⟨o, es, ep, t, ho, hex, hd, g, nd, hm, hb, hlen, hf, hr, hl⟩ := (show SetX X.w s.heap S ks from R)
  have e0 : (es.toList.map keyX).length = es.size := by rw [List.length_map, Array.length_toList]
  refine call_len_set ho hex hd hf (by unfold scanBound at hb; omega) ⟨.int es.size, H, I.tok _, ⟨_, rfl⟩, q es.size hlen ⟨fun e => ?_, fun n => ?_⟩⟩
  · exact nodup_of_len nd (fun k hk => (hm k).mpr hk) (by rw [e0, e])
  · have := List.Nodup.length_le_of_subset n (l₂ := es.toList.map keyX) fun k hk => (hm k).mp hk
    omega
end Lc
set_option Elab.async false
set_option linter.all false
set_option maxRecDepth 100000
set_option maxHeartbeats 4000000
namespace K19
open PySem PySem.Spec PyProof.Rows L2 Lc
/-! ## columns behind a step -/
theorem can_str {n : Nat} {x : Str} (h : Sh n x) : (PyData.str x).canLay0 = true := by
  show x.cps.all (· < 0x110000) = true
  rw [Array.all_eq_true]
  intro i hi
  have := h.ok x.cps[i] (by simp)
  simpa using this
theorem cans_all {ds : List PyData} (h : ∀ d ∈ ds, d.canLay0 = true) : PyData.canLayAll0 ds = true := by
  induction ds with
  | nil => rfl
  | cons d ds ih => simp [PyData.canLayAll0, h d List.mem_cons_self, ih fun x hx => h x (List.mem_cons_of_mem _ hx)]
theorem cols_depth (ps : CsL) : PyData.depthAll (ps.map colP) ≤ 1 ∧ PyData.hasDictAll (ps.map colP) = false := by
  induction ps with
  | nil => exact ⟨Nat.zero_le _, rfl⟩
  | cons p ps ih =>
    refine ⟨?_, ?_⟩
    · simp only [List.map_cons, PyData.depthAll, colP, PyData.depth]
      have := ih.1
      omega
    · rw [List.map_cons, PyData.hasDictAll, ih.2]
      rfl
theorem shp_ps {ps : CsL} (h : ColP ps) : SeqAt.shaped (.tuple (ps.map colP)) = true := by
  obtain ⟨h1, h2⟩ := cols_depth ps
  refine Bool.and_eq_true_iff.mpr ⟨?_, decide_eq_true ?_⟩
  · show PyData.canLayAll0 (ps.map colP) = true
    refine cans_all fun d hd => ?_
    obtain ⟨p, hp, rfl⟩ := List.mem_map.mp hd
    obtain ⟨h1, _, h3⟩ := h.ok p hp
    refine cans_all fun d hd => ?_
    simp only [List.mem_cons, List.not_mem_nil, or_false] at hd
    rcases hd with rfl | rfl
    · exact can_str h1
    · exact can_str h3.sh
  · simp only [PyData.depth]
    omega
theorem eqv_cols : ∀ ps qs : CsL, PyData.eqvAll (ps.map colP) (qs.map colP) = decide (ps = qs)
  | [], [] => rfl
  | [], q :: qs => rfl
  | p :: ps, [] => rfl
  | (a, b) :: ps, (c, d) :: qs => by
    rw [List.map_cons, List.map_cons, PyData.eqvAll, eqv_cols ps qs]
    show (PyData.eqv (.tuple [.str a, .str b]) (.tuple [.str c, .str d]) && decide (ps = qs)) = _
    simp only [PyData.eqv, PyData.eqvAll, Bool.and_true]
    by_cases h1 : a = c
    · by_cases h2 : b = d
      · subst h1; subst h2
        simp
      · have : (b == d) = false := beq_eq_false_iff_ne.mpr h2
        rw [this]
        simp [h2]
    · have : (a == c) = false := beq_eq_false_iff_ne.mpr h1
      rw [this]
      simp [h1]
theorem dp_cols {K : PySem.W.Frag} {H : Hp} : ∀ {xs : List V} {ps : CsL}, Cols H xs ps → DpAll K H xs (ps.map colP)
  | _, _, .nil => .nil
  | _, _, .cons e r => .cons (.tup (SqT.of e) (.cons (.str _) (.cons (.str _) .nil))) (dp_cols r)
theorem lt_size {n : Nat} (h : n ≤ 1300) : n < sizeLine := Nat.lt_of_le_of_lt h (by decide)
theorem dhs_strs {H : Hp} : ∀ {ns : List Str} {vs : List V}, DhAll H vs (ns.map PyData.str) → vs = vS ns
  | [], _, .nil => rfl
  | n :: ns, _, .cons h r => by cases h; rw [dhs_strs r]; rfl
theorem dh_strs {H : Hp} {v : V} {ns : List Str} (h : Dh H v (strT ns)) : ∃ a, v = .ref a ∧ H a = some (.tup (vS ns)) := by
  cases h with
  | tup e hs => rw [dhs_strs hs] at e; exact ⟨_, rfl, e⟩
theorem nm_turn {H H1 : Hp} {D : Addr} {ps : CsL} {i : Nat} {z kk : Str} (hD : H D = none) (hD1 : H1 D = some (.lst (vS ((nms ps).take i)))) (ep : ps[i]? = some (z, kk)) (l8 : ps.length ≤ 8) (s1 : Same H H1) : ∃ acc, H1 D = some (.lst acc) ∧ acc.length < sizeLine ∧ (upd H1 D (.lst (acc ++ [.str z])) D = some (.lst (vS ((nms ps).take (i + 1)))) ∧ Same H (upd H1 D (.lst (acc ++ [.str z])))) := by
  refine ⟨_, hD1, ?_, ?_, fun b o e => by rw [upd_ne (ne_of_none e hD)]; exact s1 b o e⟩
  · rw [List.length_map, List.length_take, List.length_map]
    exact Nat.lt_of_le_of_lt (show _ ≤ 8 by omega) (by decide)
  · have : (nms ps)[i]? = some z := by rw [List.getElem?_map, ep]; rfl
    rw [upd_same, List.take_add_one, this]
    unfold vS
    rw [List.map_append]
    rfl
theorem col_turn {H H1 H2 : Hp} {D p : Addr} {ys : List V} {qs : CsL} {z k : Str} (hD : H D = none) (e1 : H1 D = some (.lst ys)) (c1 : Cols H1 ys qs) (l : ys.length ≤ 100) (s1 : Same H H1) (s2 : Same H1 H2) (hp : H2 p = none) :
    ∃ acc, upd H2 p (.tup [.str z, .str k]) D = some (.lst acc) ∧ acc.length < sizeLine ∧ ((∃ ys', upd (upd H2 p (.tup [.str z, .str k])) D (.lst (acc ++ [.ref p])) D = some (.lst ys') ∧ Cols (upd (upd H2 p (.tup [.str z, .str k])) D (.lst (acc ++ [.ref p]))) ys' (qs ++ [(z, k)])) ∧ Same H (upd (upd H2 p (.tup [.str z, .str k])) D (.lst (acc ++ [.ref p])))) := by
  have zp := Same.upd (o := .tup [.str z, .str k]) hp
  have e3 := zp _ _ (s2 _ _ e1)
  refine ⟨ys, e3, lt_size (by omega), ⟨ys ++ [.ref p], upd_same, ?_⟩, fun b o e => by rw [upd_ne (ne_of_none e hD)]; exact zp _ _ (s2 _ _ (s1 _ _ e))⟩
  have c3 : Cols (upd H2 p (.tup [.str z, .str k])) ys qs := (c1.t (SameT.of s2)).t (SameT.of zp)
  exact (c3.app (.cons upd_same .nil)).t (SameT.lst e3)
theorem fil_take {α : Type} {l : List α} {i : Nat} {x : α} (f : α → Bool) (h : l[i]? = some x) : (l.take (i + 1)).filter f = (l.take i).filter f ++ (if f x = true then [x] else []) := by
  rw [List.take_add_one, h, List.filter_append]
  show _ ++ List.filter f [x] = _
  rw [List.filter_cons]
  cases f x <;> rfl
def spBt : Sp := fun vs H Q _ => ∃ n lo hi : Int, vs = [.int n, .int lo, .int hi] ∧ Q (.bl (decide (lo ≤ n) && decide (n ≤ hi))) H
def spWd : Sp := fun vs H Q _ => ∃ (p : Addr) (z : Str) (xs : List V), vs = [.ref p] ∧ H p = some (.tup (.str z :: xs)) ∧ xs.length < 1000 ∧ Q (.str z) H
def spTo : Sp := fun vs H Q _ => ∃ (p : Addr) (xs : List V) (lo hi : Int), vs = [.ref p, .int lo, .int hi] ∧ H p = some (.tup xs) ∧ Q (.bl (decide (lo ≤ (xs.length : Int)) && decide ((xs.length : Int) ≤ hi))) H
def kdV (ps : CsL) (x : Str) : V := if x ∈ nms ps then .str (kdOf ps x) else .non
theorem kdV_in {ps : CsL} {x : Str} (h : x ∈ nms ps) : kdV ps x = .str (kdOf ps x) := if_pos h
theorem kdV_no {ps : CsL} {x : Str} (h : x ∉ nms ps) : kdV ps x = .non := if_neg h
def spKi : Sp := fun vs H Q _ => ∃ (L : Addr) (ps : CsL) (x : Str), vs = [.ref L, .str x] ∧ CA H L ps ∧ (nms ps).Nodup ∧ Q (kdV ps x) H
def spAc : Sp := fun vs H Q _ => ∃ (L p : Addr) (ps : CsL) (ns : List Str), vs = [.ref L, .ref p] ∧ CA H L ps ∧ ColP ps ∧ H p = some (.tup (vS ns)) ∧ (∀ n ∈ ns, n ∈ nms ps) ∧ ns.Nodup ∧ ns.length ≤ 8 ∧ ∀ H', Same H H' → Q (.bl true) H'
def spBd : Sp := fun vs H Q _ => ∃ (L : Addr) (ps : CsL), vs = [.ref L] ∧ CA H L ps ∧ ps.length ≤ 8 ∧ Q (.ref L) H
/-- the tables' columns -/
abbrev OsL : Type := List (Str × CsL)
inductive TabC (H : Hp) : List (Key × V) → OsL → Prop
  | nil : TabC H [] []
  | cons {n : Str} {cs : CsL} {C : Addr} {kvs : List (Key × V)} {os : OsL} (ca : CA H C cs) (r : TabC H kvs os) : TabC H ((Sum.inr n, .ref C) :: kvs) ((n, cs) :: os)
theorem TabC.same {H H' : Hp} (s : Same H H') : ∀ {kvs : List (Key × V)} {os : OsL}, TabC H kvs os → TabC H' kvs os
  | _, _, .nil => .nil
  | _, _, .cons ca r => .cons (ca.same s) (TabC.same s r)
theorem TabC.b {t : Addr} {H H' : Hp} (T : Tape H t) (s : SameB t H H') : ∀ {kvs : List (Key × V)} {os : OsL}, TabC H kvs os → TabC H' kvs os
  | _, _, .nil => .nil
  | _, _, .cons ca r => .cons (ca.b T s) (TabC.b T s r)
theorem TabC.at {H : Hp} {x : Str} {cs : CsL} : ∀ {kvs : List (Key × V)} {os : OsL}, TabC H kvs os → (os.map (·.1)).Nodup → (x, cs) ∈ os → ∃ C, valV kvs (Sum.inr x : Key) = some (.ref C) ∧ CA H C cs
  | _, _, .nil, _, h => by cases h
  | _, _, .cons (n := n) (C := C) ca r, nd, h => by
    rw [List.map_cons, List.nodup_cons] at nd
    rcases List.mem_cons.mp h with h | h
    · injection h with h1 h2
      subst h1
      subst h2
      exact ⟨C, valV_pos rfl, ca⟩
    · have ne : n ≠ x := fun e => nd.1 (by rw [e]; exact List.mem_map_of_mem (f := (·.1)) h)
      obtain ⟨C', h1, h2⟩ := TabC.at r nd.2 h
      exact ⟨C', by rw [valV_neg (fun w => ne (by injection w))]; exact h1, h2⟩
structure WdP (os : OsL) : Prop where
  ok : ∀ o ∈ os, nmS o.1 ∧ Sh 12 o.1 ∧ ColP o.2
  nd : (os.map (·.1)).Nodup
  l : os.length ≤ 10
/-- what a step of the word w leads to -/
def spBeh (wd : Str) : Sp := fun vs H Q _ => ∃ (D0 : Addr) (kvs : List (Key × V)) (os : OsL) (cv p : Addr) (ps qs : CsL) (st : Ps), vs = [.ref D0, .ref cv, .ref p] ∧ H D0 = some (.dK kvs) ∧ TabC H kvs os ∧ WdP os ∧ CA H cv ps ∧ ColP ps ∧ Dh H (.ref p) st.d ∧ Lead os ps st qs ∧ st.w = wd ∧ ∀ (cv' : Addr) (H' : Hp), Same H H' → CA H' cv' qs → Q (.ref cv') H'
theorem take_nodup {ns : List Str} {i : Nat} {g : Str} (nd : ns.Nodup) (e : ns[i]? = some g) : g ∉ ns.take i := fun h => by
  have e2 : ns = ns.take i ++ ns.drop i := (List.take_append_drop i ns).symm
  rw [e2, List.nodup_append] at nd
  have hd : g ∈ ns.drop i := by
    obtain ⟨l, rfl⟩ := List.getElem?_eq_some_iff.mp e
    exact List.mem_iff_getElem?.mpr ⟨0, by rw [List.getElem?_drop]; simpa using List.getElem?_eq_getElem l⟩
  exact nd.2.2 g h g hd rfl
theorem dh2 {H : Hp} {p : Addr} {a : Str} {b : PyData} (h : Dh H (.ref p) (.tuple [.str a, b])) : ∃ v, H p = some (.tup [.str a, v]) ∧ Dh H v b := by
  cases h with
  | tup e hs => cases hs with
    | cons h1 r1 => cases r1 with
      | cons h2 r2 => cases r2; cases h1; exact ⟨_, e, h2⟩
theorem dh3 {H : Hp} {p : Addr} {a b : Str} {c : PyData} (h : Dh H (.ref p) (.tuple [.str a, .str b, c])) : ∃ v, H p = some (.tup [.str a, .str b, v]) ∧ Dh H v c := by
  cases h with
  | tup e hs => cases hs with
    | cons h1 r1 => cases r1 with
      | cons h2 r2 => cases r2 with
        | cons h3 r3 => cases r3; cases h1; cases h2; exact ⟨_, e, h3⟩
theorem dh4 {H : Hp} {p : Addr} {a : Str} {b c d : Int} (h : Dh H (.ref p) (.tuple [.str a, .int b, .int c, .int d])) : H p = some (.tup [.str a, .int b, .int c, .int d]) := by
  cases h with
  | tup e hs => cases hs with
    | cons h1 r1 => cases r1 with
      | cons h2 r2 => cases r2 with
        | cons h3 r3 => cases r3 with
          | cons h4 r4 => cases r4; cases h1; cases h2; cases h3; cases h4; exact e
def Ps.len : Ps → Nat
  | .keep _ => 2
  | .first _ => 2
  | .sample _ _ _ => 4
  | .join _ _ => 3
  | .union _ => 2
theorem ps_at {H : Hp} {p : Addr} {st : Ps} (h : Dh H (.ref p) st.d) : ∃ xs : List V, H p = some (.tup (.str st.w :: xs)) ∧ xs.length + 1 = st.len := by
  cases st with
  | keep e => obtain ⟨v, e, _⟩ := dh2 h; exact ⟨_, e, rfl⟩
  | first n => obtain ⟨v, e, _⟩ := dh2 h; exact ⟨_, e, rfl⟩
  | sample n w s => exact ⟨_, dh4 h, rfl⟩
  | join t ks => obtain ⟨v, e, _⟩ := dh3 h; exact ⟨_, e, rfl⟩
  | union t => obtain ⟨v, e, _⟩ := dh2 h; exact ⟨_, e, rfl⟩
theorem nm_len {x : Str} (h : Sh 12 x) : ∀ y, V.str x = V.str y → y.length ≤ sizeLine := fun y e => by
  injection e with e
  rw [← e]
  exact Nat.le_trans h.len (by decide)
/-- a column put at the end of the new ones -/
theorem col_put {H H1 H2 : Hp} {D p : Addr} {ys : List V} {qs : CsL} {z k : Str} (hD : H D = none) (e1 : H1 D = some (.lst ys)) (c1 : Cols H1 ys qs) (l : ys.length ≤ 100) (s1 : Same H H1) (s2 : Same H1 H2) (hp : H2 p = some (.tup [.str z, .str k])) :
    ∃ acc, H2 D = some (.lst acc) ∧ acc.length < sizeLine ∧ ((∃ ys', upd H2 D (.lst (acc ++ [.ref p])) D = some (.lst ys') ∧ Cols (upd H2 D (.lst (acc ++ [.ref p]))) ys' (qs ++ [(z, k)])) ∧ Same H (upd H2 D (.lst (acc ++ [.ref p])))) := by
  have e3 := s2 _ _ e1
  refine ⟨ys, e3, lt_size (by omega), ⟨ys ++ [.ref p], upd_same, ?_⟩, fun b o e => by rw [upd_ne (ne_of_none e hD)]; exact s2 _ _ (s1 _ _ e)⟩
  exact ((c1.t (SameT.of s2)).app (.cons hp .nil)).t (SameT.lst e3)
section
variable {P : Program} {w : World} {K : PySem.W.Frag} {mg : Str → Option Value} {base : Heap} {f : Addr} {fd : FuncData}
abbrev sBt : Stmt := top 78
abbrev nBt : List Str := ["value", "low", "high"]
abbrev pBt : List Str := ["value", "low", "high"]
theorem scBt : FnScope nBt pBt (defScope sBt) := ⟨rfl, rfl, rfl, by decide +kernel, rfl, by decide +kernel, by decide +kernel⟩
section
variable {fA_ : Addr} {fdA_ : FuncData}
theorem ok_Bt (F : Fun K "is_between" "is_between" sBt f fd) (T : Bt mg)
    (GA_ : FnOk P w K mg base CX0 1 fA_ fdA_ ["value"] (spWhole)) (mA_ : mg "is_whole" = some (.ref fA_)) (kA_ : PySem.W.keepIn K (.ref fA_) = true) (bA_ : Binds K fdA_ ["value"] []) : FnOk P w K mg base CX0 2 f fd pBt (spBt) := by
  refine F.ok scBt (fun vs H Q E h => ?_) (fun cdv A outer s H vs Q E hr h => ?_)
  · obtain ⟨n, lo, hi, rfl, _⟩ := h
    rfl
  · obtain ⟨n, lo, hi, rfl, k⟩ := h
    have hrA_ : Room (1) _ := hr.mono (by first | decide | omega)
    refine ⟨_, (pss_one (ps_ret (pe_and (pe_call GA_ hrA_ (by rfl) mA_ kA_ bA_ .nil pass0 (pa_cons (pv 0) pa_nil)) (pe_one (pe_chain op_le op_le (pv 1) (pv 0) (pv 2)))))), ?_⟩
    refine ⟨_, rfl, .int n, "int", rfl, .int n, _, rfl, iteT ⟨_, rfl, _, rfl, _, _, rfl, rfl, _, rfl, ite2 (fun q => ?_) (fun q => ?_)⟩⟩
    · refine ⟨_, rfl, _, _, rfl, rfl, ?_⟩
      rw [q, Bool.true_and] at k
      exact k
    · have q : decide (lo ≤ n) = false := by simpa using q
      rw [q, Bool.false_and] at k
      exact k
end
abbrev sWd : Stmt := top 97
abbrev nWd : List Str := ["step"]
abbrev pWd : List Str := ["step"]
theorem scWd : FnScope nWd pWd (defScope sWd) := ⟨rfl, rfl, rfl, by decide +kernel, rfl, by decide +kernel, by decide +kernel⟩
section
theorem ok_Wd (F : Fun K "word_of" "word_of" sWd f fd) (T : Bt mg) : FnOk P w K mg base CX0 1 f fd pWd (spWd) := by
  refine F.ok scWd (fun vs H Q E h => ?_) (fun cdv A outer s H vs Q E hr h => ?_)
  · obtain ⟨p, z, xs, rfl, _⟩ := h
    rfl
  · obtain ⟨p, z, xs, rfl, hp, lx, k⟩ := h
    refine ⟨_, (pss_cons (ps_if (PW.pt (pw_and (pt_val (pe_callB call_isi (by rfl) T.isi boot_isinstance (pa_cons (pv 0) (pa_cons (pe_bltn (v := .ty "tuple") (by rfl) T.tuple boot_tuple rfl) pa_nil)))) (pw_and (pt_cmpR op_gt (pe_callB call_len_seq (by rfl) T.len PySem.boot_len (pa_cons (pv 0) pa_nil)) pe_int (nomark _)) (pw_and1 (pt_val (pe_callB call_isi (by rfl) T.isi boot_isinstance (pa_cons (pe_ix ix_tup (pv 0) pe_int (fun _ _ => rfl)) (pa_cons (pe_bltn (v := .ty "str") (by rfl) T.str boot_str rfl) pa_nil)))))))) (pss_one (ps_ret (pe_ix ix_tup (pv 0) pe_int (fun _ _ => rfl)))) pss_nil)
      (pss_one (ps_ret pe_non))), ?_⟩
    have at0 : ∀ (p : Addr), ∃ q, q = p := fun p => ⟨p, rfl⟩
    refine ⟨_, rfl, .ref p, .ty "tuple", _, _, _, rfl, .ty "tuple", (TyN.tup hp).x, kit_tuple (TyN.tup hp).mem, _, rfl, iteT ?_⟩
    refine ⟨_, rfl, p, _, rfl, .inr (SqT.of hp), _, _, rfl, rfl, _, rfl, ?_⟩
    rw [decide_eq_true (show (0 : Int) < ((V.str z :: xs).length : Int) by rw [List.length_cons]; omega)]
    refine iteT ⟨_, rfl, p, _, _, .str z, rfl, rfl, SqT.of hp, at_of (j := 0) rfl rfl, .str z, .ty "str", _, _, _, rfl, .ty "str", (TyN.str z).x, kit_str (TyN.str (H := H) z).mem, _, rfl, iteT ?_⟩
    exact ⟨_, rfl, p, _, _, .str z, rfl, rfl, SqT.of hp, at_of (j := 0) rfl rfl, k⟩
end
abbrev sTo : Stmt := top 79
abbrev nTo : List Str := ["value", "low", "high"]
abbrev pTo : List Str := ["value", "low", "high"]
theorem scTo : FnScope nTo pTo (defScope sTo) := ⟨rfl, rfl, rfl, by decide +kernel, rfl, by decide +kernel, by decide +kernel⟩
section
theorem ok_To (F : Fun K "is_tuple_of" "is_tuple_of" sTo f fd) (T : Bt mg) : FnOk P w K mg base CX0 1 f fd pTo (spTo) := by
  refine F.ok scTo (fun vs H Q E h => ?_) (fun cdv A outer s H vs Q E hr h => ?_)
  · obtain ⟨p, xs, lo, hi, rfl, _⟩ := h
    rfl
  · obtain ⟨p, xs, lo, hi, rfl, hp, k⟩ := h
    refine ⟨_, (pss_one (ps_ret (pe_and (pe_callB call_isi (by rfl) T.isi boot_isinstance (pa_cons (pv 0) (pa_cons (pe_bltn (v := .ty "tuple") (by rfl) T.tuple boot_tuple rfl) pa_nil))) (pe_one (pe_chain op_le op_le (pv 1) (pe_callB call_len_seq (by rfl) T.len PySem.boot_len (pa_cons (pv 0) pa_nil)) (pv 2)))))), ?_⟩
    refine ⟨_, rfl, .ref p, .ty "tuple", _, _, _, rfl, .ty "tuple", (TyN.tup hp).x, kit_tuple (TyN.tup hp).mem, _, rfl, iteT ⟨_, rfl, _, rfl, p, _, rfl, .inr (SqT.of hp), _, _, rfl, rfl, _, rfl, ite2 (fun q => ?_) (fun q => ?_)⟩⟩
    · refine ⟨_, rfl, _, _, rfl, rfl, ?_⟩
      rw [q, Bool.true_and] at k
      exact k
    · have q : decide (lo ≤ (xs.length : Int)) = false := by simpa using q
      rw [q, Bool.false_and] at k
      exact k
end
abbrev sKi : Stmt := top 80
abbrev nKi : List Str := ["columns", "name", "called", "kind"]
abbrev pKi : List Str := ["columns", "name"]
theorem scKi : FnScope nKi pKi (defScope sKi) := ⟨rfl, rfl, rfl, by decide +kernel, rfl, by decide +kernel, by decide +kernel⟩
section
theorem ok_Ki (F : Fun K "kind_in" "kind_in" sKi f fd) (T : Bt mg) : FnOk P w K mg base CX0 1 f fd pKi (spKi) := by
  refine F.ok scKi (fun vs H Q E h => ?_) (fun cdv A outer s H vs Q E hr h => ?_)
  · obtain ⟨L, ps, x, rfl, _⟩ := h
    rfl
  · obtain ⟨L, ps, x, rfl, hL, cp, k⟩ := h
    refine ⟨_, (pss_cons (ps_for PassesOwn.never rfl (pi_tup (pv 0)) (pg_tup rfl (pgs_cons (pg_name (i := 2) scKi.nd rfl (.inl rfl)) (pgs_cons (pg_name (i := 3) scKi.nd rfl (.inl rfl)) pgs_nil))) (pss_one (ps_if (pt_cmpR op_eq (pv 2) (pv 1) (nomark _)) (pss_one (ps_ret (pv 3))) pss_nil)))
      (pss_one (ps_ret pe_non))), ?_⟩
    obtain ⟨xs, zL, cc⟩ := hL
    refine ⟨_, rfl, L, rfl, ⟨_, zL.sq⟩, for_tup (K := K) (a := L) (xs := xs) (fun i σ H' => (∃ x2 x3 : Option V, σ = [some (.ref L), some (.str x), x2, x3]) ∧ H' = H ∧ ∀ p ∈ ps.take i, p.1 ≠ x) ⟨⟨none, none, rfl⟩, rfl, fun p hp => by simp at hp⟩ (fun i σ H' _ pr => by rw [pr.2.1]; exact zL.sq) ?_ ?_⟩
    · rintro i y σ H2 hy ⟨⟨x2, x3, rfl⟩, rfl, hno⟩
      obtain ⟨a, z, kk, rfl, ea, ep⟩ := cc.get _ _ hy
      refine ⟨a, _, rfl, SqT.of ea, rfl, _, _, rfl, _, _, rfl, rfl, ?_⟩
      dsimp only [gNil]
      refine ⟨_, rfl, _, rfl, rfl, _, rfl, ?_⟩
      by_cases q : z = x
      · rw [show decide (V.str z = V.str x) = true by rw [q]; exact decide_eq_true rfl]
        refine iteT ⟨_, rfl, ?_⟩
        have hm := List.mem_of_getElem? ep
        have hx : x ∈ nms ps := by rw [← q]; exact List.mem_map_of_mem hm
        rw [kdV_in hx, ← q, kdOf_mem cp hm] at k
        exact k
      · rw [show decide (V.str z = V.str x) = false from decide_eq_false (fun h => q (by injection h))]
        refine iteF ⟨⟨_, _, rfl⟩, rfl, fun p hp => ?_⟩
        rw [List.take_add_one, ep] at hp
        rcases List.mem_append.mp hp with hp | hp
        · exact hno p hp
        · rw [Option.toList_some, List.mem_singleton] at hp
          rw [hp]
          exact q
    · rintro σ H2 ⟨⟨x2, x3, rfl⟩, rfl, hno⟩
      rw [cc.len, List.take_length] at hno
      have hx : x ∉ nms ps := fun h => by
        obtain ⟨p, hp, e⟩ := List.mem_map.mp h
        exact hno p hp e
      rw [kdV_no hx] at k
      exact k
end
abbrev sAc : Stmt := top 81
abbrev nAc : List Str := ["columns", "names", "seen", "name"]
abbrev pAc : List Str := ["columns", "names"]
theorem scAc : FnScope nAc pAc (defScope sAc) := ⟨rfl, rfl, rfl, by decide +kernel, rfl, by decide +kernel, by decide +kernel⟩
section
variable {fA_ : Addr} {fdA_ : FuncData}
theorem ok_Ac (F : Fun K "are_columns" "are_columns" sAc f fd) (T : Bt mg)
    (GA_ : FnOk P w K mg base CX0 1 fA_ fdA_ ["columns", "name"] (spKi)) (mA_ : mg "kind_in" = some (.ref fA_)) (kA_ : PySem.W.keepIn K (.ref fA_) = true) (bA_ : Binds K fdA_ ["columns", "name"] []) : FnOk P w K mg base CX0 2 f fd pAc (spAc) := by
  refine F.ok scAc (fun vs H Q E h => ?_) (fun cdv A outer s H vs Q E hr h => ?_)
  · obtain ⟨L, p, ps, ns, rfl, _⟩ := h
    rfl
  · obtain ⟨L, p, ps, ns, rfl, hL, cp, hp, hn, nd, k⟩ := h
    have hrA_ : Room (1) _ := hr.mono (by first | decide | omega)
    refine ⟨_, (pss_cons (ps_set (i := 2) scAc.nd rfl (Or.inl rfl) (pe_lst pa_nil))
      (pss_cons (ps_for PassesOwn.never rfl (pi_tup (pv 1)) (pg_name (i := 3) scAc.nd rfl (.inl rfl)) (pss_cons (ps_if (PW.pt (pw_or (pt_cmpR op_in_seq (pv 3) (pv 2) (by rfl)) (pw_or1 (pt_cmpR op_isN (pe_call GA_ hrA_ (by rfl) mA_ kA_ bA_ .nil pass0 (pa_cons (pv 0) (pa_cons (pv 3) pa_nil))) pe_non (nomark _))))) (pss_one (ps_ret pe_bl)) pss_nil)
      (pss_one (ps_expr (pe_bm PySem.F.plainAttrs_list PySem.F.slot_list_append PySem.F.type_list_append mt_append (pv 2) (pa_cons (pv 3) pa_nil))))))
      (pss_one (ps_ret pe_bl)))), ?_⟩
    obtain ⟨n8, k⟩ := k
    refine ⟨Nat.zero_le _, fun S hS => ?_⟩
    have zS := Same.upd (o := .lst []) hS
    refine ⟨_, rfl, p, rfl, ⟨_, SqT.of (zS _ _ hp)⟩, for_tup (K := K) (a := p) (xs := vS ns) (fun i σ H' => (∃ x3 : Option V, σ = [some (.ref L), some (.ref p), some (.ref S), x3]) ∧ H' S = some (.lst (vS (ns.take i))) ∧ Same H H') ⟨⟨none, rfl⟩, upd_same, zS⟩ (fun i σ H' _ pr => SqT.of (pr.2.2 _ _ hp)) ?_ ?_⟩
    · rintro i y σ H2 hy ⟨⟨x3, rfl⟩, eS, s2⟩
      rw [List.getElem?_map] at hy
      obtain ⟨g, eg, rfl⟩ := Option.map_eq_some_iff.mp hy
      have gm := hn g (List.mem_of_getElem? eg)
      have fl : (vS (ns.take i)).all flatV = true := List.all_eq_true.mpr fun v hv => by
        obtain ⟨x, _, rfl⟩ := List.mem_map.mp hv
        rfl
      refine ⟨_, rfl, _, rfl, S, _, rfl, .inl (SqL.of eS), rfl, fl, _, rfl, ?_⟩
      rw [in_strs, decide_eq_false (take_nodup nd eg)]
      refine iteF ⟨_, rfl, _, rfl, L, ps, g, rfl, hL.same s2, cp.nd, ?_⟩
      rw [kdV_in gm]
      refine ⟨rfl, _, rfl, iteF ⟨_, rfl, .inl ⟨rfl, _, SqL.of eS⟩, _, rfl, S, _, _, rfl, rfl, eS, lt_size (by rw [List.length_map, List.length_take]; omega), ⟨⟨_, rfl⟩, ?_, fun b o e => by rw [upd_ne (ne_of_none e hS)]; exact s2 b o e⟩⟩⟩
      rw [upd_same, List.take_add_one, eg]
      unfold vS
      rw [List.map_append]
      rfl
    · rintro σ H2 ⟨⟨x3, rfl⟩, eS, s2⟩
      exact k H2 s2
end
abbrev sBd : Stmt := top 82
abbrev nBd : List Str := ["columns"]
abbrev pBd : List Str := ["columns"]
theorem scBd : FnScope nBd pBd (defScope sBd) := ⟨rfl, rfl, rfl, by decide +kernel, rfl, by decide +kernel, by decide +kernel⟩
section
theorem ok_Bd (F : Fun K "bounded" "bounded" sBd f fd) (T : Bt mg) {u8 : Tok} (m8 : mg "MOST_COLUMNS" = some (.int 8 u8)) : FnOk P w K mg base CX0 1 f fd pBd (spBd) := by
  refine F.ok scBd (fun vs H Q E h => ?_) (fun cdv A outer s H vs Q E hr h => ?_)
  · obtain ⟨L, ps, rfl, _⟩ := h
    rfl
  · obtain ⟨L, ps, rfl, hL, l8, k⟩ := h
    refine ⟨_, (pss_one (ps_ret (pe_ifExp (pt_cmpR op_le (pe_callB call_len_seq (by rfl) T.len PySem.boot_len (pa_cons (pv 0) pa_nil)) (pe_glob (v := .int 8) (by rfl) m8 ⟨_, rfl⟩) (nomark _)) (pv 0) pe_non))), ?_⟩
    obtain ⟨xs, zL, cc⟩ := hL
    have lx := cc.len
    refine ⟨_, rfl, L, _, rfl, .inr zL.sq, _, _, rfl, rfl, _, rfl, ?_⟩
    rw [decide_eq_true (show (xs.length : Int) ≤ 8 by omega)]
    exact iteT ⟨_, rfl, k⟩
end
end
/-- a list of one and the same bool grows -/
theorem bl_turn {H H1 : Hp} {D : Addr} {i : Nat} {b : Bool} (hD : H D = none) (e : H1 D = some (.lst ((List.replicate i b).map V.bl))) (l : i ≤ 100) (s : Same H H1) : ∃ acc, H1 D = some (.lst acc) ∧ acc.length < sizeLine ∧ (upd H1 D (.lst (acc ++ [.bl b])) D = some (.lst ((List.replicate (i + 1) b).map V.bl)) ∧ Same H (upd H1 D (.lst (acc ++ [.bl b])))) := by
  refine ⟨_, e, ?_, ?_, fun c o h => by rw [upd_ne (ne_of_none h hD)]; exact s c o h⟩
  · rw [List.length_map, List.length_replicate]
    exact lt_size (by omega)
  · rw [upd_same, List.replicate_succ', List.map_append]
    rfl
theorem any_rep (n : Nat) : (List.replicate n false).any id = false := by
  induction n with
  | zero => rfl
  | succ n ih => rw [List.replicate_succ, List.any_cons, ih]; rfl
theorem all_rep (n : Nat) : (List.replicate n true).all id = true := by
  induction n with
  | zero => rfl
  | succ n ih => rw [List.replicate_succ, List.all_cons, ih]; rfl
abbrev teJ1 : TE := tOp rNe (tCall spKi [] E0 (tCons (tVar 1) (tCons (tVar 7) tNil))) (tCall spKi [] E0 (tCons (tVar 6) (tCons (tVar 7) tNil)))
abbrev ttJ (K : PySem.W.Frag) : TT := tTest (tOp (rIn K true) (tOp (rIxT K) (tVar 9) (tC (.int 0))) (tVar 5))
abbrev teJ2 (K : PySem.W.Frag) : TE := tOp (fun x y H Q => y = .non ∧ Q (.bl (!decide (x = .non))) H) (tCall spKi [] E0 (tCons (tVar 1) (tCons (tOp (rIxT K) (tVar 9) (tC (.int 0))) tNil))) (tC .non)
def spNo : Sp := fun vs H Q _ => ∃ (L : Addr) (ps : CsL), vs = [.ref L] ∧ CA H L ps ∧ ps.length ≤ 8 ∧ ∀ (D : Addr) (H' : Hp), Same H H' → H D = none → H' D = some (.lst (vS (nms ps))) → Q (.ref D) H'
section
variable {P : Program} {w : World} {K : PySem.W.Frag} {mg : Str → Option Value} {base : Heap} {f : Addr} {fd : FuncData}
abbrev sNo : Stmt := top 57
abbrev nNo : List Str := ["columns", "name", "kind"]
abbrev pNo : List Str := ["columns"]
theorem scNo : FnScope nNo pNo (defScope sNo) := ⟨rfl, rfl, rfl, by decide +kernel, rfl, by decide +kernel, by decide +kernel⟩
section
theorem ok_No (F : Fun K "names_of" "names_of" sNo f fd) (T : Bt mg) : FnOk P w K mg base CX0 1 f fd pNo (spNo) := by
  refine F.ok scNo (fun vs H Q E h => ?_) (fun cdv A outer s H vs Q E hr h => ?_)
  · obtain ⟨L, ps, rfl, _⟩ := h
    rfl
  · obtain ⟨L, ps, rfl, hL, l8, k⟩ := h
    refine ⟨_, (pss_one (ps_ret (pe_lc (own := [("name", 1), ("kind", 2)]) (g := (gTup K 2 (gCons (gName 1) (gCons (gName 2) gNil)))) (tt := tYes) (te := tVar 1) (by rfl) scNo.nd (pi_tup (pv 0)) (blkOk_by (own := [("name", 1), ("kind", 2)]) (N := nNo) (sc := defScope sNo) (by decide +kernel)) (fun _ _ _ _ _ => (pg_tup rfl (pgs_cons (pg_name (i := 1) scNo.nd rfl (.inl rfl)) (pgs_cons (pg_name (i := 2) scNo.nd rfl (.inl rfl)) pgs_nil)))) (fun _ _ _ _ _ => pts_nil) (fun _ _ _ _ _ => (pv 1))))), ?_⟩
    obtain ⟨xs, zL, cc⟩ := hL
    refine ⟨_, rfl, L, rfl, ⟨_, zL.sq⟩, fun W hW => lc_tup (K := K) (a := L) (xs := xs) (fun i H' => H' W = some (.lst (vS ((nms ps).take i))) ∧ Same H H') ⟨upd_same, Same.upd hW⟩ (fun i H' _ pr => (zL.same pr.2).sq) ?_ ?_⟩
    · rintro i x H1 hx ⟨hW1, s1⟩
      obtain ⟨a, z, kk, rfl, ea, ep⟩ := cc.get _ _ hx
      refine ⟨a, _, rfl, SqT.of (s1 _ _ ea), rfl, _, _, rfl, _, _, rfl, rfl, rfl, ?_⟩
      dsimp only [tYes]
      exact iteT ⟨_, rfl, nm_turn hW hW1 ep l8 s1⟩
    rintro H1 ⟨hW1, s1⟩
    rw [show xs.length = (nms ps).length by rw [cc.len, List.length_map], List.take_length] at hW1
    exact k W H1 s1 hW hW1
end
abbrev sFi : Stmt := top 88
abbrev nFi : List Str := ["tables", "columns", "step"]
abbrev pFi : List Str := ["tables", "columns", "step"]
theorem scFi : FnScope nFi pFi (defScope sFi) := ⟨rfl, rfl, rfl, by decide +kernel, rfl, by decide +kernel, by decide +kernel⟩
section
variable {fA_ : Addr} {fdA_ : FuncData}
theorem ok_Fi (F : Fun K "behind_first" "behind_first" sFi f fd) (T : Bt mg) {uc : Tok} (mC : mg "MOST_COUNT" = some (.int 1000 uc))
    (GA_ : FnOk P w K mg base CX0 2 fA_ fdA_ ["value", "low", "high"] (spBt)) (mA_ : mg "is_between" = some (.ref fA_)) (kA_ : PySem.W.keepIn K (.ref fA_) = true) (bA_ : Binds K fdA_ ["value", "low", "high"] []) : FnOk P w K mg base CX0 3 f fd pFi ((spBeh "first")) := by
  refine F.ok scFi (fun vs H Q E h => ?_) (fun cdv A outer s H vs Q E hr h => ?_)
  · obtain ⟨D0, kvs, os, cv, p, ps, qs, st, rfl, _⟩ := h
    rfl
  · obtain ⟨D0, kvs, os, cv, p, ps, qs, st, rfl, hD0, hO, wO, hL, cp, hd, ld, hw, k⟩ := h
    have hrA_ : Room (2) _ := hr.mono (by first | decide | omega)
    refine ⟨_, (pss_one (ps_ret (pe_ifExp (pt_val (pe_call GA_ hrA_ (by rfl) mA_ kA_ bA_ .nil pass0 (pa_cons (pe_ix ix_tup (pv 2) pe_int (fun _ _ => rfl)) (pa_cons pe_int (pa_cons (pe_glob (v := .int 1000) (by rfl) mC ⟨_, rfl⟩) pa_nil))))) (pv 1) pe_non))), ?_⟩
    cases st with
    | keep e => exact absurd hw (by show ¬ ("keep" : Str) = "first"; decide +kernel)
    | sample a b c => exact absurd hw (by show ¬ ("sample" : Str) = "first"; decide +kernel)
    | join a b => exact absurd hw (by show ¬ ("join" : Str) = "first"; decide +kernel)
    | union a => exact absurd hw (by show ¬ ("union" : Str) = "first"; decide +kernel)
    | first n =>
    cases ld with
    | first l =>
    obtain ⟨v, e1, dv⟩ := dh2 hd
    cases dv
    refine ⟨_, rfl, p, _, _, .int n, rfl, rfl, SqT.of e1, at_of (j := 1) rfl rfl, n, 0, 1000, rfl, _, rfl, ?_⟩
    rw [decide_eq_true (show (0 : Int) ≤ (n : Int) by omega), decide_eq_true (show (n : Int) ≤ 1000 by omega)]
    exact iteT ⟨_, rfl, k cv H (Same.refl _) hL⟩
end
abbrev sUo : Stmt := top 91
abbrev nUo : List Str := ["tables", "columns", "step", "other"]
abbrev pUo : List Str := ["tables", "columns", "step"]
theorem scUo : FnScope nUo pUo (defScope sUo) := ⟨rfl, rfl, rfl, by decide +kernel, rfl, by decide +kernel, by decide +kernel⟩
section
variable {fA_ : Addr} {fdA_ : FuncData}
theorem ok_Uo (F : Fun K "behind_union" "behind_union" sUo f fd) (T : Bt mg)
    (GA_ : FnOk P w K mg base CX0 1 fA_ fdA_ ["value"] (spName)) (mA_ : mg "is_name" = some (.ref fA_)) (kA_ : PySem.W.keepIn K (.ref fA_) = true) (bA_ : Binds K fdA_ ["value"] []) : FnOk P w K mg base CX0 2 f fd pUo ((spBeh "union")) := by
  refine F.ok scUo (fun vs H Q E h => ?_) (fun cdv A outer s H vs Q E hr h => ?_)
  · obtain ⟨D0, kvs, os, cv, p, ps, qs, st, rfl, _⟩ := h
    rfl
  · obtain ⟨D0, kvs, os, cv, p, ps, qs, st, rfl, hD0, hO, wO, hL, cp, hd, ld, hw, k⟩ := h
    have hrA_ : Room (1) _ := hr.mono (by first | decide | omega)
    refine ⟨_, (pss_cons (ps_set (i := 3) scUo.nd rfl (Or.inl rfl) (pe_ix ix_tup (pv 2) pe_int (fun _ _ => rfl)))
      (pss_one (ps_ret (pe_ifExp (PW.pt (pw_and (pt_val (pe_call GA_ hrA_ (by rfl) mA_ kA_ bA_ .nil pass0 (pa_cons (pv 3) pa_nil))) (pw_and1 (pt_cmpR (op_eqD hr.units) (pe_dget (hu_of hr) (pv 0) (pv 3) (fun _ _ => rfl)) (pv 1) (nomark _))))) (pv 1) pe_non)))), ?_⟩
    cases st with
    | keep e => exact absurd hw (by show ¬ ("keep" : Str) = "union"; decide +kernel)
    | first n => exact absurd hw (by show ¬ ("first" : Str) = "union"; decide +kernel)
    | sample a b c => exact absurd hw (by show ¬ ("sample" : Str) = "union"; decide +kernel)
    | join a b => exact absurd hw (by show ¬ ("join" : Str) = "union"; decide +kernel)
    | union t =>
    cases ld with
    | union ht =>
    obtain ⟨v, e1, dv⟩ := dh2 hd
    cases dv
    obtain ⟨C, hC, cC⟩ := hO.at wO.nd ht
    obtain ⟨nmt, sht, cpC⟩ := wO.ok _ ht
    refine ⟨_, rfl, p, _, _, .str t, rfl, rfl, SqT.of e1, at_of (j := 1) rfl rfl, ?_⟩
    refine ⟨_, rfl, .str t, "str", rfl, .str t, nm_len sht, fun H1 s1 => ⟨_, rfl, ?_⟩⟩
    rw [nmt]
    have g := DGet.k (k := (Sum.inr t : Key)) (s1 _ _ hD0)
    rw [hC] at g
    obtain ⟨ws, zC, wc⟩ := cC.same s1
    obtain ⟨xs, zL, cc⟩ := hL.same s1
    refine iteT ⟨_, rfl, _, rfl, D0, _, rfl, g, _, rfl, _, _, .tup zC.sq (dp_cols wc), .tup zL.sq (dp_cols cc), shp_ps cp, shp_ps cp, _, rfl, ?_⟩
    rw [show PyData.eqv (.tuple (ps.map colP)) (.tuple (ps.map colP)) = decide (ps = ps) by rw [PyData.eqv, eqv_cols], decide_eq_true rfl]
    exact iteT ⟨_, rfl, k cv H1 s1 (hL.same s1)⟩
end
abbrev sJo : Stmt := top 90
abbrev nJo : List Str := ["tables", "columns", "step", "word", "other", "names", "others", "name", "added", "column"]
abbrev pJo : List Str := ["tables", "columns", "step"]
theorem scJo : FnScope nJo pJo (defScope sJo) := ⟨rfl, rfl, rfl, by decide +kernel, rfl, by decide +kernel, by decide +kernel⟩
section
variable {fA_ fB_ fC_ fD_ fE_ : Addr} {fdA_ fdB_ fdC_ fdD_ fdE_ : FuncData}
theorem ok_Jo (F : Fun K "behind_join" "behind_join" sJo f fd) (T : Bt mg) (mY : mg "any" = none) {u3 : Tok} (m3 : mg "MOST_KEYS" = some (.int 3 u3))
    (GA_ : FnOk P w K mg base CX0 1 fA_ fdA_ ["value"] (spName)) (mA_ : mg "is_name" = some (.ref fA_)) (kA_ : PySem.W.keepIn K (.ref fA_) = true) (bA_ : Binds K fdA_ ["value"] [])
    (GB_ : FnOk P w K mg base CX0 1 fB_ fdB_ ["value", "low", "high"] (spTo)) (mB_ : mg "is_tuple_of" = some (.ref fB_)) (kB_ : PySem.W.keepIn K (.ref fB_) = true) (bB_ : Binds K fdB_ ["value", "low", "high"] [])
    (GC_ : FnOk P w K mg base CX0 2 fC_ fdC_ ["columns", "names"] (spAc)) (mC_ : mg "are_columns" = some (.ref fC_)) (kC_ : PySem.W.keepIn K (.ref fC_) = true) (bC_ : Binds K fdC_ ["columns", "names"] [])
    (GD_ : FnOk P w K mg base CX0 1 fD_ fdD_ ["columns", "name"] (spKi)) (mD_ : mg "kind_in" = some (.ref fD_)) (kD_ : PySem.W.keepIn K (.ref fD_) = true) (bD_ : Binds K fdD_ ["columns", "name"] [])
    (GE_ : FnOk P w K mg base CX0 1 fE_ fdE_ ["columns"] (spBd)) (mE_ : mg "bounded" = some (.ref fE_)) (kE_ : PySem.W.keepIn K (.ref fE_) = true) (bE_ : Binds K fdE_ ["columns"] []) : FnOk P w K mg base CX0 3 f fd pJo ((spBeh "join")) := by
  refine F.ok scJo (fun vs H Q E h => ?_) (fun cdv A outer s H vs Q E hr h => ?_)
  · obtain ⟨D0, kvs, os, cv, p, ps, qs, st, rfl, _⟩ := h
    rfl
  · obtain ⟨D0, kvs, os, cv, p, ps, qs, st, rfl, hD0, hO, wO, hL, cp, hd, ld, hw, k⟩ := h
    have hrA_ : Room (1) _ := hr.mono (by first | decide | omega)
    have hrB_ : Room (1) _ := hr.mono (by first | decide | omega)
    have hrC_ : Room (2) _ := hr.mono (by first | decide | omega)
    have hrD_ : Room (1) _ := hr.mono (by first | decide | omega)
    have hrE_ : Room (1) _ := hr.mono (by first | decide | omega)
    refine ⟨_, (pss_cons (ps_asg (pv 2) (pg_tup rfl (pgs_cons (pg_name (i := 3) scJo.nd rfl (.inl rfl)) (pgs_cons (pg_name (i := 4) scJo.nd rfl (.inl rfl)) (pgs_cons (pg_name (i := 5) scJo.nd rfl (.inr rfl)) pgs_nil)))))
      (pss_cons (ps_if (PW.pt (pw_or (pt_not (pt_val (pe_call GA_ hrA_ (by rfl) mA_ kA_ bA_ .nil pass0 (pa_cons (pv 4) pa_nil)))) (pw_or (pt_not (pt_val (pe_call GB_ hrB_ (by rfl) mB_ kB_ bB_ .nil pass0 (pa_cons (pv 5) (pa_cons pe_int (pa_cons (pe_glob (v := .int 3) (by rfl) m3 ⟨_, rfl⟩) pa_nil)))))) (pw_or1 (pt_not (pt_val (pe_call GC_ hrC_ (by rfl) mC_ kC_ bC_ .nil pass0 (pa_cons (pv 1) (pa_cons (pv 5) pa_nil))))))))) (pss_one (ps_ret pe_non)) pss_nil)
      (pss_cons (ps_set (i := 6) scJo.nd rfl (Or.inr rfl) (pe_dget (hu_of hr) (pv 0) (pv 4) (fun _ _ => rfl)))
      (pss_cons (ps_if (pt_val (pe_callB (cr_any rfl) (by rfl) mY (by decide +kernel) (pa_cons (pe_lc (own := [("name", 7)]) (g := (gName 7)) (tt := tYes) (te := teJ1) (by rfl) scJo.nd (pi_tup (pv 5)) (blkOk_by (own := [("name", 7)]) (N := nJo) (sc := defScope sJo) (by decide +kernel)) (fun _ _ _ _ _ => (pg_name (i := 7) scJo.nd rfl (.inl rfl))) (fun _ _ _ _ _ => pts_nil) (fun _ _ _ _ _ => (pe_cmpR op_ne (pe_call GD_ hrD_ (by rfl) mD_ kD_ bD_ .nil pass0 (pa_cons (pv 1) (pa_cons (pv 7) pa_nil))) (pe_call GD_ hrD_ (by rfl) mD_ kD_ bD_ .nil pass0 (pa_cons (pv 6) (pa_cons (pv 7) pa_nil))) (nomark _)))) pa_nil))) (pss_one (ps_ret pe_non)) pss_nil)
      (pss_cons (ps_set (i := 8) scJo.nd rfl (Or.inl rfl) (pe_callTy call_tuple_of (by rfl) T.tuple boot_tuple (pa_cons (pe_lc (own := [("column", 9)]) (g := (gName 9)) (tt := (ttJ K)) (te := _) (by rfl) scJo.nd (pi_tup (pv 6)) (blkOk_by (own := [("column", 9)]) (N := nJo) (sc := defScope sJo) (by decide +kernel)) (fun _ _ _ _ _ => (pg_name (i := 9) scJo.nd rfl (.inl rfl))) (fun _ _ _ _ _ => (pts_one (pt_cmpR op_notIn_seq (pe_ix ix_tup (pv 9) pe_int (fun _ _ => rfl)) (pv 5) (by rfl)))) (fun _ _ _ _ _ => (pv 9))) pa_nil)))
      (pss_cons (ps_if (pt_val (pe_callB (cr_any rfl) (by rfl) mY (by decide +kernel) (pa_cons (pe_lc (own := [("column", 9)]) (g := (gName 9)) (tt := tYes) (te := (teJ2 K)) (by rfl) scJo.nd (pi_tup (pv 8)) (blkOk_by (own := [("column", 9)]) (N := nJo) (sc := defScope sJo) (by decide +kernel)) (fun _ _ _ _ _ => (pg_name (i := 9) scJo.nd rfl (.inl rfl))) (fun _ _ _ _ _ => pts_nil) (fun _ _ _ _ _ => (pe_cmpR op_notN (pe_call GD_ hrD_ (by rfl) mD_ kD_ bD_ .nil pass0 (pa_cons (pv 1) (pa_cons (pe_ix ix_tup (pv 9) pe_int (fun _ _ => rfl)) pa_nil))) pe_non (nomark _)))) pa_nil))) (pss_one (ps_ret pe_non)) pss_nil)
      (pss_one (ps_ret (pe_call GE_ hrE_ (by rfl) mE_ kE_ bE_ .nil pass0 (pa_cons (pe_op op_catZ (pv 1) (pv 8)) pa_nil)))))))))), ?_⟩
    have two : 2 ≤ sizeLine := by decide
    cases st with
    | keep e => exact absurd hw (by show ¬ ("keep" : Str) = "join"; decide +kernel)
    | first n => exact absurd hw (by show ¬ ("first" : Str) = "join"; decide +kernel)
    | sample a b c => exact absurd hw (by show ¬ ("sample" : Str) = "join"; decide +kernel)
    | union a => exact absurd hw (by show ¬ ("union" : Str) = "join"; decide +kernel)
    | join t ks =>
    cases ld with
    | @join _ _ cs ht nd l1 l3 h hk l8 =>
    obtain ⟨v, e1, dv⟩ := dh3 hd
    obtain ⟨b, rfl, eb⟩ := dh_strs dv
    obtain ⟨C, hC, cC⟩ := hO.at wO.nd ht
    obtain ⟨nmt, sht, cpC⟩ := wO.ok _ ht
    have cpC : ColP cs := cpC
    have ksp : ∀ n ∈ ks, n ∈ nms ps := fun n hn => ((h n).mp hn).2
    have ksc : ∀ n ∈ ks, n ∈ nms cs := fun n hn => ((h n).mp hn).1
    have c8 := cpC.l8
    refine ⟨_, rfl, p, _, rfl, SqT.of e1, rfl, _, _, rfl, _, _, rfl, _, _, rfl, rfl, ?_⟩
    dsimp only [gNil]
    refine ⟨_, rfl, .str t, "str", rfl, .str t, nm_len sht, fun H1 s1 => ⟨_, rfl, ?_⟩⟩
    rw [nmt]
    refine iteF ⟨_, rfl, b, vS ks, 1, 3, rfl, s1 _ _ eb, _, rfl, ?_⟩
    rw [List.length_map, decide_eq_true (show (1 : Int) ≤ (ks.length : Int) by omega), decide_eq_true (show (ks.length : Int) ≤ 3 by omega)]
    refine iteF ⟨_, rfl, _, rfl, cv, b, ps, ks, rfl, hL.same s1, cp, s1 _ _ eb, ksp, nd, by omega, fun H2 s2 => ⟨_, rfl, iteF ?_⟩⟩
    have s02 := s1.trans s2
    have g := DGet.k (k := (Sum.inr t : Key)) (s02 _ _ hD0)
    rw [hC] at g
    refine ⟨_, rfl, _, rfl, D0, _, rfl, g, ?_⟩
    have hL2 := hL.same s02
    have cC2 := cC.same s02
    have eb2 := s02 _ _ eb
    have fl : (vS ks).all flatV = true := List.all_eq_true.mpr fun v hv => by
      obtain ⟨x, _, rfl⟩ := List.mem_map.mp hv
      rfl
    -- the kinds are alike
    refine ⟨_, rfl, b, rfl, ⟨_, SqT.of eb2⟩, fun A hA => lc_tup (K := K) (a := b) (xs := vS ks) (fun i H' => H' A = some (.lst ((List.replicate i false).map V.bl)) ∧ Same H2 H') ⟨upd_same, Same.upd hA⟩ (fun i H' _ pr => SqT.of (pr.2 _ _ eb2)) ?_ ?_⟩
    · rintro i y H3 hy ⟨eA, s3⟩
      rw [List.getElem?_map] at hy
      obtain ⟨n, en, rfl⟩ := Option.map_eq_some_iff.mp hy
      have hn := List.mem_of_getElem? en
      have li := (List.getElem?_eq_some_iff.mp en).1
      refine ⟨rfl, ?_⟩
      dsimp only [tYes]
      refine iteT ?_
      change teJ1 _ _ _
      refine ⟨_, rfl, _, rfl, cv, ps, n, rfl, hL2.same s3, cp.nd, _, rfl, _, rfl, C, cs, n, rfl, cC2.same s3, cpC.nd, ?_⟩
      rw [kdV_in (ksp n hn), kdV_in (ksc n hn), hk n hn]
      refine ⟨rfl, ?_⟩
      rw [decide_eq_true rfl]
      exact bl_turn hA eA (by omega) s3
    rintro H3 ⟨eA, s3⟩
    refine ⟨A, List.replicate _ false, rfl, SqL.of eA, _, rfl, ?_⟩
    rw [any_rep]
    have hL3 := hL2.same s3
    have eb3 := s3 _ _ eb2
    obtain ⟨ws, zC, wc⟩ := cC2.same s3
    have lw := wc.len
    -- what is added
    refine iteF ⟨_, rfl, C, rfl, ⟨_, zC.sq⟩, fun M hM => lc_tup (K := K) (a := C) (xs := ws) (fun i H' => (∃ ms, H' M = some (.lst ms) ∧ Cols H' ms ((cs.take i).filter fun p => decide (p.1 ∉ nms ps))) ∧ Same H3 H') ⟨⟨[], upd_same, .nil⟩, Same.upd hM⟩ (fun i H' _ pr => (zC.same pr.2).sq) ?_ ?_⟩
    · rintro i y H4 hy ⟨⟨ms, e4, m4⟩, s4⟩
      obtain ⟨a, z, kk, rfl, ea, ep⟩ := wc.get _ _ hy
      have zc : z ∈ nms cs := List.mem_map_of_mem (f := (·.1)) (List.mem_of_getElem? ep)
      refine ⟨rfl, ?_⟩
      change ttJ K _ _ _
      refine ⟨_, rfl, a, _, _, .str z, rfl, rfl, SqT.of (s4 _ _ ea), at_of (j := 0) rfl rfl, _, rfl, b, _, rfl, .inr (SqT.of (s4 _ _ eb3)), rfl, fl, _, rfl, ?_⟩
      rw [if_pos rfl, in_strs]
      have lm : ms.length ≤ 8 := by
        have := m4.len
        have := List.length_filter_le (fun p : Str × Str => decide (p.1 ∉ nms ps)) (cs.take i)
        rw [List.length_take] at this
        omega
      by_cases m : z ∈ nms ps
      · rw [decide_eq_true ((h z).mpr ⟨zc, m⟩)]
        refine iteF ⟨⟨ms, e4, ?_⟩, s4⟩
        rw [fil_take _ ep, show decide ((z, kk).1 ∉ nms ps) = false from decide_eq_false (fun h => h m)]
        simpa using m4
      · rw [decide_eq_false (fun h' => m ((h z).mp h').2)]
        refine iteT ⟨_, rfl, ms, e4, lt_size (by omega), ⟨ms ++ [.ref a], upd_same, ?_⟩, fun b o e => by rw [upd_ne (ne_of_none e hM)]; exact s4 b o e⟩
        rw [fil_take _ ep, show decide ((z, kk).1 ∉ nms ps) = true from decide_eq_true m]
        exact (m4.app (.cons (s4 _ _ ea) .nil)).t (SameT.lst e4)
    rintro H4 ⟨⟨ms, e4, m4⟩, s4⟩
    rw [lw, List.take_length] at m4
    refine ⟨M, ms, rfl, .inl ⟨SqL.of e4, fun r hr' => ?_⟩⟩
    have zr := Same.upd (o := .tup ms) hr'
    have er : L2.upd H4 r (.tup ms) r = some (.tup ms) := upd_same
    have m5 := m4.t (SameT.of zr)
    have hL5 := hL3.same (s4.trans zr)
    have s35 := s4.trans zr
    generalize L2.upd H4 r (.tup ms) = H5 at er m5 hL5 s35 ⊢
    have lms := m5.len
    have l7 := l8
    have nin : ∀ p ∈ cs.filter (fun p => decide (p.1 ∉ nms ps)), p.1 ∉ nms ps := fun p hp => of_decide_eq_true (List.mem_filter.mp hp).2
    -- none of it is there
    refine ⟨_, rfl, r, rfl, ⟨_, SqT.of er⟩, fun A2 hA2 => lc_tup (K := K) (a := r) (xs := ms) (fun i H' => H' A2 = some (.lst ((List.replicate i false).map V.bl)) ∧ Same H5 H') ⟨upd_same, Same.upd hA2⟩ (fun i H' _ pr => SqT.of (pr.2 _ _ er)) ?_ ?_⟩
    · rintro i y H6 hy ⟨eA2, s6⟩
      obtain ⟨a, z, kk, rfl, ea, ep⟩ := m5.get _ _ hy
      have li := (List.getElem?_eq_some_iff.mp hy).1
      refine ⟨rfl, ?_⟩
      dsimp only [tYes]
      refine iteT ?_
      change teJ2 K _ _ _
      refine ⟨_, rfl, _, rfl, a, _, _, .str z, rfl, rfl, SqT.of (s6 _ _ ea), at_of (j := 0) rfl rfl, cv, ps, z, rfl, hL5.same s6, cp.nd, rfl, ?_⟩
      rw [kdV_no (nin _ (List.mem_of_getElem? ep))]
      exact bl_turn hA2 eA2 (by omega) s6
    rintro H6 ⟨eA2, s6⟩
    refine ⟨A2, List.replicate _ false, rfl, SqL.of eA2, _, rfl, ?_⟩
    rw [any_rep]
    have s06 := ((s02.trans s3).trans s35).trans s6
    obtain ⟨xs, zL, cc⟩ := hL5.same s6
    have lx := cc.len
    have p1 := cp.l1
    have p8 := cp.l8
    refine iteF ⟨_, rfl, _, rfl, cv, r, xs, ms, rfl, rfl, zL.sq, SqT.of (s6 _ _ er), fun z => by rw [z] at lx; change 0 = _ at lx; omega, Nat.le_trans (show _ ≤ 16 by omega) (by decide), fun z => ?_, fun _ q ob hq d1 d2 => ?_⟩
    · subst z
      have ez : (cs.filter fun p => decide (p.1 ∉ nms ps)) = [] := List.eq_nil_of_length_eq_zero lms.symm
      rw [ez, List.append_nil] at k
      exact ⟨cv, ps, rfl, ⟨xs, zL, cc⟩, p8, k cv H6 s06 ⟨xs, zL, cc⟩⟩
    · have zq := Same.upd (o := .frz ob (.tup (xs ++ ms))) hq
      have ca : CA _ q (ps ++ cs.filter fun p => decide (p.1 ∉ nms ps)) := ⟨xs ++ ms, ⟨ob, d1, d2, upd_same⟩, (cc.t (SameT.of zq)).app (m5.t (SameT.of (s6.trans zq)))⟩
      exact ⟨q, _, rfl, ca, by rw [List.length_append]; exact l8, k q _ (s06.trans zq) ca⟩
end
end
def spCb : Sp := fun vs H Q _ => ∃ (D0 : Addr) (kvs : List (Key × V)) (os : OsL) (cv p : Addr) (ps qs : CsL) (st : Ps), vs = [.ref D0, .ref cv, .ref p] ∧ H D0 = some (.dK kvs) ∧ TabC H kvs os ∧ WdP os ∧ CA H cv ps ∧ ColP ps ∧ Dh H (.ref p) st.d ∧ Lead os ps st qs ∧ ∀ (cv' : Addr) (H' : Hp), Same H H' → CA H' cv' qs → Q (.ref cv') H'
structure CbA (P : Program) (w : World) (K : PySem.W.Frag) (mg : Str → Option Value) (base : Heap) (lA bA : Addr) : Prop where
  gl : mg "LENGTHS" = some (.ref lA)
  gb : mg "BEHIND" = some (.ref bA)
  dl : ∃ es n, KDict K w lA es n
  le : ∀ st : Ps, KDct K w lA st.w (.int st.len) ∧ ∃ u, PySem.W.nsIn K lA st.w = some (some u)
  be : ∀ st : Ps, ∃ g, KDct K w bA st.w (.ref g) ∧ Held P w K mg base 16 g (spBeh st.w)
section
variable {P : Program} {w : World} {K : PySem.W.Frag} {mg : Str → Option Value} {base : Heap} {f : Addr} {fd : FuncData}
abbrev sBs : Stmt := top 89
abbrev nBs : List Str := ["tables", "columns", "step", "word", "part", "whole", "seed"]
abbrev pBs : List Str := ["tables", "columns", "step"]
theorem scBs : FnScope nBs pBs (defScope sBs) := ⟨rfl, rfl, rfl, by decide +kernel, rfl, by decide +kernel, by decide +kernel⟩
section
variable {fA_ : Addr} {fdA_ : FuncData}
theorem ok_Bs (F : Fun K "behind_sample" "behind_sample" sBs f fd) (T : Bt mg) {uw us_ : Tok} (mw : mg "MOST_WHOLE" = some (.int 1000 uw)) (ms : mg "MOST_SEED" = some (.int 1000000000 us_))
    (GA_ : FnOk P w K mg base CX0 2 fA_ fdA_ ["value", "low", "high"] (spBt)) (mA_ : mg "is_between" = some (.ref fA_)) (kA_ : PySem.W.keepIn K (.ref fA_) = true) (bA_ : Binds K fdA_ ["value", "low", "high"] []) : FnOk P w K mg base CX0 3 f fd pBs ((spBeh "sample")) := by
  refine F.ok scBs (fun vs H Q E h => ?_) (fun cdv A outer s H vs Q E hr h => ?_)
  · obtain ⟨D0, kvs, os, cv, p, ps, qs, st, rfl, _⟩ := h
    rfl
  · obtain ⟨D0, kvs, os, cv, p, ps, qs, st, rfl, hD0, hO, wO, hL, cp, hd, ld, hw, k⟩ := h
    have hrA_ : Room (2) _ := hr.mono (by first | decide | omega)
    refine ⟨_, (pss_cons (ps_asg (pv 2) (pg_tup rfl (pgs_cons (pg_name (i := 3) scBs.nd rfl (.inl rfl)) (pgs_cons (pg_name (i := 4) scBs.nd rfl (.inl rfl)) (pgs_cons (pg_name (i := 5) scBs.nd rfl (.inl rfl)) (pgs_cons (pg_name (i := 6) scBs.nd rfl (.inl rfl)) pgs_nil))))))
      (pss_cons (ps_if (PW.pt (pw_or (pt_not (pt_val (pe_call GA_ hrA_ (by rfl) mA_ kA_ bA_ .nil pass0 (pa_cons (pv 5) (pa_cons pe_int (pa_cons (pe_glob (v := .int 1000) (by rfl) mw ⟨_, rfl⟩) pa_nil)))))) (pw_or1 (pt_not (pt_val (pe_call GA_ hrA_ (by rfl) mA_ kA_ bA_ .nil pass0 (pa_cons (pv 4) (pa_cons pe_int (pa_cons (pv 5) pa_nil))))))))) (pss_one (ps_ret pe_non)) pss_nil)
      (pss_one (ps_ret (pe_ifExp (pt_val (pe_call GA_ hrA_ (by rfl) mA_ kA_ bA_ .nil pass0 (pa_cons (pv 6) (pa_cons pe_int (pa_cons (pe_glob (v := .int 1000000000) (by rfl) ms ⟨_, rfl⟩) pa_nil))))) (pv 1) pe_non))))), ?_⟩
    cases st with
    | keep e => exact absurd hw (by show ¬ ("keep" : Str) = "sample"; decide +kernel)
    | first n => exact absurd hw (by show ¬ ("first" : Str) = "sample"; decide +kernel)
    | join a b => exact absurd hw (by show ¬ ("join" : Str) = "sample"; decide +kernel)
    | union a => exact absurd hw (by show ¬ ("union" : Str) = "sample"; decide +kernel)
    | sample a b c =>
    cases ld with
    | sample o1 o2 o3 o4 =>
    have e := dh4 hd
    refine ⟨_, rfl, p, _, rfl, SqT.of e, rfl, _, _, rfl, _, _, rfl, _, _, rfl, _, _, rfl, rfl, ?_⟩
    dsimp only [gNil]
    refine ⟨_, rfl, b, 1, 1000, rfl, _, rfl, ?_⟩
    rw [decide_eq_true (show (1 : Int) ≤ (b : Int) by omega), decide_eq_true (show (b : Int) ≤ 1000 by omega)]
    refine iteF ⟨_, rfl, _, rfl, a, 0, b, rfl, _, rfl, ?_⟩
    rw [decide_eq_true (show (0 : Int) ≤ (a : Int) by omega), decide_eq_true (show (a : Int) ≤ (b : Int) by omega)]
    refine iteF ⟨_, rfl, c, 0, 1000000000, rfl, _, rfl, ?_⟩
    rw [decide_eq_true (show (0 : Int) ≤ (c : Int) by omega), decide_eq_true (show (c : Int) ≤ 1000000000 by omega)]
    exact iteT ⟨_, rfl, k cv H (Same.refl _) hL⟩
end
abbrev sCb : Stmt := top 98
abbrev nCb : List Str := ["tables", "columns", "step", "word", "follow"]
abbrev pCb : List Str := ["tables", "columns", "step"]
theorem scCb : FnScope nCb pCb (defScope sCb) := ⟨rfl, rfl, rfl, by decide +kernel, rfl, by decide +kernel, by decide +kernel⟩
section
variable {fA_ : Addr} {fdA_ : FuncData}
theorem ok_Cb (F : Fun K "columns_behind" "columns_behind" sCb f fd) (T : Bt mg) {lA bA : Addr} (A2 : CbA P w K mg base lA bA)
    (GA_ : FnOk P w K mg base CX0 1 fA_ fdA_ ["step"] (spWd)) (mA_ : mg "word_of" = some (.ref fA_)) (kA_ : PySem.W.keepIn K (.ref fA_) = true) (bA_ : Binds K fdA_ ["step"] []) : FnOk P w K mg base CX0 17 f fd pCb (spCb) := by
  refine F.ok scCb (fun vs H Q E h => ?_) (fun cdv A outer s H vs Q E hr h => ?_)
  · obtain ⟨D0, kvs, os, cv, p, ps, qs, st, rfl, _⟩ := h
    rfl
  · obtain ⟨D0, kvs, os, cv, p, ps, qs, st, rfl, hD0, hO, wO, hL, cp, hd, ld, k⟩ := h
    have hrA_ : Room (1) _ := hr.mono (by first | decide | omega)
    obtain ⟨es, n0, KD⟩ := A2.dl
    obtain ⟨g, g1, hH⟩ := A2.be st
    obtain ⟨l1, u0, l2⟩ := A2.le st
    have hr3 : Room 16 _ := hr.mono (by decide)
    have AS : ∀ f sp, (fun q => if q = g then some (spBeh st.w) else none : Addr → Option Sp) f = some sp → Held P w K mg base 16 f sp := fun f sp e => by
      dsimp only at e
      by_cases z : f = g
      · subst z
        rw [if_pos rfl] at e
        obtain rfl := Option.some.inj e
        exact hH
      · rw [if_neg z] at e
        cases e
    refine ⟨_, (pss_cons (ps_set (i := 3) scCb.nd rfl (Or.inl rfl) (pe_call GA_ hrA_ (by rfl) mA_ kA_ bA_ .nil pass0 (pa_cons (pv 2) pa_nil)))
      (pss_cons (ps_if (PW.pt (pw_or (pt_cmpR op_isN (pv 3) pe_non (nomark _)) (pw_or (pt_cmpR (op_notIn_kd KD) (pv 3) (pe_glob (v := .ref lA) (by rfl) A2.gl rfl) (by rfl)) (pw_or1 (pt_cmpR op_ne (pe_callB call_len_seq (by rfl) T.len PySem.boot_len (pa_cons (pv 2) pa_nil)) (pe_ix ix_kdict (pe_glob (v := .ref lA) (by rfl) A2.gl rfl) (pv 3) (fun _ _ => rfl)) (nomark _)))))) (pss_one (ps_ret pe_non)) pss_nil)
      (pss_cons (ps_set (i := 4) scCb.nd rfl (Or.inl rfl) (pe_ix ix_kdict (pe_glob (v := .ref bA) (by rfl) A2.gb rfl) (pv 3) (fun _ _ => rfl)))
      (pss_one (ps_ret (pe_callA (i := 4) AS hr3 rfl (Or.inl rfl) (pa_cons (pv 0) (pa_cons (pv 1) (pa_cons (pv 2) pa_nil))))))))), ?_⟩
    obtain ⟨xs, e, lx⟩ := ps_at hd
    have l4 : st.len ≤ 4 := by cases st <;> simp [Ps.len]
    refine ⟨_, rfl, p, st.w, xs, rfl, e, by omega, ?_⟩
    refine ⟨_, rfl, rfl, _, rfl, iteF ⟨_, rfl, st.w, _, rfl, rfl, l2, _, rfl, iteF ⟨_, rfl, p, _, rfl, .inr (SqT.of e), _, rfl, lA, st.w, _, rfl, rfl, l1, rfl, _, rfl, ?_⟩⟩⟩
    rw [List.length_cons, lx, decide_eq_true rfl]
    refine iteF ⟨_, rfl, bA, st.w, _, rfl, rfl, g1, ?_⟩
    exact ⟨g, spBeh st.w, rfl, if_pos rfl, _, rfl, _, rfl, _, rfl, D0, kvs, os, cv, p, ps, qs, st, rfl, hD0, hO, wO, hL, cp, hd, ld, rfl, k⟩
end
end
end K19
set_option Elab.async false
set_option linter.all false
set_option maxRecDepth 100000
set_option maxHeartbeats 4000000
namespace Lc
open PySem PySem.Spec PyProof.Rows L2
/-! ## dicts whose keys are tuples of data -/
mutual
def nkD : PyData → NestedKey
  | .none => .none
  | .bool b => .num (if b = true then 1 else 0)
  | .int i => .num i
  | .str x => .text x
  | .tuple ds => .tup (nkDs ds)
  | .list _ => .none
  | .dict _ => .none
def nkDs : List PyData → List NestedKey
  | [] => []
  | d :: ds => nkD d :: nkDs ds
end
mutual
def keyD : PyData → Bool
  | .none => true
  | .bool _ => true
  | .int _ => true
  | .str _ => true
  | .tuple ds => keyDs ds
  | .list _ => false
  | .dict _ => false
def keyDs : List PyData → Bool
  | [] => true
  | d :: ds => keyD d && keyDs ds
end
mutual
theorem reads_nested {h : Heap} : ∀ (d : PyData) (v : Value) (as : List Addr), keyD d = true → Reads h v d as → NestedIs h (nkD d) v
  | .none, _, _, _, r => by cases r; exact .none
  | .bool b, _, _, _, r => by cases r; exact .bool rfl
  | .int i, _, _, _, r => by cases r; exact .int _ _
  | .str x, _, _, _, r => by cases r; exact .text _ _
  | .tuple ds, _, _, k, r => by
    cases r with
    | tuple h1 h2 h3 h4 => exact .tup h1 h2 h3 (reads_nesteds ds _ _ k h4)
  | .list _, _, _, k, _ => by cases k
  | .dict _, _, _, k, _ => by cases k
theorem reads_nesteds {h : Heap} : ∀ (ds : List PyData) (vs : List Value) (as : List Addr), keyDs ds = true → ReadsAll h vs ds as → NestedAll h (nkDs ds) vs
  | [], _, _, _, r => by cases r; exact .nil
  | d :: ds, _, _, k, r => by
    have k : (keyD d && keyDs ds) = true := k
    rw [Bool.and_eq_true] at k
    cases r with
    | cons r1 r2 => exact .cons (reads_nested d _ _ k.1 r1) (reads_nesteds ds _ _ k.2 r2)
end
mutual
theorem keyD_flat : ∀ (d : PyData), keyD d = true → d.hasDict = false
  | .none, _ => rfl
  | .bool _, _ => rfl
  | .int _, _ => rfl
  | .str _, _ => rfl
  | .tuple ds, k => by
    rw [PyData.hasDict]
    exact keyDs_flat ds k
  | .list _, k => by cases k
  | .dict _, k => by cases k
theorem keyDs_flat : ∀ (ds : List PyData), keyDs ds = true → PyData.hasDictAll ds = false
  | [], _ => rfl
  | d :: ds, k => by
    have k : (keyD d && keyDs ds) = true := k
    rw [Bool.and_eq_true] at k
    rw [PyData.hasDictAll, keyD_flat d k.1, keyDs_flat ds k.2]
    rfl
end
/-- at b stands the key k -/
def KeyN (H : Hp) (b : Addr) (k : NestedKey) : Prop := ∃ d, Dh H (.ref b) d ∧ keyD d = true ∧ nkD d = k ∧ k.depth ≤ 8
theorem KeyN.same {H H' : Hp} {b : Addr} {k : NestedKey} (x : KeyN H b k) (s : Same H H') : KeyN H' b k := let ⟨d, h, r⟩ := x; ⟨d, h.same s, r⟩
abbrev NkE := NestedKey × Addr × V
def valN : List NkE → NestedKey → Option V
  | [], _ => none
  | e :: L, k => if e.1 = k then some e.2.2 else valN L k
abbrev RelN : List NkE → List (NestedKey × Addr × Value) → Prop := Paired fun (p : NkE) (q : NestedKey × Addr × Value) => p.1 = q.1 ∧ p.2.1 = q.2.1 ∧ RelV p.2.2 q.2.2
def DnO (P : Program) (w : World) (a : Addr) (L : List NkE) : HO := .ext fun h => (a == sysModules) = false ∧ L.length ≤ sizeLine ∧ ∃ xs : List (NestedKey × Addr × Value), RelN L xs ∧
  ∃ o es ep, h.get? a = some o ∧ o.ExactDict ∧ o.data = .dict es ep ∧ es.toList = xs.map (entryOfKey (nestedKind P w)) ∧ (xs.map (·.1)).Nodup
/-- the dict of L stands at a (an empty one of ours is one too) -/
def DnAt (P : Program) (w : World) (H : Hp) (a : Addr) (L : List NkE) : Prop := H a = some (DnO P w a L) ∨ (L = [] ∧ H a = some (.dK []))
theorem DnAt.same {P : Program} {w : World} {H H' : Hp} {a : Addr} {L : List NkE} (x : DnAt P w H a L) (s : Same H H') : DnAt P w H' a L := x.imp (s _ _) fun ⟨e, h⟩ => ⟨e, s _ _ h⟩
theorem DnAt.ne {P : Program} {w : World} {H : Hp} {a b : Addr} {L : List NkE} {o : HO} (x : DnAt P w H a L) (e : H b = some o) (n : (∀ φ, o ≠ .ext φ) ∧ ∀ kvs, o ≠ .dK kvs) : a ≠ b := by
  rcases x with h | ⟨_, h⟩
  · exact ne_of h e fun z => n.1 _ z.symm
  · exact ne_of h e fun z => n.2 _ z.symm
theorem DnAt.ex {P : Program} {w : World} {H : Hp} {a : Addr} {L : List NkE} (x : DnAt P w H a L) : ∃ u, H a = some u ∧ (∀ xs, u ≠ .tup xs) ∧ (∀ xs, u ≠ .lst xs) ∧ ∀ c d f, u ≠ .ins c d f := by
  rcases x with h | ⟨_, h⟩
  · exact ⟨_, h, nofun, nofun, nofun⟩
  · exact ⟨_, h, nofun, nofun, nofun⟩
theorem same_free {H H' : Hp} {a : Addr} (s : Same H H') (h : H' a = none) : H a = none := by
  cases e : H a with
  | none => rfl
  | some o => rw [s _ _ e] at h; cases h
theorem relN_val : ∀ {L : List NkE} {xs : List (NestedKey × Addr × Value)} (k : NestedKey), RelN L xs → RelO (valN L k) ((atKey xs k).map (·.2))
  | _, _, _, .nil => trivial
  | _, _, k, .cons (a := p) (b := q) (l₁ := ps) (l₂ := qs) ⟨e1, e2, e3⟩ t => by
    show RelO (if p.1 = k then some p.2.2 else valN ps k) _
    by_cases z : p.1 = k
    · have z' : q.1 = k := e1 ▸ z
      rw [if_pos z]
      have q' : atKey (q :: qs) k = some q.2 := by simp [atKey, z']
      rw [q']
      exact e3
    · have z' : ¬ q.1 = k := e1 ▸ z
      rw [if_neg z]
      have q' : atKey (q :: qs) k = atKey qs k := by simp [atKey, z']
      rw [q']
      exact relN_val k t
theorem relN_nil {xs : List (NestedKey × Addr × Value)} (r : RelN [] xs) : xs = [] := by cases r; rfl
section
variable {X : Cx} {pins : List (Addr × Obj)} {σ : L2.St} {H : Hp} {s : Shared}
theorem KeyN.is {b : Addr} {k : NestedKey} (I : Inv X pins σ H s) (x : KeyN H b k) : (nestedKind X.prog X.w).is s.heap k b := by
  obtain ⟨d, h, kd, rfl, dp⟩ := x
  obtain ⟨as, r⟩ := Dp.reads I _ _ (.ref b) (h.dp (keyD_flat d kd)) rfl
  exact ⟨reads_nested d _ as kd r, dp⟩
/-- what stands there -/
theorem dn_of {a : Addr} {L : List NkE} (I : Inv X pins σ H s) (x : DnAt X.prog X.w H a L) : (a == sysModules) = false ∧ L.length ≤ sizeLine ∧ ∃ xs : List (NestedKey × Addr × Value), RelN L xs ∧
    ∃ o es ep, s.heap.get? a = some o ∧ o.ExactDict ∧ o.data = .dict es ep ∧ es.toList = xs.map (entryOfKey (nestedKind X.prog X.w)) ∧ (xs.map (·.1)).Nodup := by
  rcases x with e | ⟨rfl, e⟩
  · exact (I.hok a _ e).1
  · obtain ⟨z, hs, vs, r, o, es, ep, ho, hx, hd, _, hp, hn⟩ := (show ObjOk X.prog X.w H s.heap a (.dK []) from I.hok a _ e)
    cases r
    refine ⟨hs, Nat.zero_le _, [], .nil, o, es, ep, ho, hx, hd, ?_, List.nodup_nil⟩
    generalize es.toList = l at hp
    cases hp
    rfl
theorem dn_dict {a : Addr} {L : List NkE} (I : Inv X pins σ H s) (x : DnAt X.prog X.w H a L) (hk : ∀ e ∈ L, KeyN H e.2.1 e.1) : (a == sysModules) = false ∧ L.length ≤ sizeLine ∧ ∃ xs : List (NestedKey × Addr × Value), RelN L xs ∧ s.heap.DictOfH (nestedKind X.prog X.w) a xs := by
  obtain ⟨h1, h2, xs, r, o, es, ep, ho, hx, hd, he, hn⟩ := dn_of I x
  refine ⟨h1, h2, xs, r, o, es, ep, ho, hx, hd, he, fun y hy => ?_, hn⟩
  have all : ∀ {L : List NkE} {xs : List (NestedKey × Addr × Value)}, RelN L xs → (∀ e ∈ L, KeyN H e.2.1 e.1) → ∀ y ∈ xs, (nestedKind X.prog X.w).is s.heap y.1 y.2.1 := by
    intro L xs q
    induction q with
    | nil => exact fun _ _ h => nomatch h
    | @cons p q ps qs r _ ih =>
      intro k y hy
      obtain ⟨e1, e2, _⟩ := r
      rcases List.mem_cons.mp hy with rfl | hy
      · have z := (k p List.mem_cons_self).is I
        rw [e1, e2] at z
        exact z
      · exact ih (fun e he => k e (List.mem_cons_of_mem _ he)) y hy
  exact all r hk y hy
theorem dnO_new {P : Program} {w : World} {H' : Hp} {h' : Heap} {a : Addr} {L : List NkE} {xs : List (NestedKey × Addr × Value)} (hs : (a == sysModules) = false) (z : L.length ≤ sizeLine) (r : RelN L xs) (dd : h'.DictOfH (nestedKind P w) a xs) : ObjOk P w H' h' a (DnO P w a L) := by
  obtain ⟨o, es, ep, ho, hx, hd, he, _, hn⟩ := dd
  refine ⟨⟨hs, z, xs, r, o, es, ep, ho, hx, hd, he, hn⟩, ⟨o, ho⟩, fun h1 h2 p k => ?_⟩
  obtain ⟨c1, c2, xs, c3, o, es, ep, ho, c4⟩ := p
  exact ⟨c1, c2, xs, c3, o, es, ep, k o ho, c4⟩
theorem dn_mut {P : Program} {w : World} {a : Addr} {L : List NkE} (x : DnAt P w H a L) : Mut (H a) := by
  rcases x with e | ⟨_, e⟩ <;> rw [e] <;> trivial
/-! ### d.setdefault(k, x) -/
def rSetdN (P : Program) (w : World) : V → List V → Hp → VK → Prop := fun x xs H Q => ∃ (a b : Addr) (L : List NkE) (k : NestedKey) (y : V), x = .ref a ∧ xs = [.ref b, y] ∧ DnAt P w H a L ∧ KeyN H b k ∧ (∀ e ∈ L, KeyN H e.2.1 e.1) ∧ L.length < sizeLine ∧
  (∀ v, valN L k = some v → Q v H) ∧ (valN L k = none → Q y (upd H a (DnO P w a (L ++ [(k, b, y)]))))
theorem storedH_none {K : Type} [DecidableEq K] : ∀ {xs : List (K × Addr × Value)} {k : K} {a : Addr} {v : Value}, atKey xs k = none → storedH xs k a v = xs ++ [(k, a, v)] := by
  intro xs k a v e
  unfold storedH
  rw [e]
  rfl
theorem mt_setdN (hu : X.A.units + 16 < cLine) : MtR X "dict.setdefault" (rSetdN X.prog X.w) := by
  intro pins s σ H x xs v us Q I rx rxs h
  obtain ⟨a, b, L, k, y, rfl, rfl, da, kb, ks, lt, q1, q2⟩ := h
  cases rx
  obtain ⟨u1, u2, rfl, r1, r2⟩ := vals2 rxs
  cases r1
  obtain ⟨hs, z, xs', rel, dd⟩ := dn_dict I da ks
  have hz : xs'.length ≤ sizeLine := by rw [← Paired.length rel]; exact z
  have rm : (nestedKind X.prog X.w).room X.A.in1 := by
    show X.A.in1.units + 8 < cLine
    have := X.A.in1_units
    omega
  refine call_setdefault_heap (knd := nestedKind X.prog X.w) (k := k) rm (kb.is I) hs dd (fun p hp => ?_) (fun hn h' dd' sb => ?_) hz
  · have r := relN_val k rel
    rw [hp] at r
    cases ev : valN L k with
    | none => rw [ev] at r; exact (show False from r).elim
    | some v0 =>
      rw [ev] at r
      exact ⟨v0, H, I.tok _, r, q1 v0 ev⟩
  · have r := relN_val k rel
    rw [hn] at r
    have ev : valN L k = none := by
      cases ev : valN L k with
      | none => rfl
      | some v0 => rw [ev] at r; exact (show False from r).elim
    rw [storedH_none hn] at dd'
    have rel' : RelN (L ++ [(k, b, y)]) (xs' ++ [(k, b, u2)]) := Paired.snoc rel ⟨rfl, rfl, r2⟩
    have hl : (L ++ [(k, b, y)]).length ≤ sizeLine := by
      rw [List.length_append]
      exact lt
    have he : ∃ q, h'.get? a = some q := by
      obtain ⟨o, _, _, ho, _⟩ := id dd'
      exact ⟨o, ho⟩
    exact ⟨y, _, d_write I (dn_mut da) sb he (dnO_new hs hl rel' dd'), r2, q2 ev⟩
/-! ### d.get(k, x) -/
def rGetN (P : Program) (w : World) : V → List V → Hp → VK → Prop := fun x xs H Q => ∃ (a b : Addr) (L : List NkE) (k : NestedKey) (y : V), x = .ref a ∧ xs = [.ref b, y] ∧ DnAt P w H a L ∧ KeyN H b k ∧ (∀ e ∈ L, KeyN H e.2.1 e.1) ∧ Q ((valN L k).getD y) H
theorem mt_getN (hu : X.A.units + 16 < cLine) : MtR X "dict.get" (rGetN X.prog X.w) := by
  intro pins s σ H x xs v us Q I rx rxs h
  obtain ⟨a, b, L, k, y, rfl, rfl, da, kb, ks, q⟩ := h
  cases rx
  obtain ⟨u1, u2, rfl, r1, r2⟩ := vals2 rxs
  cases r1
  obtain ⟨hs, z, xs', rel, dd⟩ := dn_dict I da ks
  have rm : (nestedKind X.prog X.w).room X.A.in1 := by
    show X.A.in1.units + 8 < cLine
    have := X.A.in1_units
    omega
  refine call_meetsIn F.slot_dict_get dd.typeIs F.entry_dict_get (F.args_dict_get_3 _ _ _) (meetsH_dict_get_default (nestedKind X.prog X.w) a b hs u2) ⟨rm, k, xs', kb.is I, dd, ?_⟩
  have r := relN_val k rel
  refine ⟨_, H, I.tok _, ?_, q⟩
  cases ev : valN L k with
  | none =>
    rw [ev] at r
    cases eq : (atKey xs' k).map (·.2) with
    | none => exact r2
    | some p => rw [eq] at r; exact (show False from r).elim
  | some v0 =>
    rw [ev] at r
    cases eq : (atKey xs' k).map (·.2) with
    | none => rw [eq] at r; exact (show False from r).elim
    | some p => rw [eq] at r; exact r
/-! ### methods of such a dict -/
theorem dnT {a : Addr} {L : List NkE} (I : Inv X pins σ H s) (x : DnAt X.prog X.w H a L) : s.TypeIs (.ref a) "dict" ∧ ∀ b : Addr, Value.ref a = Value.ref b → ∃ ob, s.heap.get? b = some ob ∧ ob.dict = none := by
  obtain ⟨_, _, _, _, o, _, _, ho, hx, _⟩ := dn_of I x
  exact ⟨⟨o, ho, hx.1⟩, fun b e => by cases e; exact ⟨o, ho, hx.2.1⟩⟩
def tBMN (P : Program) (w : World) (r : V → List V → Hp → VK → Prop) (to : TE) (t : TA) : TE := fun σ H Q => to σ H fun x H1 => (∃ a L, x = .ref a ∧ DnAt P w H1 a L) ∧ t σ H1 fun xs H2 => r x xs H2 Q
theorem pe_bmN {o e : Expr} {es : List Expr} {to : TE} {t : TA} {name : Str} {apos cpos : Pos} {id : String} {r : V → List V → Hp → VK → Prop} (slot : Slot "dict" name id) (hty : typeOf (.builtin id) = pure (.type "method_descriptor")) (hm : MtR X id r) (ho : PE X o to) (ha : PA X (e :: es) t)
    (hbase : attributeBase o name X.env (eval o X.env) = eval o X.env := by rfl)
    (hfew : ((backTo cpos (starEach (e :: es) X.env)).all (fun x => !x.1) && (backToKw cpos (keywordEach [] X.env)).all (fun x => x.1.isSome)
      && decide ((e :: es).length + ([] : List Keyword).length + (if ([] : List Keyword).isEmpty then 0 else 1) < 30)) = true := by rfl)
    (hline : (apos.endLine == cpos.line) = true := by rfl) (hs : starEach (e :: es) X.env = (false, eval e X.env) :: starEach es X.env := by rfl) (hplain : (backTo cpos (starEach es X.env)).any (·.1) = false := by rfl) :
    PE X (.Call (.Attribute o name apos) (e :: es) [] cpos) (tBMN X.prog X.w r to t) := by
  refine ⟨fun pins s σ H Q I h => ?_⟩
  refine wpAny_Call_method_late hbase hfew hline rfl (thn (ho.run pins s σ H _ I h) fun v s1 ⟨x, H1, I1, r1, ⟨a, L, ex, da⟩, q1⟩ => ?_)
  subst ex
  obtain rfl : v = Value.ref a := r1
  obtain ⟨h1, h2⟩ := dnT I1 da
  refine ⟨"dict", id, PySem.F.plainAttrs_dict, slot, hty, h1, h2, ?_⟩
  have hA := ha.run cpos pins s1 σ H1 _ I1 q1
  rw [hs] at hA ⊢
  refine Calls.callWith_builtin (by show (false || (backTo cpos (starEach es X.env)).any (·.1)) = false; rw [hplain] <;> rfl) (Calls.evalArgs_plain ?_)
  exact thn hA fun us s2 ⟨vs, H2, I2, r2, q2⟩ => hm pins s2 σ H2 (.ref a) vs (.ref a) us Q I2 rfl r2 q2
/-! ### for k, v in d.items() -/
def ItN (P : Program) (w : World) (d : Addr) (o : Obj) (L : List NkE) : It :=
  ⟨fun i H => H d = some (.frz o (DnO P w d L)) ∧ i < L.length, fun i H x H' => ∃ T k b v, L[i]? = some (k, b, v) ∧ x = .ref T ∧ H T = none ∧ H' = upd H T (.tup [.ref b, v]), fun i H => H d = some (.frz o (DnO P w d L)) ∧ L.length ≤ i⟩
theorem frz_dn {d : Addr} {o : Obj} {L : List NkE} (I : Inv X pins σ H s) (e : H d = some (.frz o (DnO X.prog X.w d L))) : ∃ es ep, DT.Raw s.heap d es ep ∧ s.heap.get? d = some o ∧ o.data = .dict es ep ∧ es.size = L.length ∧
    ∀ (i : Nat) (y : NkE), L[i]? = some y → ∃ en : DictEntry, es[i]? = some en ∧ en.key = .ref y.2.1 ∧ RelV y.2.2 en.val := by
  obtain ⟨hd, ⟨_, _, xs, rel, o', es, ep, ho, hx, hdt, he, _⟩, _⟩ := (show ObjOk X.prog X.w H s.heap d (.frz o (DnO X.prog X.w d L)) from I.hok d _ e)
  rw [hd] at ho
  cases ho
  have l1 : es.size = xs.length := size_of_entries he
  have l2 : L.length = xs.length := Paired.length rel
  refine ⟨es, ep, ⟨o, hd, hx, hdt⟩, hd, hdt, by omega, fun i y ey => ?_⟩
  obtain ⟨b, hb, e1, e2, e3⟩ := paired_get rel ey
  have q := entry_at he i
  rw [hb] at q
  exact ⟨_, q, by rw [e2]; rfl, e3⟩
theorem turn_itemsN {P : Program} {w : World} {K : PySem.W.Frag} {d : Addr} {o : Obj} {es : Array DictEntry} {ep : Nat} {L : List NkE} {elts : List Expr} {kk : Nat} {tpos : Pos} (it : Addr) (hod : o.data = .dict es ep) :
    Turn P w K (.Tuple elts kk tpos) (ItN P w d o L) [it] it (fun i h => ∃ ok ov, IsItemIter h it d i L.length ep ok ov) where
  mem := by simp
  obj := fun i h st b hb => by
    have e : b = it := by simpa using hb
    subst e
    obtain ⟨ok, ov, e⟩ := st
    exact ⟨_, e, fun v z => nomatch z⟩
  keep := fun i h h' st k => let ⟨ok, ov, e⟩ := st; ⟨ok, ov, k it (by simp) _ e⟩
  item := by
    intro X hP hw hK hc i pins s σ H E I hf st hg
    subst hP hw hK
    obtain ⟨hd, hi⟩ := hg
    obtain ⟨es', ep', raw, hgd, hdt, hsz, ent⟩ := frz_dn I hd
    obtain ⟨rfl, rfl⟩ := dict_ep hod hdt
    obtain ⟨⟨k, b, v⟩, hkv⟩ : ∃ p, L[i]? = some p := ⟨L[i], List.getElem?_eq_getElem hi⟩
    obtain ⟨en, hen, ek, ev⟩ := ent i _ hkv
    obtain ⟨ok, ov, he⟩ := st
    rw [← hsz] at he
    have hi' : i < es'.size := by omega
    have een : es'[i] = en := by
      rw [Array.getElem?_eq_getElem hi'] at hen
      exact Option.some.inj hen
    have hlt : it < s.heap.objs.size := Heap.lt_size he
    refine DT.nextI he raw hi' fun h' ho hT hz hk => ?_
    refine ⟨_, rfl, wpAny_letOwnedTupleGo_items (s := { s with heap := h' }) ho fun h'' he' sb => ?_⟩
    have hT2 : h''.get? s.heap.objs.size = some { cls := .type "tuple", data := .seq #[es'[i].key, es'[i].val] } := (sb.2 _ (Nat.ne_of_gt hlt)).trans hT
    have new : ObjOk X.prog X.w (upd H s.heap.objs.size (.tup [.ref b, v])) h'' s.heap.objs.size (.tup [.ref b, v]) :=
      ⟨by show 2 ≤ sizeLine; decide, [es'[i].key, es'[i].val], .cons (by rw [een, ek]; rfl) (.cons (by rw [een]; exact ev) .nil), ⟨_, hT2, rfl, _, rfl⟩⟩
    have I1 : Inv X pins σ (upd H s.heap.objs.size (.tup [.ref b, v])) { s with heap := h'' } :=
      I.turnedNew (t' := s.toks) (ch := [it]) (fun b ob hb e => (sb.2 b (by simpa using hb)).trans (hk b ob (by simpa using hb) e)) hf (Nat.le_refl _) new
    refine ⟨.ref s.heap.objs.size, _, I1, rfl, ⟨_, k, b, v, hkv, rfl, I.hok.fresh (Nat.le_refl _), rfl⟩, ⟨es'[i].key, es'[i].val, ?_⟩, fun b hb => ?_⟩
    · rw [← hsz]; exact he'
    · have e : b = it := by simpa using hb
      rw [e, upd_ne (Nat.ne_of_lt hlt)]
      exact (hf it (by simp)).1
  done := by
    intro X hP hw hK hc i pins s σ H E I hf st hg
    subst hP hw hK
    obtain ⟨hd, hi⟩ := hg
    obtain ⟨f0, f1, f2, f3, f4, f5⟩ := hf it (by simp)
    obtain ⟨es', ep', raw, hgd, hdt, hsz, ent⟩ := frz_dn I hd
    obtain ⟨rfl, rfl⟩ := dict_ep hod hdt
    obtain ⟨ok, ov, he⟩ := st
    rw [← hsz] at he
    exact DT.endI (I.ok.hd hc) he raw (by omega) fun h' eb => ⟨rfl, I.turned (t' := s.toks) (fun b ob hb e => eb b ob hb e) f0 f1 f3 f4 f5⟩
  self := fun A i s Q E st h => let ⟨_, _, e⟩ := st; PySem.W.kcp_self e h
/-- the dict is locked from here on -/
def iItemsN (P : Program) (w : World) (td : TE) : TI := fun σ H R => td σ H fun x H1 => ∃ d L, x = .ref d ∧ DnAt P w H1 d L ∧ ∀ o, R (ItN P w d o L) (upd H1 d (.frz o (DnO P w d L)))
theorem pi_itemsN {e : Expr} {td : TE} {apos cpos : Pos} {elts : List Expr} {kk : Nat} {tpos : Pos} (he : PE X e td) (hbase : attributeBase e "items" X.env (eval e X.env) = eval e X.env := by rfl) (hline : (apos.endLine == cpos.line) = true := by rfl) :
    PI X (.Tuple elts kk tpos) (.Call (.Attribute e "items" apos) [] [] cpos) (iItemsN X.prog X.w td) := by
  refine ⟨fun pins s σ H R I h => ?_⟩
  refine wpAny_Call_method (T := "dict") (id := "dict.items") hbase rfl hline F.plainAttrs_dict F.slot_dict_items F.type_dict_items (thn (he.run pins s σ H _ I h) fun u s1 ⟨x, H1, I1, rx, d, L, ex, hd, q⟩ => ?_)
  subst ex
  obtain rfl : u = Value.ref d := rx
  obtain ⟨hs, hz, xs, rel, o, es, ep, ho, hx, hdt, hen, hn⟩ := dn_of I1 hd
  have raw : DT.Raw s1.heap d es ep := ⟨o, ho, hx, hdt⟩
  have nd : ∀ a : Addr, Value.ref d = Value.ref a → ∃ ob, s1.heap.get? a = some ob ∧ ob.dict = none := fun a e => by
    cases e
    exact ⟨o, ho, hx.2.1⟩
  have lock : ObjOk X.prog X.w (upd H1 d (.frz o (DnO X.prog X.w d L))) s1.heap d (.frz o (DnO X.prog X.w d L)) := by
    refine ⟨ho, ⟨hs, hz, xs, rel, o, es, ep, ho, hx, hdt, hen, hn⟩, ⟨o, ho⟩, fun h1 h2 p k => ?_⟩
    obtain ⟨c1, c2, xs, c3, o, es, ep, ho, c4⟩ := p
    exact ⟨c1, c2, xs, c3, o, es, ep, k o ho, c4⟩
  have I1' : Inv X pins σ (upd H1 d (.frz o (DnO X.prog X.w d L))) s1 := I1.write (t' := s1.toks) (e := d) (h' := s1.heap) (dn_mut hd) (.inl rfl) (fun b u _ q => q) ⟨o, ho⟩ lock
  have hl : es.size = L.length := by rw [size_of_entries hen]; exact (Paired.length rel).symm
  have I2 : Inv X pins σ (upd H1 d (.frz o (DnO X.prog X.w d L))) { s1 with heap := s1.heap.push { cls := .type "dict_items", data := .fields #[.ref d] } } := I1'.kept (t' := s1.toks) fun b ob q => Heap.get?_push_of_some _ q
  have fin : wpAny (model X.prog X.w) X.A (pyIter (.ref s1.heap.objs.size)) (PIE X pins σ (.Tuple elts kk tpos) R) X.xe { s1 with heap := s1.heap.push { cls := .type "dict_items", data := .fields #[.ref d] } } := by
    refine DT.iterI (s := { s1 with heap := s1.heap.push { cls := .type "dict_items", data := .fields #[.ref d] } }) (v := s1.heap.objs.size) (d := d) (es := es) (ep := ep) ⟨_, Heap.get?_push_size _ rfl, rfl, rfl⟩ (raw.push _) (pi_one (tk := s1.toks) I2 _ (turn_itemsN _ hdt) ⟨.none, .none, ?_⟩ (q o))
    rw [← hl]
    exact Heap.get?_push_size _ rfl
  refine ⟨raw.typeIs, nd, ?_⟩
  show wpAny _ _ (callWith cpos (.builtin "dict.items") [.ref d] [] []) _ X.xe s1
  exact method_meetsIn F.slot_dict_items F.entry_dict_items rfl (PySem.evalArgs_none ⟨rfl, raw.typeIs, F.args_dict_items_1 _, _, DT.meetsItems (es := es) (ep := ep) hs, raw, fin⟩)
end
/-- a list comprehension over the pairs -/
theorem lc_itemsN {P : Program} {w : World} {d : Addr} {o : Obj} {L : List NkE} {g : TG} {tt : TT} {te : TE} {vs : List Nat} {σ : L2.St} {H1 : Hp} {D : Addr} {Qd : Hp → Prop} (Pv : Nat → Hp → Prop) (h0 : Pv 0 (upd H1 D (.lst []))) (hl : ∀ i H, i ≤ L.length → Pv i H → H d = some (.frz o (DnO P w d L)))
    (hs : ∀ i k b v T H, L[i]? = some (k, b, v) → Pv i H → H T = none → g (.ref T) (wipe σ vs) (upd H T (.tup [.ref b, v])) fun σ2 H2 => wipe σ2 vs = wipe σ vs ∧ tt σ2 H2 fun c H3 =>
      if c = true then te σ2 H3 fun y H4 => ∃ acc, H4 D = some (.lst acc) ∧ acc.length < sizeLine ∧ Pv (i + 1) (upd H4 D (.lst (acc ++ [y]))) else Pv (i + 1) H3) (hd : ∀ H, Pv L.length H → Qd H) :
    ∃ W : Nat → Nat → Hp → Prop, (∃ m, W 0 m (upd H1 D (.lst []))) ∧ ∀ i m H, W i m H →
      ((ItN P w d o L).stop i H ∧ Qd H) ∨ ((ItN P w d o L).go i H ∧ ∃ Nx : Hp → Prop, (∀ H', Nx H' → ∃ m', m' < m ∧ W (i + 1) m' H') ∧ ∀ x H', (ItN P w d o L).yld i H x H' → g x (wipe σ vs) H' fun σ2 H2 => wipe σ2 vs = wipe σ vs ∧ tt σ2 H2 fun b H3 =>
        if b = true then te σ2 H3 fun y H4 => ∃ acc, H4 D = some (.lst acc) ∧ acc.length < sizeLine ∧ Nx (upd H4 D (.lst (acc ++ [y]))) else Nx H3) := by
  refine ⟨fun i m H => m = L.length - i ∧ i ≤ L.length ∧ Pv i H, ⟨L.length, by simp, Nat.zero_le _, h0⟩, ?_⟩
  rintro i m H ⟨rfl, hi, p⟩
  have q := hl i H hi p
  by_cases hlt : i < L.length
  · refine .inr ⟨⟨q, hlt⟩, Pv (i + 1), fun H' p' => ⟨L.length - (i + 1), by omega, rfl, hlt, p'⟩, fun x H' y => ?_⟩
    obtain ⟨T, k, b, v, e, rfl, hT, rfl⟩ := y
    exact hs i k b v T H e p hT
  · have e : i = L.length := by omega
    subst e
    exact .inl ⟨⟨q, Nat.le_refl _⟩, hd H p⟩
/-- a loop over the pairs -/
theorem for_itemsN {P : Program} {w : World} {d : Addr} {o : Obj} {L : List NkE} {g : TG} {tb : TS} {D : Ends} {σ : L2.St} {H : Hp} (Pv : Nat → L2.St → Hp → Prop) (h0 : Pv 0 σ H) (hl : ∀ i σ H, i ≤ L.length → Pv i σ H → H d = some (.frz o (DnO P w d L)))
    (hs : ∀ i k b v T σ H, L[i]? = some (k, b, v) → Pv i σ H → H T = none → g (.ref T) σ (upd H T (.tup [.ref b, v])) fun σ2 H2 => tb { D with nx := Pv (i + 1), ct := Pv (i + 1), bk := D.nx } σ2 H2) (hd : ∀ σ H, Pv L.length σ H → D.nx σ H) :
    ∃ W : Nat → Nat → L2.St → Hp → Prop, (∃ m, W 0 m σ H) ∧ ∀ i m σ H, W i m σ H →
      ((ItN P w d o L).stop i H ∧ D.nx σ H) ∨ ((ItN P w d o L).go i H ∧ ∃ N : L2.St → Hp → Prop, (∀ σ' H', N σ' H' → ∃ m', m' < m ∧ W (i + 1) m' σ' H') ∧ ∀ x H', (ItN P w d o L).yld i H x H' → g x σ H' fun σ2 H2 => tb { D with nx := N, ct := N, bk := D.nx } σ2 H2) := by
  refine ⟨fun i m σ H => m = L.length - i ∧ i ≤ L.length ∧ Pv i σ H, ⟨L.length, by simp, Nat.zero_le _, h0⟩, ?_⟩
  rintro i m σ H ⟨rfl, hi, p⟩
  have q := hl i σ H hi p
  by_cases hlt : i < L.length
  · refine .inr ⟨⟨q, hlt⟩, Pv (i + 1), fun σ' H' p' => ⟨L.length - (i + 1), by omega, rfl, hlt, p'⟩, fun x H' y => ?_⟩
    obtain ⟨T, k, b, v, e, rfl, hT, rfl⟩ := y
    exact hs i k b v T σ H e p hT
  · have e : i = L.length := by omega
    subst e
    exact .inl ⟨⟨q, Nat.le_refl _⟩, hd σ H p⟩
/-- a list comprehension over zip of two lists of one length -/
theorem lc_zipL {K : PySem.W.Frag} {a b : Addr} {xs ys : List V} {g : TG} {tt : TT} {te : TE} {vs : List Nat} {σ : L2.St} {H1 : Hp} {D : Addr} {Qd : Hp → Prop} (hl : xs.length = ys.length) (Pv : Nat → Hp → Prop) (h0 : Pv 0 (upd H1 D (.lst []))) (hq : ∀ i H, Pv i H → SqL K H a xs ∧ SqL K H b ys)
    (hs : ∀ (i : Nat) (x y : V) (T : Addr) (H : Hp), xs[i]? = some x → ys[i]? = some y → Pv i H → H T = none → g (.ref T) (wipe σ vs) (upd H T (.tup [x, y])) fun σ2 H2 => wipe σ2 vs = wipe σ vs ∧ tt σ2 H2 fun c H3 =>
      if c = true then te σ2 H3 fun z H4 => ∃ acc, H4 D = some (.lst acc) ∧ acc.length < sizeLine ∧ Pv (i + 1) (upd H4 D (.lst (acc ++ [z]))) else Pv (i + 1) H3) (hd : ∀ H, Pv xs.length H → Qd H) :
    ∃ W : Nat → Nat → Hp → Prop, (∃ m, W 0 m (upd H1 D (.lst []))) ∧ ∀ i m H, W i m H →
      ((Itz K a b).stop i H ∧ Qd H) ∨ ((Itz K a b).go i H ∧ ∃ N : Hp → Prop, (∀ H', N H' → ∃ m', m' < m ∧ W (i + 1) m' H') ∧ ∀ v H', (Itz K a b).yld i H v H' → g v (wipe σ vs) H' fun σ2 H2 => wipe σ2 vs = wipe σ vs ∧ tt σ2 H2 fun c H3 =>
        if c = true then te σ2 H3 fun z H4 => ∃ acc, H4 D = some (.lst acc) ∧ acc.length < sizeLine ∧ N (upd H4 D (.lst (acc ++ [z]))) else N H3) := by
  refine ⟨fun i m H => i + m = xs.length ∧ Pv i H, ⟨xs.length, Nat.zero_add _, h0⟩, ?_⟩
  rintro i m H ⟨em, pv⟩
  obtain ⟨q1, q2⟩ := hq i H pv
  cases m with
  | zero =>
    obtain rfl : i = xs.length := by omega
    exact .inl ⟨⟨xs, ys, q1, q2, .inl (Nat.le_refl _)⟩, hd H pv⟩
  | succ m =>
    have l1 : i < xs.length := by omega
    have l2 : i < ys.length := by omega
    refine .inr ⟨⟨xs, ys, _, _, q1, q2, List.getElem?_eq_getElem l1, List.getElem?_eq_getElem l2⟩, Pv (i + 1), fun H' p' => ⟨m, by omega, by omega, p'⟩, fun v H' yl => ?_⟩
    obtain ⟨T, x', y', rfl, hT, rfl, f1, f2⟩ := yl
    exact hs i x' y' T H (f1 xs q1) (f2 ys q2) pv hT
end Lc
set_option Elab.async false
set_option linter.all false
set_option maxRecDepth 100000
set_option maxHeartbeats 4000000
namespace Lc
open PySem PySem.Spec PyProof.Rows L2
theorem num_dec (a b : Int) : decide (NestedKey.num a = NestedKey.num b) = (a == b) := by
  by_cases h : a = b
  · subst h; simp
  · rw [beq_eq_false_iff_ne.mpr h]
    exact decide_eq_false fun e => h (by injection e)
theorem dec_f {a b : NestedKey} (h : a ≠ b) : decide (a = b) = false := decide_eq_false h
mutual
theorem eqv_nk : ∀ (a b : PyData), keyD a = true → keyD b = true → PyData.eqv a b = decide (nkD a = nkD b)
  | .none, .none, _, _ => by simp [PyData.eqv]
  | .none, .bool _, _, _ => by rw [dec_f (by simp [nkD])]; rfl
  | .none, .int _, _, _ => by rw [dec_f (by simp [nkD])]; rfl
  | .none, .str _, _, _ => by rw [dec_f (by simp [nkD])]; rfl
  | .none, .tuple _, _, _ => by rw [dec_f (by simp [nkD])]; rfl
  | .bool _, .none, _, _ => by rw [dec_f (by simp [nkD])]; rfl
  | .bool a, .bool b, _, _ => by
    show (a == b) = decide (NestedKey.num _ = NestedKey.num _)
    rw [num_dec]
    cases a <;> cases b <;> rfl
  | .bool a, .int b, _, _ => by
    show ((if a then (1 : Int) else 0) == b) = decide (NestedKey.num _ = NestedKey.num _)
    rw [num_dec]
  | .bool _, .str _, _, _ => by rw [dec_f (by simp [nkD])]; rfl
  | .bool _, .tuple _, _, _ => by rw [dec_f (by simp [nkD])]; rfl
  | .int _, .none, _, _ => by rw [dec_f (by simp [nkD])]; rfl
  | .int a, .bool b, _, _ => by
    show (a == (if b then (1 : Int) else 0)) = decide (NestedKey.num _ = NestedKey.num _)
    rw [num_dec]
  | .int a, .int b, _, _ => by
    show (a == b) = decide (NestedKey.num _ = NestedKey.num _)
    rw [num_dec]
  | .int _, .str _, _, _ => by rw [dec_f (by simp [nkD])]; rfl
  | .int _, .tuple _, _, _ => by rw [dec_f (by simp [nkD])]; rfl
  | .str _, .none, _, _ => by rw [dec_f (by simp [nkD])]; rfl
  | .str _, .bool _, _, _ => by rw [dec_f (by simp [nkD])]; rfl
  | .str _, .int _, _, _ => by rw [dec_f (by simp [nkD])]; rfl
  | .str a, .str b, _, _ => by
    show (a == b) = decide (NestedKey.text _ = NestedKey.text _)
    by_cases h : a = b
    · subst h; simp
    · rw [beq_eq_false_iff_ne.mpr h]
      exact (decide_eq_false fun e => h (by injection e)).symm
  | .str _, .tuple _, _, _ => by rw [dec_f (by simp [nkD])]; rfl
  | .tuple _, .none, _, _ => by rw [dec_f (by simp [nkD])]; rfl
  | .tuple _, .bool _, _, _ => by rw [dec_f (by simp [nkD])]; rfl
  | .tuple _, .int _, _, _ => by rw [dec_f (by simp [nkD])]; rfl
  | .tuple _, .str _, _, _ => by rw [dec_f (by simp [nkD])]; rfl
  | .tuple as, .tuple bs, ha, hb => by
    show PyData.eqvAll as bs = decide (NestedKey.tup _ = NestedKey.tup _)
    rw [eqv_nks as bs ha hb]
    by_cases h : nkDs as = nkDs bs
    · rw [h]; simp
    · rw [decide_eq_false h]
      exact (decide_eq_false fun e => h (by injection e)).symm
  | .list _, _, h, _ => by cases h
  | .dict _, _, h, _ => by cases h
  | .none, .list _, _, h => by cases h
  | .bool _, .list _, _, h => by cases h
  | .int _, .list _, _, h => by cases h
  | .str _, .list _, _, h => by cases h
  | .tuple _, .list _, _, h => by cases h
  | .none, .dict _, _, h => by cases h
  | .bool _, .dict _, _, h => by cases h
  | .int _, .dict _, _, h => by cases h
  | .str _, .dict _, _, h => by cases h
  | .tuple _, .dict _, _, h => by cases h
theorem eqv_nks : ∀ (as bs : List PyData), keyDs as = true → keyDs bs = true → PyData.eqvAll as bs = decide (nkDs as = nkDs bs)
  | [], [], _, _ => by simp [PyData.eqvAll]
  | [], _ :: _, _, _ => by simp [PyData.eqvAll, nkDs]
  | _ :: _, [], _, _ => by simp [PyData.eqvAll, nkDs]
  | a :: as, b :: bs, ha, hb => by
    have ha : (keyD a && keyDs as) = true := ha
    have hb : (keyD b && keyDs bs) = true := hb
    rw [Bool.and_eq_true] at ha hb
    rw [PyData.eqvAll, eqv_nk a b ha.1 hb.1, eqv_nks as bs ha.2 hb.2]
    show _ = decide (nkD a :: nkDs as = nkD b :: nkDs bs)
    by_cases h1 : nkD a = nkD b <;> by_cases h2 : nkDs as = nkDs bs <;> simp [h1, h2]
end
theorem eqv_list {as bs : List PyData} (ha : keyDs as = true) (hb : keyDs bs = true) : PyData.eqv (.list as) (.list bs) = decide (nkDs as = nkDs bs) := by
  rw [PyData.eqv, eqv_nks as bs ha hb]
theorem keyDs_all {ds : List PyData} : keyDs ds = true ↔ ∀ d ∈ ds, keyD d = true := by
  induction ds with
  | nil => simp [keyDs]
  | cons d ds ih => simp [keyDs, ih]
theorem nkDs_map (ds : List PyData) : nkDs ds = ds.map nkD := by
  induction ds with
  | nil => rfl
  | cons d ds ih => rw [nkDs, ih, List.map_cons]
/-! ## rows by their keys -/
abbrev Grp (R : Type) : Type := List (List PyData × List R)
section
variable {R : Type}
def putG (k : List PyData) (r : R) : Grp R → Grp R
  | [] => [(k, [r])]
  | g :: t => if nkDs g.1 = nkDs k then (g.1, g.2 ++ [r]) :: t else g :: putG k r t
def grpR (ky : R → List PyData) (rs : List R) : Grp R := rs.foldl (fun g r => putG (ky r) r g) []
theorem grpR_snoc (ky : R → List PyData) (rs : List R) (r : R) : grpR ky (rs ++ [r]) = putG (ky r) r (grpR ky rs) := by
  unfold grpR
  rw [List.foldl_append]
  rfl
/-- the keys, each once, as they come -/
def keysR (ky : R → List PyData) (rs : List R) : List (List PyData) := rs.foldl (fun ks r => if nkDs (ky r) ∈ ks.map nkDs then ks else ks ++ [ky r]) []
theorem keysR_snoc (ky : R → List PyData) (rs : List R) (r : R) : keysR ky (rs ++ [r]) = if nkDs (ky r) ∈ (keysR ky rs).map nkDs then keysR ky rs else keysR ky rs ++ [ky r] := by
  unfold keysR
  rw [List.foldl_append]
  rfl
theorem putG_in {k : List PyData} {r : R} : ∀ {g : Grp R}, nkDs k ∈ g.map (fun x => nkDs x.1) → (g.map fun x => nkDs x.1).Nodup → putG k r g = g.map fun x => if nkDs x.1 = nkDs k then (x.1, x.2 ++ [r]) else x
  | [], h, _ => by simp at h
  | x :: t, h, nd => by
    rw [List.map_cons, List.nodup_cons] at nd
    unfold putG
    rw [List.map_cons]
    by_cases e : nkDs x.1 = nkDs k
    · rw [if_pos e, if_pos e]
      congr 1
      refine (List.map_id' t).symm.trans (List.map_congr_left fun y hy => ?_)
      rw [if_neg fun z => nd.1 (by rw [e, ← z]; exact List.mem_map_of_mem (f := fun x : List PyData × List R => nkDs x.1) hy)]
    · rw [if_neg e, if_neg e, putG_in (g := t) (by
        rcases List.mem_cons.mp h with h | h
        · exact absurd h.symm e
        · exact h) nd.2]
theorem putG_out {k : List PyData} {r : R} : ∀ {g : Grp R}, nkDs k ∉ g.map (fun x => nkDs x.1) → putG k r g = g ++ [(k, [r])]
  | [], _ => rfl
  | x :: t, h => by
    rw [List.map_cons, List.mem_cons, not_or] at h
    unfold putG
    rw [if_neg fun e => h.1 e.symm, putG_out h.2]
    rfl
theorem keysR_nd (ky : R → List PyData) (rs : List R) : ((keysR ky rs).map nkDs).Nodup := by
  induction rs using snoc_ind with
  | h0 => exact List.nodup_nil
  | h1 rs r ih =>
    rw [keysR_snoc]
    split
    · exact ih
    · next h =>
      rw [List.map_append, List.nodup_append]
      exact ⟨ih, List.nodup_cons.mpr ⟨nofun, List.nodup_nil⟩, fun a ha b hb e => h (by rw [← List.mem_singleton.mp hb, ← e]; exact ha)⟩
/-- the groups: each key with its rows -/
theorem grpR_eq (ky : R → List PyData) (rs : List R) : grpR ky rs = (keysR ky rs).map fun k => (k, rs.filter fun r => decide (nkDs (ky r) = nkDs k)) := by
  induction rs using snoc_ind with
  | h0 => rfl
  | h1 rs r ih =>
    have nd := keysR_nd ky rs
    have e1 : (grpR ky rs).map (fun x => nkDs x.1) = (keysR ky rs).map nkDs := by
      rw [ih, List.map_map]
      rfl
    rw [grpR_snoc, keysR_snoc]
    by_cases h : nkDs (ky r) ∈ (keysR ky rs).map nkDs
    · rw [if_pos h, putG_in (by rw [e1]; exact h) (by rw [e1]; exact nd), ih, List.map_map]
      refine List.map_congr_left fun k hk => ?_
      show (if nkDs k = nkDs (ky r) then (k, rs.filter _ ++ [r]) else (k, rs.filter _)) = _
      rw [List.filter_append]
      by_cases e : nkDs k = nkDs (ky r)
      · rw [if_pos e, List.filter_cons, if_pos (decide_eq_true e.symm)]
        rfl
      · rw [if_neg e, List.filter_cons, if_neg (by simpa using fun z => e z.symm)]
        rw [List.filter_nil, List.append_nil]
    · rw [if_neg h, putG_out (by rw [e1]; exact h), ih, List.map_append]
      congr 1
      · refine List.map_congr_left fun k hk => ?_
        rw [List.filter_append, List.filter_cons, if_neg (by simpa using fun z => h (by rw [z]; exact List.mem_map_of_mem hk)), List.filter_nil, List.append_nil]
      · rw [List.map_cons, List.filter_append, List.filter_cons, if_pos (decide_eq_true rfl)]
        have : rs.filter (fun q => decide (nkDs (ky q) = nkDs (ky r))) = [] := by
          refine List.filter_eq_nil_iff.mpr fun q hq => ?_
          have : nkDs (ky q) ∈ (keysR ky rs).map nkDs := by
            clear ih e1 nd h
            induction rs using snoc_ind with
            | h0 => cases hq
            | h1 rs s ih =>
              rw [keysR_snoc]
              rcases List.mem_append.mp hq with hq | hq
              · have := ih hq
                split
                · exact this
                · rw [List.map_append]; exact List.mem_append_left _ this
              · rw [List.mem_singleton.mp hq]
                split
                · next y => exact y
                · rw [List.map_append]; exact List.mem_append_right _ List.mem_cons_self
          simpa using fun z => h (by rw [← z]; exact this)
        rw [this]
        rfl
theorem putG_map {S : Type} (f : R → S) (k : List PyData) (r : R) : ∀ g : Grp R, (putG k r g).map (fun x => (x.1, x.2.map f)) = putG k (f r) (g.map fun x => (x.1, x.2.map f))
  | [] => rfl
  | x :: t => by
    rw [List.map_cons]
    unfold putG
    by_cases e : nkDs x.1 = nkDs k
    · rw [if_pos e, if_pos e, List.map_cons, List.map_append]
      rfl
    · rw [if_neg e, if_neg e, List.map_cons, putG_map f k r t]
theorem grpR_map {S : Type} (f : R → S) (ky : R → List PyData) (ky' : S → List PyData) (h : ∀ r, ky r = ky' (f r)) (rs : List R) : (grpR ky rs).map (fun x => (x.1, x.2.map f)) = grpR ky' (rs.map f) := by
  induction rs using snoc_ind with
  | h0 => rfl
  | h1 rs r ih => rw [List.map_append, List.map_cons, List.map_nil, grpR_snoc, grpR_snoc, putG_map, ih, h]
theorem keysR_of (ky : R → List PyData) (rs : List R) : ∀ k ∈ keysR ky rs, ∃ r ∈ rs, k = ky r := by
  induction rs using snoc_ind with
  | h0 => exact nofun
  | h1 rs r ih =>
    rw [keysR_snoc]
    intro k hk
    split at hk
    · obtain ⟨q, h1, h2⟩ := ih k hk
      exact ⟨q, List.mem_append_left _ h1, h2⟩
    · rcases List.mem_append.mp hk with hk | hk
      · obtain ⟨q, h1, h2⟩ := ih k hk
        exact ⟨q, List.mem_append_left _ h1, h2⟩
      · exact ⟨r, List.mem_append_right _ List.mem_cons_self, List.mem_singleton.mp hk⟩
theorem grpR_of (ky : R → List PyData) (rs : List R) : ∀ g ∈ grpR ky rs, (∃ r ∈ rs, g.1 = ky r) ∧ ∀ r ∈ g.2, r ∈ rs := by
  rw [grpR_eq]
  intro g hg
  obtain ⟨k, hk, rfl⟩ := List.mem_map.mp hg
  obtain ⟨r, h1, h2⟩ := keysR_of ky rs k hk
  exact ⟨⟨r, h1, h2⟩, fun q hq => (List.mem_filter.mp hq).1⟩
end
end Lc
set_option Elab.async false
set_option linter.all false
set_option maxRecDepth 100000
set_option maxHeartbeats 4000000
namespace K19
open PySem PySem.Spec PyProof.Rows L2 Lc
theorem row_at {H : Hp} {v : V} {r : RowD} (h : Dh H v r.d) : ∃ ra va la, v = .ref ra ∧ H ra = some (.tup [.ref va, .ref la]) ∧ Dh H (.ref va) (.tuple r.vals) ∧ Dh H (.ref la) (linD r.lin) := by
  cases h with
  | tup e hs => cases hs with
    | cons h1 r1 => cases r1 with
      | cons h2 r2 =>
        cases r2
        have h1' := h1
        have h2' := h2
        cases h1 with
        | tup e1 _ => cases h2 with
          | tup e2 _ => exact ⟨_, _, _, rfl, e, h1', h2'⟩
theorem Vks.noL : ∀ {ks : List Str} {ds : List PyData}, Vks ks ds → ∀ d ∈ ds, noL d = true
  | _, _, .nil => nofun
  | _, _, .cons h r => fun d hd => by
    rcases List.mem_cons.mp hd with rfl | hd
    · exact h.noL
    · exact r.noL d hd
def RowW (ps : CsL) (ds : List RowD) : Prop := ∀ r ∈ ds, Vks (ps.map (·.2)) r.vals ∧ LinOk r.lin
theorem RowW.ok {ps : CsL} {rs : RowsL} (h : RowW ps (rs.map (·.2))) : RowsOk rs := fun r hr => by
  obtain ⟨h1, h2⟩ := h r.2 (List.mem_map_of_mem hr)
  exact ⟨noLs_all.mpr h1.noL, h2⟩
def jsV (js : List Nat) : List V := js.map fun j => V.int (j : Nat)
def spPo : Sp := fun vs H Q _ => ∃ (L p : Addr) (ps : CsL) (ns : List Str), vs = [.ref L, .ref p] ∧ CA H L ps ∧ ColP ps ∧ H p = some (.tup (vS ns)) ∧ (∀ n ∈ ns, n ∈ nms ps) ∧ ns.length ≤ 8 ∧ ∀ (D : Addr) (H' : Hp), Same H H' → H' D = some (.lst (jsV (ns.map fun n => (nms ps).idxOf n))) → Q (.ref D) H'
def spPc : Sp := fun vs H Q _ => ∃ (p q : Addr) (us : List V) (ds : List PyData) (js : List Nat), vs = [.ref p, .ref q] ∧ H p = some (.tup us) ∧ DhAll H us ds ∧ (∀ d ∈ ds, noL d = true) ∧ H q = some (.lst (jsV js)) ∧ (∀ j ∈ js, j < ds.length) ∧ js.length ≤ 8 ∧ ∀ (r : Addr) (H' : Hp), Same H H' → Dh H' (.ref r) (.tuple (js.map fun j => ds.getD j .none)) → Q (.ref r) H'
theorem idx_at {ss : List Str} {x : Str} (h : x ∈ ss) : ss[ss.idxOf x]? = some x := by
  rw [List.getElem?_eq_getElem (List.idxOf_lt_length_of_mem h)]
  exact congrArg some (List.getElem_idxOf _)
theorem idx_no {x z : Str} : ∀ {ss : List Str} {m : Nat}, m < ss.idxOf x → ss[m]? = some z → z ≠ x
  | [], m, h, e => by simp at e
  | a :: r, m, h, e => by
    rw [List.idxOf_cons] at h
    by_cases q : a = x
    · rw [beq_iff_eq.mpr q] at h
      exact absurd h (Nat.not_lt_zero m)
    · rw [beq_eq_false_iff_ne.mpr q] at h
      match m, h, e with
      | 0, h, e => injection e with e; rw [← e]; exact q
      | m + 1, h, e => exact idx_no (ss := r) (m := m) (Nat.lt_of_succ_lt_succ h) (by simpa using e)
abbrev tePo (K : PySem.W.Frag) : TE := tBM K "list" (rIndex K) (tVar 2) (tCons (tVar 3) tNil)
abbrev tePc (K : PySem.W.Frag) : TE := tOp (rIxT K) (tVar 0) (tVar 2)
theorem vks_get : ∀ {ks : List Str} {ds : List PyData}, Vks ks ds → ∀ {i : Nat} {k : Str}, ks[i]? = some k → ∃ d, ds[i]? = some d ∧ Vk k d
  | _, _, .nil, i, k, e => by simp at e
  | _, _, .cons h r, 0, k, e => by
    obtain rfl := Option.some.inj e
    exact ⟨_, rfl, h⟩
  | _, _, .cons h r, i + 1, k, e => vks_get r (i := i) (by simpa using e)
theorem vks_of : ∀ {ks : List Str} {ds : List PyData}, ds.length = ks.length → (∀ (i : Nat) (k : Str), ks[i]? = some k → ∃ d, ds[i]? = some d ∧ Vk k d) → Vks ks ds
  | [], [], _, _ => .nil
  | [], _ :: _, l, _ => by simp at l
  | k :: ks, [], l, _ => by simp at l
  | k :: ks, d :: ds, l, h => by
    obtain ⟨d', e, v⟩ := h 0 k rfl
    obtain rfl := Option.some.inj e
    refine .cons v (vks_of (by simpa using l) fun i k' e => ?_)
    obtain ⟨d', e', v'⟩ := h (i + 1) k' (by simpa using e)
    exact ⟨d', by simpa using e', v'⟩
theorem nodup_ix {ss : List Str} (nd : ss.Nodup) {i : Nat} {x : Str} (e : ss[i]? = some x) : ss.idxOf x = i := by
  obtain ⟨l, rfl⟩ := List.getElem?_eq_some_iff.mp e
  exact nd.idxOf_getElem i l
/-! ## rows by their keys -/
theorem Vk.key {k : Str} {d : PyData} (h : Vk k d) : keyD d = true ∧ (nkD d).depth ≤ 1 := by
  cases h with
  | non => exact ⟨rfl, by simp [nkD, NestedKey.depth]⟩
  | num _ _ _ => exact ⟨rfl, by simp [nkD, nkDs, NestedKey.depth, NestedKey.depthAll]⟩
  | flag _ => exact ⟨rfl, by simp [nkD, NestedKey.depth]⟩
  | word _ _ => exact ⟨rfl, by simp [nkD, NestedKey.depth]⟩
theorem Vk.can {k : Str} {d : PyData} (h : Vk k d) : d.canLay0 = true := by
  cases h with
  | non => rfl
  | num => rfl
  | flag => rfl
  | word h _ => exact can_str h
theorem Vk.depth {k : Str} {d : PyData} (h : Vk k d) : d.depth ≤ 1 := by cases h <;> simp [PyData.depth, PyData.depthAll]
def KeyOk (ds : List PyData) : Prop := ∀ d ∈ ds, keyD d = true ∧ (nkD d).depth ≤ 1 ∧ noL d = true ∧ d.canLay0 = true ∧ d.depth ≤ 1
theorem KeyOk.all {ds : List PyData} (h : KeyOk ds) : keyDs ds = true := keyDs_all.mpr fun d hd => (h d hd).1
theorem KeyOk.dep {ds : List PyData} (h : KeyOk ds) : (NestedKey.tup (nkDs ds)).depth ≤ 8 := by
  have : NestedKey.depthAll (nkDs ds) ≤ 1 := by
    induction ds with
    | nil => exact Nat.zero_le _
    | cons d ds ih =>
      have h1 := (h d List.mem_cons_self).2.1
      have h2 := ih fun x hx => h x (List.mem_cons_of_mem _ hx)
      rw [nkDs, NestedKey.depthAll]
      omega
  rw [NestedKey.depth]
  omega
/-- the values at these places -/
def atJ (js : List Nat) (r : V × RowD) : List PyData := js.map fun j => r.2.vals.getD j .none
theorem atJ_ok {ks : List Str} {js : List Nat} {r : V × RowD} (h : Vks ks r.2.vals) (hj : ∀ j ∈ js, j < ks.length) : KeyOk (atJ js r) := fun d hd => by
  obtain ⟨j, h1, rfl⟩ := List.mem_map.mp hd
  obtain ⟨d, e, v⟩ := vks_get h (i := j) (k := ks[j]'(hj j h1)) (List.getElem?_eq_getElem _)
  rw [List.getD_eq_getElem?_getD, e]
  exact ⟨v.key.1, v.key.2, v.noL, v.can, v.depth⟩
inductive GrpAt (H : Hp) : List NkE → Grp (V × RowD) → Prop
  | nil : GrpAt H [] []
  | cons {b la : Addr} {L : List NkE} {key : List PyData} {mem : RowsL} {G : Grp (V × RowD)} (hk : Dh H (.ref b) (.tuple key)) (ko : KeyOk key) (el : H la = some (.lst (mem.map (·.1)))) (r : GrpAt H L G) : GrpAt H ((.tup (nkDs key), b, .ref la) :: L) ((key, mem) :: G)
theorem GrpAt.same {H H' : Hp} (s : Same H H') : ∀ {L : List NkE} {G : Grp (V × RowD)}, GrpAt H L G → GrpAt H' L G
  | _, _, .nil => .nil
  | _, _, .cons hk ko el r => .cons (hk.same s) ko (s _ _ el) (r.same s)
theorem KeyOk.noL {ds : List PyData} (h : KeyOk ds) : noL (.tuple ds) = true := by
  rw [Lc.noL]
  exact noLs_all.mpr fun d hd => (h d hd).2.2.1
theorem GrpAt.keyN {H : Hp} : ∀ {L : List NkE} {G : Grp (V × RowD)}, GrpAt H L G → ∀ e ∈ L, KeyN H e.2.1 e.1
  | _, _, .nil => nofun
  | _, _, .cons (key := key) hk ko el r => fun e he => by
    rcases List.mem_cons.mp he with rfl | he
    · exact ⟨.tuple key, hk, ko.all, rfl, ko.dep⟩
    · exact r.keyN e he
theorem GrpAt.len {H : Hp} : ∀ {L : List NkE} {G : Grp (V × RowD)}, GrpAt H L G → L.length = G.length
  | _, _, .nil => rfl
  | _, _, .cons _ _ _ r => by rw [List.length_cons, List.length_cons, r.len]
theorem GrpAt.get {H : Hp} : ∀ {L : List NkE} {G : Grp (V × RowD)}, GrpAt H L G → ∀ {i : Nat} {k : NestedKey} {b : Addr} {v : V}, L[i]? = some (k, b, v) → ∃ key mem la, G[i]? = some (key, mem) ∧ v = .ref la ∧ Dh H (.ref b) (.tuple key) ∧ KeyOk key ∧ H la = some (.lst (mem.map (·.1)))
  | _, _, .nil, i, k, b, v, e => by simp at e
  | _, _, .cons hk ko el r, 0, k, b, v, e => by cases e; exact ⟨_, _, _, rfl, rfl, hk, ko, el⟩
  | _, _, .cons hk ko el r, i + 1, k, b, v, e => by
    obtain ⟨key, mem, la, h1, h2⟩ := r.get (i := i) (by simpa using e)
    exact ⟨key, mem, la, by simpa using h1, h2⟩
/-- where the key is not yet there -/
theorem GrpAt.out {H : Hp} {k : List PyData} : ∀ {L : List NkE} {G : Grp (V × RowD)}, GrpAt H L G → valN L (.tup (nkDs k)) = none → nkDs k ∉ G.map fun x => nkDs x.1
  | _, _, .nil, _ => by simp
  | _, _, .cons (key := key) hk ko el r, h => by
    unfold valN at h
    by_cases e : NestedKey.tup (nkDs key) = .tup (nkDs k)
    · rw [if_pos e] at h; cases h
    · rw [if_neg e] at h
      rw [List.map_cons, List.mem_cons, not_or]
      exact ⟨fun z => e (by rw [z]), r.out h⟩
theorem GrpAt.snoc {H : Hp} {b la : Addr} {key : List PyData} {mem : RowsL} (hk : Dh H (.ref b) (.tuple key)) (ko : KeyOk key) (el : H la = some (.lst (mem.map (·.1)))) : ∀ {L : List NkE} {G : Grp (V × RowD)}, GrpAt H L G → GrpAt H (L ++ [(.tup (nkDs key), b, .ref la)]) (G ++ [(key, mem)])
  | _, _, .nil => .cons hk ko el .nil
  | _, _, .cons h1 h2 h3 r => .cons h1 h2 h3 (r.snoc hk ko el)
/-- another thing is written -/
theorem GrpAt.upd {H : Hp} {c : Addr} {o u : HO} (hc : H c = some u) (nt : ∀ xs, u ≠ .tup xs) : ∀ {L : List NkE} {G : Grp (V × RowD)}, GrpAt H L G → V.ref c ∉ L.map (·.2.2) → GrpAt (L2.upd H c o) L G
  | _, _, .nil, _ => .nil
  | _, _, .cons (la := la) hk ko el r, n => by
    rw [List.map_cons, List.mem_cons, not_or] at n
    refine .cons (hk.t (fun x xs e => by rw [upd_ne (ne_of e hc fun z => nt _ z.symm)]; exact e) ko.noL) ko ?_ (GrpAt.upd hc nt r n.2)
    rw [upd_ne fun z => n.1 (by rw [z])]
    exact el
/-- the row is put to its group -/
theorem GrpAt.put {H : Hp} {k : List PyData} {r : V × RowD} {v : V} : ∀ {L : List NkE} {G : Grp (V × RowD)}, GrpAt H L G → (L.map (·.2.2)).Nodup → valN L (.tup (nkDs k)) = some v → ∃ la mem, v = .ref la ∧ v ∈ L.map (·.2.2) ∧ H la = some (.lst mem) ∧ mem.length ≤ (G.map fun x => x.2.length).sum ∧ GrpAt (L2.upd H la (.lst (mem ++ [r.1]))) L (putG k r G)
  | _, _, .nil, _, h => by cases h
  | _, _, .cons (la := la) (key := key) (mem := mem) (G := G) hk ko el rr, nd, h => by
    rw [List.map_cons, List.nodup_cons] at nd
    unfold valN at h
    have st : SameT H (L2.upd H la (.lst (mem.map (·.1) ++ [r.1]))) := fun x xs e => by rw [upd_ne (ne_of e el nofun)]; exact e
    by_cases e : NestedKey.tup (nkDs key) = .tup (nkDs k)
    · rw [if_pos e] at h
      obtain rfl := Option.some.inj h
      have e' : nkDs key = nkDs k := by injection e
      refine ⟨la, mem.map (·.1), rfl, List.mem_cons_self, el, by rw [List.length_map, List.map_cons, List.sum_cons]; show mem.length ≤ mem.length + _; omega, ?_⟩
      unfold putG
      rw [if_pos e']
      refine .cons (hk.t st ko.noL) ko ?_ (GrpAt.upd el nofun rr nd.1)
      rw [upd_same, List.map_append]
      rfl
    · rw [if_neg e] at h
      obtain ⟨la2, mem2, e1, e2, e3, e4, e5⟩ := GrpAt.put (r := r) rr nd.2 h
      have ne : la ≠ la2 := fun z => nd.1 (by rw [z, ← e1]; exact e2)
      refine ⟨la2, mem2, e1, List.mem_cons_of_mem _ e2, e3, by rw [List.map_cons, List.sum_cons]; show mem2.length ≤ mem.length + _; omega, ?_⟩
      unfold putG
      rw [if_neg fun z => e (by rw [z])]
      refine .cons (hk.t (fun x xs q => by rw [upd_ne (ne_of q e3 nofun)]; exact q) ko.noL) ko ?_ e5
      rw [upd_ne ne]
      exact el
theorem GrpAt.lists {H : Hp} : ∀ {L : List NkE} {G : Grp (V × RowD)}, GrpAt H L G → ∀ v ∈ L.map (·.2.2), ∃ la xs, v = .ref la ∧ H la = some (.lst xs)
  | _, _, .nil => nofun
  | _, _, .cons (la := la) hk ko el r => fun v hv => by
    rw [List.map_cons] at hv
    rcases List.mem_cons.mp hv with rfl | hv
    · exact ⟨la, _, rfl, el⟩
    · exact r.lists v hv
theorem grp_sum (ky : V × RowD → List PyData) (rs : RowsL) : ((grpR ky rs).map fun x => x.2.length).sum = rs.length := by
  induction rs using snoc_ind with
  | h0 => rfl
  | h1 rs r ih =>
    rw [grpR_snoc, List.length_append, List.length_singleton, ← ih]
    generalize grpR ky rs = G
    induction G with
    | nil => rfl
    | cons g G ih2 =>
      unfold putG
      split
      · rw [List.map_cons, List.map_cons, List.sum_cons, List.sum_cons]
        show (g.2 ++ [r]).length + _ = _
        rw [List.length_append]
        rw [List.length_singleton]
        omega
      · rw [List.map_cons, List.map_cons, List.sum_cons, List.sum_cons, ih2]
        show _ = g.2.length + _ + 1
        omega
theorem grp_len (ky : V × RowD → List PyData) (rs : RowsL) : (grpR ky rs).length ≤ rs.length := by
  induction rs using snoc_ind with
  | h0 => exact Nat.le_refl _
  | h1 rs r ih =>
    rw [grpR_snoc, List.length_append]
    have : ∀ G : Grp (V × RowD), (putG (ky r) r G).length ≤ G.length + 1 := fun G => by
      induction G with
      | nil => exact Nat.le_refl _
      | cons g G ih =>
        unfold putG
        split
        · rw [List.length_cons, List.length_cons]; omega
        · rw [List.length_cons, List.length_cons]; omega
    exact Nat.le_trans (this _) (Nat.succ_le_succ ih)
def spGr (P : Program) (w : World) : Sp := fun vs H Q _ => ∃ (a q : Addr) (rs : RowsL) (ks : List Str) (js : List Nat), vs = [.ref a, .ref q] ∧ H a = some (.lst (rs.map (·.1))) ∧ RowsAt H rs ∧ (∀ r ∈ rs, Vks ks r.2.vals ∧ LinOk r.2.lin) ∧ rs.length ≤ 1300 ∧ H q = some (.lst (jsV js)) ∧ (∀ j ∈ js, j < ks.length) ∧ js.length ≤ 8 ∧
  ∀ (D : Addr) (L : List NkE) (H' : Hp), Same H H' → H D = none → (∀ v ∈ L.map (·.2.2), ∃ la, v = .ref la ∧ H la = none) → DnAt P w H' D L → GrpAt H' L (grpR (atJ js) rs) → Q (.ref D) H'
section
variable {P : Program} {w : World} {K : PySem.W.Frag} {mg : Str → Option Value} {base : Heap} {f : Addr} {fd : FuncData}
abbrev sPo : Stmt := top 104
abbrev nPo : List Str := ["columns", "names", "called", "name"]
abbrev pPo : List Str := ["columns", "names"]
theorem scPo : FnScope nPo pPo (defScope sPo) := ⟨rfl, rfl, rfl, by decide +kernel, rfl, by decide +kernel, by decide +kernel⟩
section
variable {fA_ : Addr} {fdA_ : FuncData}
theorem ok_Po (F : Fun K "places_of" "places_of" sPo f fd) (T : Bt mg)
    (GA_ : FnOk P w K mg base CX0 1 fA_ fdA_ ["columns"] (spNo)) (mA_ : mg "names_of" = some (.ref fA_)) (kA_ : PySem.W.keepIn K (.ref fA_) = true) (bA_ : Binds K fdA_ ["columns"] []) : FnOk P w K mg base CX0 2 f fd pPo (spPo) := by
  refine F.ok scPo (fun vs H Q E h => ?_) (fun cdv A outer s H vs Q E hr h => ?_)
  · obtain ⟨L, p, ps, ns, rfl, _⟩ := h
    rfl
  · obtain ⟨L, p, ps, ns, rfl, hL, cp, hp, hn, l8, k⟩ := h
    have hrA_ : Room (1) _ := hr.mono (by first | decide | omega)
    refine ⟨_, (pss_cons (ps_set (i := 2) scPo.nd rfl (Or.inr rfl) (pe_call GA_ hrA_ (by rfl) mA_ kA_ bA_ .nil pass0 (pa_cons (pv 0) pa_nil)))
      (pss_one (ps_ret (pe_lc (own := [("name", 3)]) (g := (gName 3)) (tt := tYes) (te := tePo K) (by rfl) scPo.nd (pi_tup (pv 1)) (blkOk_by (own := [("name", 3)]) (N := nPo) (sc := defScope sPo) (by decide +kernel)) (fun _ _ _ _ _ => (pg_name (i := 3) scPo.nd rfl (.inl rfl))) (fun _ _ _ _ _ => pts_nil) (fun _ _ _ _ _ => (pe_bm PySem.F.plainAttrs_list PySem.F.slot_list_index PySem.F.type_list_index mt_index (pv 2) (pa_cons (pv 3) pa_nil))))))), ?_⟩
    refine ⟨_, rfl, L, ps, rfl, hL, cp.l8, fun W H1 s1 _ eW => ?_⟩
    have fl : (vS (nms ps)).all flatV = true := List.all_eq_true.mpr fun v hv => by
      obtain ⟨x, _, rfl⟩ := List.mem_map.mp hv
      rfl
    refine ⟨_, rfl, p, rfl, ⟨_, SqT.of (s1 _ _ hp)⟩, fun D hD => lc_tup (K := K) (a := p) (xs := vS ns) (fun i H' => H' D = some (.lst (jsV ((ns.take i).map fun n => (nms ps).idxOf n))) ∧ Same H1 H') ⟨upd_same, Same.upd hD⟩ (fun i H' _ pr => SqT.of (pr.2 _ _ (s1 _ _ hp))) ?_ ?_⟩
    · rintro i y H2 hy ⟨eD, s2⟩
      rw [List.getElem?_map] at hy
      obtain ⟨g, eg, rfl⟩ := Option.map_eq_some_iff.mp hy
      have gm := hn g (List.mem_of_getElem? eg)
      have eW2 := s2 _ _ eW
      refine ⟨rfl, ?_⟩
      dsimp only [tYes]
      refine iteT ?_
      change tePo K _ _ _
      refine ⟨_, rfl, .inl ⟨rfl, _, SqL.of eW2⟩, _, rfl, W, vS (nms ps), .str g, (nms ps).idxOf g, .str g, rfl, rfl, SqL.of eW2, rfl, fl, by rw [List.getElem?_map, idx_at gm]; rfl, by simp [eqV], fun m z' lt ez => ?_, _, eD, ?_, ?_, fun b o e => by rw [upd_ne (ne_of_none e hD)]; exact s2 b o e⟩
      · rw [List.getElem?_map] at ez
        obtain ⟨z, ez2, rfl⟩ := Option.map_eq_some_iff.mp ez
        have := idx_no lt ez2
        simp [eqV, this]
      · unfold jsV
        rw [List.length_map, List.length_map, List.length_take]
        exact lt_size (by omega)
      · rw [upd_same, List.take_add_one, eg]
        unfold jsV
        rw [List.map_append, List.map_append]
        rfl
    rintro H2 ⟨eD, s2⟩
    rw [List.length_map, List.take_length] at eD
    exact k D H2 (s1.trans s2) eD
end
abbrev sPc : Stmt := top 105
abbrev nPc : List Str := ["values", "places", "at"]
abbrev pPc : List Str := ["values", "places"]
theorem scPc : FnScope nPc pPc (defScope sPc) := ⟨rfl, rfl, rfl, by decide +kernel, rfl, by decide +kernel, by decide +kernel⟩
section
theorem ok_Pc (F : Fun K "picked" "picked" sPc f fd) (T : Bt mg) : FnOk P w K mg base CX0 1 f fd pPc (spPc) := by
  refine F.ok scPc (fun vs H Q E h => ?_) (fun cdv A outer s H vs Q E hr h => ?_)
  · obtain ⟨p, q, us, ds, js, rfl, _⟩ := h
    rfl
  · obtain ⟨p, q, us, ds, js, rfl, hp, hd, hn, hq, hj, l8, k⟩ := h
    refine ⟨_, (pss_one (ps_ret (pe_callTy call_tuple_of (by rfl) T.tuple boot_tuple (pa_cons (pe_lc (own := [("at", 2)]) (g := (gName 2)) (tt := tYes) (te := tePc K) (by rfl) scPc.nd (pi_list (pv 1)) (blkOk_by (own := [("at", 2)]) (N := nPc) (sc := defScope sPc) (by decide +kernel)) (fun _ _ _ _ _ => (pg_name (i := 2) scPc.nd rfl (.inl rfl))) (fun _ _ _ _ _ => pts_nil) (fun _ _ _ _ _ => (pe_ix ix_tup (pv 0) (pv 2) (fun _ _ => rfl)))) pa_nil)))), ?_⟩
    have lu := hd.len
    refine ⟨_, rfl, q, rfl, ⟨_, SqL.of hq⟩, fun D hD => lc_list (K := K) (a := q) (xs := jsV js) (fun i H' => (∃ ys, H' D = some (.lst ys) ∧ DhAll H' ys ((js.take i).map fun j => ds.getD j .none)) ∧ Same H H') ⟨⟨[], upd_same, .nil⟩, Same.upd hD⟩ (fun i H' _ pr => SqL.of (pr.2 _ _ hq)) ?_ ?_⟩
    · rintro i y H2 hy ⟨⟨ys, eD, dys⟩, s2⟩
      unfold jsV at hy
      rw [List.getElem?_map] at hy
      obtain ⟨j, ej, rfl⟩ := Option.map_eq_some_iff.mp hy
      have lj := hj j (List.mem_of_getElem? ej)
      obtain ⟨d, ed⟩ : ∃ d, ds[j]? = some d := ⟨_, List.getElem?_eq_getElem lj⟩
      obtain ⟨u, eu⟩ : ∃ u, us[j]? = some u := ⟨_, List.getElem?_eq_getElem (by omega)⟩
      obtain ⟨d', ed', du⟩ := hd.get j u eu
      rw [ed] at ed'
      obtain rfl := Option.some.inj ed'
      have ly := dys.len
      rw [List.length_map, List.length_take] at ly
      refine ⟨rfl, ?_⟩
      dsimp only [tYes]
      refine iteT ?_
      change tePc K _ _ _
      refine ⟨_, rfl, _, rfl, p, us, (j : Int), u, rfl, rfl, SqT.of (s2 _ _ hp), at_of (j := j) (by omega) eu, ys, eD, lt_size (by omega), ⟨ys ++ [u], upd_same, ?_⟩, fun b o e => by rw [upd_ne (ne_of_none e hD)]; exact s2 b o e⟩
      have nn : ∀ l : List Nat, (∀ j ∈ l, j < ds.length) → noLs (l.map fun j => ds.getD j .none) = true := fun l hl => noLs_all.mpr fun x hx => by
        obtain ⟨j, h1, rfl⟩ := List.mem_map.mp hx
        refine hn _ ?_
        rw [List.getD_eq_getElem?_getD, List.getElem?_eq_getElem (hl j h1)]
        exact List.getElem_mem _
      rw [List.take_add_one, ej, List.map_append]
      refine DhAll.append (DhAll.t (SameT.lst eD) dys (nn _ fun j h => hj j (List.mem_of_mem_take h))) ?_
      show DhAll _ [u] [ds.getD j .none]
      rw [List.getD_eq_getElem?_getD, ed]
      exact .cons ((du.same s2).t (SameT.lst eD) (hn d (List.mem_of_getElem? ed))) .nil
    rintro H2 ⟨⟨ys, eD, dys⟩, s2⟩
    rw [show (jsV js).length = js.length from List.length_map _, List.take_length] at dys
    refine ⟨D, ys, rfl, .inl ⟨SqL.of eD, fun r hr' => ?_⟩⟩
    have zr := Same.upd (o := .tup ys) hr'
    exact k r _ (s2.trans zr) (.tup upd_same (dys.same zr))
end
abbrev sGr : Stmt := top 114
abbrev nGr : List Str := ["rows", "places", "groups", "row"]
abbrev pGr : List Str := ["rows", "places"]
theorem scGr : FnScope nGr pGr (defScope sGr) := ⟨rfl, rfl, rfl, by decide +kernel, rfl, by decide +kernel, by decide +kernel⟩
section
variable {fA_ : Addr} {fdA_ : FuncData}
theorem ok_Gr (F : Fun K "grouped" "grouped" sGr f fd) (T : Bt mg)
    (GA_ : FnOk P w K mg base CX0 1 fA_ fdA_ ["values", "places"] (spPc)) (mA_ : mg "picked" = some (.ref fA_)) (kA_ : PySem.W.keepIn K (.ref fA_) = true) (bA_ : Binds K fdA_ ["values", "places"] []) : FnOk P w K mg base CX0 2 f fd pGr ((spGr P w)) := by
  refine F.ok scGr (fun vs H Q E h => ?_) (fun cdv A outer s H vs Q E hr h => ?_)
  · obtain ⟨a, q, rs, ks, js, rfl, _⟩ := h
    rfl
  · obtain ⟨a, q, rs, ks, js, rfl, ha, ra, rw_, ln, hq, hj, l8, k⟩ := h
    have hrA_ : Room (1) _ := hr.mono (by first | decide | omega)
    have hu16 := Nat.lt_of_le_of_lt (Nat.add_le_add_left (show 16 ≤ 64 by decide) _) hr.units
    refine ⟨_, (pss_cons (ps_set (i := 2) scGr.nd rfl (Or.inl rfl) pe_dnewK)
      (pss_cons (ps_for PassesOwn.never rfl (pi_list (pv 0)) (pg_name (i := 3) scGr.nd rfl (.inl rfl)) (pss_one (ps_expr (pe_bm PySem.F.plainAttrs_list PySem.F.slot_list_append PySem.F.type_list_append mt_append (pe_bmN PySem.F.slot_dict_setdefault PySem.F.type_dict_setdefault (mt_setdN hu16) (pv 2) (pa_cons (pe_call GA_ hrA_ (by rfl) mA_ kA_ bA_ .nil pass0 (pa_cons (pe_ix ix_tup (pv 3) pe_int (fun _ _ => rfl)) (pa_cons (pv 1) pa_nil))) (pa_cons (pe_lst pa_nil) pa_nil))) (pa_cons (pv 3) pa_nil)))))
      (pss_one (ps_ret (pv 2))))), ?_⟩
    intro D hD
    have zD := Same.upd (o := .dK []) hD
    refine ⟨_, rfl, a, rfl, ⟨_, SqL.of (zD _ _ ha)⟩, for_list (K := K) (a := a) (xs := rs.map (·.1)) (fun i σ H' => (∃ x3 : Option V, σ = [some (.ref a), some (.ref q), some (.ref D), x3]) ∧ (∃ L : List NkE, DnAt P w H' D L ∧ GrpAt H' L (grpR (atJ js) (rs.take i)) ∧ (L.map (·.2.2)).Nodup ∧ ∀ v ∈ L.map (·.2.2), ∃ la, v = .ref la ∧ H la = none) ∧ Same H H') ⟨⟨_, rfl⟩, ⟨[], .inr ⟨rfl, upd_same⟩, .nil, List.nodup_nil, nofun⟩, zD⟩ (fun i σ H' _ pr => SqL.of (pr.2.2 _ _ ha)) ?_ ?_⟩
    · rintro i y σ H2 hy ⟨⟨x3, rfl⟩, ⟨L, dn, gr, nd, fr⟩, s2⟩
      rw [List.getElem?_map] at hy
      obtain ⟨r, er, rfl⟩ := Option.map_eq_some_iff.mp hy
      have rm := List.mem_of_getElem? er
      have li := (List.getElem?_eq_some_iff.mp er).1
      obtain ⟨vk, lo⟩ := rw_ r rm
      obtain ⟨rr, va, la0, ev, e2, dvals, _⟩ := row_at ((ra r rm).same s2)
      have lv := vk.len
      have et : rs.take (i + 1) = rs.take i ++ [r] := by rw [List.take_add_one, er]; rfl
      have ll : L.length ≤ 1300 := by
        have h1 := gr.len
        have h2 := grp_len (atJ js) (rs.take i)
        rw [List.length_take] at h2
        omega
      cases dvals with
      | @tup _ us _ eu hu =>
      refine ⟨_, rfl, ⟨D, L, rfl, dn⟩, _, rfl, rr, _, _, .ref va, ev, rfl, SqT.of e2, at_of (j := 0) rfl rfl, _, rfl, va, q, us, r.2.vals, js, rfl, eu, hu, vk.noL, s2 _ _ hq, fun j hj' => by rw [← lv]; exact hj j hj', l8, fun kb H3 s3 dk => ?_⟩
      refine ⟨Nat.zero_le _, fun la hla => ?_⟩
      have zl := Same.upd (o := .lst []) hla
      have el : L2.upd H3 la (.lst []) la = some (.lst []) := upd_same
      have fl : H la = none := same_free (s2.trans s3) hla
      have nl : V.ref la ∉ L.map (·.2.2) := fun h => by
        obtain ⟨lb, xs, e, e'⟩ := gr.lists _ h
        cases e
        rw [s3 _ _ e'] at hla
        cases hla
      have dk4 := dk.same zl
      have s24 := s3.trans zl
      generalize L2.upd H3 la (.lst []) = H4 at zl el dk4 s24 ⊢
      have ko : KeyOk (atJ js r) := atJ_ok vk hj
      have gr4 := gr.same s24
      have dn4 := dn.same s24
      refine ⟨D, kb, L, .tup (nkDs (atJ js r)), .ref la, rfl, rfl, dn4, ⟨.tuple (atJ js r), dk4, ko.all, rfl, ko.dep⟩, gr4.keyN, lt_size ll, fun v hv => ?_, fun hn => ?_⟩
      · obtain ⟨lb, mem, rfl, hm, e3, l3, g'⟩ := gr4.put (r := r) nd hv
        have l3 : mem.length ≤ 1300 := by
          rw [grp_sum, List.length_take] at l3
          omega
        refine ⟨.inl ⟨rfl, _, SqL.of e3⟩, _, rfl, lb, _, _, rfl, rfl, e3, lt_size l3, ⟨_, rfl⟩, ⟨L, ?_, by rw [et, grpR_snoc]; exact g', nd, fr⟩, fun b o e => ?_⟩
        · have nD := dn4.ne e3 ⟨nofun, nofun⟩
          rcases dn4 with h | ⟨h0, h⟩
          · exact .inl (by rw [upd_ne nD]; exact h)
          · exact .inr ⟨h0, by rw [upd_ne nD]; exact h⟩
        · obtain ⟨lc, e5, e6⟩ := fr _ hm
          cases e5
          rw [upd_ne (ne_of_none e e6)]
          exact s24 _ _ (s2 _ _ e)
      · have nD := dn4.ne el ⟨nofun, nofun⟩
        obtain ⟨u, hu4, nt, nl4, _⟩ := dn4.ex
        have st : SameT H4 (L2.upd H4 D (DnO P w D (L ++ [(.tup (nkDs (atJ js r)), kb, .ref la)]))) := fun x xs e => by rw [upd_ne (ne_of e hu4 fun z => nt _ z.symm)]; exact e
        have nDL : V.ref D ∉ L.map (·.2.2) := fun h => by
          obtain ⟨lb, xs, e, e'⟩ := gr4.lists _ h
          cases e
          rw [e'] at hu4
          exact nl4 _ (Option.some.inj hu4).symm
        have g5 := GrpAt.upd (o := DnO P w D (L ++ [(.tup (nkDs (atJ js r)), kb, .ref la)])) hu4 nt gr4 nDL
        have el5 : L2.upd H4 D (DnO P w D (L ++ [(.tup (nkDs (atJ js r)), kb, .ref la)])) la = some (.lst []) := by rw [upd_ne (Ne.symm nD)]; exact el
        have eD5 : L2.upd H4 D (DnO P w D (L ++ [(.tup (nkDs (atJ js r)), kb, .ref la)])) D = some (DnO P w D (L ++ [(.tup (nkDs (atJ js r)), kb, .ref la)])) := upd_same
        have dk5 := dk4.t st ko.noL
        have k5 : ∀ b o, b ≠ D → H4 b = some o → L2.upd H4 D (DnO P w D (L ++ [(.tup (nkDs (atJ js r)), kb, .ref la)])) b = some o := fun b o n e => by rw [upd_ne n]; exact e
        have g6 := GrpAt.upd (o := .lst ([] ++ [r.1])) el5 nofun g5 nl
        have dk6 := dk5.t (show SameT _ (L2.upd _ la (.lst ([] ++ [r.1]))) from SameT.lst el5) ko.noL
        refine ⟨.inl ⟨rfl, _, SqL.of el5⟩, _, rfl, la, _, _, rfl, rfl, el5, by decide, ⟨_, rfl⟩, ⟨L ++ [(.tup (nkDs (atJ js r)), kb, .ref la)], .inl (by rw [upd_ne nD]; exact eD5), ?_, ?_, fun v hv => ?_⟩, fun b o e => ?_⟩
        · rw [et, grpR_snoc, putG_out (gr4.out hn)]
          exact g6.snoc dk6 ko upd_same
        · rw [List.map_append, List.nodup_append]
          exact ⟨nd, List.nodup_cons.mpr ⟨nofun, List.nodup_nil⟩, fun x hx y hy e => nl (by rw [← show y = V.ref la from List.mem_singleton.mp hy, ← e]; exact hx)⟩
        · rw [List.map_append] at hv
          rcases List.mem_append.mp hv with hv | hv
          · exact fr v hv
          · exact ⟨la, List.mem_singleton.mp hv, fl⟩
        · rw [upd_ne (ne_of_none e fl)]
          exact k5 _ _ (ne_of_none e hD) (s24 _ _ (s2 _ _ e))
    · rintro σ H2 ⟨⟨x3, rfl⟩, ⟨L, dn, gr, nd, fr⟩, s2⟩
      rw [List.length_map, List.take_length] at gr
      exact ⟨_, rfl, k D L H2 s2 hD fr dn gr⟩
end
end
end K19
set_option Elab.async false
set_option linter.all false
set_option maxRecDepth 100000
set_option maxHeartbeats 4000000
namespace K19
open PySem PySem.Spec PyProof.Rows L2 Lc
theorem at_zero {x : V} {ys : List V} : atI (x :: ys) (0 : Int) = some x := (show atI (x :: ys) ((0 : Nat) : Int) = some x from atI_nat rfl)
abbrev sWithin : Stmt := top 26
abbrev sValue : Stmt := top 27
def isB : V → Bool
  | .bl _ => true
  | _ => false
def valB (kind : Str) (v : V) (b : Bool) : Bool := decide (v = .non) || (if kind = "number" then b else if kind = "word" then nameB v else isB v)
def spWithin : Sp := fun vs H Q _ => ∃ (a : Addr) (n d : Int), vs = [.ref a] ∧ H a = some (.tup [.int n, .int d]) ∧ Q (.bl (limB (.int n) (.int d))) H
def spValue : Sp := fun vs H Q _ => ∃ (v : V) (kind : Str) (b : Bool), vs = [v, .str kind] ∧ Thing H v b ∧ ∀ H', Same H H' → Q (.bl (valB kind v b)) H'
section
variable {P : Program} {w : World} {K : PySem.W.Frag} {mg : Str → Option Value} {base : Heap} {f : Addr} {fd : FuncData} {u1 : Tok} {fR fW fN fD fL fA fQ fX fY : Addr} {fdR fdW fdN fdD fdL fdA fdQ fdX fdY : FuncData}
theorem scWithin : FnScope ["number"] ["number"] (defScope sWithin) := ⟨rfl, rfl, rfl, by decide +kernel, rfl, by decide +kernel, by decide +kernel⟩
theorem ok_within (F : Fun K "within_limit" "within_limit" sWithin f fd) (T : Bt mg) (m1 : mg "LIMIT" = some (.int lim u1)) : FnOk P w K mg base CX0 1 f fd ["number"] spWithin := by
  refine F.ok scWithin (fun vs H Q E h => ?_) (fun cdv A outer s H vs Q E hr h => ?_)
  · obtain ⟨a, n, d, rfl, _⟩ := h
    rfl
  · obtain ⟨a, n, d, rfl, ha, k⟩ := h
    refine ⟨_, pss_one (ps_ret (pe_and (pe_cmpR op_le (pe_callB call_abs (by rfl) T.abs boot_abs (pa_cons (pe_ix ix_tup (pv 0) pe_int (fun _ _ => rfl)) pa_nil)) (pe_glob (v := .int lim) (by rfl) m1 ⟨_, rfl⟩) (nomark _))
      (pe_one (pe_cmpR op_le (pe_ix ix_tup (pv 0) pe_int (fun _ _ => rfl)) (pe_glob (v := .int lim) (by rfl) m1 ⟨_, rfl⟩) (nomark _))))), ?_⟩
    refine ⟨_, rfl, a, _, _, _, rfl, rfl, SqT.of ha, rfl, n, rfl, _, _, rfl, rfl, _, rfl, ?_⟩
    have e : limB (.int n) (.int d) = (decide ((if n < 0 then -n else n) ≤ lim) && decide (d ≤ lim)) := rfl
    rw [e] at k
    by_cases z : (if n < 0 then -n else n) ≤ lim
    · rw [decide_eq_true z] at k ⊢
      exact iteT ⟨_, rfl, a, _, _, _, rfl, rfl, SqT.of ha, rfl, _, _, rfl, rfl, k⟩
    · rw [decide_eq_false z] at k ⊢
      exact iteF k
theorem scValue : FnScope ["value", "kind"] ["value", "kind"] (defScope sValue) := ⟨rfl, rfl, rfl, by decide +kernel, rfl, by decide +kernel, by decide +kernel⟩
theorem dec_str (x y : Str) : decide (V.str x = V.str y) = decide (x = y) := by
  rw [Bool.eq_iff_iff, decide_eq_true_iff, decide_eq_true_iff]
  exact ⟨fun h => by injection h, fun h => by rw [h]⟩
theorem ok_value (F : Fun K "is_value" "is_value" sValue f fd) (GR : FnOk P w K mg base CX0 2 fR fdR ["value"] spIsR) (mR : mg "is_rational" = some (.ref fR)) (kR : PySem.W.keepIn K (.ref fR) = true) (bR : Binds K fdR ["value"] [])
    (GW : FnOk P w K mg base CX0 1 fW fdW ["number"] spWithin) (mW : mg "within_limit" = some (.ref fW)) (kW : PySem.W.keepIn K (.ref fW) = true) (bW : Binds K fdW ["number"] [])
    (GN : FnOk P w K mg base CX0 1 fN fdN ["value"] spName) (mN : mg "is_name" = some (.ref fN)) (kN : PySem.W.keepIn K (.ref fN) = true) (bN : Binds K fdN ["value"] []) : FnOk P w K mg base CX0 3 f fd ["value", "kind"] spValue := by
  refine F.ok scValue (fun vs H Q E h => ?_) (fun cdv A outer s H vs Q E hr h => ?_)
  · obtain ⟨v, kd, b, rfl, _⟩ := h
    rfl
  · obtain ⟨v, kd, b, rfl, th, k⟩ := h
    have hr1 : Room 1 _ := hr.mono (by decide)
    refine ⟨_, pss_cons (ps_if (pt_cmpR op_isN (pv 0) pe_non (nomark _)) (pss_one (ps_ret pe_bl)) pss_nil)
      (pss_cons (ps_if (pt_cmpR op_eq (pv 1) pe_str (nomark _)) (pss_one (ps_ret (pe_and (pe_call GR hr (by rfl) mR kR bR .nil pass0 (pa_cons (pv 0) pa_nil)) (pe_one (pe_call GW hr1 (by rfl) mW kW bW .nil pass0 (pa_cons (pv 0) pa_nil)))))) pss_nil)
      (pss_cons (ps_if (pt_cmpR op_eq (pv 1) pe_str (nomark _)) (pss_one (ps_ret (pe_call GN hr1 (by rfl) mN kN bN .nil pass0 (pa_cons (pv 0) pa_nil)))) pss_nil)
      (pss_one (ps_ret (pe_or (pe_cmpR op_isBA (pv 0) pe_bl (nomark _)) (pe_one (pe_cmpR op_isBA (pv 0) pe_bl (nomark _)))))))), ?_⟩
    refine ⟨_, rfl, rfl, _, rfl, ?_⟩
    have k0 := k H (Same.refl H)
    by_cases z : v = .non
    · rw [decide_eq_true z]
      have e : valB kd v b = true := by unfold valB; rw [decide_eq_true z]; rfl
      rw [e] at k0
      exact iteT k0
    · rw [decide_eq_false z]
      have e : valB kd v b = (if kd = "number" then b else if kd = "word" then nameB v else isB v) := by unfold valB; rw [decide_eq_false z]; rfl
      rw [e] at k0 k
      refine iteF ⟨_, rfl, rfl, _, rfl, ?_⟩
      rw [dec_str]
      by_cases n1 : kd = "number"
      · rw [decide_eq_true n1]
        rw [if_pos n1] at k0
        refine iteT ?_
        cases th with
        | other h n l => exact ⟨_, rfl, v, false, rfl, .other h n, _, rfl, iteF k0⟩
        | @len a xs ea n => exact ⟨_, rfl, _, false, rfl, .len ea n, _, rfl, iteF k0⟩
        | @pair a x y tx ty ea hx hy =>
          refine ⟨_, rfl, _, _, rfl, .pair ea hx hy, _, rfl, ?_⟩
          refine ite2 (fun r => ?_) (fun r => ?_)
          · obtain ⟨n, d, rfl, rfl, _, _⟩ := ratB_ints r
            have e2 : numB (.int n) (.int d) = limB (.int n) (.int d) := by unfold numB; rw [r]; rfl
            rw [e2] at k0
            exact ⟨_, rfl, a, n, d, rfl, ea, k0⟩
          · have e2 : numB x y = false := by unfold numB; rw [show ratB x y = false by simpa using r]; rfl
            rw [e2] at k0
            exact k0
      · rw [decide_eq_false n1]
        rw [if_neg n1] at k0 k
        refine iteF ⟨_, rfl, rfl, _, rfl, ?_⟩
        rw [dec_str]
        obtain ⟨t, ht, hl⟩ := th.ty
        by_cases n2 : kd = "word"
        · rw [decide_eq_true n2]
          rw [if_pos n2] at k
          exact iteT ⟨_, rfl, v, t, rfl, ht, hl, k⟩
        · rw [decide_eq_false n2]
          rw [if_neg n2] at k0
          refine iteF ⟨_, rfl, true, rfl, _, rfl, ?_⟩
          by_cases z1 : v = .bl true
          · rw [decide_eq_true z1]
            rw [z1] at k0
            exact iteT k0
          · rw [decide_eq_false z1]
            refine iteF ⟨_, rfl, false, rfl, ?_⟩
            have e3 : decide (v = .bl false) = isB v := by
              cases v with
              | bl b =>
                cases b with
                | true => exact absurd rfl z1
                | false => rfl
              | _ => rfl
            rw [e3]
            exact k0
end
abbrev sHw : Stmt := top 36
abbrev sLk : Stmt := top 37
abbrev sKv : Stmt := top 38
/-- which kinds a value fits: its own alone -/
theorem vk_fits {H : Hp} {k : Str} {v : V} {d : PyData} (h : Dh H v d) (g : Vk k d) (nn : d ≠ .none) : ∃ b, Thing H v b ∧ ∀ k', KindS k' → valB k' v b = decide (k' = k) := by
  have nw : ("word" : Str) ≠ "number" := by decide +kernel
  have fn : ("flag" : Str) ≠ "number" := by decide +kernel
  have fw : ("flag" : Str) ≠ "word" := by decide +kernel
  cases g with
  | non k => exact absurd rfl nn
  | flag b =>
    cases h
    refine ⟨false, .other (.bl b) (by decide) nofun, fun k' hk => ?_⟩
    rcases hk with rfl | rfl | rfl
    · simp [valB, Ne.symm fn]
    · simp [valB, nw, nameB, Ne.symm fw]
    · simp [valB, fn, fw, isB]
  | @word x hx hn =>
    cases h
    refine ⟨false, .other (.str x) (by decide) fun y e => ?_, fun k' hk => ?_⟩
    · injection e with e
      rw [← e]
      exact Nat.le_trans (sh_len hx) (by decide)
    · rcases hk with rfl | rfl | rfl
      · simp [valB, Ne.symm nw]
      · simp [valB, nw, hn]
      · simp [valB, fn, fw, isB]
  | @num n d rt h1 h2 =>
    cases h with
    | tup e hs =>
      cases hs with
      | cons a r =>
        cases r with
        | cons b r =>
          cases r
          cases a
          cases b
          refine ⟨_, .pair e (.int n) (.int d), fun k' hk => ?_⟩
          have e1 : ratB (.int n) (.int d) = true := by
            show (decide (0 < d) && decide (gd n d = 1)) = true
            rw [decide_eq_true rt.pos, decide_eq_true rt.cop]
            rfl
          have e2 : limB (.int n) (.int d) = true := by
            show (decide ((if n < 0 then -n else n) ≤ lim) && decide (d ≤ lim)) = true
            rw [decide_eq_true (by unfold lim; split <;> omega), decide_eq_true (by unfold lim; omega)]
            rfl
          rcases hk with rfl | rfl | rfl
          · unfold valB numB
            rw [if_pos rfl, e1, e2]
            simp
          · simp [valB, nw, nameB]
          · simp [valB, fn, fw, isB]
def spHw : Sp := fun vs H Q _ => ∃ (a : Addr) (w : Str) (ys : List V), vs = [.ref a] ∧ H a = some (.tup (.str w :: ys)) ∧ Q (.bl true) H
def spKv : Sp := fun vs H Q _ => ∃ (v : V) (d : PyData) (k : Str), vs = [v] ∧ Dh H v d ∧ Vk k d ∧ KindS k ∧ d ≠ .none ∧ ∀ H', Same H H' → Q (.str k) H'
abbrev ttKv : TT := tTest (tCall spValue [] E0 (tCons (tVar 0) (tCons (tVar 2) tNil)))
section
variable {P : Program} {w : World} {K : PySem.W.Frag} {mg : Str → Option Value} {base : Heap} {f fV k3 : Addr} {fd fdV : FuncData}
theorem scHw : FnScope ["part"] ["part"] (defScope sHw) := ⟨rfl, rfl, rfl, by decide +kernel, rfl, by decide +kernel, by decide +kernel⟩
theorem ok_hw (F : Fun K "has_word" "has_word" sHw f fd) (T : Bt mg) : FnOk P w K mg base CX0 1 f fd ["part"] spHw := by
  refine F.ok scHw (fun vs H Q E h => ?_) (fun cdv A outer s H vs Q E hr h => ?_)
  · obtain ⟨a, w, ys, rfl, _⟩ := h
    rfl
  · obtain ⟨a, w, ys, rfl, ha, k⟩ := h
    refine ⟨_, pss_one (ps_ret (pe_and (pe_callB call_isi (by rfl) T.isi boot_isinstance (pa_cons (pv 0) (pa_cons (pe_bltn (v := .ty "tuple") (by rfl) T.tuple boot_tuple rfl) pa_nil)))
      (pe_and (pe_cmpR op_gt (pe_callB call_len_seq (by rfl) T.len PySem.boot_len (pa_cons (pv 0) pa_nil)) pe_int (nomark _))
      (pe_one (pe_callB call_isi (by rfl) T.isi boot_isinstance (pa_cons (pe_ix ix_tup (pv 0) pe_int (fun _ _ => rfl)) (pa_cons (pe_bltn (v := .ty "str") (by rfl) T.str boot_str rfl) pa_nil))))))), ?_⟩
    have ty : TyN H (.ref a) "tuple" := .tup ha
    have ts : TyN H (.str w) "str" := .str w
    refine ⟨_, rfl, .ref a, .ty "tuple", _, _, _, rfl, .ty "tuple", ty.x, kit_tuple ty.mem, _, rfl, iteT ?_⟩
    refine ⟨_, rfl, a, _, rfl, .inr (SqT.of ha), _, _, rfl, rfl, _, rfl, ?_⟩
    rw [decide_eq_true (by rw [List.length_cons]; omega)]
    refine iteT ⟨_, rfl, a, _, _, .str w, rfl, rfl, SqT.of ha, at_zero, .str w, .ty "str", _, _, _, rfl, .ty "str", ts.x, kit_str ts.mem, k⟩
abbrev nKv : List Str := ["value", "fitting", "kind"]
theorem scKv : FnScope nKv ["value"] (defScope sKv) := ⟨rfl, rfl, rfl, by decide +kernel, rfl, by decide +kernel, by decide +kernel⟩
theorem ok_kv (F : Fun K "kind_of_value" "kind_of_value" sKv f fd) (T : Bt mg) (GV : FnOk P w K mg base CX0 3 fV fdV ["value", "kind"] spValue) (mV : mg "is_value" = some (.ref fV)) (kV : PySem.W.keepIn K (.ref fV) = true) (bV : Binds K fdV ["value", "kind"] [])
    (mK : mg "KINDS" = some (.ref k3)) (hK : ∀ H, SqT K H k3 [.str "number", .str "word", .str "flag"]) : FnOk P w K mg base CX0 4 f fd ["value"] spKv := by
  refine F.ok scKv (fun vs H Q E h => ?_) (fun cdv A outer s H vs Q E hr h => ?_)
  · obtain ⟨v, d, k, rfl, _⟩ := h
    rfl
  · obtain ⟨v, d, kd, rfl, hd, vk, hk, nn, k⟩ := h
    refine ⟨_, pss_cons (ps_if (pt_cmpR op_isN (pv 0) pe_non (nomark _)) (pss_one (ps_ret pe_non)) pss_nil)
      (pss_cons (ps_setLc (i := 1) (own := [("kind", 2)]) (g := gName 2) (tt := ttKv) (te := tVar 2) (by rfl) scKv.nd rfl rfl (sw_true rfl rfl rfl (by decide +kernel)) (pi_tup (pe_glob (v := .ref k3) (by rfl) mK rfl)) (blkOk_by (own := [("kind", 2)]) (N := nKv) (sc := defScope sKv) (by decide +kernel))
          (fun _ _ _ _ _ => pg_name (i := 2) scKv.nd rfl (.inl rfl)) (fun _ _ _ _ _ => pts_one (pt_val (pe_call GV hr (by rfl) mV kV bV .nil pass0 (pa_cons (pv 0) (pa_cons (pv 2) pa_nil))))) (fun _ _ _ _ _ => pv 2))
      (pss_one (ps_ret (pe_ifExp (pt_cmpR op_gt (pe_callB call_len_seq (by rfl) T.len PySem.boot_len (pa_cons (pv 1) pa_nil)) pe_int (nomark _)) (pe_ix ix_list (pv 1) pe_int (fun _ _ => rfl)) pe_non)))), ?_⟩
    have vn : decide (v = .non) = false := decide_eq_false fun e => by subst e; cases hd; exact nn rfl
    refine ⟨_, rfl, rfl, _, rfl, ?_⟩
    rw [vn]
    refine iteF ?_
    obtain ⟨b, th, fit⟩ := vk_fits hd vk nn
    let ks : List Str := ["number", "word", "flag"]
    have kS : ∀ x ∈ ks, KindS x := fun x hx => by
      simp only [ks, List.mem_cons, List.not_mem_nil, or_false] at hx
      exact hx
    have kin : kd ∈ ks := by
      simp only [ks, List.mem_cons, List.not_mem_nil, or_false]
      exact hk
    refine ⟨k3, rfl, ⟨_, hK H⟩, fun D hD => lc_tup (K := K) (a := k3) (xs := ks.map V.str) (fun i H' => H' D = some (.lst (((ks.take i).filter (fun x => decide (x = kd))).map V.str)) ∧ Same H H') ⟨upd_same, Same.upd hD⟩ (fun i H' _ p => hK H') ?_ ?_⟩
    · rintro i x H1 hx ⟨hD1, s1⟩
      rw [List.getElem?_map] at hx
      cases q : ks[i]? with
      | none => rw [q] at hx; cases hx
      | some kk =>
        rw [q] at hx
        cases hx
        have km := kS kk (List.mem_of_getElem? q)
        refine ⟨rfl, ?_⟩
        change ttKv _ _ _
        refine ⟨_, rfl, _, rfl, v, kk, b, rfl, th.same s1, fun H2 s2 => ⟨_, rfl, ?_⟩⟩
        rw [fit kk km]
        have ln : ((ks.take i).filter (fun x => decide (x = kd))).length ≤ 3 := Nat.le_trans (List.length_filter_le _ _) (by rw [List.length_take]; exact Nat.min_le_right _ _)
        refine ite2 (fun z => ?_) (fun z => ?_)
        · refine ⟨_, rfl, _, s2 _ _ hD1, ?_, ?_, fun b o e => by rw [upd_ne (ne_of_none e hD)]; exact s2 b o (s1 b o e)⟩
          · rw [List.length_map]
            exact Nat.lt_of_le_of_lt ln (by decide)
          · rw [upd_same, List.take_add_one, q]
            simp only [Option.toList, List.filter_append, List.map_append]
            rw [List.filter_cons, if_pos z]
            rfl
        · refine ⟨?_, s1.trans s2⟩
          rw [s2 _ _ hD1, List.take_add_one, q]
          simp only [Option.toList, List.filter_append]
          rw [List.filter_cons, if_neg z, List.filter_nil, List.append_nil]
    · rintro H1 ⟨hD1, s1⟩
      rw [List.length_map, List.take_length] at hD1
      have e1 : ks.filter (fun x => decide (x = kd)) = [kd] := by
        simp only [ks, List.mem_cons, List.not_mem_nil, or_false] at kin
        rcases kin with rfl | rfl | rfl <;> decide +kernel
      rw [e1] at hD1
      refine ⟨_, rfl, D, _, rfl, .inl (SqL.of hD1), _, _, rfl, rfl, _, rfl, iteT ⟨_, rfl, D, _, _, .str kd, rfl, rfl, SqL.of hD1, at_zero, k H1 s1⟩⟩
end
/-- what the dict of kinds holds -/
def KdP (kvs : List (Key × V)) (ps : List (Str × Str)) : Prop := ∀ z k, (z, k) ∈ ps → valV kvs (Sum.inr z : Key) = some (.str k)
def LeafD (ps : List (Str × Str)) (w : Str) (dx : PyData) (k : Str) : Prop := (w = "column" ∧ ∃ z, dx = .str z ∧ (z, k) ∈ ps) ∨ (w = "value" ∧ Vk k dx ∧ dx ≠ .none ∧ KindS k)
def spLk : Sp := fun vs H Q _ => ∃ (g a : Addr) (kvs : List (Key × V)) (ps : List (Str × Str)) (w : Str) (x : V) (dx : PyData) (k : Str), vs = [.ref g, .ref a] ∧ H g = some (.dK kvs) ∧ KdP kvs ps ∧ H a = some (.tup [.str w, x]) ∧ Dh H x dx ∧ LeafD ps w dx k ∧ ∀ H', Same H H' → Q (.str k) H'
section
variable {P : Program} {w : World} {K : PySem.W.Frag} {mg : Str → Option Value} {base : Heap} {f fV aA : Addr} {fd fdV : FuncData}
abbrev nLk : List Str := ["kinds", "part", "word", "held"]
theorem scLk : FnScope nLk ["kinds", "part"] (defScope sLk) := ⟨rfl, rfl, rfl, by decide +kernel, rfl, by decide +kernel, by decide +kernel⟩
theorem ok_lk (F : Fun K "leaf_kind" "leaf_kind" sLk f fd) (T : Bt mg) (GV : FnOk P w K mg base CX0 4 fV fdV ["value"] spKv) (mV : mg "kind_of_value" = some (.ref fV)) (kV : PySem.W.keepIn K (.ref fV) = true) (bV : Binds K fdV ["value"] []) : FnOk P w K mg base CX0 5 f fd ["kinds", "part"] spLk := by
  refine F.ok scLk (fun vs H Q E h => ?_) (fun cdv A outer s H vs Q E hr h => ?_)
  · obtain ⟨g, a, kvs, ps, wd, x, dx, k, rfl, _⟩ := h
    rfl
  · obtain ⟨g, a, kvs, ps, wd, x, dx, kd, rfl, hg, kp, ha, hx, lf, k⟩ := h
    refine ⟨_, pss_cons (ps_if (pt_cmpR op_ne (pe_callB call_len_seq (by rfl) T.len PySem.boot_len (pa_cons (pv 1) pa_nil)) pe_int (nomark _)) (pss_one (ps_ret pe_non)) pss_nil)
      (pss_cons (ps_asg (pv 1) (pg_tup rfl (pgs_cons (pg_name (i := 2) scLk.nd rfl (.inl rfl)) (pgs_cons (pg_name (i := 3) scLk.nd rfl (.inl rfl)) pgs_nil))))
      (pss_cons (ps_if (pt_cmpR op_eq (pv 2) pe_str (nomark _)) (pss_one (ps_ret (pe_ifExp (pt_val (pe_callB call_isi (by rfl) T.isi boot_isinstance (pa_cons (pv 3) (pa_cons (pe_bltn (v := .ty "str") (by rfl) T.str boot_str rfl) pa_nil)))) (pe_dget1 (hu_of hr) (pv 0) (pv 3) ⟨rfl, rfl, rfl, rfl⟩) pe_non))) pss_nil)
      (pss_one (ps_ret (pe_call GV hr (by rfl) mV kV bV .nil pass0 (pa_cons (pv 3) pa_nil)))))), ?_⟩
    refine ⟨_, rfl, a, _, rfl, .inr (SqT.of ha), rfl, _, rfl, iteF ⟨_, rfl, a, _, rfl, SqT.of ha, rfl, _, _, rfl, _, _, rfl, rfl, ?_⟩⟩
    refine ⟨_, rfl, rfl, _, rfl, ?_⟩
    rw [decide_eq_decide.mpr (show V.str wd = V.str "column" ↔ wd = "column" from ⟨fun e => by injection e, fun e => by rw [e]⟩)]
    rcases lf with ⟨rfl, z, rfl, hz⟩ | ⟨rfl, vk, nn, hk⟩
    · rw [decide_eq_true rfl]
      cases hx
      have ts : TyN H (.str z) "str" := .str z
      refine iteT ⟨_, rfl, .str z, .ty "str", _, _, _, rfl, .ty "str", ts.x, kit_str ts.mem, _, rfl, iteT ⟨_, rfl, g, rfl, .inl ⟨_, .inl hg⟩, _, rfl, _, DGet.k (k := Sum.inr z) hg, ?_⟩⟩
      rw [kp z kd hz]
      exact k H (Same.refl H)
    · rw [decide_eq_false (show ("value" : Str) ≠ "column" by decide +kernel)]
      exact iteF ⟨_, rfl, x, dx, kd, rfl, hx, vk, hk, nn, k⟩
end
theorem take_new : ∀ {ps : List (Str × Str)} {i : Nat} {p : Str × Str}, (ps.map (·.1)).Nodup → ps[i]? = some p → ∀ q ∈ ps.take i, q.1 ≠ p.1
  | [], i, p, _, e => by simp at e
  | a :: r, 0, p, _, _ => by simp
  | a :: r, i + 1, p, nd, e => by
    have e' : r[i]? = some p := by simpa using e
    rw [List.map_cons, List.nodup_cons] at nd
    intro q hq
    rw [List.take_succ_cons] at hq
    rcases List.mem_cons.mp hq with rfl | hq
    · exact fun z => nd.1 (List.mem_map.mpr ⟨p, List.mem_of_getElem? e', z.symm⟩)
    · exact take_new nd.2 e' q hq
theorem kdp_put {kvs : List (Key × V)} {ps : List (Str × Str)} {i : Nat} {z k : Str} (nd : (ps.map (·.1)).Nodup) (e : ps[i]? = some (z, k)) (h : KdP kvs (ps.take i)) : KdP (putK kvs (Sum.inr z : Key) (.str k)) (ps.take (i + 1)) := by
  intro z' k' hm
  rw [List.take_add_one, e] at hm
  rw [valV_put]
  rcases List.mem_append.mp hm with hm | hm
  · have ne := take_new nd e _ hm
    rw [if_neg (fun q => ne (by injection q))]
    exact h z' k' hm
  · have q : (z', k') = (z, k) := by simpa using hm
    injection q with q1 q2
    subst q1 q2
    rw [if_pos rfl]
/-! ## the expression that is always true: its kind, its value -/
def spKaT : Sp := fun vs H Q _ => ∃ (g a q : Addr) (kvs : List (Key × V)) (ps : List (Str × Str)), vs = [.ref g, .ref a, .ref q] ∧ H g = some (.dK kvs) ∧ KdP kvs ps ∧ H a = some (.tup [.str "value", .bl true]) ∧ H q = some (.tup []) ∧ ∀ H', Same H H' → Q (.str "flag") H'
def spKoT : Sp := fun vs H Q _ => ∃ (L a : Addr) (xs : List V) (ps : List (Str × Str)), vs = [.ref L, .ref a] ∧ Rd H L (.tup xs) ∧ Cols H xs ps ∧ (ps.map (·.1)).Nodup ∧ ps.length ≤ 8 ∧ H a = some (.tup [.str "value", .bl true]) ∧ ∀ H', Same H H' → Q (.str "flag") H'
def spWoT : Sp := fun vs H Q _ => ∃ (g a : Addr), vs = [.ref g, .ref a] ∧ H a = some (.tup [.str "value", .bl true]) ∧ Q (.bl true) H
def spEvT : Sp := fun vs H Q _ => ∃ (L M a : Addr) (xs ys : List V) (ps : List (Str × Str)), vs = [.ref L, .ref M, .ref a] ∧ Rd H L (.tup xs) ∧ H M = some (.tup ys) ∧ Cols H xs ps ∧ ys.length = xs.length ∧ ps.length ≤ 8 ∧ H a = some (.tup [.str "value", .bl true]) ∧ ∀ H', Same H H' → Q (.bl true) H'
theorem vT_at {H : Hp} {v : V} (h : Dh H v vT) : ∃ a, v = .ref a ∧ H a = some (.tup [.str "value", .bl true]) := by
  cases h with
  | tup e hs => cases hs with
    | cons h1 r1 => cases r1 with
      | cons h2 r2 => cases r2; cases h1; cases h2; exact ⟨_, rfl, e⟩
section
variable {P : Program} {w : World} {K : PySem.W.Frag} {mg : Str → Option Value} {base : Heap} {f : Addr} {fd : FuncData}
abbrev sKa : Stmt := top 35
abbrev nKa : List Str := ["kinds", "part", "path", "word", "kind", "found", "at", "operand"]
abbrev pKa : List Str := ["kinds", "part", "path"]
theorem scKa : FnScope nKa pKa (defScope sKa) := ⟨rfl, rfl, rfl, by decide +kernel, rfl, by decide +kernel, by decide +kernel⟩
section
variable {fA_ fB_ : Addr} {fdA_ fdB_ : FuncData}
theorem ok_Ka (F : Fun K "kind_at" "kind_at" sKa f fd) (T : Bt mg) {u1 : Tok} (mP : mg "DEEPEST" = some (.int 8 u1))
    (GA_ : FnOk P w K mg base CX0 1 fA_ fdA_ ["part"] (spHw)) (mA_ : mg "has_word" = some (.ref fA_)) (kA_ : PySem.W.keepIn K (.ref fA_) = true) (bA_ : Binds K fdA_ ["part"] [])
    (GB_ : FnOk P w K mg base CX0 5 fB_ fdB_ ["kinds", "part"] (spLk)) (mB_ : mg "leaf_kind" = some (.ref fB_)) (kB_ : PySem.W.keepIn K (.ref fB_) = true) (bB_ : Binds K fdB_ ["kinds", "part"] []) : FnOk P w K mg base CX0 6 f fd pKa (spKaT) := by
  refine F.ok scKa (fun vs H Q E h => ?_) (fun cdv A outer s H vs Q E hr h => ?_)
  · obtain ⟨g, a, q, kvs, ps, rfl, _⟩ := h
    rfl
  · obtain ⟨g, a, q, kvs, ps, rfl, hg, kp, ha, hq, k⟩ := h
    have hrA_ : Room (1) _ := hr.mono (by first | decide | omega)
    have hrB_ : Room (5) _ := hr.mono (by first | decide | omega)
    refine ⟨_, (pss_cons (ps_if (PW.pt (pw_or (pt_cmpR op_ge (pe_callB call_len_seq (by rfl) T.len PySem.boot_len (pa_cons (pv 2) pa_nil)) (pe_glob (v := .int 8) (by rfl) mP ⟨_, rfl⟩) (nomark _)) (pw_or1 (pt_not (pt_val (pe_call GA_ hrA_ (by rfl) mA_ kA_ bA_ .nil pass0 (pa_cons (pv 1) pa_nil))))))) pss_dead pss_nil)
      (pss_cons (ps_set (i := 3) scKa.nd rfl (Or.inl rfl) (pe_ix ix_tup (pv 1) pe_int (fun _ _ => rfl)))
      (pss_cons (ps_if (PW.pt (pw_or (pt_cmpR op_eq (pv 3) pe_str (nomark _)) (pw_or1 (pt_cmpR op_eq (pv 3) pe_str (nomark _))))) (pss_cons (ps_set (i := 4) scKa.nd rfl (Or.inl rfl) (pe_call GB_ hrB_ (by rfl) mB_ kB_ bB_ .nil pass0 (pa_cons (pv 0) (pa_cons (pv 1) pa_nil))))
      (pss_cons (ps_if (pt_cmpR op_isN (pv 4) pe_non (nomark _)) pss_dead pss_nil)
      (pss_one (ps_ret (pv 4))))) pss_nil)
      pss_dead))), ?_⟩
    refine ⟨_, rfl, q, _, rfl, .inr (SqT.of hq), _, _, rfl, rfl, _, rfl, ?_⟩
    rw [decide_eq_false (show ¬ ((8 : Int) ≤ (([] : List V).length : Int)) by decide)]
    refine iteF ⟨_, rfl, a, "value", _, rfl, ha, _, rfl, iteF ?_⟩
    refine ⟨_, rfl, a, _, _, .str "value", rfl, rfl, SqT.of ha, at_of (j := 0) rfl rfl, ?_⟩
    refine ⟨_, rfl, rfl, _, rfl, ?_⟩
    rw [show decide (V.str "value" = V.str "column") = false by rw [dec_str]; decide +kernel]
    refine iteF ⟨_, rfl, rfl, _, rfl, ?_⟩
    rw [show decide (V.str "value" = V.str "value") = true from decide_eq_true rfl]
    refine iteT ⟨_, rfl, _, rfl, g, a, kvs, ps, "value", .bl true, .bool true, "flag", rfl, hg, kp, ha, .bl true, .inr ⟨rfl, .flag true, nofun, .inr (.inr rfl)⟩, fun H1 s1 => ?_⟩
    refine ⟨_, rfl, rfl, _, rfl, iteF ⟨_, rfl, k H1 s1⟩⟩
end
abbrev sKo : Stmt := top 33
abbrev nKo : List Str := ["columns", "expression", "kinds", "name", "kind"]
abbrev pKo : List Str := ["columns", "expression"]
theorem scKo : FnScope nKo pKo (defScope sKo) := ⟨rfl, rfl, rfl, by decide +kernel, rfl, by decide +kernel, by decide +kernel⟩
section
variable {fA_ : Addr} {fdA_ : FuncData}
theorem ok_Ko (F : Fun K "kind_of" "kind_of" sKo f fd)
    (GA_ : FnOk P w K mg base CX0 6 fA_ fdA_ ["kinds", "part", "path"] (spKaT)) (mA_ : mg "kind_at" = some (.ref fA_)) (kA_ : PySem.W.keepIn K (.ref fA_) = true) (bA_ : Binds K fdA_ ["kinds", "part", "path"] []) : FnOk P w K mg base CX0 7 f fd pKo (spKoT) := by
  refine F.ok scKo (fun vs H Q E h => ?_) (fun cdv A outer s H vs Q E hr h => ?_)
  · obtain ⟨L, a, xs, ps, rfl, _⟩ := h
    rfl
  · obtain ⟨L, a, xs, ps, rfl, hL, hc, nd, l8, ha, k⟩ := h
    have hrA_ : Room (6) _ := hr.mono (by first | decide | omega)
    refine ⟨_, (pss_cons (ps_setDc (i := 2) (own := [("name", 3), ("kind", 4)]) (g := (gTup K 2 (gCons (gName 3) (gCons (gName 4) gNil)))) (tt := tYes) (tk := tVar 3) (tv := tVar 4) (by rfl) scKo.nd rfl rfl (sw_dict rfl rfl rfl (by decide +kernel)) (pi_tup (pv 0)) (blkOk_by (own := [("name", 3), ("kind", 4)]) (N := nKo) (sc := defScope sKo) (by decide +kernel)) (fun _ _ _ _ _ => (pg_tup rfl (pgs_cons (pg_name (i := 3) scKo.nd rfl (.inl rfl)) (pgs_cons (pg_name (i := 4) scKo.nd rfl (.inl rfl)) pgs_nil)))) (fun _ _ _ _ _ => pts_nil) (fun _ _ _ _ _ => (pv 3)) (fun _ _ _ _ _ => (pv 4)))
      (pss_one (ps_ret (pe_call GA_ hrA_ (by rfl) mA_ kA_ bA_ .nil pass0 (pa_cons (pv 2) (pa_cons (pv 1) (pa_cons (pe_tup pa_nil) pa_nil))))))), ?_⟩
    refine ⟨_, rfl, L, rfl, ⟨_, hL.sq⟩, fun D hD => dc_tup (K := K) (a := L) (xs := xs) (fun i H' => ∃ kvs, H' D = some (.dK kvs) ∧ kvs.length ≤ i ∧ KdP kvs (ps.take i) ∧ Same H H') ⟨[], upd_same, Nat.le_refl _, fun _ _ hm => by simp at hm, Same.upd hD⟩ (fun i H' _ p => by obtain ⟨_, _, _, _, s'⟩ := p; exact (hL.same s').sq) ?_ ?_⟩
    · rintro i x H1 hx ⟨kvs, hD1, ln, kp, s1⟩
      obtain ⟨q, z, kk, rfl, ea, ep⟩ := hc.get _ _ hx
      have hi : i < xs.length := (List.getElem?_eq_some_iff.mp hx).1
      have lx := hc.len
      refine ⟨q, _, rfl, SqT.of (s1 _ _ ea), rfl, _, _, rfl, _, _, rfl, rfl, rfl, ?_⟩
      dsimp only [tYes]
      refine iteT ⟨_, rfl, _, rfl, kvs, Sum.inr z, rfl, hD1, Nat.lt_of_le_of_lt (show _ ≤ 8 by omega) (by decide), _, upd_same, Nat.le_trans (length_putK _ _ _) (by omega), kdp_put nd ep kp, fun b o e => by rw [upd_ne (ne_of_none e hD)]; exact s1 b o e⟩
    · rintro H1 ⟨kvs, hD1, ln, kp, s1⟩
      rw [hc.len, List.take_length] at kp
      refine ⟨_, rfl, _, rfl, by show 0 ≤ sizeLine; decide, fun t ht => ?_⟩
      have zt := Same.upd (o := .tup []) ht
      exact ⟨D, a, t, kvs, ps, rfl, zt _ _ hD1, kp, (s1.trans zt) _ _ ha, upd_same, fun H' s' => k H' ((s1.trans zt).trans s')⟩
end
abbrev sKn : Stmt := top 34
abbrev nKn : List Str := ["columns", "expression"]
abbrev pKn : List Str := ["columns", "expression"]
theorem scKn : FnScope nKn pKn (defScope sKn) := ⟨rfl, rfl, rfl, by decide +kernel, rfl, by decide +kernel, by decide +kernel⟩
section
variable {fA_ C : Addr} {fdA_ : FuncData}
theorem ok_Kn (F : Fun K "kind_or_none" "kind_or_none" sKn f fd) (T : Bt mg) (gC : mg "BadExpression" = some (.ref C))
    (GA_ : FnOk P w K mg base CX0 7 fA_ fdA_ ["columns", "expression"] (spKoT)) (mA_ : mg "kind_of" = some (.ref fA_)) (kA_ : PySem.W.keepIn K (.ref fA_) = true) (bA_ : Binds K fdA_ ["columns", "expression"] []) : FnOk P w K mg base CX0 8 f fd pKn (spKoT) := by
  refine F.ok scKn (fun vs H Q E h => ?_) (fun cdv A outer s H vs Q E hr h => ?_)
  · obtain ⟨L, a, xs, ps, rfl, _⟩ := h
    rfl
  · have h0 := h
    obtain ⟨L, a, xs, ps, rfl, _⟩ := h
    have hrA_ : Room (7) _ := hr.mono (by first | decide | omega)
    refine ⟨_, pss_one (ps_tryL (Wout := fun _ _ _ _ => False) (tb := fun W => tRet (tCall spKoT [] E0 (tCons (tVar 0) (tCons (tVar 1) tNil)))) (l := [⟨.ref C, none, fun _ _ _ => tRet (tC .non)⟩]) rfl rfl takes0
        (fun W pn xe tk _ => pss_one (ps_ret (pe_call GA_ hrA_ (by rfl) mA_ kA_ bA_ .nil pass0 (pa_cons (pv 0) (pa_cons (pv 1) pa_nil)))))
        (.bare ⟨rfl, by decide, Or.inl gC⟩ rfl (fun a ob cls d pn hz hf => pss_one (ps_ret pe_non)) .nil)), ?_⟩
    exact ⟨_, rfl, _, rfl, h0⟩
end
abbrev sBk : Stmt := top 83
abbrev nBk : List Str := ["tables", "columns", "step"]
abbrev pBk : List Str := ["tables", "columns", "step"]
theorem scBk : FnScope nBk pBk (defScope sBk) := ⟨rfl, rfl, rfl, by decide +kernel, rfl, by decide +kernel, by decide +kernel⟩
section
variable {fA_ : Addr} {fdA_ : FuncData}
theorem ok_Bk (F : Fun K "behind_keep" "behind_keep" sBk f fd) (T : Bt mg)
    (GA_ : FnOk P w K mg base CX0 8 fA_ fdA_ ["columns", "expression"] (spKoT)) (mA_ : mg "kind_or_none" = some (.ref fA_)) (kA_ : PySem.W.keepIn K (.ref fA_) = true) (bA_ : Binds K fdA_ ["columns", "expression"] []) : FnOk P w K mg base CX0 16 f fd pBk ((spBeh "keep")) := by
  refine F.ok scBk (fun vs H Q E h => ?_) (fun cdv A outer s H vs Q E hr h => ?_)
  · obtain ⟨D0, kvs, os, cv, p, ps, qs, st, rfl, _⟩ := h
    rfl
  · obtain ⟨D0, kvs, os, cv, p, ps, qs, st, rfl, hD0, hO, wO, hL, cp, hd, ld, hw, k⟩ := h
    have hrA_ : Room (8) _ := hr.mono (by first | decide | omega)
    refine ⟨_, (pss_one (ps_ret (pe_ifExp (pt_cmpR op_eq (pe_call GA_ hrA_ (by rfl) mA_ kA_ bA_ .nil pass0 (pa_cons (pv 1) (pa_cons (pe_ix ix_tup (pv 2) pe_int (fun _ _ => rfl)) pa_nil))) pe_str (nomark _)) (pv 1) pe_non))), ?_⟩
    cases st with
    | first n => exact absurd hw (by show ¬ ("first" : Str) = "keep"; decide +kernel)
    | sample a b c => exact absurd hw (by show ¬ ("sample" : Str) = "keep"; decide +kernel)
    | join a b => exact absurd hw (by show ¬ ("join" : Str) = "keep"; decide +kernel)
    | union a => exact absurd hw (by show ¬ ("union" : Str) = "keep"; decide +kernel)
    | keep e =>
    cases ld with
    | keep =>
    obtain ⟨v, e1, dv⟩ := dh2 hd
    obtain ⟨a, rfl, ea⟩ := vT_at dv
    obtain ⟨xs, zL, cc⟩ := id hL
    exact ⟨_, rfl, _, rfl, p, _, _, .ref a, rfl, rfl, SqT.of e1, at_of (j := 1) rfl rfl, cv, a, xs, ps, rfl, zL.rd, cc, cp.nd, cp.l8, ea, fun H1 s1 => ⟨rfl, _, rfl, iteT ⟨_, rfl, k cv H1 s1 (hL.same s1)⟩⟩⟩
end
abbrev sWo : Stmt := top 53
abbrev nWo : List Str := ["row", "part", "word", "operands", "operand"]
abbrev pWo : List Str := ["row", "part"]
theorem scWo : FnScope nWo pWo (defScope sWo) := ⟨rfl, rfl, rfl, by decide +kernel, rfl, by decide +kernel, by decide +kernel⟩
section
theorem ok_Wo (F : Fun K "worth" "worth" sWo f fd) : FnOk P w K mg base CX0 1 f fd pWo (spWoT) := by
  refine F.ok scWo (fun vs H Q E h => ?_) (fun cdv A outer s H vs Q E hr h => ?_)
  · obtain ⟨g, a, rfl, _⟩ := h
    rfl
  · obtain ⟨g, a, rfl, ha, k⟩ := h
    refine ⟨_, (pss_cons (ps_set (i := 2) scWo.nd rfl (Or.inl rfl) (pe_ix ix_tup (pv 1) pe_int (fun _ _ => rfl)))
      (pss_cons (ps_if (pt_cmpR op_eq (pv 2) pe_str (nomark _)) pss_dead pss_nil)
      (pss_cons (ps_if (pt_cmpR op_eq (pv 2) pe_str (nomark _)) (pss_one (ps_ret (pe_ix ix_tup (pv 1) pe_int (fun _ _ => rfl)))) pss_nil)
      pss_dead))), ?_⟩
    refine ⟨_, rfl, a, _, _, .str "value", rfl, rfl, SqT.of ha, at_of (j := 0) rfl rfl, ?_⟩
    refine ⟨_, rfl, rfl, _, rfl, ?_⟩
    rw [show decide (V.str "value" = V.str "column") = false by rw [dec_str]; decide +kernel]
    refine iteF ⟨_, rfl, rfl, _, rfl, ?_⟩
    rw [show decide (V.str "value" = V.str "value") = true from decide_eq_true rfl]
    exact iteT ⟨_, rfl, a, _, _, .bl true, rfl, rfl, SqT.of ha, at_of (j := 1) rfl rfl, k⟩
end
abbrev sEv : Stmt := top 52
abbrev nEv : List Str := ["columns", "values", "expression", "row", "name", "kind", "value"]
abbrev pEv : List Str := ["columns", "values", "expression"]
theorem scEv : FnScope nEv pEv (defScope sEv) := ⟨rfl, rfl, rfl, by decide +kernel, rfl, by decide +kernel, by decide +kernel⟩
section
variable {fA_ : Addr} {fdA_ : FuncData}
theorem ok_Ev (F : Fun K "evaluate" "evaluate" sEv f fd) (mZ : mg "zip" = none)
    (GA_ : FnOk P w K mg base CX0 1 fA_ fdA_ ["row", "part"] (spWoT)) (mA_ : mg "worth" = some (.ref fA_)) (kA_ : PySem.W.keepIn K (.ref fA_) = true) (bA_ : Binds K fdA_ ["row", "part"] []) : FnOk P w K mg base CX0 2 f fd pEv (spEvT) := by
  refine F.ok scEv (fun vs H Q E h => ?_) (fun cdv A outer s H vs Q E hr h => ?_)
  · obtain ⟨L, M, a, xs, ys, ps, rfl, _⟩ := h
    rfl
  · obtain ⟨L, M, a, xs, ys, ps, rfl, hL, hM, hc, ly, l8, ha, k⟩ := h
    have hrA_ : Room (1) _ := hr.mono (by first | decide | omega)
    refine ⟨_, (pss_cons (ps_setDc (i := 3) (own := [("name", 4), ("kind", 5), ("value", 6)]) (g := (gTup K 2 (gCons (gTup K 2 (gCons (gName 4) (gCons (gName 5) gNil))) (gCons (gName 6) gNil)))) (tt := tYes) (tk := tVar 4) (tv := tVar 6) (by rfl) scEv.nd rfl rfl (sw_dict rfl rfl rfl (by decide +kernel)) (RZ.pi_zipA (by rfl) mZ (pa_cons (pv 0) (pa_cons (pv 1) pa_nil))) (blkOk_by (own := [("name", 4), ("kind", 5), ("value", 6)]) (N := nEv) (sc := defScope sEv) (by decide +kernel)) (fun _ _ _ _ _ => (pg_tup rfl (pgs_cons (pg_tup rfl (pgs_cons (pg_name (i := 4) scEv.nd rfl (.inl rfl)) (pgs_cons (pg_name (i := 5) scEv.nd rfl (.inl rfl)) pgs_nil))) (pgs_cons (pg_name (i := 6) scEv.nd rfl (.inl rfl)) pgs_nil)))) (fun _ _ _ _ _ => pts_nil) (fun _ _ _ _ _ => (pv 4)) (fun _ _ _ _ _ => (pv 6)))
      (pss_one (ps_ret (pe_call GA_ hrA_ (by rfl) mA_ kA_ bA_ .nil pass0 (pa_cons (pv 3) (pa_cons (pv 2) pa_nil)))))), ?_⟩
    have lx := hc.len
    refine ⟨_, rfl, _, rfl, L, M, xs, ys, rfl, .inr ⟨hL.sq, SqT.of hM, fun D hD => dc_zip (K := K) (a := L) (b := M) (xs := xs) (ys := ys) (by omega) (fun i H' => ∃ kvs : List (Key × V), H' D = some (.dK kvs) ∧ kvs.length ≤ i ∧ Same H H') ⟨[], upd_same, Nat.le_refl _, Same.upd hD⟩ (fun i H' p => by obtain ⟨_, _, _, s'⟩ := p; exact ⟨(hL.same s').sq, SqT.of (s' _ _ hM)⟩) ?_ ?_⟩⟩
    · rintro i x1 y1 T1 H1 hx hy1 ⟨kvs, hD1, ln, s1⟩ hT1
      obtain ⟨q, z, kk, rfl, ea, ep⟩ := hc.get _ _ hx
      have hi : i < xs.length := (List.getElem?_eq_some_iff.mp hx).1
      have zT := Same.upd (o := .tup [.ref q, y1]) hT1
      have sT := s1.trans zT
      refine ⟨T1, _, rfl, SqT.of upd_same, rfl, _, _, rfl, ⟨q, _, rfl, SqT.of (sT _ _ ea), rfl, _, _, rfl, _, _, rfl, rfl, _, _, rfl, rfl, rfl, ?_⟩⟩
      dsimp only [tYes]
      have hD2 := zT _ _ hD1
      exact iteT ⟨_, rfl, _, rfl, kvs, Sum.inr z, rfl, hD2, Nat.lt_of_le_of_lt (show _ ≤ 8 by omega) (by decide), _, upd_same, Nat.le_trans (length_putK _ _ _) (by omega), fun b o e => by rw [upd_ne (ne_of_none e hD)]; exact sT b o e⟩
    · rintro H1 ⟨kvs, hD1, ln, s1⟩
      exact ⟨_, rfl, _, rfl, D, a, rfl, s1 _ _ ha, k H1 s1⟩
end
end
end K19
set_option Elab.async false
set_option linter.all false
set_option maxRecDepth 100000
set_option maxHeartbeats 4000000
namespace Lc
open PySem PySem.Spec PyProof.Rows L2
/-! ## a comprehension within a comprehension -/
theorem lookup_relabel_up {env : Env} : ∀ {names : List (Str × NameKind)} {x : Str}, (names.lookup x = some .cell ∨ names.lookup x = some .free) →
    ((names.map fun (n, k) => if (k == NameKind.free && env.scope.kind == .function && env.kindOf n == some .cell) then (n, NameKind.cell) else (n, k)).lookup x = some .cell ∨
     (names.map fun (n, k) => if (k == NameKind.free && env.scope.kind == .function && env.kindOf n == some .cell) then (n, NameKind.cell) else (n, k)).lookup x = some .free)
  | [], x, h => by simp at h
  | (n, k) :: r, x, h => by
    have ih := @lookup_relabel_up env r x
    rw [List.map_cons]
    by_cases e : (x == n) = true
    · rw [List.lookup_cons, e] at h
      dsimp only
      split
      · rw [List.lookup_cons, e]; exact .inl rfl
      · rw [List.lookup_cons, e]; exact h
    · rw [List.lookup_cons, show (x == n) = false by simpa using e] at h
      dsimp only
      split
      · rw [List.lookup_cons, show (x == n) = false by simpa using e]; exact ih h
      · rw [List.lookup_cons, show (x == n) = false by simpa using e]; exact ih h
theorem blkOk_rel {N : List Str} {sc scope : Scope} {own : List (Str × Nat)} {env : Env} (h : BlkOk N sc scope own) : BlkOk N (relabel sc env) scope own :=
  ⟨h.kind, h.uniq, h.ix, fun y hy e => lookup_relabel_up (h.free y hy e), h.own⟩
/-- the statements of a def -/
def bodyOf : Stmt → List Stmt
  | .FunctionDef _ _ body _ _ _ _ _ _ _ => body
  | _ => []
/-- the scope of a comprehension -/
def lcScope : Expr → Scope → Scope
  | .ListComp _ _ sc _, _ => sc
  | _, d => d
end Lc
set_option Elab.async false
set_option linter.all false
set_option maxRecDepth 100000
set_option maxHeartbeats 4000000
namespace Lc
open PySem PySem.Spec PyProof.Rows L2
/-! ## a promise that tells no error, where errors may be told -/
theorem fn_loud {P : Program} {w : World} {K : PySem.W.Frag} {mg : Str → Option Value} {base : Heap} {k : Nat} {f : Addr} {fd : FuncData} {ps : List Str} {sp : Sp} (F : FnOk P w K mg base CX0 k f fd ps sp) : FnOk P w K mg base (L2.CX P w) k f fd ps sp := by
  refine ⟨F.len, fun A outer s H args us vs Q E a b c d z => ?_⟩
  refine codeAny_mono (F.run A outer s H args us vs Q E a b c d z) fun r s' hq => ?_
  match r, hq with
  | .error e, hq => exact False.elim hq
  | .ok (.ret u), hq => exact hq
  | .ok .next, hq => exact False.elim hq
  | .ok .brk, hq => exact False.elim hq
  | .ok .cont, hq => exact False.elim hq
/-! ## f(e, ..), f a local name that holds one of several defs, which may raise -/
structure HeldX (P : Program) (w : World) (K : PySem.W.Frag) (mg : Str → Option Value) (base : Heap) (k : Nat) (f : Addr) (sp : Sp) : Prop where
  ex : ∃ (fd : FuncData) (ps : List Str), FnOk P w K mg base (L2.CX P w) k f fd ps sp ∧ PySem.W.keepIn K (.ref f) = true ∧ Binds K fd ps []
def tCallAX (i : Nat) (S : Addr → Option Sp) (E : L2.St → XK) (t : TA) : TE := fun σ H Q => ∃ f sp, σ[i]? = some (some (.ref f)) ∧ S f = some sp ∧ t σ H fun vs H1 => sp vs H1 Q (E σ)
section
variable {X : Cx} {k i : Nat} {E : L2.St → XK} {x : Str} {p pos : Pos} {e : Expr} {es : List Expr} {t : TA}
theorem pe_callAX {S : Addr → Option Sp} (A : ∀ f sp, S f = some sp → HeldX X.prog X.w X.K X.mg X.base k f sp) (hr : Room k X.A) (hN : X.N[i]? = some x) (hv : Vis X.env.scope x) (hx : ∀ σ, PassesAt (L2.CX X.prog X.w) X σ (E σ)) (ha : PA X (e :: es) t)
    (hdb : (x == ("__debug__" : Str)) = false := by decide) (hcd : (x == ("__classdict__" : Str)) = false := by decide)
    (he : starEach (e :: es) X.env = (false, eval e X.env) :: starEach es X.env := by rfl) (hpl : (backTo pos (starEach es X.env)).any (·.1) = false := by rfl) : PE X (.Call (.Name x p) (e :: es) [] pos) (tCallAX i S E t) := by
  refine ⟨fun pins s σ H Q I h => ?_⟩
  obtain ⟨f, sp, h1, h2, h3⟩ := h
  obtain ⟨fd, ps, F, hk, hb⟩ := (A f sp h2).ex
  exact (pe_callLS (i := i) (sp := sp) (E := E) F hr hN hv hk hb hx ha hdb hcd he hpl).run pins s σ H Q I ⟨h1, h3⟩
/-! ## x not in t, t a tuple of data -/
def rNotInDT (K : PySem.W.Frag) : R2 := fun x y H Q => ∃ d ds, Dp K H x d ∧ Dp K H y (.tuple ds) ∧ SeqAt.shaped d = true ∧ SeqAt.shaped (.tuple ds) = true ∧ Q (.bl (!ds.any fun z => PyData.eqv z d)) H
theorem op_notInDT (hu : X.A.units + 65 < cLine) : OpR X (compareOp .NotIn) (rNotInDT X.K) := by
  intro pn s0 σ0 H0 a b va vb QQ I ra rb h
  obtain ⟨d, ds, ha, hb, sa, sb, q⟩ := h
  obtain ⟨la, r1⟩ := Dp.reads I d a va ha ra
  obtain ⟨lb, r2⟩ := Dp.reads I (.tuple ds) b vb hb rb
  have dd : PyData.depthAll ds ≤ 63 := by
    have := of_decide_eq_true (Bool.and_eq_true_iff.mp sb).2
    rw [PyData.depth] at this
    omega
  exact SeqAt.notIn_tuple_reads r2 r1 (SeqAt.canLay_of_shaped sb) (SeqAt.canLay_of_shaped sa) (by have := Nat.min_le_left (PyData.depthAll ds) d.depth; omega) ⟨.bl _, H0, I, rfl, q⟩
/-! ## (x,) * n -/
def rRepB (K : PySem.W.Frag) : R2 := fun x y H Q => ∃ l k z, x = .ref l ∧ y = .int k ∧ SqT K H l [z] ∧ 2 ≤ k ∧ k ≤ 2000 ∧ ∀ p, H p = none → Q (.ref p) (upd H p (.tup (List.replicate k.toNat z)))
theorem flat_one {α : Type} (z : α) : ∀ m : Nat, (List.replicate m [z]).flatten = List.replicate m z
  | 0 => rfl
  | m + 1 => by rw [List.replicate_succ, List.flatten_cons, flat_one z m]; rfl
theorem op_repB : OpR X (binaryOp .Mult) (rRepB X.K) := by
  intro pn s0 σ0 H0 a b va vb QQ I ra rb h
  obtain ⟨l, k, z, rfl, rfl, hT, h1, h2, q⟩ := h
  cases ra
  obtain ⟨t, rfl⟩ := rb
  obtain ⟨its, r, ⟨⟨cls, dd, data, sl⟩, ho, hc, n, hd⟩, hs⟩ := I.tuple hT
  simp only at hc hd
  subst hc hd
  have hle : its.length = 1 := r.length.symm
  obtain ⟨u, rfl⟩ : ∃ u, its = [u] := List.length_eq_one_iff.mp hle
  have S0 : sizeLine = 2 ^ 24 := rfl
  have flen : (List.replicate k.toNat [u]).flatten.length ≤ sizeLine := by
    rw [flat_one, List.length_replicate, S0]
    omega
  have e0 : (decide (k < -(2 ^ 63)) || decide (k ≥ 2 ^ 63)) = false := by simp only [Bool.or_eq_false_iff, decide_eq_false_iff_not]; omega
  have e1 : ([u].toArray.isEmpty || k == 1) = false := Bool.or_eq_false_iff.mpr ⟨rfl, beq_eq_false_iff_ne.mpr (by omega)⟩
  have e2 : (decide (k ≤ 0) || [u].toArray.isEmpty) = false := Bool.or_eq_false_iff.mpr ⟨decide_eq_false (by omega), rfl⟩
  have e4 : Builtin.Tuple.tupleTooMany ((([u].toArray.size : Nat) : Int) * k) = false := by
    unfold Builtin.Tuple.tupleTooMany
    rw [S0]
    refine decide_eq_false ?_
    show ¬ ((1 : Nat) : Int) * k > _
    omega
  have es : ((([u].toArray.size : Nat) : Int)) = 1 := rfl
  refine wpAny_binaryOp_repeat_ref (T := "tuple") (U := "int") (by decide) ⟨_, ho, rfl⟩ (fun s' => typeIs_int s' k t) noFill_tuple_mul F.fills_int_mul F.slot_int_rmul repeat_tuple F.slot_int_index.lookup ?_
  refine call_meets F.slot_int_rmul (typeIs_int s0 k t) F.entry_int_rmul (F.args_int_rmul_2 _ _) (int_rmul_tuple k t l [u].toArray n dd sl) ⟨ho, rfl, ⟨_, ho, rfl⟩, ?_⟩
  refine call_meets F.slot_tuple_mul ⟨_, ho, rfl⟩ F.entry_tuple_mul (F.args_tuple_mul_2 _ _) (tuple_mulW l [u].toArray n dd sl k t e0 e1 e2 (by rw [es]; omega) e4 (by rw [size_rep, List.size_toArray]; exact flen)) ⟨ho, ?_⟩
  rw [size_rep]
  refine ⟨.ref s0.heap.objs.size, _, I.laid (t' := s0.toks) (o := .tup (List.replicate k.toNat z)) (fun bb ob qq => Heap.get?_push_of_some _ qq) (Nat.le_refl _) ?_, rfl, q _ (I.hok.fresh (Nat.le_refl _))⟩
  have rr := r.rep k.toNat
  rw [flat_one] at rr
  exact ⟨by rw [List.length_replicate, S0]; omega, _, rr, IsTup.new _ _⟩
end
end Lc
set_option Elab.async false
set_option linter.all false
set_option maxRecDepth 100000
set_option maxHeartbeats 4000000
namespace K19
open PySem PySem.Spec PyProof.Rows L2 Lc
abbrev ovT : List Value := [.type "OverflowError", .type "ArithmeticError", .type "Exception", .type "BaseException", .type "object"]
/-- the same of a class right over another built-in one -/
structure ErG (K : PySem.W.Frag) (mg : Str → Option Value) (x fld : Str) (C fI : Addr) (new : String) (tail : List Value) : Prop where
  oex : OexG K C new tail
  iC : PySem.W.findIn K (.ref C) "__init__" = some (some (.ref fI))
  tI : PySem.W.typeIn K (.ref fI) = some (.type "function")
  nG : PySem.W.findIn K (.ref C) fld = some none
  gC : mg x = some (.ref C)
abbrev ErO (K : PySem.W.Frag) (mg : Str → Option Value) (x fld : Str) (C fI : Addr) : Prop := ErG K mg x fld C fI "OverflowError.__new__" ovT
def TellsF (C : Addr) (fld : Str) (H : Hp) (v : V) (E : XK) : Prop := ∀ (d : Addr) (H' : Hp), Same H H' → H d = none → H' d = some (.xd [(fld, v)]) → E (.ref C) (some d) H'
def spIni (C : Addr) (fld : Str) : Sp := fun vs H Q _ => ∃ (a : Addr) (v : V), vs = [.ref a, v] ∧ H a = some (exo a C none) ∧ ∀ dx, H dx = none → dx ≠ a → Q .non (upd (upd H dx (exd dx [(fld, v)])) a (exo a C (some dx)))
theorem TellsF.same {C : Addr} {fld : Str} {H H' : Hp} {v : V} {E : XK} (h : TellsF C fld H v E) (s : Same H H') : TellsF C fld H' v E := fun d H2 s2 e1 e2 => h d H2 (s.trans s2) (by cases q : H d with | none => rfl | some o => rw [s _ _ q] at e1; cases e1) e2
abbrev sIniL : Stmt := inClass (top 5) 0
section
variable {P : Program} {w : World} {K : PySem.W.Frag} {mg : Str → Option Value} {base : Heap} {f C fI : Addr} {fd fdI : FuncData}
theorem scIniL : FnScope ["self", "size"] ["self", "size"] (defScope sIniL) := ⟨rfl, rfl, rfl, by decide +kernel, rfl, by decide +kernel, by decide +kernel⟩
theorem ok_iniL (F : Fun K "__init__" "TooLarge.__init__" sIniL fI fdI) (T : ErO K mg "TooLarge" "size" C fI) : FnOk P w K mg base CX0 1 fI fdI ["self", "size"] (spIni C "size") := by
  refine F.ok scIniL (fun vs H Q E h => ?_) (fun cdv A outer s H vs Q E hr h => ?_)
  · obtain ⟨a, v, rfl, _⟩ := h
    rfl
  · obtain ⟨a, v, rfl, ha, k⟩ := h
    refine ⟨_, pss_one (ps_put PySem.F.store_OverflowError T.oex T.nG (pv 0) (pv 1)), ?_⟩
    exact ⟨_, rfl, _, rfl, a, rfl, ha, fun dx h1 h2 => k dx h1 h2⟩
/-- raise X(v) -/
theorem tells_ofF {H : Hp} {fld : Str} {v : V} {E : XK} (t : TellsF C fld H v E) : ∀ a, H a = none → spIni C fld (.ref a :: ([v] ++ [])) (upd H a (exo a C none))
    (fun v' H2 => v' = .non ∧ ∃ (d : Addr) (fs : List (Str × V)), H2 a = some (exo a C (some d)) ∧ H2 d = some (exd d fs) ∧ H d = none ∧ E (.ref C) (some d) (upd (del H2 a) d (.xd fs))) (fun _ _ _ => False) := by
  intro a ha
  refine ⟨a, v, rfl, upd_same, fun dx hx hne => ⟨rfl, dx, _, upd_same, by rw [upd_ne hne, upd_same], by rw [upd_ne hne] at hx; exact hx, ?_⟩⟩
  rw [upd_ne hne] at hx
  refine t dx _ (fun b o e => ?_) hx upd_same
  have nb : b ≠ a := ne_of_none e ha
  have nd : b ≠ dx := ne_of_none e hx
  rw [upd_ne nd, del_ne nb, upd_ne nb, upd_ne nd, upd_ne nb]
  exact e
end
def cutD (ds : List PyData) (lo hi : Option Int) : List PyData := (ds.drop (HT.sIx ds.length 0 lo)).take (HT.sIx ds.length ds.length hi - HT.sIx ds.length 0 lo)
theorem dh_drop {H : Hp} : ∀ {xs : List V} {ds : List PyData} (i : Nat), DhAll H xs ds → DhAll H (xs.drop i) (ds.drop i)
  | _, _, 0, h => h
  | _, _, i + 1, .nil => .nil
  | _, _, i + 1, .cons _ r => dh_drop i r
theorem dh_take {H : Hp} : ∀ {xs : List V} {ds : List PyData} (i : Nat), DhAll H xs ds → DhAll H (xs.take i) (ds.take i)
  | _, _, 0, _ => .nil
  | _, _, i + 1, .nil => .nil
  | _, _, i + 1, .cons h r => .cons h (dh_take i r)
theorem dh_cut {H : Hp} {xs : List V} {ds : List PyData} {lo hi : Option Int} (h : DhAll H xs ds) : DhAll H (cutV xs lo hi) (cutD ds lo hi) := by
  unfold cutV cutD
  rw [h.len]
  exact dh_take _ (dh_drop _ h)
theorem cutD_to {ds : List PyData} {v : Nat} (h : v ≤ ds.length) : cutD ds none (some (v : Int)) = ds.take v := by
  have e1 : HT.sIx ds.length 0 none = 0 := rfl
  have e2 : HT.sIx ds.length ds.length (some (v : Int)) = v := by
    rw [HT.sIx_nat]
    omega
  unfold cutD
  rw [e1, e2]
  simp
theorem cutD_from (ds : List PyData) (v : Nat) : cutD ds (some (v : Int)) none = ds.drop v := by
  have e1 : HT.sIx ds.length ds.length none = ds.length := rfl
  have e2 : HT.sIx ds.length 0 (some (v : Int)) = min v ds.length := HT.sIx_nat _ _ _
  unfold cutD
  rw [e1, e2]
  rcases Nat.le_total v ds.length with q | q
  · rw [Nat.min_eq_left q]
    exact List.take_of_length_le (by rw [List.length_drop]; omega)
  · rw [Nat.min_eq_right q, List.drop_length, List.drop_eq_nil_of_le q]
    simp
theorem slH {K : PySem.W.Frag} {H : Hp} {Q : VK} {v : V} {ds : List PyData} {lo hi : Option Int} (h : Dh H v (.tuple ds)) (k : ∀ r H', Dh H' r (.tuple (cutD ds lo hi)) → Same H H' → Q r H') : rSlA K v lo hi H Q := by
  cases h with
  | @tup a xs _ e hs =>
  refine ⟨a, xs, rfl, SqT.of e, fun z => ?_, fun _ p hp => ?_⟩
  · refine k _ _ ?_ (Same.refl H)
    have : cutD ds lo hi = ds := by
      rw [hs.len] at z
      unfold cutD
      rw [z.1, z.2]
      simp
    rw [this]
    exact .tup e hs
  · have zp := Same.upd (o := .tup (cutV xs lo hi)) hp
    exact k _ _ (.tup upd_same ((dh_cut hs).same zp)) zp
theorem catH {K : PySem.W.Frag} {H : Hp} {Q : VK} {v u : V} {ds es : List PyData} (h : Dh H v (.tuple ds)) (g : Dh H u (.tuple es)) (l : ds.length + es.length ≤ 1000) (k : ∀ r H', Dh H' r (.tuple (ds ++ es)) → Same H H' → Q r H') : rCatA K v u H Q := by
  have h0 := h
  have g0 := g
  cases h with
  | @tup a xs _ e hs =>
  cases g with
  | @tup b ys _ e' gs =>
  refine ⟨a, b, xs, ys, rfl, rfl, SqT.of e, SqT.of e', by rw [hs.len, gs.len]; exact Nat.le_trans l (by decide), fun z => ?_, fun _ z => ?_, fun _ _ p hp => ?_⟩
  · subst z
    cases hs
    exact k _ _ g0 (Same.refl H)
  · subst z
    cases gs
    rw [List.append_nil] at k
    exact k _ _ h0 (Same.refl H)
  · have zp := Same.upd (o := .tup (xs ++ ys)) hp
    exact k _ _ (.tup upd_same ((hs.append gs).same zp)) zp
def isN : PyData → Bool
  | .none => true
  | _ => false
theorem dh_isN {H : Hp} {v : V} {d : PyData} (h : Dh H v d) : decide (v = V.non) = isN d := by cases h <;> rfl
def atD (js : List Nat) (r : RowD) : List PyData := js.map fun j => r.vals.getD j .none
abbrev TbL : Type := List (Str × CsL × RowsL)
def rowsOf (tbs : TbL) (t : Str) : List RowD := ((tbs.find? fun x => decide (x.1 = t)).map fun x => x.2.2.map (·.2)).getD []
def osOf (tbs : TbL) : OsL := tbs.map fun t => (t.1, t.2.1)
inductive TbsAt (C : Addr) (H : Hp) : List (Key × V) → TbL → Prop
  | nil : TbsAt C H [] []
  | cons {n : Str} {cs : CsL} {a cv : Addr} {rs : RowsL} {kvs : List (Key × V)} {tbs : TbL} (it : IsTb C H a cv rs) (ca : CA H cv cs) (cp : ColP cs) (rw_ : RowW cs (rs.map (·.2))) (ln : rs.length ≤ 1300) (r : TbsAt C H kvs tbs) : TbsAt C H ((Sum.inr n, .ref a) :: kvs) ((n, cs, rs) :: tbs)
theorem TbsAt.same {C : Addr} {H H' : Hp} (s : Same H H') : ∀ {kvs : List (Key × V)} {tbs : TbL}, TbsAt C H kvs tbs → TbsAt C H' kvs tbs
  | _, _, .nil => .nil
  | _, _, .cons it ca cp rw_ ln r => .cons (it.same s) (ca.same s) cp rw_ ln (TbsAt.same s r)
theorem TbsAt.b {C t : Addr} {H H' : Hp} (T : Tape H t) (s : SameB t H H') : ∀ {kvs : List (Key × V)} {tbs : TbL}, TbsAt C H kvs tbs → TbsAt C H' kvs tbs
  | _, _, .nil => .nil
  | _, _, .cons it ca cp rw_ ln r => .cons (it.b T s rw_.ok) (ca.b T s) cp rw_ ln (TbsAt.b T s r)
theorem CA.upd {H : Hp} {L b : Addr} {ps : CsL} {u o : HO} (h : CA H L ps) (hb : H b = some u) (nu : ∀ xs, u ≠ .tup xs) (nf : ∀ o xs, u ≠ .frz o (.tup xs)) : CA (L2.upd H b o) L ps := by
  obtain ⟨xs, ⟨ob, c, d, e⟩, cc⟩ := h
  exact ⟨xs, ⟨ob, c, d, by rw [upd_ne (ne_of e hb fun z => nf _ _ z.symm)]; exact e⟩, cc.t fun x xs e => by rw [upd_ne (ne_of e hb fun z => nu _ z.symm)]; exact e⟩
theorem TbsAt.upd {C : Addr} {H : Hp} {b : Addr} {u o : HO} (hb : H b = some u) (nu : (∀ xs, u ≠ .tup xs) ∧ ∀ c d f, u ≠ .ins c d f) (nf : ∀ o xs, u ≠ .frz o (.tup xs)) : ∀ {kvs : List (Key × V)} {tbs : TbL}, TbsAt C H kvs tbs → TbsAt C (L2.upd H b o) kvs tbs
  | _, _, .nil => .nil
  | _, _, .cons it ca cp rw_ ln r => .cons (it.upd hb nu rw_.ok) (ca.upd hb nu.1 nf) cp rw_ ln (TbsAt.upd hb nu nf r)
theorem TbsAt.at {C : Addr} {H : Hp} {x : Str} {cs : CsL} {rs : RowsL} : ∀ {kvs : List (Key × V)} {tbs : TbL}, TbsAt C H kvs tbs → (tbs.map (·.1)).Nodup → (x, cs, rs) ∈ tbs → ∃ a cv, valV kvs (Sum.inr x : Key) = some (.ref a) ∧ IsTb C H a cv rs ∧ CA H cv cs ∧ ColP cs ∧ RowW cs (rs.map (·.2)) ∧ rs.length ≤ 1300
  | _, _, .nil, _, h => by cases h
  | _, _, .cons (n := n) (a := a) (cv := cv) it ca cp rw_ ln r, nd, h => by
    rw [List.map_cons, List.nodup_cons] at nd
    rcases List.mem_cons.mp h with h | h
    · injection h with h1 h2
      injection h2 with h2 h3
      subst h1
      subst h2
      subst h3
      exact ⟨a, cv, valV_pos rfl, it, ca, cp, rw_, ln⟩
    · have ne : n ≠ x := fun e => nd.1 (by rw [e]; exact List.mem_map_of_mem (f := (·.1)) h)
      obtain ⟨a', cv', h1, h2⟩ := TbsAt.at r nd.2 h
      exact ⟨a', cv', by rw [valV_neg (fun w => ne (by injection w))]; exact h1, h2⟩
structure WtP (tbs : TbL) : Prop where
  ok : ∀ o ∈ tbs, nmS o.1 ∧ Sh 12 o.1 ∧ ColP o.2.1
  nd : (tbs.map (·.1)).Nodup
  l : tbs.length ≤ 10
theorem WtP.os {tbs : TbL} (h : WtP tbs) : WdP (osOf tbs) where
  ok := fun o ho => by
    obtain ⟨t, ht, rfl⟩ := List.mem_map.mp ho
    exact h.ok t ht
  nd := by
    unfold osOf
    rw [List.map_map]
    exact h.nd
  l := by unfold osOf; rw [List.length_map]; exact h.l
theorem os_mem {tbs : TbL} {t : Str} {ps : CsL} (h : (t, ps) ∈ osOf tbs) : ∃ rs, (t, ps, rs) ∈ tbs := by
  obtain ⟨x, hx, e⟩ := List.mem_map.mp h
  obtain ⟨a, b, c⟩ := x
  cases e
  exact ⟨c, hx⟩
theorem rowsOf_at {tbs : TbL} (nd : (tbs.map (·.1)).Nodup) {t : Str} {ps : CsL} {rs : RowsL} (h : (t, ps, rs) ∈ tbs) : rowsOf tbs t = rs.map (·.2) := by
  unfold rowsOf
  induction tbs with
  | nil => cases h
  | cons x r ih =>
    rw [List.map_cons, List.nodup_cons] at nd
    rw [List.find?_cons]
    rcases List.mem_cons.mp h with h | h
    · subst h
      rw [decide_eq_true rfl]
      rfl
    · have : ¬ x.1 = t := fun e => nd.1 (by rw [e]; exact List.mem_map_of_mem (f := (·.1)) h)
      rw [decide_eq_false this]
      exact ih nd.2 h
def spPoL : Sp := fun vs H Q _ => ∃ (L p : Addr) (ps : CsL) (ns : List Str), vs = [.ref L, .ref p] ∧ CA H L ps ∧ ColP ps ∧ H p = some (.lst (vS ns)) ∧ (∀ n ∈ ns, n ∈ nms ps) ∧ ns.length ≤ 8 ∧ ∀ (D : Addr) (H' : Hp), Same H H' → H' D = some (.lst (jsV (ns.map fun n => (nms ps).idxOf n))) → Q (.ref D) H'
def colsOf (tbs : TbL) (t : Str) : CsL := ((tbs.find? fun x => decide (x.1 = t)).map fun x => x.2.1).getD []
theorem colsOf_at {tbs : TbL} (nd : (tbs.map (·.1)).Nodup) {t : Str} {ps : CsL} {rs : RowsL} (h : (t, ps, rs) ∈ tbs) : colsOf tbs t = ps := by
  unfold colsOf
  induction tbs with
  | nil => cases h
  | cons x r ih =>
    rw [List.map_cons, List.nodup_cons] at nd
    rw [List.find?_cons]
    rcases List.mem_cons.mp h with h | h
    · subst h
      rw [decide_eq_true rfl]
      rfl
    · have : ¬ x.1 = t := fun e => nd.1 (by rw [e]; exact List.mem_map_of_mem (f := (·.1)) h)
      rw [decide_eq_false this]
      exact ih nd.2 h
/-! ## joined rows -/
def hasN (ds : List PyData) : Bool := ds.any isN
def outJ (ad : List Nat) (r o : RowD) : RowD := ⟨r.vals ++ atD ad o, unL [r.lin, o.lin]⟩
def mates (js ls : List Nat) (os : List RowD) (r : RowD) : List RowD := if hasN (atD js r) = true then [] else os.filter fun o => decide (nkDs (atD ls o) = nkDs (atD js r))
def joinL (js ls ad : List Nat) (os ds : List RowD) : List RowD := ds.flatMap fun r => (mates js ls os r).map (outJ ad r)
def adJ (cs : CsL) (ks : List Str) : List Nat := (List.range cs.length).filter fun i => decide ((nms cs).getD i "" ∉ ks)
def jx (ps : CsL) (ks : List Str) : List Nat := ks.map fun n => (nms ps).idxOf n
def stepB (tbs : TbL) (ps : CsL) : Ps → List RowD → List RowD
  | .keep _, ds => ds
  | .first n, ds => ds.take n
  | .sample _ _ _, ds => ds
  | .join t ks, ds => joinL (jx ps ks) (jx (colsOf tbs t) ks) (adJ (colsOf tbs t) ks) (rowsOf tbs t) ds
  | .union t, ds => ds ++ rowsOf tbs t
def Ps.chk : Ps → Bool
  | .join _ _ => true
  | .union _ => true
  | _ => false
def Ps.Pl : Ps → Prop
  | .sample n w _ => n = w
  | _ => True
def spCz (CT : Addr) : Sp := fun vs H Q E => ∃ n : Int, vs = [.int n] ∧ (n ≤ 1000 → Q .non H) ∧ (1000 < n → ∀ H', Same H H' → TellsF CT "size" H' (.int n) E)
def spRb (C CT : Addr) (wd : Str) : Sp := fun vs H Q E => ∃ (D0 a cv p : Addr) (kvs : List (Key × V)) (tbs : TbL) (ps qs : CsL) (st : Ps) (rs : RowsL), vs = [.ref D0, .ref a, .ref p] ∧ H D0 = some (.dK kvs) ∧ TbsAt C H kvs tbs ∧ WtP tbs ∧ IsTb C H a cv rs ∧ CA H cv ps ∧ ColP ps ∧ RowW ps (rs.map (·.2)) ∧ rs.length ≤ 1300 ∧ Dh H (.ref p) st.d ∧ Lead (osOf tbs) ps st qs ∧ st.w = wd ∧ st.Pl ∧
  ((st.chk = true → (stepB tbs ps st (rs.map (·.2))).length ≤ 1000) → ∀ (l : Addr) (H' : Hp) (rs' : RowsL), Same H H' → H' l = some (.lst (rs'.map (·.1))) → RowsAt H' rs' → rs'.map (·.2) = stepB tbs ps st (rs.map (·.2)) → Q (.ref l) H') ∧
  (st.chk = true → 1000 < (stepB tbs ps st (rs.map (·.2))).length → ∀ H', Same H H' → TellsF CT "size" H' (.int ((stepB tbs ps st (rs.map (·.2))).length : Nat)) E)
theorem le_sum : ∀ {l : List Nat} {n : Nat}, n ∈ l → n ≤ l.sum
  | [], _, h => by cases h
  | x :: l, n, h => by
    rw [List.sum_cons]
    rcases List.mem_cons.mp h with rfl | h
    · omega
    · have := le_sum h
      omega
/-- lineages of rows in a list -/
theorem lins_turn {H H1 : Hp} {D la : Addr} {ys : List V} {ls : List Lin} {l : Lin} (hD : H D = none) (e : H1 D = some (.lst ys)) (h : LinsAt H1 ys ls) (ll : ys.length ≤ 1300) (d : Dh H1 (.ref la) (linD l)) (s : Same H H1) : ∃ acc, H1 D = some (.lst acc) ∧ acc.length < sizeLine ∧ ((∃ ys, L2.upd H1 D (.lst (acc ++ [.ref la])) D = some (.lst ys) ∧ LinsAt (L2.upd H1 D (.lst (acc ++ [.ref la]))) ys (ls ++ [l])) ∧ Same H (L2.upd H1 D (.lst (acc ++ [.ref la])))) :=
  ⟨ys, e, lt_size ll, ⟨_, upd_same, (h.t (SameT.lst e)).snoc (d.t (SameT.lst e) (lin_noL l))⟩, fun b o q => by rw [upd_ne (ne_of_none q hD)]; exact s b o q⟩
/-- a row put at the end -/
theorem row_turn {H H1 : Hp} {D t : Addr} {rs : RowsL} {r : RowD} (hD : H D = none) (e : H1 D = some (.lst (rs.map (·.1)))) (ra : RowsAt H1 rs) (ok : RowsOk rs) (ll : rs.length ≤ 1300) (d : Dh H1 (.ref t) r.d) (n : noLs r.vals = true) (lo : LinOk r.lin) (s : Same H H1) : ∃ acc, H1 D = some (.lst acc) ∧ acc.length < sizeLine ∧ (L2.upd H1 D (.lst (acc ++ [.ref t])) D = some (.lst ((rs ++ [((.ref t : V), r)]).map (·.1))) ∧ RowsAt (L2.upd H1 D (.lst (acc ++ [.ref t]))) (rs ++ [((.ref t : V), r)]) ∧ RowsOk (rs ++ [((.ref t : V), r)]) ∧ Same H (L2.upd H1 D (.lst (acc ++ [.ref t])))) :=
  ⟨_, e, lt_size (by rw [List.length_map]; exact ll), by rw [upd_same, List.map_append]; rfl, fun q hq => by
    rcases List.mem_append.mp hq with hq | hq
    · exact (ra q hq).t (SameT.lst e) (row_noL (ok q hq).1)
    · rw [List.mem_singleton.mp hq]
      exact d.t (SameT.lst e) (row_noL n), fun q hq => by
    rcases List.mem_append.mp hq with hq | hq
    · exact ok q hq
    · rw [List.mem_singleton.mp hq]
      exact ⟨n, lo⟩, fun b o q => by rw [upd_ne (ne_of_none q hD)]; exact s b o q⟩
abbrev ttKr (K : PySem.W.Frag) : TT := tTest (tOp rIsBA (tCall spEvT [] E0 (tCons (tVar 3) (tCons (tOp (rIxT K) (tVar 4) (tC (.int 0))) (tCons (tOp (rIxT K) (tVar 2) (tC (.int 1))) tNil)))) (tC (.bl true)))
abbrev ttSr (K : PySem.W.Frag) : TT := tTest (tOp (rI0 fun i j => V.bl (decide (i < j))) (tCall spNum [] E0 (tCons (tVar 6) (tCons (tOp (rIxT K) (tVar 7) (tC (.int 1))) (tCons (tVar 5) tNil)))) (tVar 4))
theorem tk_le (n : Nat) (rs : RowsL) : (rs.take n).length ≤ rs.length := by rw [List.length_take]; omega
theorem cut_take (ys : List V) {n : Int} (h : 0 ≤ n) : cutV ys none (some n) = ys.take n.toNat := by
  unfold cutV
  have e1 : HT.sIx ys.length 0 none = 0 := rfl
  have e2 : HT.sIx ys.length ys.length (some n) = min n.toNat ys.length := by
    have : n = ((n.toNat : Nat) : Int) := by omega
    rw [this, HT.sIx_nat]
    rfl
  rw [e1, e2, List.drop_zero, Nat.sub_zero]
  rcases Nat.le_total n.toNat ys.length with q | q
  · rw [Nat.min_eq_left q]
  · rw [Nat.min_eq_right q, List.take_length, List.take_of_length_le q]
abbrev ttAd (K : PySem.W.Frag) : TT := tTest (tOp (rIn K true) (tVar 10) (tVar 5))
abbrev rLenS (K : PySem.W.Frag) : List V → Hp → VK → Prop := fun xs H Q => ∃ p ys, xs = [V.ref p] ∧ (SqL K H p ys ∨ SqT K H p ys) ∧ Q (.int (ys.length : Nat)) H
abbrev teLn (K : PySem.W.Frag) : TE := tCB (rLenS K) (tCons (tVar 15) tNil)
theorem keysR_in {R : Type} (ky : R → List PyData) {rs : List R} {r : R} (h : r ∈ rs) : nkDs (ky r) ∈ (keysR ky rs).map nkDs := by
  induction rs using snoc_ind with
  | h0 => cases h
  | h1 rs s ih =>
    rw [keysR_snoc]
    rcases List.mem_append.mp h with h | h
    · have := ih h
      split
      · exact this
      · rw [List.map_append]; exact List.mem_append_left _ this
    · rw [List.mem_singleton.mp h]
      split
      · next y => exact y
      · rw [List.map_append]; exact List.mem_append_right _ List.mem_cons_self
theorem valN_mem {k : NestedKey} {v : V} : ∀ {L : List NkE}, valN L k = some v → v ∈ L.map (·.2.2)
  | [], h => by cases h
  | e :: L, h => by
    unfold valN at h
    by_cases q : e.1 = k
    · rw [if_pos q] at h
      obtain rfl := Option.some.inj h
      exact List.mem_cons_self
    · rw [if_neg q] at h
      exact List.mem_cons_of_mem _ (valN_mem h)
theorem eqv_none (z : PyData) : PyData.eqv z .none = isN z := by cases z <;> rfl
theorem any_none (ds : List PyData) : (ds.any fun z => PyData.eqv z .none) = hasN ds := by
  unfold hasN
  congr 1
  funext z
  exact eqv_none z
theorem dep_le {n : Nat} : ∀ {ds : List PyData}, (∀ d ∈ ds, d.depth ≤ n) → PyData.depthAll ds ≤ n
  | [], _ => by rw [PyData.depthAll]; exact Nat.zero_le _
  | d :: ds, h => by
    have h1 := h d List.mem_cons_self
    have h2 := dep_le fun x hx => h x (List.mem_cons_of_mem _ hx)
    rw [PyData.depthAll]
    omega
theorem key_shpT {ds : List PyData} (h : KeyOk ds) : SeqAt.shaped (.tuple ds) = true ∧ (PyData.tuple ds).canLay0 = true := by
  have c : (PyData.tuple ds).canLay0 = true := by
    rw [PyData.canLay0]
    exact cans_all fun d hd => (h d hd).2.2.2.1
  refine ⟨Bool.and_eq_true_iff.mpr ⟨c, decide_eq_true ?_⟩, c⟩
  have := dep_le (n := 1) fun d hd => (h d hd).2.2.2.2
  rw [PyData.depth]
  omega
/-- the group of a key -/
theorem GrpAt.look {H : Hp} {k : List PyData} : ∀ {L : List NkE} {G : Grp (V × RowD)}, GrpAt H L G → (valN L (.tup (nkDs k)) = none ∧ ∀ x ∈ G, nkDs x.1 ≠ nkDs k) ∨ ∃ la x, x ∈ G ∧ nkDs x.1 = nkDs k ∧ valN L (.tup (nkDs k)) = some (.ref la) ∧ H la = some (.lst (x.2.map (·.1)))
  | _, _, .nil => .inl ⟨rfl, nofun⟩
  | _, _, .cons (la := la) (key := key) hk ko el r => by
    unfold valN
    by_cases e : NestedKey.tup (nkDs key) = .tup (nkDs k)
    · rw [if_pos e]
      exact .inr ⟨la, _, List.mem_cons_self, by injection e, rfl, el⟩
    · rw [if_neg e]
      rcases r.look with ⟨h1, h2⟩ | ⟨lb, x, h1, h2, h3, h4⟩
      · refine .inl ⟨h1, fun x hx => ?_⟩
        rcases List.mem_cons.mp hx with rfl | hx
        · exact fun z => e (by rw [z])
        · exact h2 x hx
      · exact .inr ⟨lb, x, List.mem_cons_of_mem _ h1, h2, h3, h4⟩
def matesR (ky : V × RowD → List PyData) (k : List PyData) (rs : RowsL) : RowsL := rs.filter fun r => decide (nkDs (ky r) = nkDs k)
theorem grp_look {H : Hp} {ky : V × RowD → List PyData} {rs : RowsL} {L : List NkE} (g : GrpAt H L (grpR ky rs)) (k : List PyData) : (valN L (.tup (nkDs k)) = none ∧ matesR ky k rs = []) ∨ ∃ la, valN L (.tup (nkDs k)) = some (.ref la) ∧ H la = some (.lst ((matesR ky k rs).map (·.1))) := by
  rcases g.look (k := k) with ⟨h1, h2⟩ | ⟨la, x, h1, h2, h3, h4⟩
  · refine .inl ⟨h1, List.filter_eq_nil_iff.mpr fun r hr => ?_⟩
    rw [decide_eq_true_iff]
    intro e
    obtain ⟨k', hk', e'⟩ := List.mem_map.mp (keysR_in ky hr)
    refine h2 (k', rs.filter fun r => decide (nkDs (ky r) = nkDs k')) ?_ (e'.trans e)
    rw [grpR_eq]
    exact List.mem_map_of_mem (f := fun k => (k, rs.filter fun r => decide (nkDs (ky r) = nkDs k))) hk'
  · refine .inr ⟨la, h3, ?_⟩
    rw [grpR_eq] at h1
    obtain ⟨k', _, rfl⟩ := List.mem_map.mp h1
    have h2 : nkDs k' = nkDs k := h2
    unfold matesR
    rw [← h2]
    exact h4
abbrev PrL : Type := List ((V × RowD) × RowsL)
def prR (js ls : List Nat) (os : RowsL) (r : V × RowD) : PrL := if hasN (atJ js r) = true then [] else [(r, matesR (atJ ls) (atJ js r) os)]
def outP (ad : List Nat) (p : (V × RowD) × RowsL) : List RowD := p.2.map fun o => outJ ad p.1.2 o.2
theorem prR_len (js ls : List Nat) (os : RowsL) (r : V × RowD) : (prR js ls os r).length ≤ 1 := by
  unfold prR
  split <;> simp
theorem prs_len (js ls : List Nat) (os : RowsL) : ∀ rs : RowsL, (rs.flatMap (prR js ls os)).length ≤ rs.length
  | [] => Nat.le_refl _
  | r :: rs => by
    have h1 := prs_len js ls os rs
    have h2 := prR_len js ls os r
    rw [List.flatMap_cons, List.length_append, List.length_cons]
    omega
theorem prs_mem {js ls : List Nat} {os rs : RowsL} {p : (V × RowD) × RowsL} (h : p ∈ rs.flatMap (prR js ls os)) : p.1 ∈ rs ∧ ∀ o ∈ p.2, o ∈ os := by
  obtain ⟨r, hr, hp⟩ := List.mem_flatMap.mp h
  unfold prR at hp
  split at hp
  · cases hp
  · rw [List.mem_singleton.mp hp]
    exact ⟨hr, fun o ho => (List.mem_filter.mp ho).1⟩
theorem prs_out (js ls ad : List Nat) (os : RowsL) : ∀ rs : RowsL, (rs.flatMap (prR js ls os)).flatMap (outP ad) = joinL js ls ad (os.map (·.2)) (rs.map (·.2))
  | [] => rfl
  | r :: rs => by
    rw [List.flatMap_cons, List.flatMap_append, prs_out js ls ad os rs, List.map_cons]
    unfold joinL
    rw [List.flatMap_cons]
    congr 1
    show (prR js ls os r).flatMap (outP ad) = (mates js ls (os.map (·.2)) r.2).map (outJ ad r.2)
    unfold prR mates
    by_cases q : hasN (atJ js r) = true
    · rw [if_pos q, if_pos (show hasN (atD js r.2) = true from q)]
      rfl
    · rw [if_neg q, if_neg (show ¬ hasN (atD js r.2) = true from q), List.flatMap_cons, List.flatMap_nil, List.append_nil, List.filter_map, List.map_map]
      rfl
theorem prs_sum (ad : List Nat) : ∀ prs : PrL, (prs.flatMap (outP ad)).length = (prs.map fun p => p.2.length).sum
  | [] => rfl
  | p :: prs => by
    rw [List.flatMap_cons, List.length_append, prs_sum ad prs, List.map_cons, List.sum_cons]
    unfold outP
    rw [List.length_map]
theorem sum_int : ∀ l : List Nat, (l.map fun n => ((n : Nat) : Int)).sum = ((l.sum : Nat) : Int)
  | [] => rfl
  | n :: l => by rw [List.map_cons, List.sum_cons, List.sum_cons, sum_int l]; omega
/-- pairs of a row and those that stand with it, W another list -/
inductive PrAt (H : Hp) (W : Addr) : List V → PrL → Prop
  | nil : PrAt H W [] []
  | cons {t la : Addr} {r : V × RowD} {mem : RowsL} {xs : List V} {prs : PrL} (e : H t = some (.tup [r.1, .ref la])) (el : H la = some (.lst (mem.map (·.1)))) (n : la ≠ W) (q : PrAt H W xs prs) : PrAt H W (.ref t :: xs) ((r, mem) :: prs)
theorem PrAt.same {H H' : Hp} {W : Addr} (s : Same H H') : ∀ {xs : List V} {prs : PrL}, PrAt H W xs prs → PrAt H' W xs prs
  | _, _, .nil => .nil
  | _, _, .cons e el n q => .cons (s _ _ e) (s _ _ el) n (q.same s)
theorem PrAt.len {H : Hp} {W : Addr} : ∀ {xs : List V} {prs : PrL}, PrAt H W xs prs → xs.length = prs.length
  | _, _, .nil => rfl
  | _, _, .cons _ _ _ q => by rw [List.length_cons, List.length_cons, q.len]
theorem PrAt.upd {H : Hp} {W : Addr} {zs ys : List V} (hc : H W = some (.lst zs)) : ∀ {xs : List V} {prs : PrL}, PrAt H W xs prs → PrAt (L2.upd H W (.lst ys)) W xs prs
  | _, _, .nil => .nil
  | _, _, .cons e el n q => .cons (by rw [upd_ne (ne_of e hc nofun)]; exact e) (by rw [upd_ne n]; exact el) n (PrAt.upd hc q)
theorem PrAt.snoc {H : Hp} {W t la : Addr} {r : V × RowD} {mem : RowsL} (e : H t = some (.tup [r.1, .ref la])) (el : H la = some (.lst (mem.map (·.1)))) (n : la ≠ W) : ∀ {xs : List V} {prs : PrL}, PrAt H W xs prs → PrAt H W (xs ++ [.ref t]) (prs ++ [(r, mem)])
  | _, _, .nil => .cons e el n .nil
  | _, _, .cons a b c q => .cons a b c (q.snoc e el n)
theorem PrAt.get {H : Hp} {W : Addr} : ∀ {xs : List V} {prs : PrL}, PrAt H W xs prs → ∀ {i : Nat} {x : V}, xs[i]? = some x → ∃ t la r mem, prs[i]? = some (r, mem) ∧ x = .ref t ∧ H t = some (.tup [r.1, .ref la]) ∧ H la = some (.lst (mem.map (·.1)))
  | _, _, .nil, i, x, e => by simp at e
  | _, _, .cons a b _ q, 0, x, e => by cases e; exact ⟨_, _, _, _, rfl, rfl, a, b⟩
  | _, _, .cons a b _ q, i + 1, x, e => by
    obtain ⟨t, la, r, mem, h1, h2⟩ := q.get (i := i) (by simpa using e)
    exact ⟨t, la, r, mem, by simpa using h1, h2⟩
theorem adJ_lt {cs : CsL} {ks : List Str} : ∀ j ∈ adJ cs ks, j < cs.length := fun j hj => List.mem_range.mp (List.mem_filter.mp hj).1
theorem adJ_len (cs : CsL) (ks : List Str) : (adJ cs ks).length ≤ cs.length := Nat.le_trans (List.length_filter_le _ _) (by rw [List.length_range]; exact Nat.le_refl _)
theorem jx_lt {cs : CsL} {ks : List Str} (h : ∀ n ∈ ks, n ∈ nms cs) : ∀ j ∈ jx cs ks, j < (cs.map (·.2)).length := fun j hj => by
  obtain ⟨n, hn, rfl⟩ := List.mem_map.mp hj
  have := List.idxOf_lt_length_of_mem (h n hn)
  rw [List.length_map] at this ⊢
  exact this
theorem at_noL {ks : List Str} {r : RowD} (h : Vks ks r.vals) {js : List Nat} (hj : ∀ j ∈ js, j < ks.length) : ∀ d ∈ atD js r, noL d = true := fun d hd => by
  obtain ⟨j, h1, rfl⟩ := List.mem_map.mp hd
  have lv := h.len
  refine h.noL _ ?_
  have lj := hj j h1
  rw [List.getD_eq_getElem?_getD, List.getElem?_eq_getElem (show j < r.vals.length by omega)]
  exact List.getElem_mem _
section
variable {P : Program} {w : World} {K : PySem.W.Frag} {mg : Str → Option Value} {base : Heap} {f : Addr} {fd : FuncData}
abbrev sKr : Stmt := top 106
abbrev nKr : List Str := ["tables", "table", "step", "columns", "row"]
abbrev pKr : List Str := ["tables", "table", "step"]
theorem scKr : FnScope nKr pKr (defScope sKr) := ⟨rfl, rfl, rfl, by decide +kernel, rfl, by decide +kernel, by decide +kernel⟩
section
variable {fA_ : Addr} {fdA_ : FuncData}
theorem ok_Kr (F : Fun K "kept_rows" "kept_rows" sKr f fd) (T : Bt mg) {C CT : Addr} (M : TbM P w K mg base C)
    (GA_ : FnOk P w K mg base CX0 2 fA_ fdA_ ["columns", "values", "expression"] (spEvT)) (mA_ : mg "evaluate" = some (.ref fA_)) (kA_ : PySem.W.keepIn K (.ref fA_) = true) (bA_ : Binds K fdA_ ["columns", "values", "expression"] []) : FnOk P w K mg base CX0 3 f fd pKr ((spRb C CT "keep")) := by
  refine F.ok scKr (fun vs H Q E h => ?_) (fun cdv A outer s H vs Q E hr h => ?_)
  · obtain ⟨D0, a, cv, p, kvs, tbs, ps, qs, st, rs, rfl, _⟩ := h
    rfl
  · obtain ⟨D0, a, cv, p, kvs, tbs, ps, qs, st, rs, rfl, hD0, hT, wT, hI, hL, cp, rw, ln, hd, ld, hw, pl, k, kE⟩ := h
    have hrA_ : Room (2) _ := hr.mono (by first | decide | omega)
    obtain ⟨fI, fdI, GI, FI, bI⟩ := M.i
    obtain ⟨fC, fdC, hC, FC, bC⟩ := M.c
    obtain ⟨fR, fdR, hR, FR, bR⟩ := M.r
    have hr1 : Room 1 _ := hr.mono (by omega)
    refine ⟨_, (pss_cons (ps_set (i := 3) scKr.nd rfl (Or.inr rfl) (pe_meth0 (pv 1) GI.cls hC FC hr1 bC .nil pass0))
      (pss_one (ps_ret (pe_lc (own := [("row", 4)]) (g := (gName 4)) (tt := ttKr K) (te := tVar 4) (by rfl) scKr.nd (pi_list (pe_meth0 (pv 1) GI.cls hR FR hr1 bR .nil pass0)) (blkOk_by (own := [("row", 4)]) (N := nKr) (sc := defScope sKr) (by decide +kernel)) (fun _ _ _ _ _ => (pg_name (i := 4) scKr.nd rfl (.inl rfl))) (fun _ _ _ _ _ => (pts_one (pt_cmpR op_isBA (pe_call GA_ hrA_ (by rfl) mA_ kA_ bA_ .nil pass0 (pa_cons (pv 3) (pa_cons (pe_ix ix_tup (pv 4) pe_int (fun _ _ => rfl)) (pa_cons (pe_ix ix_tup (pv 2) pe_int (fun _ _ => rfl)) pa_nil)))) pe_bl (nomark _)))) (fun _ _ _ _ _ => (pv 4)))))), ?_⟩
    obtain ⟨e, rfl⟩ := Ps.of_keep hw
    cases ld with
    | keep =>
    obtain ⟨v, e1, dv⟩ := dh2 hd
    obtain ⟨va0, rfl, ea0⟩ := vT_at dv
    have k := k nofun
    obtain ⟨xs, zL, cc⟩ := id hL
    obtain ⟨dx, bv, h1, h2, h3⟩ := id hI
    have ok := rw.ok
    refine ⟨_, rfl, a, dx, _, rfl, h1, rfl, a, cv, rs, rfl, hI, ?_⟩
    refine ⟨_, rfl, a, dx, _, rfl, h1, rfl, a, cv, rs, rfl, hI, fun l hl => ?_⟩
    have zl := Same.upd (o := .lst (rs.map (·.1))) hl
    have el : L2.upd H l (.lst (rs.map (·.1))) l = some (.lst (rs.map (·.1))) := upd_same
    have r1 := (show RowsAt H rs from h3).same zl
    generalize L2.upd H l (.lst (rs.map (·.1))) = H1 at zl el r1 ⊢
    refine ⟨l, rfl, ⟨_, SqL.of el⟩, fun D hD => lc_list (K := K) (a := l) (xs := rs.map (·.1)) (fun i H' => H' D = some (.lst ((rs.take i).map (·.1))) ∧ Same H1 H') ⟨upd_same, Same.upd hD⟩ (fun i H' _ pr => SqL.of (pr.2 _ _ el)) ?_ ?_⟩
    · rintro i x H2 hx ⟨hD2, s2⟩
      rw [List.getElem?_map] at hx
      obtain ⟨r, er, rfl⟩ := Option.map_eq_some_iff.mp hx
      have rm := List.mem_of_getElem? er
      have li := (List.getElem?_eq_some_iff.mp er).1
      obtain ⟨ra, va, la, ev, e2, dvals, _⟩ := row_at ((r1 r rm).same s2)
      obtain ⟨vk, _⟩ := rw r.2 (List.mem_map_of_mem rm)
      have lv := vk.len
      have lc := cc.len
      rw [List.length_map] at lv
      cases dvals with
      | tup eu hu =>
      have lu := hu.len
      refine ⟨rfl, ?_⟩
      change ttKr K _ _ _
      have s02 := zl.trans s2
      refine ⟨_, rfl, _, rfl, ra, _, _, .ref va, ev, rfl, SqT.of e2, at_of (j := 0) rfl rfl, _, rfl, p, _, _, .ref va0, rfl, rfl, SqT.of (s02 _ _ e1), at_of (j := 1) rfl rfl, cv, va, va0, xs, _, ps, rfl, (zL.same s02).rd, eu, cc.t (SameT.of s02), by omega, cp.l8, s02 _ _ ea0, fun H3 s3 => ⟨true, rfl, _, rfl, ?_⟩⟩
      refine iteT ⟨_, rfl, _, s3 _ _ hD2, lt_size (by rw [List.length_map]; exact Nat.le_trans (tk_le i rs) (by omega)), ?_, fun b o e => by rw [upd_ne (ne_of_none e hD)]; exact (s2.trans s3) b o e⟩
      rw [upd_same, List.take_add_one, er, List.map_append]
      rfl
    rintro H2 ⟨hD2, s2⟩
    rw [List.length_map, List.take_length] at hD2
    exact k D H2 rs (zl.trans s2) hD2 (fun r hr => (r1 r hr).same s2) rfl
end
abbrev sSr : Stmt := top 113
abbrev nSr : List Str := ["tables", "table", "step", "word", "part", "whole", "seed", "row"]
abbrev pSr : List Str := ["tables", "table", "step"]
theorem scSr : FnScope nSr pSr (defScope sSr) := ⟨rfl, rfl, rfl, by decide +kernel, rfl, by decide +kernel, by decide +kernel⟩
section
variable {fA_ : Addr} {fdA_ : FuncData}
theorem ok_Sr (F : Fun K "sampled_rows" "sampled_rows" sSr f fd) (T : Bt mg) {C CT : Addr} (M : TbM P w K mg base C)
    (GA_ : FnOk P w K mg base CX0 1 fA_ fdA_ ["seed", "lineage", "whole"] (spNum)) (mA_ : mg "draw" = some (.ref fA_)) (kA_ : PySem.W.keepIn K (.ref fA_) = true) (bA_ : Binds K fdA_ ["seed", "lineage", "whole"] []) : FnOk P w K mg base CX0 3 f fd pSr ((spRb C CT "sample")) := by
  refine F.ok scSr (fun vs H Q E h => ?_) (fun cdv A outer s H vs Q E hr h => ?_)
  · obtain ⟨D0, a, cv, p, kvs, tbs, ps, qs, st, rs, rfl, _⟩ := h
    rfl
  · obtain ⟨D0, a, cv, p, kvs, tbs, ps, qs, st, rs, rfl, hD0, hT, wT, hI, hL, cp, rw, ln, hd, ld, hw, pl, k, kE⟩ := h
    have hrA_ : Room (1) _ := hr.mono (by first | decide | omega)
    obtain ⟨fI, fdI, GI, FI, bI⟩ := M.i
    obtain ⟨fC, fdC, hC, FC, bC⟩ := M.c
    obtain ⟨fR, fdR, hR, FR, bR⟩ := M.r
    have hr1 : Room 1 _ := hr.mono (by omega)
    refine ⟨_, (pss_cons (ps_asg (pv 2) (pg_tup rfl (pgs_cons (pg_name (i := 3) scSr.nd rfl (.inl rfl)) (pgs_cons (pg_name (i := 4) scSr.nd rfl (.inr rfl)) (pgs_cons (pg_name (i := 5) scSr.nd rfl (.inr rfl)) (pgs_cons (pg_name (i := 6) scSr.nd rfl (.inr rfl)) pgs_nil))))))
      (pss_one (ps_ret (pe_lc (own := [("row", 7)]) (g := (gName 7)) (tt := (ttSr K)) (te := (tVar 7)) (by rfl) scSr.nd (pi_list (pe_meth0 (pv 1) GI.cls hR FR hr1 bR .nil pass0)) (blkOk_by (own := [("row", 7)]) (N := nSr) (sc := defScope sSr) (by decide +kernel)) (fun _ _ _ _ _ => (pg_name (i := 7) scSr.nd rfl (.inl rfl))) (fun _ _ _ _ _ => (pts_one (pt_cmpR op_lt (pe_call GA_ hrA_ (by rfl) mA_ kA_ bA_ .nil pass0 (pa_cons (pv 6) (pa_cons (pe_ix ix_tup (pv 7) pe_int (fun _ _ => rfl)) (pa_cons (pv 5) pa_nil)))) (pv 4) (nomark _)))) (fun _ _ _ _ _ => (pv 7)))))), ?_⟩
    obtain ⟨pp, ww, ss, rfl⟩ := Ps.of_sample hw
    have k := k nofun
    cases ld with
    | sample o1 o2 o3 o4 =>
    have e := dh4 hd
    obtain ⟨xs, zL, cc⟩ := id hL
    obtain ⟨dx, bv, h1, h2, h3⟩ := id hI
    have ok := rw.ok
    refine ⟨_, rfl, p, _, rfl, SqT.of e, rfl, _, _, rfl, _, _, rfl, _, _, rfl, _, _, rfl, rfl, ?_⟩
    dsimp only [gNil]
    refine ⟨_, rfl, a, dx, _, rfl, h1, rfl, a, cv, rs, rfl, hI, fun l hl => ?_⟩
    have zl := Same.upd (o := .lst (rs.map (·.1))) hl
    have el : L2.upd H l (.lst (rs.map (·.1))) l = some (.lst (rs.map (·.1))) := upd_same
    have r1 := (show RowsAt H rs from h3).same zl
    generalize L2.upd H l (.lst (rs.map (·.1))) = H1 at zl el r1 ⊢
    refine ⟨l, rfl, ⟨_, SqL.of el⟩, fun D hD => lc_list (K := K) (a := l) (xs := rs.map (·.1)) (fun i H' => H' D = some (.lst ((rs.take i).map (·.1))) ∧ Same H1 H') ⟨upd_same, Same.upd hD⟩ (fun i H' _ pr => SqL.of (pr.2 _ _ el)) ?_ ?_⟩
    · rintro i x H2 hx ⟨hD2, s2⟩
      rw [List.getElem?_map] at hx
      obtain ⟨r, er, rfl⟩ := Option.map_eq_some_iff.mp hx
      have rm := List.mem_of_getElem? er
      have li := (List.getElem?_eq_some_iff.mp er).1
      obtain ⟨ra, va, la, ev, e2, _, d2⟩ := row_at ((r1 r rm).same s2)
      have lo := (rw r.2 (List.mem_map_of_mem rm)).2
      refine ⟨rfl, ?_⟩
      change ttSr K _ _ _
      refine ⟨_, rfl, _, rfl, ra, _, _, .ref la, ev, rfl, SqT.of e2, at_of (j := 1) rfl rfl, _, rfl, ss, ww, .ref la, r.2.lin, rfl, d2, lo, by omega, by omega, by omega, _, rfl, _, _, rfl, rfl, _, rfl, ?_⟩
      have lt : numL ss r.2.lin ww < (pp : Int) := by
        have := Int.emod_lt_of_pos (sumL ss r.2.lin) (show (0 : Int) < (ww : Int) by omega)
        show sumL ss r.2.lin % (ww : Int) < _
        have e3 : (pp : Int) = ww := by rw [show pp = ww from pl]
        omega
      rw [decide_eq_true lt]
      refine iteT ⟨_, rfl, _, hD2, lt_size (by rw [List.length_map, List.length_take]; omega), ?_, fun b o e => by rw [upd_ne (ne_of_none e hD)]; exact s2 b o e⟩
      rw [upd_same, List.take_add_one, er, List.map_append]
      rfl
    rintro H2 ⟨hD2, s2⟩
    rw [List.length_map, List.take_length] at hD2
    exact k D H2 rs (zl.trans s2) hD2 (fun r hr => (r1 r hr).same s2) rfl
end
abbrev sFr_ : Stmt := top 112
abbrev nFr_ : List Str := ["tables", "table", "step"]
abbrev pFr_ : List Str := ["tables", "table", "step"]
theorem scFr_ : FnScope nFr_ pFr_ (defScope sFr_) := ⟨rfl, rfl, rfl, by decide +kernel, rfl, by decide +kernel, by decide +kernel⟩
section
theorem ok_Fr_ (F : Fun K "first_rows" "first_rows" sFr_ f fd) (T : Bt mg) {C CT : Addr} (M : TbM P w K mg base C) : FnOk P w K mg base CX0 3 f fd pFr_ ((spRb C CT "first")) := by
  refine F.ok scFr_ (fun vs H Q E h => ?_) (fun cdv A outer s H vs Q E hr h => ?_)
  · obtain ⟨D0, a, cv, p, kvs, tbs, ps, qs, st, rs, rfl, _⟩ := h
    rfl
  · obtain ⟨D0, a, cv, p, kvs, tbs, ps, qs, st, rs, rfl, hD0, hT, wT, hI, hL, cp, rw_, ln, hd, ld, hw, pl, k, kE⟩ := h
    obtain ⟨fI, fdI, GI, FI, bI⟩ := M.i
    obtain ⟨fC, fdC, hC, FC, bC⟩ := M.c
    obtain ⟨fR, fdR, hR, FR, bR⟩ := M.r
    have hr1 : Room 1 _ := hr.mono (by decide)
    refine ⟨_, (pss_one (ps_ret (pe_slice sl_list (pe_meth0 (pv 1) GI.cls hR FR hr1 bR .nil pass0) po_none (po_some (pe_ix ix_tup (pv 2) pe_int (fun _ _ => rfl)))))), ?_⟩
    obtain ⟨n, rfl⟩ := Ps.of_first hw
    have k := k nofun
    obtain ⟨v, e, dv⟩ := dh2 hd
    cases dv
    obtain ⟨dx, bv, h1, h2, h3⟩ := id hI
    refine ⟨_, rfl, a, dx, _, rfl, h1, rfl, a, cv, rs, rfl, hI, fun l hl => ?_⟩
    have zl := Same.upd (o := .lst (rs.map (·.1))) hl
    refine ⟨_, rfl, p, _, _, .int (n : Nat), rfl, rfl, SqT.of (zl _ _ e), at_of (j := 1) rfl rfl, n, rfl, l, _, rfl, SqL.of upd_same, fun r hr' => ?_⟩
    have zr := Same.upd (o := .lst (cutV (rs.map (·.1)) none (some (n : Int)))) hr'
    refine k r _ (rs.take n) (zl.trans zr) ?_ (fun q hq => ((show RowsAt H rs from h3) q (List.mem_of_mem_take hq)).same (zl.trans zr)) (by rw [List.map_take]; rfl)
    rw [upd_same, cut_take _ (Int.natCast_nonneg n), ← List.map_take, Int.toNat_natCast]
end
abbrev sCz : Stmt := top 115
abbrev nCz : List Str := ["size"]
abbrev pCz : List Str := ["size"]
theorem scCz : FnScope nCz pCz (defScope sCz) := ⟨rfl, rfl, rfl, by decide +kernel, rfl, by decide +kernel, by decide +kernel⟩
section
theorem ok_Cz (F : Fun K "check_size" "check_size" sCz f fd) (T : Bt mg) {uR : Tok} (mR : mg "MOST_ROWS" = some (.int 1000 uR)) {CT fT : Addr} {fdT : FuncData} (Z : ErO K mg "TooLarge" "size" CT fT) (GT : FnOk P w K mg base CX0 1 fT fdT ["self", "size"] (spIni CT "size")) (bT : Binds K fdT ["self", "size"] []) : FnOk P w K mg base (L2.CX P w) 3 f fd pCz ((spCz CT)) := by
  refine F.okX scCz (fun vs H Q E h => ?_) (fun cdv A outer s H vs Q E hr h => ?_)
  · obtain ⟨n, rfl, _⟩ := h
    rfl
  · obtain ⟨n, rfl, kQ, kE⟩ := h
    refine ⟨_, (pss_one (ps_if (pt_cmpR op_gt (pv 0) (pe_glob (v := .int 1000) (by rfl) mR ⟨_, rfl⟩) (nomark _)) (pss_one (ps_raise (W := fun cls d _ H => E cls d H) rfl (takes_of rfl rfl rfl rfl) (pmk_oexG PySem.F.excBase_OverflowError Z.oex Z.iC Z.tI GT hr bT .nil pass0 (by rfl) Z.gC (pa_cons (pv 0) pa_nil)))) pss_nil)), ?_⟩
    refine ⟨_, rfl, _, _, rfl, rfl, _, rfl, ?_⟩
    by_cases q : n ≤ 1000
    · rw [decide_eq_false (show ¬ (1000 < n) by omega)]
      exact iteF (kQ q)
    · rw [decide_eq_true (show 1000 < n by omega)]
      exact iteT ⟨_, rfl, by show 1 ≤ 1000; decide, tells_ofF (kE (by omega) H (Same.refl H))⟩
end
abbrev sUr : Stmt := top 117
abbrev nUr : List Str := ["tables", "table", "step", "rows"]
abbrev pUr : List Str := ["tables", "table", "step"]
theorem scUr : FnScope nUr pUr (defScope sUr) := ⟨rfl, rfl, rfl, by decide +kernel, rfl, by decide +kernel, by decide +kernel⟩
section
variable {fA_ : Addr} {fdA_ : FuncData}
theorem ok_Ur (F : Fun K "united_rows" "united_rows" sUr f fd) (T : Bt mg) {C CT : Addr} (M : TbM P w K mg base C)
    (GA_ : FnOk P w K mg base (L2.CX P w) 3 fA_ fdA_ ["size"] ((spCz CT))) (mA_ : mg "check_size" = some (.ref fA_)) (kA_ : PySem.W.keepIn K (.ref fA_) = true) (bA_ : Binds K fdA_ ["size"] []) : FnOk P w K mg base (L2.CX P w) 4 f fd pUr ((spRb C CT "union")) := by
  refine F.okX scUr (fun vs H Q E h => ?_) (fun cdv A outer s H vs Q E hr h => ?_)
  · obtain ⟨D0, a, cv, p, kvs, tbs, ps, qs, st, rs, rfl, _⟩ := h
    rfl
  · obtain ⟨D0, a, cv, p, kvs, tbs, ps, qs, st, rs, rfl, hD0, hT, wT, hI, hL, cp, rw_, ln, hd, ld, hw, pl, k, kE⟩ := h
    have hrA_ : Room (3) _ := hr.mono (by first | decide | omega)
    obtain ⟨fI, fdI, GI, FI, bI⟩ := M.i
    obtain ⟨fC, fdC, hC, FC, bC⟩ := M.c
    obtain ⟨fR, fdR, hR, FR, bR⟩ := M.r
    have hr1 : Room 1 _ := hr.mono (by omega)
    refine ⟨_, (pss_cons (ps_set (i := 3) scUr.nd rfl (Or.inl rfl) (pe_op op_cat (pe_meth0 (pv 1) GI.cls hR FR hr1 bR .nil pass0) (pe_meth0 (pe_dget (hu_of hr) (pv 0) (pe_ix ix_tup (pv 2) pe_int (fun _ _ => rfl)) (fun _ _ => rfl)) GI.cls hR FR hr1 bR .nil pass0)))
      (pss_cons (ps_expr (pe_callS GA_ hrA_ (by rfl) mA_ kA_ bA_ (fun σ => passAt (W := fun cls d _ H => E cls d H) (takes_of rfl rfl rfl rfl) σ) (pa_cons (pe_callB call_len_seq (by rfl) T.len PySem.boot_len (pa_cons (pv 3) pa_nil)) pa_nil)))
      (pss_one (ps_ret (pv 3))))), ?_⟩
    obtain ⟨t, rfl⟩ := Ps.of_union hw
    cases ld with
    | union ht =>
    obtain ⟨v, e1, dv⟩ := dh2 hd
    cases dv
    obtain ⟨rs2, ht2⟩ := os_mem ht
    obtain ⟨a2, cv2, ev, hI2, _, _, rw2, l2⟩ := hT.at wT.nd ht2
    have er := rowsOf_at wT.nd ht2
    have se : stepB tbs ps (.union t) (rs.map (·.2)) = (rs ++ rs2).map (·.2) := by
      show _ ++ rowsOf tbs t = _
      rw [er, List.map_append]
    rw [se, List.length_map] at kE k
    have l13 : rs.length + rs2.length ≤ 2600 := by omega
    obtain ⟨dx, bv, h1, h2, h3⟩ := id hI
    obtain ⟨dx2, bv2, g1, g2, g3⟩ := id hI2
    refine ⟨_, rfl, a, dx, _, rfl, h1, rfl, a, cv, rs, rfl, hI, fun la hla => ?_⟩
    have z1 := Same.upd (o := .lst (rs.map (·.1))) hla
    have ea : L2.upd H la (.lst (rs.map (·.1))) la = some (.lst (rs.map (·.1))) := upd_same
    generalize L2.upd H la (.lst (rs.map (·.1))) = H1 at z1 ea ⊢
    refine ⟨_, rfl, _, rfl, p, _, _, .str t, rfl, rfl, SqT.of (z1 _ _ e1), at_of (j := 1) rfl rfl, D0, .ref a2, rfl, ?_, a2, dx2, _, rfl, z1 _ _ g1, rfl, a2, cv2, rs2, rfl, hI2.same z1, fun lb hlb => ?_⟩
    · have q := DGet.k (k := (Sum.inr t : Key)) (z1 _ _ hD0)
      rw [ev] at q
      exact q
    have z2 := Same.upd (o := .lst (rs2.map (·.1))) hlb
    have eb : L2.upd H1 lb (.lst (rs2.map (·.1))) lb = some (.lst (rs2.map (·.1))) := upd_same
    generalize L2.upd H1 lb (.lst (rs2.map (·.1))) = H2 at z2 eb ⊢
    refine ⟨la, lb, _, _, rfl, rfl, z2 _ _ ea, eb, by rw [List.length_map, List.length_map]; exact Nat.le_trans l13 (by decide), fun R hR => ?_⟩
    have z3 := Same.upd (o := .lst (rs.map (·.1) ++ rs2.map (·.1))) hR
    have eR : L2.upd H2 R (.lst (rs.map (·.1) ++ rs2.map (·.1))) R = some (.lst (rs.map (·.1) ++ rs2.map (·.1))) := upd_same
    generalize L2.upd H2 R (.lst (rs.map (·.1) ++ rs2.map (·.1))) = H3 at z3 eR ⊢
    have s03 := z1.trans (z2.trans z3)
    have lR : (rs.map (·.1) ++ rs2.map (·.1)).length = (rs ++ rs2).length := by rw [List.length_append, List.length_map, List.length_map, List.length_append]
    refine ⟨_, rfl, R, _, rfl, .inl (SqL.of eR), _, rfl, fun q => ?_, fun q H4 s4 => ?_⟩
    · refine ⟨_, rfl, ?_⟩
      refine k (fun _ => by omega) R H3 (rs ++ rs2) s03 (by rw [List.map_append]; exact eR) (fun r hr => ?_) rfl
      rcases List.mem_append.mp hr with hr | hr
      · exact ((show RowsAt H rs from h3) r hr).same s03
      · exact ((show RowsAt H rs2 from g3) r hr).same s03
    · rw [lR]
      exact kE rfl (by omega) H4 (s03.trans s4)
end
abbrev sJr : Stmt := top 116
abbrev nJr : List Str := ["tables", "table", "step", "word", "other", "names", "others", "places", "added", "at", "name", "partners", "pairs", "row", "key", "found", "rows", "values", "lineage", "more", "origin"]
abbrev pJr : List Str := ["tables", "table", "step"]
theorem scJr : FnScope nJr pJr (defScope sJr) := ⟨rfl, rfl, rfl, by decide +kernel, rfl, by decide +kernel, by decide +kernel⟩
section
variable {fA_ fB_ fC_ fD_ fE_ fF_ : Addr} {fdA_ fdB_ fdC_ fdD_ fdE_ fdF_ : FuncData}
theorem ok_Jr (F : Fun K "joined_rows" "joined_rows" sJr f fd) (T : Bt mg) {C CT : Addr} (M : TbM P w K mg base C) (mU : mg "sum" = none)
    (GA_ : FnOk P w K mg base CX0 2 fA_ fdA_ ["columns", "names"] (spPo)) (mA_ : mg "places_of" = some (.ref fA_)) (kA_ : PySem.W.keepIn K (.ref fA_) = true) (bA_ : Binds K fdA_ ["columns", "names"] [])
    (GB_ : FnOk P w K mg base CX0 2 fB_ fdB_ ["rows", "places"] ((spGr P w))) (mB_ : mg "grouped" = some (.ref fB_)) (kB_ : PySem.W.keepIn K (.ref fB_) = true) (bB_ : Binds K fdB_ ["rows", "places"] [])
    (GC_ : FnOk P w K mg base CX0 1 fC_ fdC_ ["values", "places"] (spPc)) (mC_ : mg "picked" = some (.ref fC_)) (kC_ : PySem.W.keepIn K (.ref fC_) = true) (bC_ : Binds K fdC_ ["values", "places"] [])
    (GD_ : FnOk P w K mg base (L2.CX P w) 3 fD_ fdD_ ["size"] ((spCz CT))) (mD_ : mg "check_size" = some (.ref fD_)) (kD_ : PySem.W.keepIn K (.ref fD_) = true) (bD_ : Binds K fdD_ ["size"] [])
    (GE_ : FnOk P w K mg base CX0 1 fE_ fdE_ ["lineages"] (spUn)) (mE_ : mg "union_of" = some (.ref fE_)) (kE_ : PySem.W.keepIn K (.ref fE_) = true) (bE_ : Binds K fdE_ ["lineages"] [])
    (GF_ : FnOk P w K mg base CX0 1 fF_ fdF_ ["columns"] (spNo)) (mF_ : mg "names_of" = some (.ref fF_)) (kF_ : PySem.W.keepIn K (.ref fF_) = true) (bF_ : Binds K fdF_ ["columns"] []) : FnOk P w K mg base (L2.CX P w) 5 f fd pJr ((spRb C CT "join")) := by
  refine F.okX scJr (fun vs H Q E h => ?_) (fun cdv A outer s H vs Q E hr h => ?_)
  · obtain ⟨D0, a, cv, p, kvs, tbs, ps, qs, st, rs, rfl, _⟩ := h
    rfl
  · obtain ⟨D0, a, cv, p, kvs, tbs, ps, qs, st, rs, rfl, hD0, hT, wT, hI, hL, cp, rw_, ln, hd, ld, hw, pl, k, kE⟩ := h
    have hrA_ : Room (2) _ := hr.mono (by first | decide | omega)
    have hrB_ : Room (2) _ := hr.mono (by first | decide | omega)
    have hrC_ : Room (1) _ := hr.mono (by first | decide | omega)
    have hrD_ : Room (3) _ := hr.mono (by first | decide | omega)
    have hrE_ : Room (1) _ := hr.mono (by first | decide | omega)
    have hrF_ : Room (1) _ := hr.mono (by first | decide | omega)
    obtain ⟨fI, fdI, GI, FI, bI⟩ := M.i
    obtain ⟨fC, fdC, hC, FC, bC⟩ := M.c
    obtain ⟨fR, fdR, hR, FR, bR⟩ := M.r
    have hr1 : Room 1 _ := hr.mono (by omega)
    have hu16 := Nat.lt_of_le_of_lt (Nat.add_le_add_left (show 16 ≤ 64 by decide) _) hr.units
    refine ⟨_, (pss_cons (ps_asg (pv 2) (pg_tup rfl (pgs_cons (pg_name (i := 3) scJr.nd rfl (.inl rfl)) (pgs_cons (pg_name (i := 4) scJr.nd rfl (.inl rfl)) (pgs_cons (pg_name (i := 5) scJr.nd rfl (.inr rfl)) pgs_nil)))))
      (pss_cons (ps_set (i := 6) scJr.nd rfl (Or.inl rfl) (pe_dget (hu_of hr) (pv 0) (pv 4) (fun _ _ => rfl)))
      (pss_cons (ps_set (i := 7) scJr.nd rfl (Or.inl rfl) (pe_call GA_ hrA_ (by rfl) mA_ kA_ bA_ .nil pass0 (pa_cons (pe_meth0 (pv 1) GI.cls hC FC hr1 bC .nil pass0) (pa_cons (pv 5) pa_nil))))
      (Evl.pss_cut (ps_setLc (i := 8) (own := [("at", 9), ("name", 10)]) (g := (gTup K 2 (gCons (gName 9) (gCons (gName 10) gNil)))) (tt := ttAd K) (te := tVar 9) (by rfl) scJr.nd rfl rfl (sw_true rfl rfl rfl (by decide +kernel)) (pi_enum (by rfl) T.enum (pa_cons (pe_call GF_ hrF_ (by rfl) mF_ kF_ bF_ .nil pass0 (pa_cons (pe_meth0 (pv 6) GI.cls hC FC hr1 bC .nil pass0) pa_nil)) pa_nil)) (blkOk_by (own := [("at", 9), ("name", 10)]) (N := nJr) (sc := defScope sJr) (by decide +kernel)) (fun _ _ _ _ _ => (pg_tup rfl (pgs_cons (pg_name (i := 9) scJr.nd rfl (.inl rfl)) (pgs_cons (pg_name (i := 10) scJr.nd rfl (.inl rfl)) pgs_nil)))) (fun _ _ _ _ _ => (pts_one (pt_cmpR op_notIn_seq (pv 10) (pv 5) (by rfl)))) (fun _ _ _ _ _ => (pv 9)))
      (Evl.pss_cut (ps_set (i := 11) scJr.nd rfl (Or.inl rfl) (pe_call GB_ hrB_ (by rfl) mB_ kB_ bB_ .nil pass0 (pa_cons (pe_meth0 (pv 6) GI.cls hR FR hr1 bR .nil pass0) (pa_cons (pe_call GA_ hrA_ (by rfl) mA_ kA_ bA_ .nil pass0 (pa_cons (pe_meth0 (pv 6) GI.cls hC FC hr1 bC .nil pass0) (pa_cons (pv 5) pa_nil))) pa_nil))))
      (pss_cons (ps_set (i := 12) scJr.nd rfl (Or.inl rfl) (pe_lst pa_nil))
      (Evl.pss_cut (ps_for (passes_of rfl) rfl (pi_list (pe_meth0 (pv 1) GI.cls hR FR hr1 bR .nil pass0)) (pg_name (i := 13) scJr.nd rfl (.inl rfl)) (pss_cons (ps_set (i := 14) scJr.nd rfl (Or.inl rfl) (pe_call GC_ hrC_ (by rfl) mC_ kC_ bC_ .nil pass0 (pa_cons (pe_ix ix_tup (pv 13) pe_int (fun _ _ => rfl)) (pa_cons (pv 7) pa_nil))))
      (pss_one (ps_if (pt_cmpR (op_notInDT (hu65 hr)) pe_non (pv 14) (by rfl)) (pss_one (ps_expr (pe_bm PySem.F.plainAttrs_list PySem.F.slot_list_append PySem.F.type_list_append mt_append (pv 12) (pa_cons (pe_tup (pa_cons (pv 13) (pa_cons (pe_bmN PySem.F.slot_dict_get PySem.F.type_dict_get (mt_getN hu16) (pv 11) (pa_cons (pv 14) (pa_cons (pe_lst pa_nil) pa_nil))) pa_nil))) pa_nil)))) pss_nil))))
      (Evl.pss_cut (ps_expr (pe_callS GD_ hrD_ (by rfl) mD_ kD_ bD_ (fun σ => passAt (W := fun cls d _ H => E cls d H) (takes_of rfl rfl rfl rfl) σ) (pa_cons (pe_callB (cr_sum rfl) (by rfl) mU (by decide +kernel) (pa_cons (pe_lc (own := [("row", 13), ("found", 15)]) (g := (gTup K 2 (gCons (gName 13) (gCons (gName 15) gNil)))) (tt := tYes) (te := teLn K) (by rfl) scJr.nd (pi_list (pv 12)) (blkOk_by (own := [("row", 13), ("found", 15)]) (N := nJr) (sc := defScope sJr) (by decide +kernel)) (fun _ _ _ _ _ => (pg_tup rfl (pgs_cons (pg_name (i := 13) scJr.nd rfl (.inl rfl)) (pgs_cons (pg_name (i := 15) scJr.nd rfl (.inl rfl)) pgs_nil)))) (fun _ _ _ _ _ => pts_nil) (fun _ _ _ _ _ => (pe_callB call_len_seq (by rfl) T.len PySem.boot_len (pa_cons (pv 15) pa_nil)))) pa_nil)) pa_nil)))
      (pss_cons (ps_set (i := 16) scJr.nd rfl (Or.inl rfl) (pe_lst pa_nil))
      (Evl.pss_cut (ps_for (passes_of rfl) rfl (pi_list (pv 12)) (pg_tup rfl (pgs_cons (pg_tup rfl (pgs_cons (pg_name (i := 17) scJr.nd rfl (.inl rfl)) (pgs_cons (pg_name (i := 18) scJr.nd rfl (.inl rfl)) pgs_nil))) (pgs_cons (pg_name (i := 15) scJr.nd rfl (.inl rfl)) pgs_nil))) (pss_one (ps_for (passes_of rfl) rfl (pi_list (pv 15)) (pg_tup rfl (pgs_cons (pg_name (i := 19) scJr.nd rfl (.inl rfl)) (pgs_cons (pg_name (i := 20) scJr.nd rfl (.inl rfl)) pgs_nil))) (pss_one (ps_expr (pe_bm PySem.F.plainAttrs_list PySem.F.slot_list_append PySem.F.type_list_append mt_append (pv 16) (pa_cons (pe_tup (pa_cons (pe_op op_catA (pv 17) (pe_call GC_ hrC_ (by rfl) mC_ kC_ bC_ .nil pass0 (pa_cons (pv 19) (pa_cons (pv 8) pa_nil)))) (pa_cons (pe_call GE_ hrE_ (by rfl) mE_ kE_ bE_ .nil pass0 (pa_cons (pe_lst (pa_cons (pv 18) (pa_cons (pv 20) pa_nil))) pa_nil)) pa_nil))) pa_nil)))))))
      (pss_one (ps_ret (pv 16))))))))))))), ?_⟩
    have two : 2 ≤ sizeLine := by decide
    obtain ⟨t, ks, rfl⟩ := Ps.of_join hw
    cases ld with
    | @join _ _ cs ht nd l1 l3 hks hkd l8 =>
    obtain ⟨v, e1, dv⟩ := dh3 hd
    obtain ⟨b, rfl, eb⟩ := dh_strs dv
    obtain ⟨rs2, ht2⟩ := os_mem ht
    obtain ⟨a2, cv2, ev2, hI2, hL2, cpC, rw2, ln2⟩ := hT.at wT.nd ht2
    have ksp : ∀ n ∈ ks, n ∈ nms ps := fun n hn => ((hks n).mp hn).2
    have ksc : ∀ n ∈ ks, n ∈ nms cs := fun n hn => ((hks n).mp hn).1
    obtain ⟨dx, bv, h1, h2, h3⟩ := id hI
    obtain ⟨dx2, bv2, g1, g2, g3⟩ := id hI2
    have ra0 : RowsAt H rs := h3
    have ra2 : RowsAt H rs2 := g3
    have c8 := cpC.l8
    have p8 := cp.l8
    have okA := rw_.ok
    have okB := rw2.ok
    have se : stepB tbs ps (.join t ks) (rs.map (·.2)) = joinL (jx ps ks) (jx cs ks) (adJ cs ks) (rs2.map (·.2)) (rs.map (·.2)) := by
      show joinL _ (jx (colsOf tbs t) ks) (adJ (colsOf tbs t) ks) (rowsOf tbs t) _ = _
      rw [colsOf_at wT.nd ht2, rowsOf_at wT.nd ht2]
    rw [se, ← prs_out] at k kE
    have hjs := jx_lt (cs := ps) ksp
    have hls := jx_lt (cs := cs) ksc
    have had := adJ_lt (cs := cs) (ks := ks)
    have ljs : (jx ps ks).length ≤ 8 := by unfold jx; rw [List.length_map]; omega
    have lls : (jx cs ks).length ≤ 8 := by unfold jx; rw [List.length_map]; omega
    have lad := adJ_len cs ks
    have lps : (ps.map (·.2)).length = ps.length := List.length_map _
    have lcs : (cs.map (·.2)).length = cs.length := List.length_map _
    have fl : (vS ks).all flatV = true := List.all_eq_true.mpr fun v hv => by
      obtain ⟨x, _, rfl⟩ := List.mem_map.mp hv
      rfl
    have gd := DGet.k (k := (Sum.inr t : Key)) hD0
    rw [ev2] at gd
    refine ⟨_, rfl, p, _, rfl, SqT.of e1, rfl, _, _, rfl, _, _, rfl, _, _, rfl, rfl, ?_⟩
    dsimp only [gNil]
    refine ⟨_, rfl, _, rfl, D0, .ref a2, rfl, gd, ?_⟩
    refine ⟨_, rfl, a, dx, _, rfl, h1, rfl, a, cv, rs, rfl, hI, _, rfl, cv, b, ps, ks, rfl, hL, cp, eb, ksp, by omega, fun J H1 s1 eJ => ?_⟩
    have eJ : H1 J = some (.lst (jsV (jx ps ks))) := eJ
    -- what is added
    refine ⟨fun σ H' => ∃ A : Addr, σ = [some (.ref D0), some (.ref a), some (.ref p), some (.str "join"), some (.str t), some (.ref b), some (.ref a2), some (.ref J), some (.ref A), none, none, none, none, none, none, none, none, none, none, none, none] ∧ H' A = some (.lst (jsV (adJ cs ks))) ∧ Same H1 H', ?_, ?_⟩
    · refine ⟨_, rfl, a2, dx2, _, rfl, s1 _ _ g1, rfl, a2, cv2, rs2, rfl, hI2.same s1, cv2, cs, rfl, hL2.same s1, c8, fun W H2 s2 _ eW => ⟨W, vS (nms cs), rfl, SqL.of eW, fun A hA => lc_it (walk_enum (K := K) (a := W) (xs := vS (nms cs))) (fun i H' => H' A = some (.lst (jsV ((List.range i).filter fun j => decide ((nms cs).getD j "" ∉ ks)))) ∧ Same H2 H') ⟨upd_same, Same.upd hA⟩ (fun i H' _ pr => SqL.of (pr.2 _ _ eW)) ?_ ?_⟩⟩
      · rintro i x Ha Hb hi ⟨eA, sa⟩ ⟨q, i', z, rfl, hq, rfl, e3, e2⟩
        obtain rfl : V.int ((i : Nat) : Int) = i' := Option.some.inj e3
        have zq := Same.upd (o := .tup [.int ((i : Nat) : Int), z]) hq
        have e2 : (vS (nms cs))[i]? = some z := e2
        unfold vS at e2
        rw [List.getElem?_map] at e2
        obtain ⟨n, en, rfl⟩ := Option.map_eq_some_iff.mp e2
        have sb := sa.trans zq
        have eb3 := sb _ _ (s2 _ _ (s1 _ _ eb))
        have li : i < 8 := by
          have := (List.getElem?_eq_some_iff.mp en).1
          rw [List.length_map] at this
          omega
        refine ⟨q, _, rfl, SqT.of upd_same, rfl, _, _, rfl, _, _, rfl, rfl, rfl, ?_⟩
        change ttAd K _ _ _
        refine ⟨_, rfl, _, rfl, b, _, rfl, .inr (SqT.of eb3), rfl, fl, _, rfl, ?_⟩
        rw [if_pos rfl, in_strs]
        have gi : (nms cs).getD i "" = n := by rw [List.getD_eq_getElem?_getD, en]; rfl
        rw [List.range_succ, List.filter_append]
        by_cases m : n ∈ ks
        · rw [decide_eq_true m]
          refine iteF ⟨?_, sb⟩
          rw [List.filter_cons, if_neg (by rw [gi, decide_eq_true_iff]; exact fun h => h m), List.filter_nil, List.append_nil]
          exact zq _ _ eA
        · rw [decide_eq_false m]
          refine iteT ⟨_, rfl, _, zq _ _ eA, lt_size (by unfold jsV; rw [List.length_map]; exact Nat.le_trans (List.length_filter_le _ _) (by rw [List.length_range]; omega)), ?_, fun b' o e => by rw [upd_ne (ne_of_none e hA)]; exact sb b' o e⟩
          rw [upd_same, List.filter_cons, if_pos (by rw [gi, decide_eq_true_iff]; exact m)]
          unfold jsV
          rw [List.map_append]
          rfl
      · rintro H3 ⟨eA, s3⟩
        rw [show (vS (nms cs)).length = cs.length by unfold vS; rw [List.length_map, List.length_map]] at eA
        exact ⟨A, rfl, eA, s2.trans s3⟩
    rintro σ H2 ⟨A, rfl, eA, s12⟩
    have s02 := s1.trans s12
    have eJ2 := s12 _ _ eJ
    clear eJ s1 s12
    -- the partners
    refine ⟨fun σ H' => ∃ (D : Addr) (L : List NkE), σ = [some (.ref D0), some (.ref a), some (.ref p), some (.str "join"), some (.str t), some (.ref b), some (.ref a2), some (.ref J), some (.ref A), none, none, some (.ref D), none, none, none, none, none, none, none, none, none] ∧ DnAt P w H' D L ∧ GrpAt H' L (grpR (atJ (jx cs ks)) rs2) ∧ Same H2 H', ?_, ?_⟩
    · refine ⟨_, rfl, a2, dx2, _, rfl, s02 _ _ g1, rfl, a2, cv2, rs2, rfl, hI2.same s02, fun l hl => ?_⟩
      have zl := Same.upd (o := .lst (rs2.map (·.1))) hl
      have el : L2.upd H2 l (.lst (rs2.map (·.1))) l = some (.lst (rs2.map (·.1))) := upd_same
      generalize L2.upd H2 l (.lst (rs2.map (·.1))) = H3 at zl el ⊢
      have s03 := s02.trans zl
      refine ⟨_, rfl, a2, dx2, _, rfl, s03 _ _ g1, rfl, a2, cv2, rs2, rfl, hI2.same s03, _, rfl, cv2, b, cs, ks, rfl, hL2.same s03, cpC, s03 _ _ eb, ksc, by omega, fun J2 H5 s5 eJ5 => ?_⟩
      have s05 := s03.trans s5
      exact ⟨l, J2, rs2, cs.map (·.2), jx cs ks, rfl, s5 _ _ el, ra2.same s05, fun r hr => rw2 r.2 (List.mem_map_of_mem hr), ln2, eJ5, hls, lls, fun D L H6 s6 _ _ dn gr => ⟨D, L, rfl, dn, gr, zl.trans (s5.trans s6)⟩⟩
    rintro σ H3 ⟨D, L, rfl, dn, gr, s23⟩
    have s03 := s02.trans s23
    have eJ3 := s23 _ _ eJ2
    have eA3 := s23 _ _ eA
    clear eJ2 eA s02 s23
    -- the pairs
    refine ⟨Nat.zero_le _, fun W hW => ?_⟩
    have zW := Same.upd (o := .lst []) hW
    have eW0 : L2.upd H3 W (.lst []) W = some (.lst []) := upd_same
    have gr4 := gr.same zW
    have dn4 := dn.same zW
    have nWg : ∀ v ∈ L.map (·.2.2), v ≠ V.ref W := fun v hv e => by
      obtain ⟨la, xs, rfl, e'⟩ := gr.lists v hv
      injection e with e
      rw [e, hW] at e'
      cases e'
    generalize L2.upd H3 W (.lst []) = H4 at zW eW0 gr4 dn4 ⊢
    refine ⟨fun σ H' => (∃ x13 x14 x15 : Option V, σ = [some (.ref D0), some (.ref a), some (.ref p), some (.str "join"), some (.str t), some (.ref b), some (.ref a2), some (.ref J), some (.ref A), none, none, some (.ref D), some (.ref W), x13, x14, x15, none, none, none, none, none]) ∧ (∃ xs, H' W = some (.lst xs) ∧ PrAt H' W xs (rs.flatMap (prR (jx ps ks) (jx cs ks) rs2))) ∧ Same H3 H', ?_, ?_⟩
    · have s04 := s03.trans zW
      refine ⟨_, rfl, a, dx, _, rfl, s04 _ _ h1, rfl, a, cv, rs, rfl, hI.same s04, fun l hl => ?_⟩
      have zl := Same.upd (o := .lst (rs.map (·.1))) hl
      have el : L2.upd H4 l (.lst (rs.map (·.1))) l = some (.lst (rs.map (·.1))) := upd_same
      have eW5 := zl _ _ eW0
      have nlW : l ≠ W := Ne.symm (ne_of_none eW0 hl)
      have gr5 := gr4.same zl
      have dn5 := dn4.same zl
      generalize L2.upd H4 l (.lst (rs.map (·.1))) = H5 at zl el eW5 gr5 dn5 ⊢
      have s35 := zW.trans zl
      have uW : ∀ b' : Addr, H3 b' = none → b' ≠ W → True := fun _ _ _ => trivial
      refine ⟨l, rfl, ⟨_, SqL.of el⟩, for_list (K := K) (a := l) (xs := rs.map (·.1)) (fun i σ H' => (∃ x13 x14 x15 : Option V, σ = [some (.ref D0), some (.ref a), some (.ref p), some (.str "join"), some (.str t), some (.ref b), some (.ref a2), some (.ref J), some (.ref A), none, none, some (.ref D), some (.ref W), x13, x14, x15, none, none, none, none, none]) ∧ (∃ xs, H' W = some (.lst xs) ∧ PrAt H' W xs ((rs.take i).flatMap (prR (jx ps ks) (jx cs ks) rs2))) ∧ SameB W H5 H' ∧ GrpAt H' L (grpR (atJ (jx cs ks)) rs2) ∧ DnAt P w H' D L) ⟨⟨_, _, _, rfl⟩, ⟨[], eW5, .nil⟩, SameB.refl _ _, gr5, dn5⟩ (fun i σ H' _ pr => SqL.of (pr.2.2.1 _ _ nlW el)) ?_ ?_⟩
      · rintro i y σ H6 hy ⟨⟨x13, x14, x15, rfl⟩, ⟨xs, eW, pr⟩, sB, gr6, dn6⟩
        rw [List.getElem?_map] at hy
        obtain ⟨r, er, rfl⟩ := Option.map_eq_some_iff.mp hy
        have rm := List.mem_of_getElem? er
        have li := (List.getElem?_eq_some_iff.mp er).1
        have s36 : Same H3 H6 := fun b' o e => sB _ _ (ne_of_none e hW) (s35 _ _ e)
        have s06 := s03.trans s36
        obtain ⟨rr, va, la0, ev, e2, dvals, _⟩ := row_at ((ra0 r rm).same s06)
        obtain ⟨vk, _⟩ := rw_ r.2 (List.mem_map_of_mem rm)
        have lv := vk.len
        cases dvals with
        | @tup _ us _ eu hu =>
        refine ⟨_, rfl, rr, _, _, .ref va, ev, rfl, SqT.of e2, at_of (j := 0) rfl rfl, _, rfl, va, J, us, r.2.vals, jx ps ks, rfl, eu, hu, vk.noL, s36 _ _ eJ3, fun j hj => by rw [← lv]; exact hjs j hj, ljs, fun kb H7 s7 dk => ?_⟩
        have ko : KeyOk (atJ (jx ps ks) r) := atJ_ok vk hjs
        have dk : Dh H7 (.ref kb) (.tuple (atJ (jx ps ks) r)) := dk
        have et : (rs.take (i + 1)).flatMap (prR (jx ps ks) (jx cs ks) rs2) = (rs.take i).flatMap (prR (jx ps ks) (jx cs ks) rs2) ++ prR (jx ps ks) (jx cs ks) rs2 r := by
          rw [List.take_add_one, er, Option.toList_some, List.flatMap_append, List.flatMap_cons, List.flatMap_nil, List.append_nil]
        rw [et]
        refine ⟨_, rfl, .none, atJ (jx ps ks) r, .non, dk.dp (PyData.hasDict_of_canLay _ (key_shpT ko).2), rfl, (key_shpT ko).1, _, rfl, ?_⟩
        rw [any_none]
        have eW7 := s7 _ _ eW
        have gr7 := gr6.same s7
        have dn7 := dn6.same s7
        have pr7 := pr.same s7
        have lx := pr.len
        have lx2 := prs_len (jx ps ks) (jx cs ks) rs2 (rs.take i)
        rw [List.length_take] at lx2
        refine ite2 (fun q => ?_) (fun q => ?_)
        · have q : hasN (atJ (jx ps ks) r) = false := by simpa using q
          refine ⟨_, rfl, .inl ⟨rfl, _, SqL.of eW7⟩, _, rfl, _, rfl, ⟨D, L, rfl, dn7⟩, _, rfl, Nat.zero_le _, fun la hla => ?_⟩
          have zl7 := Same.upd (o := .lst []) hla
          have el7 : L2.upd H7 la (.lst []) la = some (.lst []) := upd_same
          have nlaW : la ≠ W := Ne.symm (ne_of_none eW7 hla)
          have dk8 := dk.same zl7
          have gr8 := gr7.same zl7
          have dn8 := dn7.same zl7
          have pr8 := pr7.same zl7
          have eW8 := zl7 _ _ eW7
          generalize L2.upd H7 la (.lst []) = H8 at zl7 el7 dk8 gr8 dn8 pr8 eW8 ⊢
          refine ⟨D, kb, L, .tup (nkDs (atJ (jx ps ks) r)), .ref la, rfl, rfl, dn8, ⟨.tuple (atJ (jx ps ks) r), dk8, ko.all, rfl, ko.dep⟩, gr8.keyN, ?_⟩
          obtain ⟨lb, eb1, eb2, nlb⟩ : ∃ lb, (valN L (.tup (nkDs (atJ (jx ps ks) r)))).getD (.ref la) = V.ref lb ∧ H8 lb = some (.lst ((matesR (atJ (jx cs ks)) (atJ (jx ps ks) r) rs2).map (·.1))) ∧ lb ≠ W := by
            rcases grp_look gr8 (atJ (jx ps ks) r) with ⟨q1, q2⟩ | ⟨lb, q1, q2⟩
            · refine ⟨la, by rw [q1]; rfl, ?_, nlaW⟩
              rw [q2]
              exact el7
            · refine ⟨lb, by rw [q1]; rfl, q2, fun z => ?_⟩
              subst z
              exact nWg _ (valN_mem q1) rfl
          rw [eb1]
          refine ⟨two, fun t2 ht2 => ?_⟩
          have zt := Same.upd (o := .tup [r.1, .ref lb]) ht2
          have eW9 := zt _ _ eW8
          have pr9 := (pr8.same zt).snoc (r := r) (mem := matesR (atJ (jx cs ks)) (atJ (jx ps ks) r) rs2) (t := t2) (la := lb) upd_same (zt _ _ eb2) nlb
          have gr9 := gr8.same zt
          have dn9 := dn8.same zt
          have s69 := s7.trans (zl7.trans zt)
          generalize L2.upd H8 t2 (.tup [r.1, .ref lb]) = H9 at zt eW9 pr9 gr9 dn9 s69 ⊢
          refine ⟨W, _, _, rfl, rfl, eW9, lt_size (by omega), ⟨_, _, _, rfl⟩, ⟨_, upd_same, ?_⟩, fun b' o n e => by rw [upd_ne n]; exact s69 _ _ (sB _ _ n e), GrpAt.upd eW9 nofun gr9 (fun h => nWg _ h rfl), ?_⟩
          · unfold prR
            rw [if_neg (by rw [q]; decide)]
            exact pr9.upd eW9
          · have nD := dn9.ne eW9 ⟨nofun, nofun⟩
            rcases dn9 with h | ⟨h0, h⟩
            · exact .inl (by rw [upd_ne nD]; exact h)
            · exact .inr ⟨h0, by rw [upd_ne nD]; exact h⟩
        · have q : hasN (atJ (jx ps ks) r) = true := by simpa using q
          refine ⟨⟨_, _, _, rfl⟩, ⟨xs, eW7, ?_⟩, fun b' o n e => s7 _ _ (sB _ _ n e), gr7, dn7⟩
          unfold prR
          rw [if_pos q, List.append_nil]
          exact pr7
      · rintro σ H6 ⟨⟨x13, x14, x15, rfl⟩, ⟨xs, eW, pr⟩, sB, gr6, dn6⟩
        rw [List.length_map, List.take_length] at pr
        exact ⟨⟨_, _, _, rfl⟩, ⟨xs, eW, pr⟩, fun b' o e => sB _ _ (ne_of_none e hW) (s35 _ _ e)⟩
    rintro σ H5 ⟨⟨x13, x14, x15, rfl⟩, ⟨xs, eW, pr⟩, s35⟩
    have s05 := s03.trans s35
    have eA5 := s35 _ _ eA3
    have pm := fun p (h : p ∈ rs.flatMap (prR (jx ps ks) (jx cs ks) rs2)) => prs_mem h
    have pl13 := prs_len (jx ps ks) (jx cs ks) rs2 rs
    clear gr dn gr4 dn4 zW eW0 nWg hW eJ3 eA3 s35 s03
    rw [prs_sum] at k kE
    generalize rs.flatMap (prR (jx ps ks) (jx cs ks) rs2) = prs at pr pm k kE pl13 ⊢
    have lxs := pr.len
    -- not too many
    refine ⟨fun σ H' => σ = [some (.ref D0), some (.ref a), some (.ref p), some (.str "join"), some (.str t), some (.ref b), some (.ref a2), some (.ref J), some (.ref A), none, none, some (.ref D), some (.ref W), x13, x14, x15, none, none, none, none, none] ∧ (prs.map fun p => p.2.length).sum ≤ 1000 ∧ Same H5 H', ?_, ?_⟩
    · refine ⟨_, rfl, W, rfl, ⟨_, SqL.of eW⟩, fun S hS => lc_list (K := K) (a := W) (xs := xs) (fun i H' => H' S = some (.lst ((prs.take i).map fun p => V.int ((p.2.length : Nat) : Int))) ∧ Same H5 H') ⟨upd_same, Same.upd hS⟩ (fun i H' _ q => SqL.of (q.2 _ _ eW)) ?_ ?_⟩
      · rintro i x H6 hx ⟨eS, s6⟩
        obtain ⟨t2, la, r, mem, ep, rfl, et, el⟩ := pr.get hx
        have li := (List.getElem?_eq_some_iff.mp ep).1
        refine ⟨t2, _, rfl, SqT.of (s6 _ _ et), rfl, _, _, rfl, _, _, rfl, rfl, rfl, ?_⟩
        dsimp only [tYes]
        refine iteT ?_
        change teLn K _ _ _
        refine ⟨_, rfl, la, _, rfl, .inl (SqL.of (s6 _ _ el)), _, eS, lt_size (by rw [List.length_map, List.length_take]; omega), ?_, fun b' o e => by rw [upd_ne (ne_of_none e hS)]; exact s6 b' o e⟩
        rw [upd_same, List.take_add_one, ep, Option.toList_some, List.map_append, List.length_map]
        rfl
      rintro H6 ⟨eS, s6⟩
      rw [lxs, List.take_length] at eS
      refine ⟨S, (prs.map fun p => p.2.length).map fun n => ((n : Nat) : Int), rfl, SqL.of (by rw [List.map_map, List.map_map]; exact eS), ?_⟩
      rw [sum_int]
      refine ⟨_, rfl, fun q => ⟨rfl, by omega, s6⟩, fun q H7 s7 => ?_⟩
      exact kE rfl (by omega) H7 (s05.trans (s6.trans s7))
    rintro σ H6 ⟨rfl, lsum, s56⟩
    have k := k fun _ => lsum
    clear kE
    have s06 := s05.trans s56
    have eW6 := s56 _ _ eW
    have pr6 := pr.same s56
    have eA6 := s56 _ _ eA5
    clear s56 eW pr eA5 s05
    -- the rows
    refine ⟨Nat.zero_le _, fun R hR => ?_⟩
    have zR := Same.upd (o := .lst []) hR
    have eR0 : L2.upd H6 R (.lst []) R = some (.lst []) := upd_same
    generalize L2.upd H6 R (.lst []) = H7 at zR eR0 ⊢
    have lOut : ∀ i, ((prs.take i).flatMap (outP (adJ cs ks))).length ≤ 1000 := fun i => by
      rw [prs_sum]
      refine Nat.le_trans ?_ lsum
      have : (prs.map fun p => p.2.length).sum = ((prs.take i).map fun p => p.2.length).sum + ((prs.drop i).map fun p => p.2.length).sum := by
        rw [← List.sum_append, ← List.map_append, List.take_append_drop]
      omega
    refine ⟨fun σ H' => (∃ x13 x14 x15 x17 x18 x19 x20 : Option V, σ = [some (.ref D0), some (.ref a), some (.ref p), some (.str "join"), some (.str t), some (.ref b), some (.ref a2), some (.ref J), some (.ref A), none, none, some (.ref D), some (.ref W), x13, x14, x15, some (.ref R), x17, x18, x19, x20]) ∧ (∃ rs' : RowsL, H' R = some (.lst (rs'.map (·.1))) ∧ RowsAt H' rs' ∧ rs'.map (·.2) = prs.flatMap (outP (adJ cs ks))) ∧ Same H6 H', ?_, ?_⟩
    · refine ⟨_, rfl, W, rfl, ⟨_, SqL.of (zR _ _ eW6)⟩, for_list (K := K) (a := W) (xs := xs) (fun i σ H' => (∃ x13 x14 x15 x17 x18 x19 x20 : Option V, σ = [some (.ref D0), some (.ref a), some (.ref p), some (.str "join"), some (.str t), some (.ref b), some (.ref a2), some (.ref J), some (.ref A), none, none, some (.ref D), some (.ref W), x13, x14, x15, some (.ref R), x17, x18, x19, x20]) ∧ (∃ rs' : RowsL, H' R = some (.lst (rs'.map (·.1))) ∧ RowsAt H' rs' ∧ RowsOk rs' ∧ rs'.map (·.2) = (prs.take i).flatMap (outP (adJ cs ks))) ∧ Same H6 H') ⟨⟨_, _, _, _, _, _, _, rfl⟩, ⟨[], eR0, nofun, nofun, rfl⟩, zR⟩ (fun i σ H' _ q => SqL.of (q.2.2 _ _ eW6)) ?_ ?_⟩
      · rintro i y σ H8 hy ⟨⟨x13, x14, x15, x17, x18, x19, x20, rfl⟩, ⟨rs', eR, ra', ok', em⟩, s8⟩
        obtain ⟨t2, la, r, mem, ep, rfl, et, el⟩ := pr6.get hy
        obtain ⟨rm, mm⟩ := pm _ (List.mem_of_getElem? ep)
        have rm : r ∈ rs := rm
        have mm : ∀ o ∈ mem, o ∈ rs2 := mm
        have s08 := s06.trans s8
        obtain ⟨rr, va, lv0, ev, e26, dva6, dlv6⟩ := row_at ((ra0 r rm).same s06)
        have e2 := s8 _ _ e26
        obtain ⟨vk, lo⟩ := rw_ r.2 (List.mem_map_of_mem rm)
        have lvk := vk.len
        have et8 := s8 _ _ et
        have et2 : (prs.take (i + 1)).flatMap (outP (adJ cs ks)) = (prs.take i).flatMap (outP (adJ cs ks)) ++ mem.map fun o => outJ (adJ cs ks) r.2 o.2 := by
          rw [List.take_add_one, ep, Option.toList_some, List.flatMap_append, List.flatMap_cons, List.flatMap_nil, List.append_nil]
          rfl
        have lo2 := lOut (i + 1)
        rw [et2, List.length_append, List.length_map] at lo2
        rw [et2]
        have ll := congrArg List.length em
        rw [List.length_map] at ll
        refine ⟨t2, _, rfl, SqT.of et8, rfl, _, _, rfl, ⟨rr, _, ev, SqT.of e2, rfl, _, _, rfl, _, _, rfl, rfl, _, _, rfl, rfl, ?_⟩⟩
        dsimp only [gNil]
        refine ⟨_, rfl, la, rfl, ⟨_, SqL.of (s8 _ _ el)⟩, for_list (K := K) (a := la) (xs := mem.map (·.1)) (fun m σ H' => (∃ x19 x20 : Option V, σ = [some (.ref D0), some (.ref a), some (.ref p), some (.str "join"), some (.str t), some (.ref b), some (.ref a2), some (.ref J), some (.ref A), none, none, some (.ref D), some (.ref W), x13, x14, some (.ref la), some (.ref R), some (.ref va), some (.ref lv0), x19, x20]) ∧ (∃ rs' : RowsL, H' R = some (.lst (rs'.map (·.1))) ∧ RowsAt H' rs' ∧ RowsOk rs' ∧ rs'.map (·.2) = (prs.take i).flatMap (outP (adJ cs ks)) ++ (mem.take m).map fun o => outJ (adJ cs ks) r.2 o.2) ∧ Same H6 H') ⟨⟨_, _, rfl⟩, ⟨rs', eR, ra', ok', by rw [em]; simp⟩, s8⟩ (fun m σ H' _ q => SqL.of (q.2.2 _ _ el)) ?_ ?_⟩
        · clear eR ra' ok' em s08 e2 et8 ll s8
          rintro m y σ H9 hy ⟨⟨x19, x20, rfl⟩, ⟨rs', eR, ra', ok', em⟩, s9⟩
          rw [List.getElem?_map] at hy
          obtain ⟨o, eo, rfl⟩ := Option.map_eq_some_iff.mp hy
          have om := mm o (List.mem_of_getElem? eo)
          have lm := (List.getElem?_eq_some_iff.mp eo).1
          have s09 := s06.trans s9
          have s89 : ∀ b' o', H6 b' = some o' → H9 b' = some o' := s9
          obtain ⟨rr2, va2, lv2, evo, e3, dvo, dlo⟩ := row_at ((ra2 o om).same s09)
          obtain ⟨vo, loo⟩ := rw2 o.2 (List.mem_map_of_mem om)
          have lvo := vo.len
          have hadj : ∀ j ∈ adJ cs ks, j < o.2.vals.length := fun j hj => by have := had j hj; omega
          have l' : rs'.length ≤ 1000 := by
            have := congrArg List.length em
            rw [List.length_map, List.length_append, List.length_map, List.length_take] at this
            omega
          have dva9 := dva6.same s9
          have dlv9 := dlv6.same s9
          cases dvo with
          | @tup _ us2 _ eu2 hu2 =>
          refine ⟨rr2, _, evo, SqT.of e3, rfl, _, _, rfl, _, _, rfl, rfl, ?_⟩
          dsimp only [gNil]
          refine ⟨_, rfl, .inl ⟨rfl, _, SqL.of eR⟩, _, rfl, _, rfl, _, rfl, va2, A, us2, o.2.vals, adJ cs ks, rfl, eu2, hu2, vo.noL, s9 _ _ eA6, hadj, by omega, fun q H10 s10 dq => ?_⟩
          refine catH (dva9.same s10) dq (by rw [List.length_map]; omega) fun r3 H11 d3 s11 => ?_
          have s911 := s10.trans s11
          refine ⟨_, rfl, _, rfl, two, fun ll hll => ?_⟩
          have zll := Same.upd (o := .lst [.ref lv0, .ref lv2]) hll
          have s912 := s911.trans zll
          refine ⟨ll, _, [r.2.lin, o.2.lin], rfl, upd_same, .cons (dlv9.same s912) (.cons (dlo.same s912) .nil), fun l hl => ?_, fun u H12 s12 du => ⟨two, fun t3 ht3 => ?_⟩⟩
          · simp only [List.mem_cons, List.not_mem_nil, or_false] at hl
            rcases hl with rfl | rfl
            · exact lo
            · exact loo
          have zt := Same.upd (o := .tup [r3, u]) ht3
          have s9t := s912.trans (s12.trans zt)
          have newd : Dh (L2.upd H12 t3 (.tup [r3, u])) (.ref t3) (outJ (adJ cs ks) r.2 o.2).d := .tup upd_same (.cons (((d3.same zll).same s12).same zt) (.cons (du.same zt) .nil))
          have nol : noLs (outJ (adJ cs ks) r.2 o.2).vals = true := noLs_all.mpr fun d hd => by
            rcases List.mem_append.mp hd with hd | hd
            · exact vk.noL d hd
            · exact at_noL vo (by rw [lcs]; exact had) d hd
          have lon : LinOk (outJ (adJ cs ks) r.2 o.2).lin := unL_ok fun l hl => by
            simp only [List.mem_cons, List.not_mem_nil, or_false] at hl
            rcases hl with rfl | rfl
            · exact lo
            · exact loo
          have eR' := s9t _ _ eR
          generalize L2.upd H12 t3 (.tup [r3, u]) = H13 at s9t newd eR' zt ⊢
          refine ⟨R, _, _, rfl, rfl, eR', lt_size (by rw [List.length_map]; omega), ⟨_, _, rfl⟩, ⟨rs' ++ [(.ref t3, outJ (adJ cs ks) r.2 o.2)], by rw [upd_same, List.map_append]; rfl, fun y hy => ?_, fun y hy => ?_, ?_⟩, fun b' o' e => by rw [upd_ne (ne_of_none e hR)]; exact s9t _ _ (s9 _ _ e)⟩
          · rcases List.mem_append.mp hy with hy | hy
            · exact ((ra' y hy).same s9t).t (SameT.lst eR') (row_noL (ok' y hy).1)
            · rw [List.mem_singleton.mp hy]
              exact newd.t (SameT.lst eR') (row_noL nol)
          · rcases List.mem_append.mp hy with hy | hy
            · exact ok' y hy
            · rw [List.mem_singleton.mp hy]
              exact ⟨nol, lon⟩
          · rw [List.map_append, em, List.take_add_one, eo, Option.toList_some, List.map_append, List.append_assoc]
            rfl
        · rintro σ H9 ⟨⟨x19, x20, rfl⟩, ⟨rs', eR, ra', ok', em⟩, s9⟩
          rw [List.length_map, List.take_length] at em
          exact ⟨⟨_, _, _, _, _, _, _, rfl⟩, ⟨rs', eR, ra', ok', em⟩, s9⟩
      · rintro σ H8 ⟨⟨x13, x14, x15, x17, x18, x19, x20, rfl⟩, ⟨rs', eR, ra', ok', em⟩, s8⟩
        rw [lxs, List.take_length] at em
        exact ⟨⟨_, _, _, _, _, _, _, rfl⟩, ⟨rs', eR, ra', em⟩, s8⟩
    rintro σ H8 ⟨⟨x13, x14, x15, x17, x18, x19, x20, rfl⟩, ⟨rs', eR, ra', em⟩, s8⟩
    exact ⟨_, rfl, k R H8 rs' (s06.trans s8) eR ra' em⟩
end
end
end K19
set_option Elab.async false
set_option linter.all false
set_option maxRecDepth 100000
set_option maxHeartbeats 4000000
namespace Lc
open PySem PySem.Spec PyProof.Rows L2
/-! ## An error that leaves a list comprehension -/
theorem inv_xe {X : Cx} {pins : List (Addr × Obj)} {σ : L2.St} {H : Hp} {s : Shared} (I : Inv X pins σ H s) (e : Value → Shared → Prop) : Inv { X with xe := e } pins σ H s :=
  ⟨I.ok.toTry X.pn e, I.os, I.bare, I.base, I.loc, I.cell, I.free, I.freeC, I.pin, I.hok, I.len⟩
/-- the block, with what it may let out -/
abbrev blkE (X : Cx) (s : Shared) (H : Hp) (scope : Scope) (ce : Env) (fp : List Addr) (ex : Value → Shared → Prop) : Cx := { X.blk s H scope ce fp with xe := ex }
/-- what a call in the block raised -/
def OutB (X : Cx) (s : Shared) (H : Hp) (scope : Scope) (ce : Env) (fp : List Addr) (F : XK) (u : Value) (s' : Shared) : Prop :=
  ∃ (pb : List (Addr × Obj)) (σb : L2.St) (Hb : Hp) (sb : Shared), Inv (X.blk s H scope ce fp) pb σb Hb sb ∧ L2.CX X.prog X.w X.stack Hb sb F u s'
theorem none_sub {B B' : Heap} (sub : ∀ b o, B'.get? b = some o → B.get? b = some o) {b : Addr} (e : B.get? b = none) : B'.get? b = none := by
  cases q : B'.get? b with
  | none => rfl
  | some o => rw [sub _ _ q] at e; cases e
theorem traced_sub {h B B' : Heap} {a : Addr} {Z : Obj → Prop} {fl : Value} (t : HandSPX.TracedZ h B a Z fl) (sub : ∀ b o, B'.get? b = some o → B.get? b = some o) : HandSPX.TracedZ h B' a Z fl := by
  obtain ⟨oe, vs, T, oT, ts, x1, x2, x3, x4, x5, x6⟩ := t
  exact ⟨oe, vs, T, oT, ts, x1, x2, x3, x4, none_sub sub x5, x6⟩
theorem frames_sub {h B B' : Heap} (sub : ∀ b o, B'.get? b = some o → B.get? b = some o) : ∀ {l : List Env}, h.FunFrames B l → h.FunFrames B' l
  | [], _ => trivial
  | env :: rest, ⟨x1, ⟨L, o, y1, y2, y3⟩, x3⟩ => ⟨x1, ⟨L, o, y1, none_sub sub y2, y3⟩, frames_sub sub x3⟩
section
variable {X : Cx} {W : WX} {pins : List (Addr × Obj)} {σ : L2.St} {Hi : Hp} {si : Shared} {scope : Scope} {ce : Env} {fp : List Addr}
/-- the block is let go, the error goes on in the def's own frame -/
theorem blk_fails (hs : X.stack = X.env :: X.outer) (hf : X.env.frame = some X.env.locals) (tk : Takes X W) (I : Inv X pins σ Hi si) (cf : ce.frame = X.env.frame) (cL : ce.locals = si.heap.objs.size)
    (hfp : ∀ b ∈ fp, FpOk X pins Hi b) {use : Option (Value → Sem Unit)} {Qf : Value → Shared → Prop} {acc : Value} {u : Value} {s' : Shared} (ob : OutB X si Hi scope ce fp (fun cls d H' => W cls d σ H') u s') :
    notedBy (model X.prog X.w) X.A ce (fun e s' => compEnds (model X.prog X.w) X.A X.xe use Qf acc ce (.error e) s') u s' := by
  obtain ⟨pb, σb, Hb, sb, Ib, a, B, H', cls, d, rfl, fl, hok, ub, na, os, ag, hE⟩ := ob
  -- the def's own view of the state at the call
  have IX : Inv X pins σ Hb sb := I.call' (ch := fp) Ib.os Ib.base Ib.hok Ib.bare fun b hb => by
    obtain ⟨_, k2, _, k4, k5, k6⟩ := hfp b hb
    exact ⟨k4, k2, k5, k6⟩
  have nC : Hb ce.locals = none := Ib.free
  have fC : FpOk X pins Hb ce.locals := I.fpOk (by rw [cL]; exact Nat.le_refl _) nC
  obtain ⟨_, c2, c3, c4, c5, c6⟩ := fC
  have nfC : ce.locals ∉ frs X.stack := fun z => (List.mem_cons.mp (I.stkSub _ z)).elim c2 c3
  obtain ⟨m, ⟨oC, es, ep, hoC, rC⟩, _⟩ := Ib.loc
  have hoC : sb.heap.get? ce.locals = some oC := hoC
  have B0 : B.get? ce.locals = some oC := ub.keep _ _ hoC nC nfC
  have H0 : H' ce.locals = none := ub.free _ _ hoC nC
  have ns' : s'.heap.Ns ce.locals m := ⟨oC, es, ep, fl.1 _ _ B0, rC⟩
  -- the ground without the block
  obtain ⟨B', b1, b2⟩ := restrict B fun b => !decide (b = ce.locals)
  have bn : B'.get? ce.locals = none := b2 _ (by simp)
  have bk : ∀ b, b ≠ ce.locals → B'.get? b = B.get? b := fun b n => b1 b (by simp [n])
  have sub : ∀ b o, B'.get? b = some o → B.get? b = some o := fun b o e => by
    by_cases z : b = ce.locals
    · rw [z, bn] at e; cases e
    · rw [← bk b z]; exact e
  have hok' : HOk X.prog X.w H' B' := fun b o q => (hok b o q).stay (fun c v hc r => by
    refine (bk c fun z => ?_).trans r
    rcases hc with hc | hc
    · rw [← hc, z, H0] at q; cases q
    · rw [z, H0] at hc; cases hc) (fun _ r => r) fun _ _ r => r
  obtain ⟨G, g1, g2⟩ := restrict s'.heap fun b => (B'.get? b).isSome || decide (b ∈ frs X.stack)
  have gB : ∀ b o, B'.get? b = some o → G.get? b = some o := fun b o e => by
    rw [g1 b (by rw [e]; rfl)]
    exact fl.1 b o (sub b o e)
  have gF : ∀ b, b ∈ frs X.stack → G.get? b = s'.heap.get? b := fun b hb => g1 b (by rw [decide_eq_true hb, Bool.or_true])
  have gO : ∀ b o, G.get? b = some o → s'.heap.get? b = some o ∧ b ≠ ce.locals ∧ (b ∉ frs X.stack → B'.get? b = some o) := fun b o e => by
    cases q : ((B'.get? b).isSome || decide (b ∈ frs X.stack)) with
    | false => rw [g2 b q] at e; cases e
    | true =>
      rw [g1 b q] at e
      refine ⟨e, fun z => ?_, fun hb => ?_⟩
      · rw [z, bn, decide_eq_false nfC] at q; cases q
      · rw [decide_eq_false hb, Bool.or_false] at q
        obtain ⟨o2, q2⟩ := Option.isSome_iff_exists.mp q
        have w := fl.1 b o2 (sub b o2 q2)
        rw [e] at w
        cases w
        exact q2
  have flB : HandSPX.FlyingZ B' (X.env :: X.outer) a (Zc cls d) s'.heap := by
    have fl := fl
    rw [hs] at fl
    obtain ⟨y1, y2, y3, y4⟩ := fl
    exact ⟨fun b o e => y1 b o (sub b o e), none_sub sub y2, frames_sub sub y3, traced_sub y4 sub⟩
  have IG : Inv X pins σ H' { sb with heap := G, gens := s'.gens, drawn := s'.drawn, toks := s'.toks } := by
    have ne : ∀ {b : Addr}, b ∉ [ce.locals] → b ≠ ce.locals := fun h z => h (by rw [z]; exact List.mem_singleton.mpr rfl)
    refine IX.call (ch := [ce.locals]) ⟨fun b o e n hb hc => gB b o ((bk b (ne hc)).trans (ub.keep b o e n hb)), fun b o e n hb hc => ?_, fun b o e n hc => ub.free b o e n, fun b o e hc => ?_, ub.tups, ub.frzs, ub.tbls⟩ (hok'.kept gB) ag fun b hb => ?_
    · obtain ⟨sl, q⟩ := ub.slot b o e hb
      exact ⟨sl, (gF b hb).trans q⟩
    · by_cases hb : b ∈ frs X.stack
      · obtain ⟨sl, q⟩ := ub.slot b o e hb
        exact ⟨_, (gF b hb).trans q⟩
      · obtain ⟨o', q⟩ := ub.there b o e hb
        exact ⟨o', gB b o' ((bk b (ne hc)).trans q)⟩
    · obtain rfl := List.mem_singleton.mp hb
      exact ⟨c4, c2, c5, c6⟩
  have fr : X.A.frames = some (X.env :: X.outer) := IX.ok.frames.trans (congrArg some hs)
  show wpAny (model X.prog X.w) X.A (noteFrame (.ref a) ce) _ _ s'
  rw [noteFrame_env _ cf]
  refine HandSPX.looks_onZ Zc.steady fr hf flB fun h1 hh up1 => ?_
  obtain ⟨y1, y2, y3, y4⟩ := hh
  show CompFails (model X.prog X.w) X.A X.xe ce (.ref a) { s' with heap := h1 }
  have ns1 : h1.Ns ce.locals m := ns'.upToSlots up1
  refine ⟨m, ns1, fun h2 m2 n2 sb2 => ?_⟩
  have same2 : ∀ b, b ≠ ce.locals → h2.get? b = h1.get? b := sb2.2
  obtain ⟨oe, vs, T, oT, ts, he, hz, hd, hv, hnT, hTe, hT, hdT, h3⟩ := y4
  have notC : ∀ {b : Addr} {o : Obj} {vs : Array Value}, h1.get? b = some o → o.data = .fields vs → b ≠ ce.locals := fun {b o vs} e hd z => by
    obtain ⟨o1, es1, ep1, ho1, hd1, _⟩ := ns1
    rw [z, ho1] at e
    cases e
    rw [hd1] at hd
    cases hd
  have he2 := (same2 a (notC he hd)).trans he
  have tr2 : HandSPX.TracedZ h2 B' a (Zc cls d) (rawInt X.env.locals) := ⟨oe, vs, T, oT, ts, he2, hz, hd, hv, hnT, hTe, (same2 T (notC hT hdT)).trans hT, hdT, h3⟩
  unfold PySem.passOn
  refine wpAny_bind (wpAny_field he2 hd hv ?_)
  rw [if_neg (show ¬ ((Value.ref T == Value.none) = true) from by simp), cf, hf]
  refine wpAny_bind (HandSPX.setFlight_anyZ (l := X.env :: X.outer) (fr := some X.env.locals) (fun b o e => (same2 b fun z => by rw [z, bn] at e; cases e).trans (y1 b o e)) (Heap.FunFrames.sameBut sb2 n2 y3) tr2 fun h3' k1 k2 k3 k4 => wpAny_throw ?_)
  refine tk _ _ ⟨a, B', _, pins, σ, H', cls, d, rfl, IG, fun b o e hb => (gO b o e).2.2 hb, fun b o e hdo => ?_, .inr (.inr ?_), na, os, ag, hE⟩
  · obtain ⟨e1, nb, _⟩ := gO b o e
    obtain ⟨sl, e2⟩ := up1 b o e1 hdo
    obtain ⟨sl2, e3⟩ := k4 b _ ((same2 b nb).trans e2) hdo
    exact ⟨sl2, e3⟩
  · rw [hs]
    exact ⟨k1, y2, k2, k3⟩
end
section
variable {X : Cx}
/-- [elt for tg in iter if ifs], where what is called in elt may raise -/
theorem lc_coreE {elt tg iter : Expr} {ifs : List Expr} {scope : Scope} {own : List (Str × Nat)} {wi : TI} {g : TG} {tt : TT} {te : WX → TE} {W : WX} {pins : List (Addr × Obj)} {s : Shared} {σ : L2.St} {H : Hp} {Q : VK} {pos pos' : Pos} {use : Option (Value → Sem Unit)} {Qf : Value → Shared → Prop} (hs2 : X.stack = X.env :: X.outer) (hf : X.env.frame = some X.env.locals) (tk : Takes X W) (calm : X.calm = true) (nodup : X.N.Nodup) (hi : PI X tg iter wi) (ok : BlkOk X.N X.env.scope scope own)
    (hg : ∀ (s : Shared) (H : Hp) (C : Addr) (cl : List (Str × Addr)) (fp : List Addr) (ex : Value → Shared → Prop), PG (blkE X s H scope (compEnvC scope cl C X.env) fp ex) tg g)
    (ht : ∀ (s : Shared) (H : Hp) (C : Addr) (cl : List (Str × Addr)) (fp : List Addr) (ex : Value → Shared → Prop), PTs (blkE X s H scope (compEnvC scope cl C X.env) fp ex) ifs tt)
    (he : ∀ (s : Shared) (H : Hp) (C : Addr) (cl : List (Str × Addr)) (fp : List Addr) (ex : Value → Shared → Prop) (Wb : WX), (∀ σ, PassesAt (L2.CX X.prog X.w) (blkE X s H scope (compEnvC scope cl C X.env) fp ex) σ (WE Wb σ)) → PE (blkE X s H scope (compEnvC scope cl C X.env) fp ex) elt (te Wb))
    (fold : ∀ x, foldedSetIterable iter X.env x = pure x) (I : Inv X pins σ H s) (want : tLc wi g tt (te fun cls d _ H' => W cls d σ H') (own.map (·.2)) σ H Q)
    (done : ∀ (D : Addr) (ce : Env) (s' : Shared) (m : Str → Option Value) (H' : Hp), Inv X pins σ H' s' → Q (.ref D) H' → s'.heap.Ns ce.locals m → FpOk X pins H' ce.locals → compEnds (model X.prog X.w) X.A X.xe use Qf (.ref D) ce (.ok .next) s') :
    wpAny (model X.prog X.w) X.A (comprehension (.ListComp elt [⟨tg, iter, ifs, 0⟩] scope pos) scope X.env pos' (newList []) false (eval iter X.env) use) Qf X.xe s := by
  have cells : ∀ y ∈ scope.names, y.2 = .free → ∃ c, X.env.cells.lookup y.1 = some c := fun y hy e => I.ok.has _ ((ok.free y hy e).elim .inl .inr)
  refine comprehension_at (use := use) rfl fold (closure_ok cells) ok.kind (fun y hy e => (ok.uniq y hy).trans (by rw [e])) (thn (hi.run pins s σ H _ I want) fun xv s1 hx => thn hx fun itv s2 come => ?_)
  obtain ⟨it, fp, tn, J, H2, rfl, I2, T, st2, f2, turns⟩ := come
  refine wpAny_newObj_type (newEnv_comp ?_) (show 0 ≤ sizeLine from Nat.zero_le _)
  have new2 : H2 s2.heap.objs.size = none := I2.hok.fresh (Nat.le_refl _)
  obtain ⟨Iv, ⟨m0, start⟩, turn⟩ := turns _ new2
  -- the list is laid
  have I3 : Inv X pins σ (upd H2 s2.heap.objs.size (.lst [])) { s2 with heap := s2.heap.push { cls := .type "list", data := .seq ([] : List Value).toArray } } :=
    I2.laid (t' := s2.toks) (fun b o e => Heap.get?_push_of_some _ e) (Nat.le_refl _) ⟨Nat.zero_le _, [], 0, .nil, Heap.get?_push_size _ rfl⟩
  have grow : ∀ b o, s2.heap.get? b = some o → (s2.heap.push { cls := .type "list", data := .seq ([] : List Value).toArray }).get? b = some o := fun b o e => Heap.get?_push_of_some _ e
  have siz : (s2.heap.push { cls := .type "list", data := .seq ([] : List Value).toArray }).objs.size = s2.heap.objs.size + 1 := Heap.size_push _ _
  have low : ∀ b ∈ fp, b < s2.heap.objs.size := fun b hb => (T.obj _ _ st2 b hb).elim fun o e => Heap.lt_size e.1
  have st3 : tn 0 (s2.heap.push { cls := .type "list", data := .seq ([] : List Value).toArray }) := T.keep _ _ _ st2 fun b _ o e => grow b o e
  generalize hD : s2.heap.objs.size = D at *
  generalize hh3 : s2.heap.push { cls := .type "list", data := .seq ([] : List Value).toArray } = h3 at *
  generalize hs3 : ({ s2 with heap := h3 } : Shared) = s3 at I3 ⊢
  have e3 : s3.heap = h3 := by rw [← hs3]
  rw [← e3] at st3 siz grow
  have f3 : ∀ b ∈ fp, FpOk X pins (upd H2 D (.lst [])) b ∧ b < s3.heap.objs.size := fun b hb => by
    have lt := low b hb
    obtain ⟨k1, k2⟩ := f2 b hb
    exact ⟨⟨by rw [upd_ne (Nat.ne_of_lt lt)]; exact k1, k2⟩, by rw [siz]; exact Nat.lt_succ_of_lt lt⟩
  have I4 := block_start I3 ok nodup f3
  have none3 : ∀ b ∈ fp, (upd H2 D (.lst [])) b = none := fun b hb => (f3 b hb).1.1
  generalize upd H2 D (.lst []) = H3 at *
  generalize hcl : cellsFrom (s3.heap.objs.size + 1) scope.names (cloFrom X.env.cells scope.names []) = cl at *
  have fr3 : ∀ b ∈ fp, FpOk X pins H3 b := fun b hb => (f3 b hb).1
  have nC3 : ∀ {H' : Hp}, H' s3.heap.objs.size = none → FpOk X pins H' s3.heap.objs.size := fun h => I3.fpOk (Nat.le_refl _) h
  let ce := compEnvC scope cl s3.heap.objs.size X.env
  let ex : Value → Shared → Prop := OutB X s3 H3 scope ce fp fun cls d H' => W cls d σ H'
  have pg := hg s3 H3 s3.heap.objs.size cl fp ex
  have pt := ht s3 H3 s3.heap.objs.size cl fp ex
  have pe := he s3 H3 s3.heap.objs.size cl fp ex (fun cls d _ H' => W cls d σ H') fun σ' pb H s e s' Ib c => ⟨pb, σ', H, s, inv_xe Ib fun _ _ => False, c⟩
  have out : ∀ {u : Value} {s' : Shared}, ex u s' → notedBy (model X.prog X.w) X.A ce (fun e s' => compEnds (model X.prog X.w) X.A X.xe use Qf (.ref D) ce (.error e) s') u s' := fun {u s'} ob => blk_fails (ce := ce) hs2 hf tk I3 rfl rfl fr3 ob
  have J4 := inv_xe I4 ex
  generalize hh4 : pushCells (s3.heap.push { cls := .type "dict", data := .dict #[] }) scope.names = h4 at *
  have st4 : tn 0 h4 := T.keep _ _ _ st3 fun b _ o e => by rw [← hh4]; exact pushCells_keeps _ _ _ _ (Heap.get?_push_of_some _ e)
  have still : ∀ {σ' : L2.St} {H' : Hp} {s' : Shared}, Inv (blkE X s3 H3 scope ce fp ex) [] σ' H' s' → (∀ b ∈ fp, H' b = none) → ∀ b ∈ fp, FpOk (blkE X s3 H3 scope ce fp ex) [] H' b := fun {σ' H' s'} J n b hb =>
    ⟨n b hb, (J.ok.exf b hb).1, J.ok.exfs b hb, .inl hb, fun x c e => (J.ok.exf b hb).2 x c e, fun p hp => nomatch (show p ∈ ([] : List (Addr × Obj)) from hp)⟩
  let Rn : Nat → Shared → Prop := fun n s' => ∃ i H', Inv (blkE X s3 H3 scope ce fp ex) [] (wipe σ (own.map (·.2))) H' s' ∧ tn i s'.heap ∧ (∀ b ∈ fp, H' b = none) ∧ Iv i n H'
  have loop : codeAny (model X.prog X.w) X.A (.compLoop (.ListComp elt [⟨tg, iter, ifs, 0⟩] scope pos) 0 (.ref it) (.ref D) ce) (compEnds (model X.prog X.w) X.A X.xe use Qf (.ref D) ce) { s3 with heap := h4 } := by
    refine compLoop_any Rn ?_ m0 ⟨0, H3, J4, st4, none3, start⟩
    rintro n s5 ⟨i, H5, J5, st5, n5, w5⟩
    rcases turn i n H5 w5 with ⟨stop, fin⟩ | ⟨go, Nx, next, step⟩
    · -- the end: back in the def
      refine thn (T.done (blkE X s3 H3 scope ce fp ex) rfl rfl rfl calm i [] s5 _ H5 _ J5 (still J5 n5) st5 stop) fun r s6 ⟨er, J6⟩ => ?_
      subst er
      have nC : H5 s3.heap.objs.size = none := J6.free
      obtain ⟨m, ns, _⟩ := J6.loc
      have I7 : Inv X pins σ H5 s6 := I3.call' (ch := fp) J6.os J6.base J6.hok J6.bare fun b hb => by
        obtain ⟨_, k2, _, k4, k5, k6⟩ := fr3 b hb
        exact ⟨k4, k2, k5, k6⟩
      exact done D ce s6 m H5 I7 fin ns (nC3 nC)
    · refine thn (T.item (blkE X s3 H3 scope ce fp ex) rfl rfl rfl calm i [] s5 _ H5 _ J5 (still J5 n5) st5 go) fun r s6 ⟨u, er, h6⟩ => ?_
      subst er
      refine thn h6 fun _ s7 ⟨x, H7, J7, r7, y7, st7, n7⟩ => ?_
      have P7 := J7.pinned (still J7 n7) (T.obj _ _ st7)
      refine wpAny_mono (pg.run _ s7 _ H7 x u _ P7 r7 (step x H7 y7)) (fun _ s8 ⟨σ8, H8, J8, wp8, q8⟩ => ?_) fun _ _ z => out z
      refine wpAny_mono (pt.run _ s8 σ8 H8 _ J8 q8) (fun b s9 ⟨H9, J9, q9⟩ => ?_) fun _ _ z => out z
      have fin : ∀ {s' : Shared} {H' : Hp}, Inv (blkE X s3 H3 scope ce fp ex) ([] ++ pinsAt fp s7.heap) σ8 H' s' → Nx H' → ∃ m, m < n ∧ Rn m s' := fun {s' H'} J nx => by
        obtain ⟨m', lt, w'⟩ := next H' nx
        have held : ∀ b ∈ fp, ∀ o, s7.heap.get? b = some o → s'.heap.get? b = some o ∧ H' b = none := fun b hb o e => by
          obtain ⟨p1, p2, _⟩ := J.pin (b, o) (List.mem_append_right _ (List.mem_append_right _ (mem_pinsAt hb e)))
          exact ⟨p1, p2⟩
        refine ⟨m', lt, i + 1, H', (J.unpinned (pins := [])).weak (by rw [← wp8, wipe_length]) (fun j v e => ?_), T.keep _ _ _ st7 fun b hb o e => (held b hb o e).1, fun b hb => ?_, w'⟩
        · rw [← wp8] at e
          exact (wipe_some e).1
        · obtain ⟨o, e, _⟩ := T.obj _ _ st7 b hb
          exact (held b hb o e).2
      cases b with
      | false => exact fin J9 q9
      | true =>
        refine wpAny_mono (pe.run _ s9 σ8 H9 _ J9 q9) (fun z s10 ⟨yv, H10, J10, r10, acc, hacc, lacc, nx⟩ => ?_) fun _ _ z => out z
        exact app_ok (X := blkE X s3 H3 scope ce fp ex) J10 hacc lacc r10 fun s11 J11 => fin J11 nx
  exact codeAny_compStart_list loop (T.self X.A 0 _ _ _ st4 loop)
theorem pe_lcE {elt tg iter : Expr} {ifs : List Expr} {scope : Scope} {own : List (Str × Nat)} {wi : TI} {g : TG} {tt : TT} {te : WX → TE} {W : WX} {pos : Pos} (hs2 : X.stack = X.env :: X.outer) (hf : X.env.frame = some X.env.locals) (tk : Takes X W) (calm : X.calm = true) (nodup : X.N.Nodup) (hi : PI X tg iter wi) (ok : BlkOk X.N X.env.scope scope own)
    (hg : ∀ (s : Shared) (H : Hp) (C : Addr) (cl : List (Str × Addr)) (fp : List Addr) (ex : Value → Shared → Prop), PG (blkE X s H scope (compEnvC scope cl C X.env) fp ex) tg g)
    (ht : ∀ (s : Shared) (H : Hp) (C : Addr) (cl : List (Str × Addr)) (fp : List Addr) (ex : Value → Shared → Prop), PTs (blkE X s H scope (compEnvC scope cl C X.env) fp ex) ifs tt)
    (he : ∀ (s : Shared) (H : Hp) (C : Addr) (cl : List (Str × Addr)) (fp : List Addr) (ex : Value → Shared → Prop) (Wb : WX), (∀ σ, PassesAt (L2.CX X.prog X.w) (blkE X s H scope (compEnvC scope cl C X.env) fp ex) σ (WE Wb σ)) → PE (blkE X s H scope (compEnvC scope cl C X.env) fp ex) elt (te Wb))
    (fold : ∀ x, foldedSetIterable iter X.env x = pure x := by intro _; rfl) :
    PE X (.ListComp elt [⟨tg, iter, ifs, 0⟩] scope pos) (fun σ H Q => tLc wi g tt (te fun cls d _ H' => W cls d σ H') (own.map (·.2)) σ H Q) := by
  refine ⟨fun pins s σ H Q I want => ?_⟩
  rw [eval_ListComp]
  refine lc_coreE hs2 hf tk calm nodup hi ok hg ht he fold I want fun D ce s' m H' I' q ns fC => ⟨m, ns, fun h'' sb => ⟨.ref D, H', ?_, rfl, q⟩⟩
  obtain ⟨k1, k2, _, k4, k5, k6⟩ := fC
  exact I'.turned (t' := s'.toks) (fun b o hb e => (sb.2 b hb).trans e) k1 k2 k4 k5 k6
/-- y = [..] on one line, y a local -/
theorem ps_setLcE {elt tg iter : Expr} {ifs : List Expr} {scope : Scope} {own : List (Str × Nat)} {wi : TI} {g : TG} {tt : TT} {te : WX → TE} {W : WX} {i : Nat} {y : Str} {py pos spos : Pos} (hs2 : X.stack = X.env :: X.outer) (hf : X.env.frame = some X.env.locals) (tk : Takes X W) (calm : X.calm = true) (nodup : X.N.Nodup) (hi : PI X tg iter wi) (ok : BlkOk X.N X.env.scope scope own)
    (hg : ∀ (s : Shared) (H : Hp) (C : Addr) (cl : List (Str × Addr)) (fp : List Addr) (ex : Value → Shared → Prop), PG (blkE X s H scope (compEnvC scope cl C X.env) fp ex) tg g)
    (ht : ∀ (s : Shared) (H : Hp) (C : Addr) (cl : List (Str × Addr)) (fp : List Addr) (ex : Value → Shared → Prop), PTs (blkE X s H scope (compEnvC scope cl C X.env) fp ex) ifs tt)
    (he : ∀ (s : Shared) (H : Hp) (C : Addr) (cl : List (Str × Addr)) (fp : List Addr) (ex : Value → Shared → Prop) (Wb : WX), (∀ σ, PassesAt (L2.CX X.prog X.w) (blkE X s H scope (compEnvC scope cl C X.env) fp ex) σ (WE Wb σ)) → PE (blkE X s H scope (compEnvC scope cl C X.env) fp ex) elt (te Wb))
    (hy : X.N[i]? = some y) (hyl : X.env.scope.names.lookup y = some .local) (sw : swapsWith (.ListComp elt [⟨tg, iter, ifs, 0⟩] scope pos) (some (.Name y py)) spos.line X.env = pure true)
    (fold : ∀ x, foldedSetIterable iter X.env x = pure x := by intro _; rfl) :
    PS X (.Assign [.Name y py] (.ListComp elt [⟨tg, iter, ifs, 0⟩] scope pos) spos) (tAsg (fun σ H Q => tLc wi g tt (te fun cls d _ H' => W cls d σ H') (own.map (·.2)) σ H Q) (gName i)) := by
  refine ⟨fun pins s σ H D I want => ?_⟩
  rw [exec_Assign_Name_used _ _ _ _ sw]
  refine wpAny_bind (wpAny_standAt (wpAny_bind ?_))
  have want : tLc wi g tt (te fun cls d _ H' => W cls d σ H') (own.map (·.2)) σ H (fun x H1 => gName i x σ H1 D.nx) := want
  refine wpAny_bind (thn (lc_coreE (use := some (assign (.Name y py) X.env)) (Qf := fun _ s' => SP X pins D .next s') hs2 hf tk calm nodup hi ok hg ht he fold I want fun L ce s' m H' I' q ns fC => ?_) fun _ s' hq => wpAny_pure (wpAny_pure hq))
  show wpAny _ _ (assign (.Name y py) X.env (.ref L)) _ _ _
  obtain ⟨k1, k2, _, k4, k5, k6⟩ := fC
  refine wpAny_assign_Name (store_ok2 (v := V.ref L) I' nodup hy (.inl hyl) rfl (fun s2 I2 ⟨a, sb, ha⟩ => ⟨m, ns.sameBut sb fun z => ?_, fun h3 sb3 => ⟨_, H', I2.turned (t' := s2.toks) (fun b o hb e => (sb3.2 b hb).trans e) k1 k2 k4 k5 k6, q⟩⟩) (.inr hyl))
  rcases ha with e | e
  · exact k2 (z.trans e)
  · exact k5 y a e z.symm
end
end Lc
set_option Elab.async false
set_option linter.all false
set_option maxRecDepth 100000
set_option maxHeartbeats 4000000
namespace Lc
open PySem PySem.Spec PyProof.Rows L2
/-! ## An error that is kept behind its clause -/
/-- a field of an error that is pinned -/
theorem pe_xfP {Y : Cx} {a C : Addr} {ob : Obj} {cls : Value} {d : Option Addr} {e : Expr} {te : TE} {pos : Pos} {n : Str} (T : XfC Y.K C) (own : PySem.W.findIn Y.K (.ref C) n = some none) (pinned : (a, ob) ∈ Y.pn) (hz : Zc cls d ob) (rec : ∃ vs, ob.data = .fields vs) (he : PE Y e te)
    (base : attributeBase e n Y.env (eval e Y.env) = eval e Y.env := by rfl) : PE Y (.Attribute e n pos) (tXf a cls d C n te) := by
  refine ⟨fun pins s σ H Q I want => attr_of base (thn (he.run pins s σ H _ I want) fun u s1 hu => ?_)⟩
  obtain ⟨x, H1, J, ru, rfl, rfl, dd, fs, v, rfl, hdd, lk, q⟩ := hu
  obtain rfl : u = Value.ref a := ru
  have there := (J.pin (a, ob) (List.mem_append_left _ pinned)).1
  obtain ⟨vs, hrec⟩ := rec
  obtain ⟨mA, names, rel⟩ := (show ObjOk Y.prog Y.w H1 s1.heap dd (.xd fs) from J.hok dd _ hdd)
  obtain ⟨od, hod, look⟩ := lookIn_ns names
  obtain ⟨w, hw, rw_⟩ := RelO.some_of (v := v) (o := mA n) (lk ▸ rel n)
  have nc : PySem.W.notCls ob = true := by unfold PySem.W.notCls; rw [hrec]
  have at_ : PySem.W.InstAt s1.heap a ob C (some od) := ⟨there, hz.1, nc, by rw [hz.2]; exact hod⟩
  exact HandSPX.exc_get J.kIn at_ T.ga T.gg T.exC (PySem.W.findObj_own T.hdC own rfl (by rw [look, hw])) (handed_of rw_) ⟨v, H1, J.tok _, rw_, q⟩
theorem call_isP {Y : Cx} {a C : Addr} {ob : Obj} {cls : Value} {d : Option Addr} (T : XisC Y.K C) (pinned : (a, ob) ∈ Y.pn) (hz : Zc cls d ob) (rec : ∃ vs, ob.data = .fields vs) : CallR Y (.builtin "isinstance") (rIsX Y.K cls d C a) := by
  intro pins s σ H xs us Q I r h
  obtain ⟨ec, c, cv, b, rfl, hcv, hd, e, q⟩ := h
  obtain ⟨u1, u2, rfl, r1, r2⟩ := vals2 r
  have e2 := hcv.eq r2
  subst e2 ec
  obtain rfl : u1 = Value.ref a := r1
  obtain ⟨vs, hv⟩ := rec
  obtain ⟨hget, _⟩ := I.pin (a, ob) (List.mem_append_left _ pinned)
  have nc : PySem.W.notCls ob = true := by unfold PySem.W.notCls; rw [hv]
  have key : ∃ od, PySem.W.InstAt s.heap a ob C od := by
    cases d with
    | none => exact ⟨none, hget, hz.1, nc, by rw [hz.2]; trivial⟩
    | some dd =>
      obtain ⟨fs, hfs⟩ := hd dd rfl
      obtain ⟨mA, ⟨o, _, _, ho, _⟩, _⟩ := (show ObjOk Y.prog Y.w H s.heap dd (.xd fs) from I.hok dd _ hfs)
      exact ⟨some o, hget, hz.1, nc, by rw [hz.2]; exact ho⟩
  obtain ⟨od, J⟩ := key
  exact PySem.W.kia_one (PySem.W.kitx_exc T.hc T.ga T.gt T.sb T.cl T.sp T.tk T.mo) I.kIn J e (fun z => nomatch z) fun tk => ⟨.bl b, H, I.kept (t' := tk) fun _ _ z => z, rfl, q⟩
/-- the end of a clause, behind which the error stays pinned -/
def endP (i : Nat) (tr : Addr → Value → Option Addr → TS) (a : Addr) (cls : Value) (d : Option Addr) (D : Ends) : Ends := ⟨fun σ H => tr a cls d D (σ.set i none) H, D.rt, fun σ H => D.bk (σ.set i none) H, fun σ H => D.ct (σ.set i none) H⟩
def wKeep (K : PySem.W.Frag) (c : Value) (i : Nat) (ts tr : Addr → Value → Option Addr → L2.TS) (Wout : WX) (D : Ends) : WX := fun cls d σ H => ∃ b, PySem.W.exmOne K cls c = some b ∧ (b = true → ∀ a, H a = none → ts a cls d (endP i tr a cls d D) (σ.set i (some (.ref a))) H) ∧ (b = false → Wout cls d σ H)
section
variable {X : Cx}
theorem pss_keep {body rest sts : List Stmt} {st : Stmt} {x n : Str} {c : Value} {i : Nat} {p1 p2 pos : Pos} {tb : WX → TS} {u : TS} {ts tr : Addr → Value → Option Addr → L2.TS} {Wout : WX} (hs : X.stack = X.env :: X.outer) (hf : X.env.frame = some X.env.locals) (tk : Takes X Wout) (nm : Names X x c) (nodup : X.N.Nodup) (hi : X.N[i]? = some n) (hn : X.env.kindOf n = some .local)
    (hb : ∀ (W : WX) (pn : List (Addr × Obj)) (xe : Value → Shared → Prop), Takes (X.tr pn xe) W → PassesOwn (model X.prog X.w) X.A X.env xe → PSs (X.tr pn xe) body (tb W)) (su : SuiteOk X (st :: sts) ts) (hr : PSs X rest u)
    (hk : ∀ (a : Addr) (ob : Obj) (cls : Value) (d : Option Addr) (pn : List (Addr × Obj)), Zc cls d ob → (∃ vs, ob.data = .fields vs) → PSs (X.tr ((a, ob) :: pn) X.xe) rest (tr a cls d)) :
    PSs X (.Try body [.ExceptHandler (some (.Name x p1)) (some n) (st :: sts) p2] [] [] pos :: rest) (fun D σ H => tb (wKeep X.K c i ts tr Wout D) { D with nx := u D } σ H) := by
  refine ⟨fun pins s σ H D I want => wpAny_execs_cons ?_⟩
  have ok := I.ok
  have fr : X.A.frames = some (X.env :: X.outer) := ok.frames.trans (congrArg some hs)
  let Post : Flow → Shared → Prop := fun f s1 => match f with
    | .next => wpAny (model X.prog X.w) X.A (execs rest X.env) (SP X pins D) X.xe s1
    | f => SP X pins D f s1
  have goal : wpAny (model X.prog X.w) X.A (exec (.Try body [.ExceptHandler (some (.Name x p1)) (some n) (st :: sts) p2] [] [] pos) X.env) Post X.xe s := by
    refine wpAny_Try_except (wpAny_mono ((hb (wKeep X.K c i ts tr Wout D) (X.pn ++ pins) (fun e s₁ => wpAny (model X.prog X.w) X.A (noteFrame e X.env) (fun _ s₂ => wpAny (model X.prog X.w) X.A (setFlight e none)
      (fun _ s₃ => wpAny (model X.prog X.w) X.A (handleBy e X.env [.ExceptHandler (some (.Name x p1)) (some n) (st :: sts) p2]) Post X.xe s₃) X.xe s₂) X.xe s₁) (fun w s' air => ?_) PassesOwn.looking).run [] s σ H _ (I.toTry _) want) (fun f s1 hsp => ?_) (fun _ _ he => he))
    · obtain ⟨a, B, sI, _, σ1, H1, cls, d, rfl, J', nb, up, sky, na, os, ag, wi⟩ := air
      have J := J'.ofTry ok
      rw [hs] at sky
      refine Sky.land Zc.steady fr hf sky fun h3 fl3 up3 => ?_
      -- the state on the ground, with the error pinned
      have land : ∀ {h4 : Heap}, HandSPX.FlyingZ B (X.env :: X.outer) a (Zc cls d) h4 → sI.heap.UpToSlots h4 → Inv X pins σ1 H1 { s' with heap := h4 } ∧ ∃ ob vs, Zc cls d ob ∧ ob.data = .fields vs ∧ h4.get? a = some ob ∧ Inv (X.suite a ((a, ob) :: (X.pn ++ pins))) [] σ1 H1 { s' with heap := h4 } := by
        intro h4 f4 u4
        have J4 : Inv X pins σ1 H1 { s' with heap := h4 } := J.landed nb f4.1 u4 os ag
        obtain ⟨ob, vs, hob, hz, hd⟩ := f4.there
        have out : a ∉ frs (X.env :: X.outer) := fun hm => by
          obtain ⟨_, o2, e2, nf⟩ := f4.2.2.1.mem hm
          rw [hob] at e2
          cases e2
          exact nf _ hd
        have nL : a ≠ X.env.locals := fun z => out (List.mem_filterMap.mpr ⟨X.env, List.mem_cons_self, by rw [hf, z]⟩)
        have nF : a ∉ X.fs := fun hm => by
          obtain ⟨en, hen, qq⟩ := List.mem_filterMap.mp hm
          exact out (List.mem_filterMap.mpr ⟨en, List.mem_cons_of_mem _ hen, qq⟩)
        exact ⟨J4, ob, vs, hz, hd, hob, J4.suite hob hd na nL nF⟩
      obtain ⟨J3, o3, vs3, hz3, hd3, ho3, S3⟩ := land fl3 (up.trans up3)
      have ty : PySem.W.Looks (model X.prog X.w) h3 (typeOf (.ref a)) cls := fun _ _ _ _ kk qq => wpAny_typeOf_ref (kk _ _ ho3) (by rw [hz3.1]; exact qq)
      have tst : ∀ {Q : Value → Shared → Prop} {E : Value → Shared → Prop}, Q c { s' with heap := h3 } → wpAny (model X.prog X.w) (X.A.mark (some (.ref a))) (eval (.Name x p1) X.env) Q E { s' with heap := h3 } := by
        intro Q E hq
        obtain ⟨hg, hdb, hm | ⟨hm, hv, hne⟩⟩ := nm
        · exact ld_glob (X := X.suite a ((a, o3) :: (X.pn ++ pins))) S3 hg hm hq hdb
        · exact ld_blt (X := X.suite a ((a, o3) :: (X.pn ++ pins))) S3 hg hm hv hq hne hdb
      obtain ⟨b, hbm, yes, no⟩ := wi
      refine wpAny_handleBy_cons (codeAny_handlers_test (tst ((PySem.W.exm_one (M := model X.prog X.w) J3.kIn ty hbm).here ?_))) (by intro z; cases z)
      cases b with
      | false =>
        -- not of this clause: it goes on
        refine wpAny_handleBy_nil ?_
        obtain ⟨_, _, _, ox, vx, T, _, _, hox, _, hdx, h1, _⟩ := id fl3
        have away : wpAny (model X.prog X.w) X.A (setFlight (.ref a) X.env.frame) (fun _ s4 => wpAny (model X.prog X.w) X.A (throw (.ref a) : Sem Flow) Post X.xe s4) X.xe { s' with heap := h3 } := by
          rw [hf]
          exact HandSPX.setFlight_upZ fl3 fun h4 f4 u4 => wpAny_throw (tk _ _ ⟨a, B, sI, pins, σ1, H1, cls, d, rfl, J, nb, (up.trans up3).trans u4, .inr (.inr (by rw [hs]; exact f4)), na, os, ag, no rfl⟩)
        unfold PySem.passOn
        refine wpAny_bind (wpAny_field hox hdx h1 ?_)
        rw [if_neg (by simp : ¬ ((Value.ref T == Value.none) = true))]
        first
          | exact wpAny_bind away
          | exact wpAny_bind (wpAny_pure (wpAny_bind away))
      | true =>
        refine codeAny_handlers_suite_as (HandSPX.lands_againZ fl3 fun h4 f4 u4 => ?_)
        obtain ⟨J4, o4, vs4, hz4, hd4, ho4, S4⟩ := land f4 ((up.trans up3).trans u4)
        have yy := yes rfl a na
        refine store_ok (X := X.suite a ((a, o4) :: (X.pn ++ pins))) (v := .ref a) S4 nodup hi (.inl hn) rfl (fun s5 S5 => ?_) (.inr hn)
        refine wpAny_mono ((su a o4 cls d (X.pn ++ pins) hz4 ⟨_, hd4⟩).run [] s5 _ H1 _ S5 yy) (fun f s6 hsp => ?_) (fun _ _ z => z.elim)
        -- the state behind the suite, the error pinned, the clause's name gone
        have keep : ∀ {σ6 : L2.St} {H6 : Hp} {Q : Shared → Prop}, Inv (X.suite a ((a, o4) :: (X.pn ++ pins))) [] σ6 H6 s6 → (∀ s7, Inv (X.tr ((a, o4) :: (X.pn ++ pins)) X.xe) [] (σ6.set i none) H6 s7 → Q s7) →
            wpAny (model X.prog X.w) X.A (do bindName X.env n .none; unbindBehindTheSuite X.env n p2) (fun _ s7 => Q s7) X.xe s6 := fun {σ6 H6 Q} S6 k =>
          gone_ok (X := X.tr ((a, o4) :: (X.pn ++ pins)) X.xe) (pins := []) ⟨ok.toTry _ _, S6.os, S6.bare, S6.base, S6.loc, S6.cell, S6.free, S6.freeC, S6.pin, S6.hok, S6.len⟩ nodup hi hn k
        have drop : ∀ {σ7 : L2.St} {H7 : Hp} {s7 : Shared}, Inv (X.tr ((a, o4) :: (X.pn ++ pins)) X.xe) [] σ7 H7 s7 → Inv X pins σ7 H7 s7 := fun J => ⟨ok, J.os, J.bare, J.base, J.loc, J.cell, J.free, J.freeC, fun p hp => J.pin p (List.mem_append_left _ (List.mem_cons_of_mem _ hp)), J.hok, J.len⟩
        cases f with
        | ret w =>
          obtain ⟨v6, σ6, H6, S6, r6, q6⟩ := hsp
          exact keep S6 fun s7 J7 => ⟨_, _, _, drop J7, r6, q6⟩
        | next =>
          obtain ⟨σ6, H6, S6, q6⟩ := hsp
          refine keep S6 fun s7 J7 => ?_
          refine thn ((hk a o4 cls d (X.pn ++ pins) hz4 ⟨_, hd4⟩).run [] s7 _ H6 D J7 q6) fun f8 s8 q8 => ?_
          cases f8 with
          | ret w =>
            obtain ⟨v8, σ8, H8, J8, r8, q8⟩ := q8
            exact ⟨v8, σ8, H8, drop J8, r8, q8⟩
          | next => obtain ⟨σ8, H8, J8, q8⟩ := q8; exact ⟨σ8, H8, drop J8, q8⟩
          | brk => obtain ⟨σ8, H8, J8, q8⟩ := q8; exact ⟨σ8, H8, drop J8, q8⟩
          | cont => obtain ⟨σ8, H8, J8, q8⟩ := q8; exact ⟨σ8, H8, drop J8, q8⟩
        | brk => obtain ⟨σ6, H6, S6, q6⟩ := hsp; exact keep S6 fun s7 J7 => ⟨_, _, drop J7, q6⟩
        | cont => obtain ⟨σ6, H6, S6, q6⟩ := hsp; exact keep S6 fun s7 J7 => ⟨_, _, drop J7, q6⟩
    · cases f with
      | ret w =>
        obtain ⟨v1, σ1, H1, J1, r1, q1⟩ := hsp
        exact ⟨v1, σ1, H1, J1.ofTry ok, r1, q1⟩
      | next =>
        obtain ⟨σ1, H1, J1, q1⟩ := hsp
        exact wpAny_execs_nil (hr.run pins s1 σ1 H1 D (J1.ofTry ok) q1)
      | brk => obtain ⟨σ1, H1, J1, q1⟩ := hsp; exact ⟨σ1, H1, J1.ofTry ok, q1⟩
      | cont => obtain ⟨σ1, H1, J1, q1⟩ := hsp; exact ⟨σ1, H1, J1.ofTry ok, q1⟩
  refine thn goal fun f s1 q => ?_
  cases f with
  | next => exact q
  | ret w => exact q
  | brk => exact q
  | cont => exact q
end
end Lc
set_option Elab.async false
set_option linter.all false
set_option maxRecDepth 100000
set_option maxHeartbeats 4000000
namespace K19
open PySem PySem.Spec PyProof.Rows L2 Lc
/-! ## rows stay of their columns' kinds -/
def TbW (tbs : TbL) : Prop := ∀ x ∈ tbs, RowW x.2.1 (x.2.2.map (·.2))
theorem TbsAt.w {C : Addr} {H : Hp} : ∀ {kvs : List (Key × V)} {tbs : TbL}, TbsAt C H kvs tbs → TbW tbs
  | _, _, .nil => nofun
  | _, _, .cons it ca cp rw_ ln r => fun x hx => by
    rcases List.mem_cons.mp hx with rfl | hx
    · exact rw_
    · exact r.w x hx
theorem Vks.app2 : ∀ {ks ks' : List Str} {ds ds' : List PyData}, Vks ks ds → Vks ks' ds' → Vks (ks ++ ks') (ds ++ ds')
  | _, _, _, _, .nil, h => h
  | _, _, _, _, .cons h r, h' => .cons h (r.app2 h')
theorem vks_add {cs ps : CsL} {ks : List Str} {vals : List PyData} (h : Vks (cs.map (·.2)) vals) (e : ∀ p ∈ cs, p.1 ∈ ks ↔ p.1 ∈ nms ps) : ∀ i, i ≤ cs.length → Vks (((cs.take i).filter fun p => decide (p.1 ∉ nms ps)).map (·.2)) (((List.range i).filter fun j => decide ((nms cs).getD j "" ∉ ks)).map fun j => vals.getD j .none)
  | 0, _ => .nil
  | i + 1, l => by
    have ih := vks_add h e i (by omega)
    obtain ⟨p, ep⟩ : ∃ p, cs[i]? = some p := ⟨_, List.getElem?_eq_getElem (by omega)⟩
    have gi : (nms cs).getD i "" = p.1 := by rw [List.getD_eq_getElem?_getD, List.getElem?_map, ep]; rfl
    obtain ⟨d, ed, vd⟩ := vks_get h (i := i) (k := p.2) (by rw [List.getElem?_map, ep]; rfl)
    have gd : vals.getD i .none = d := by rw [List.getD_eq_getElem?_getD, ed]; rfl
    rw [fil_take _ ep, List.range_succ, List.filter_append, List.filter_cons, List.filter_nil, gi]
    have ee := e p (List.mem_of_getElem? ep)
    by_cases q : p.1 ∈ nms ps
    · rw [decide_eq_false (fun h => h q), decide_eq_false (fun h => h (ee.mpr q)), if_neg (by decide), if_neg (by decide), List.append_nil, List.append_nil]
      exact ih
    · have nk : ¬ p.1 ∈ ks := fun h => q (ee.mp h)
      rw [decide_eq_true q, decide_eq_true nk, if_pos rfl, if_pos rfl, List.map_append, List.map_append]
      refine Vks.app2 ih (.cons ?_ .nil)
      show Vk p.2 (vals.getD i .none)
      rw [gd]
      exact vd
theorem mates_mem {js ls : List Nat} {os : List RowD} {r o : RowD} (h : o ∈ mates js ls os r) : o ∈ os := by
  unfold mates at h
  split at h
  · cases h
  · exact (List.mem_filter.mp h).1
theorem Lead.rows {tbs : TbL} {ps qs : CsL} {st : Ps} {ds : List RowD} (h : Lead (osOf tbs) ps st qs) (c : ColP ps) (w : RowW ps ds) (wt : TbW tbs) (nd : (tbs.map (·.1)).Nodup) : RowW qs (stepB tbs ps st ds) := by
  cases h with
  | keep => exact w
  | first h => exact fun r hr => w r (List.mem_of_mem_take hr)
  | sample h1 h2 h3 h4 => exact w
  | @union t ht =>
    obtain ⟨rs2, ht2⟩ := os_mem ht
    intro r hr
    rcases List.mem_append.mp hr with hr | hr
    · exact w r hr
    · rw [rowsOf_at nd ht2] at hr
      exact wt _ ht2 r hr
  | @join t ks cs ht ndk l1 l3 h hk l8 =>
    obtain ⟨rs2, ht2⟩ := os_mem ht
    intro q hq
    have hq : q ∈ joinL (jx ps ks) (jx (colsOf tbs t) ks) (adJ (colsOf tbs t) ks) (rowsOf tbs t) ds := hq
    rw [colsOf_at nd ht2, rowsOf_at nd ht2] at hq
    obtain ⟨r, hr, hq⟩ := List.mem_flatMap.mp hq
    obtain ⟨o, ho, rfl⟩ := List.mem_map.mp hq
    have ho := mates_mem ho
    obtain ⟨h1, h2⟩ := w r hr
    obtain ⟨g1, g2⟩ := wt _ ht2 o ho
    refine ⟨?_, unL_ok fun l hl => ?_⟩
    · rw [List.map_append]
      refine Vks.app2 h1 ?_
      have := vks_add (ks := ks) (ps := ps) g1 (fun p hp => ⟨fun z => ((h _).mp z).2, fun z => (h _).mpr ⟨List.mem_map_of_mem (f := (·.1)) hp, z⟩⟩) cs.length (Nat.le_refl _)
      rw [List.take_length] at this
      exact this
    · simp only [List.mem_cons, List.not_mem_nil, or_false] at hl
      rcases hl with rfl | rfl
      · exact h2
      · exact g2
theorem stepB_len {tbs : TbL} {ps : CsL} {st : Ps} {ds : List RowD} (l : ds.length ≤ 1300) (c : st.chk = true → (stepB tbs ps st ds).length ≤ 1000) : (stepB tbs ps st ds).length ≤ 1300 := by
  cases st with
  | keep e => exact l
  | first n => exact Nat.le_trans (by show (ds.take n).length ≤ ds.length; rw [List.length_take]; omega) l
  | sample a b c => exact l
  | join t ks => exact Nat.le_trans (c rfl) (by decide)
  | union t => exact Nat.le_trans (c rfl) (by decide)
/-- steps one behind the other; what is told in the end: nothing, or of how many rows -/
inductive Runs (tbs : TbL) : CsL → List RowD → List Ps → CsL → List RowD → Option Nat → Prop
  | nil {ps : CsL} {ds : List RowD} : Runs tbs ps ds [] ps ds none
  | cons {ps qs rs : CsL} {ds es : List RowD} {st : Ps} {sts : List Ps} {o : Option Nat} (h : Lead (osOf tbs) ps st qs) (p : st.Pl) (c : st.chk = true → (stepB tbs ps st ds).length ≤ 1000) (r : Runs tbs qs (stepB tbs ps st ds) sts rs es o) : Runs tbs ps ds (st :: sts) rs es o
  | big {ps qs rs : CsL} {ds es : List RowD} {st : Ps} {sts : List Ps} (h : Lead (osOf tbs) ps st qs) (p : st.Pl) (c : st.chk = true) (l : 1000 < (stepB tbs ps st ds).length) : Runs tbs ps ds (st :: sts) rs es (some (stepB tbs ps st ds).length)
/-- a dict comprehension over a dict's keys -/
theorem dc_keys {d : Addr} {o : Obj} {kvs0 : List (Key × V)} {g : TG} {tt : TT} {tk tv : TE} {vs : List Nat} {σ : L2.St} {H1 : Hp} {D : Addr} {Qd : Hp → Prop} (Pv : Nat → Hp → Prop) (h0 : Pv 0 (L2.upd H1 D (.dK []))) (hl : ∀ i H, i ≤ kvs0.length → Pv i H → H d = some (.frz o (.dK kvs0)))
    (hs : ∀ i k0 v0 H, kvs0[i]? = some (k0, v0) → Pv i H → g (kV k0) (wipe σ vs) H fun σ2 H2 => wipe σ2 vs = wipe σ vs ∧ tt σ2 H2 fun b H3 =>
      if b = true then tk σ2 H3 fun y H4 => tv σ2 H4 fun z H5 => ∃ kvs k, y = kV k ∧ H5 D = some (.dK kvs) ∧ kvs.length < sizeLine ∧ Pv (i + 1) (L2.upd H5 D (.dK (putK kvs k z))) else Pv (i + 1) H3) (hd : ∀ H, Pv kvs0.length H → Qd H) :
    ∃ W : Nat → Nat → Hp → Prop, (∃ m, W 0 m (L2.upd H1 D (.dK []))) ∧ ∀ i m H, W i m H →
      ((Itk d o kvs0).stop i H ∧ Qd H) ∨ ((Itk d o kvs0).go i H ∧ ∃ Nx : Hp → Prop, (∀ H', Nx H' → ∃ m', m' < m ∧ W (i + 1) m' H') ∧ ∀ x H', (Itk d o kvs0).yld i H x H' → g x (wipe σ vs) H' fun σ2 H2 => wipe σ2 vs = wipe σ vs ∧ tt σ2 H2 fun b H3 =>
        if b = true then tk σ2 H3 fun y H4 => tv σ2 H4 fun z H5 => ∃ kvs k, y = kV k ∧ H5 D = some (.dK kvs) ∧ kvs.length < sizeLine ∧ Nx (L2.upd H5 D (.dK (putK kvs k z))) else Nx H3) := by
  refine ⟨fun i m H => m = kvs0.length - i ∧ i ≤ kvs0.length ∧ Pv i H, ⟨kvs0.length, by simp, Nat.zero_le _, h0⟩, ?_⟩
  rintro i m H ⟨rfl, hi, p⟩
  have q := hl i H hi p
  by_cases hlt : i < kvs0.length
  · refine .inr ⟨⟨q, hlt⟩, Pv (i + 1), fun H' p' => ⟨kvs0.length - (i + 1), by omega, rfl, hlt, p'⟩, fun x H' y => ?_⟩
    obtain ⟨e, k0, v0, e2, e3⟩ := y
    subst e
    subst e3
    exact hs i k0 v0 _ e2 p
  · have e : i = kvs0.length := by omega
    subst e
    exact .inl ⟨⟨q, Nat.le_refl _⟩, hd H p⟩
/-! ## resolved, and run -/
inductive StepsAt (H : Hp) : List V → List Ps → Prop
  | nil : StepsAt H [] []
  | cons {a : Addr} {ys : List V} {st : Ps} {sts : List Ps} (h : Dh H (.ref a) st.d) (r : StepsAt H ys sts) : StepsAt H (.ref a :: ys) (st :: sts)
theorem StepsAt.same {H H' : Hp} (s : Same H H') : ∀ {ys : List V} {sts : List Ps}, StepsAt H ys sts → StepsAt H' ys sts
  | _, _, .nil => .nil
  | _, _, .cons h r => .cons (h.same s) (r.same s)
theorem StepsAt.len {H : Hp} : ∀ {ys : List V} {sts : List Ps}, StepsAt H ys sts → ys.length = sts.length
  | _, _, .nil => rfl
  | _, _, .cons h r => by rw [List.length_cons, List.length_cons, r.len]
theorem StepsAt.get {H : Hp} : ∀ {ys : List V} {sts : List Ps}, StepsAt H ys sts → ∀ {i : Nat} {y : V}, ys[i]? = some y → ∃ a st, sts[i]? = some st ∧ y = .ref a ∧ Dh H (.ref a) st.d
  | _, _, .nil, i, y, e => by simp at e
  | _, _, .cons h r, 0, y, e => by
    cases e
    exact ⟨_, _, rfl, rfl, h⟩
  | _, _, .cons h r, i + 1, y, e => by
    obtain ⟨a, st, e1, e2⟩ := r.get (i := i) (by simpa using e)
    exact ⟨a, st, by simpa using e1, e2⟩
theorem StepsAt.snoc {H : Hp} {a : Addr} {st : Ps} : ∀ {ys : List V} {sts : List Ps}, StepsAt H ys sts → Dh H (.ref a) st.d → StepsAt H (ys ++ [.ref a]) (sts ++ [st])
  | _, _, .nil, g => .cons g .nil
  | _, _, .cons h r, g => .cons h (r.snoc g)
def spRes : Sp := fun vs H Q _ => ∃ (p sv : Addr) (S : V) (src : Str) (ys : List V) (sts : List Ps), vs = [.ref p, S] ∧ H p = some (.tup [.str src, .ref sv]) ∧ H sv = some (.tup ys) ∧ StepsAt H ys sts ∧ ys.length ≤ 10 ∧
  ∀ (q tv : Addr) (H' : Hp), Same H H' → H' q = some (.tup [.str src, .ref tv]) → H' tv = some (.tup ys) → Q (.ref q) H'
def rbW : List Str := ["keep", "first", "sample", "join", "union"]
theorem not_choose (st : Ps) : st.w ≠ "choose" := by
  cases st
  · show ("keep" : Str) ≠ "choose"; decide +kernel
  · show ("first" : Str) ≠ "choose"; decide +kernel
  · show ("sample" : Str) ≠ "choose"; decide +kernel
  · show ("join" : Str) ≠ "choose"; decide +kernel
  · show ("union" : Str) ≠ "choose"; decide +kernel
theorem pl_w (st : Ps) : st.w ∈ rbW := by
  cases st
  · exact .head _
  · exact .tail _ (.head _)
  · exact .tail _ (.tail _ (.head _))
  · exact .tail _ (.tail _ (.tail _ (.head _)))
  · exact .tail _ (.tail _ (.tail _ (.tail _ (.head _))))
structure RbA (P : Program) (w : World) (K : PySem.W.Frag) (mg : Str → Option Value) (base : Heap) (C CT rA : Addr) (g : Str → Addr) : Prop where
  gr : mg "ROWS_BEHIND" = some (.ref rA)
  d : ∀ x ∈ rbW, KDct K w rA x (.ref (g x))
  h : ∀ x ∈ rbW, HeldX P w K mg base 16 (g x) (spRb C CT x)
  inj : ∀ a ∈ rbW, ∀ b ∈ rbW, g a = g b → a = b
def spOf (C CT : Addr) (g : Str → Addr) (q : Addr) : Option Sp := (rbW.find? fun a => decide (g a = q)).map (spRb C CT)
theorem spOf_at {P : Program} {w : World} {K : PySem.W.Frag} {mg : Str → Option Value} {base : Heap} {C CT rA : Addr} {g : Str → Addr} (A : RbA P w K mg base C CT rA g) {x : Str} (h : x ∈ rbW) : spOf C CT g (g x) = some (spRb C CT x) := by
  unfold spOf
  cases e : rbW.find? fun a => decide (g a = g x) with
  | none => exact absurd (List.find?_eq_none.mp e x h) (by simp)
  | some a =>
    have h1 := List.find?_some e
    have h2 := List.mem_of_find?_eq_some e
    rw [A.inj a h2 x h (by simpa using h1)]
    rfl
theorem TbsAt.get {C : Addr} {H : Hp} : ∀ {kvs : List (Key × V)} {tbs : TbL}, TbsAt C H kvs tbs → ∀ {i : Nat} {k : Key} {v : V}, kvs[i]? = some (k, v) → ∃ n cs rs, tbs[i]? = some (n, cs, rs) ∧ k = .inr n
  | _, _, .nil, i, k, v, e => by simp at e
  | _, _, .cons it ca cp rw_ ln r, 0, k, v, e => by cases e; exact ⟨_, _, _, rfl, rfl⟩
  | _, _, .cons it ca cp rw_ ln r, i + 1, k, v, e => by
    obtain ⟨n, cs, rs, h⟩ := r.get (i := i) (by simpa using e)
    exact ⟨n, cs, rs, by simpa using h⟩
theorem TbsAt.len {C : Addr} {H : Hp} : ∀ {kvs : List (Key × V)} {tbs : TbL}, TbsAt C H kvs tbs → kvs.length = tbs.length
  | _, _, .nil => rfl
  | _, _, .cons _ _ _ _ _ r => by rw [List.length_cons, List.length_cons, r.len]
theorem TabC.len {H : Hp} : ∀ {kvs : List (Key × V)} {os : OsL}, TabC H kvs os → kvs.length = os.length
  | _, _, .nil => rfl
  | _, _, .cons _ r => by rw [List.length_cons, List.length_cons, r.len]
theorem TabC.upd {H : Hp} {b : Addr} {u o : HO} (hb : H b = some u) (nu : ∀ xs, u ≠ .tup xs) (nf : ∀ o xs, u ≠ .frz o (.tup xs)) : ∀ {kvs : List (Key × V)} {os : OsL}, TabC H kvs os → TabC (L2.upd H b o) kvs os
  | _, _, .nil => .nil
  | _, _, .cons ca r => .cons (ca.upd hb nu nf) (TabC.upd hb nu nf r)
theorem TabC.put {H : Hp} {n : Str} {cs : CsL} {C : Addr} (ca : CA H C cs) : ∀ {kvs : List (Key × V)} {os : OsL}, TabC H kvs os → n ∉ os.map (·.1) → TabC H (putK kvs (Sum.inr n : Key) (.ref C)) (os ++ [(n, cs)]) := by
  intro kvs os h hn
  have e : putK kvs (Sum.inr n : Key) (.ref C) = kvs ++ [((Sum.inr n : Key), .ref C)] := by
    unfold putK
    have : (kvs.any fun kv => decide (kv.1 = (Sum.inr n : Key))) = false := by
      induction h with
      | nil => rfl
      | cons ca2 r ih =>
        rw [List.map_cons, List.mem_cons, not_or] at hn
        rw [List.any_cons, ih hn.2, Bool.or_false]
        exact decide_eq_false fun z => hn.1 (by injection z with z; exact z.symm)
    rw [this, if_neg (by decide)]
  rw [e]
  clear e
  induction h with
  | nil => exact .cons ca .nil
  | cons ca2 r ih =>
    rw [List.map_cons, List.mem_cons, not_or] at hn
    exact .cons ca2 (ih hn.2)
theorem dK_n1 {kvs : List (Key × V)} : (∀ xs, HO.dK kvs ≠ .tup xs) ∧ ∀ c d f, HO.dK kvs ≠ .ins c d f := ⟨fun _ h => HO.noConfusion h, fun _ _ _ h => HO.noConfusion h⟩
theorem dK_n2 {kvs : List (Key × V)} : ∀ o xs, HO.dK kvs ≠ .frz o (.tup xs) := fun _ _ h => HO.noConfusion h
theorem frz_n1 {od : Obj} {kvs : List (Key × V)} : ∀ xs, HO.frz od (.dK kvs) ≠ .tup xs := fun _ h => HO.noConfusion h
theorem frz_n2 {od : Obj} {kvs : List (Key × V)} : ∀ o xs, HO.frz od (.dK kvs) ≠ .frz o (.tup xs) := fun _ _ h => by
  injection h with _ h
  cases h
def spRun (C CT : Addr) : Sp := fun vs H Q E => ∃ (D p sv : Addr) (src : Str) (kvs : List (Key × V)) (tbs : TbL) (rs : RowsL) (ps qs : CsL) (es : List RowD) (o : Option Nat) (ys : List V) (sts : List Ps), vs = [.ref D, .ref p, .non] ∧ H D = some (.dK kvs) ∧ TbsAt C H kvs tbs ∧ WtP tbs ∧ (src, ps, rs) ∈ tbs ∧ H p = some (.tup [.str src, .ref sv]) ∧ H sv = some (.tup ys) ∧ StepsAt H ys sts ∧ Runs tbs ps (rs.map (·.2)) sts qs es o ∧ ys.length ≤ 10 ∧
  (o = none → ∀ (a' cv' : Addr) (rs' : RowsL) (H' : Hp), Same H H' → IsTb C H' a' cv' rs' → CA H' cv' qs → ColP qs → RowW qs es → rs'.map (·.2) = es → rs'.length ≤ 1300 → Q (.ref a') H') ∧
  (∀ n, o = some n → ∀ H', Same H H' → TellsF CT "size" H' (.int (n : Nat)) E)
section
variable {P : Program} {w : World} {K : PySem.W.Frag} {mg : Str → Option Value} {base : Heap} {f : Addr} {fd : FuncData}
abbrev sRes : Stmt := top 100
abbrev nRes : List Str := ["pipeline", "setting", "source", "steps", "plain", "step", "index"]
abbrev pRes : List Str := ["pipeline", "setting"]
theorem scRes : FnScope nRes pRes (defScope sRes) := ⟨rfl, rfl, rfl, by decide +kernel, rfl, by decide +kernel, by decide +kernel⟩
section
theorem ok_Res (F : Fun K "resolved" "resolved" sRes f fd) (T : Bt mg) : FnOk P w K mg base CX0 1 f fd pRes (spRes) := by
  refine F.ok scRes (fun vs H Q E h => ?_) (fun cdv A outer s H vs Q E hr h => ?_)
  · obtain ⟨p, sv, S, src, ys, sts, rfl, _⟩ := h
    rfl
  · obtain ⟨p, sv, S, src, ys, sts, rfl, hp, hs, ha, l10, k⟩ := h
    refine ⟨_, (pss_cons (ps_asg (pv 0) (pg_tup rfl (pgs_cons (pg_name (i := 2) scRes.nd rfl (.inl rfl)) (pgs_cons (pg_name (i := 3) scRes.nd rfl (.inl rfl)) pgs_nil))))
      (pss_cons (ps_set (i := 4) scRes.nd rfl (Or.inl rfl) (pe_lst pa_nil))
      (pss_cons (ps_for PassesOwn.never rfl (pi_tup (pv 3)) (pg_name (i := 5) scRes.nd rfl (.inl rfl)) (pss_one (ps_if (pt_cmpR op_eq (pe_ix ix_tup (pv 5) pe_int (fun _ _ => rfl)) pe_str (nomark _)) pss_dead (pss_one (ps_expr (pe_bm PySem.F.plainAttrs_list PySem.F.slot_list_append PySem.F.type_list_append mt_append (pv 4) (pa_cons (pv 5) pa_nil)))))))
      (pss_one (ps_ret (pe_tup (pa_cons (pv 2) (pa_cons (pe_callTy call_tuple_of (by rfl) T.tuple boot_tuple (pa_cons (pv 4) pa_nil)) pa_nil)))))))), ?_⟩
    refine ⟨_, rfl, p, _, rfl, SqT.of hp, rfl, _, _, rfl, _, _, rfl, rfl, ?_⟩
    dsimp only [gNil]
    refine ⟨by show 0 ≤ sizeLine; decide, fun L hL => ?_⟩
    have zL := Same.upd (o := .lst []) hL
    have eL : upd H L (.lst []) L = some (.lst []) := upd_same
    generalize upd H L (.lst []) = H1 at zL eL ⊢
    refine ⟨_, rfl, sv, rfl, ⟨_, SqT.of (zL _ _ hs)⟩, for_tup (K := K) (a := sv) (xs := ys) (fun i σ H' => (∃ x5 x6 : Option V, σ = [some (.ref p), some S, some (.str src), some (.ref sv), some (.ref L), x5, x6]) ∧ H' L = some (.lst (ys.take i)) ∧ Same H H') ⟨⟨_, _, rfl⟩, eL, zL⟩ (fun i σ H' _ pr => SqT.of (pr.2.2 _ _ hs)) ?_ ?_⟩
    · rintro i y σ H2 hy ⟨⟨x5, x6, rfl⟩, e2, s2⟩
      obtain ⟨a, st, e3, rfl, d3⟩ := ha.get hy
      obtain ⟨xs, e4, lx⟩ := ps_at d3
      have nc : ¬ (V.str st.w = V.str "choose") := fun h => not_choose st (by injection h)
      refine ⟨_, rfl, a, _, _, .str st.w, rfl, rfl, SqT.of (s2 _ _ e4), at_of (j := 0) rfl rfl, rfl, _, rfl, ?_⟩
      rw [decide_eq_false nc]
      have li := (List.getElem?_eq_some_iff.mp hy).1
      refine iteF ⟨_, rfl, .inl ⟨rfl, _, SqL.of e2⟩, _, rfl, L, _, _, rfl, rfl, e2, Nat.lt_of_le_of_lt (show (ys.take i).length ≤ 10 by rw [List.length_take]; omega) (by decide), ⟨⟨_, _, rfl⟩, ?_, fun b o e => by rw [upd_ne (ne_of_none e hL)]; exact s2 b o e⟩⟩
      rw [upd_same, List.take_add_one, hy]
      rfl
    · rintro σ H2 ⟨⟨x5, x6, rfl⟩, e2, s2⟩
      rw [List.take_length] at e2
      refine ⟨_, rfl, _, rfl, L, ys, rfl, .inl ⟨SqL.of e2, fun tv htv => ⟨by show 2 ≤ sizeLine; decide, fun q hq => ?_⟩⟩⟩
      have z1 := Same.upd (o := .tup ys) htv
      have z2 := Same.upd (o := .tup [.str src, .ref tv]) hq
      exact k q tv _ ((s2.trans z1).trans z2) upd_same (z2 _ _ upd_same)
end
abbrev sRun : Stmt := top 122
abbrev nRun : List Str := ["tables", "pipeline", "setting", "source", "steps", "shapes", "name", "table", "step", "follow", "rows"]
abbrev pRun : List Str := ["tables", "pipeline", "setting"]
theorem scRun : FnScope nRun pRun (defScope sRun) := ⟨rfl, rfl, rfl, by decide +kernel, rfl, by decide +kernel, by decide +kernel⟩
section
variable {fA_ fB_ : Addr} {fdA_ fdB_ : FuncData}
theorem ok_Run (F : Fun K "run" "run" sRun f fd) (T : Bt mg) {C CT : Addr} (M : TbM P w K mg base C) {rA : Addr} {g : Str → Addr} (A3 : RbA P w K mg base C CT rA g)
    (GA_ : FnOk P w K mg base CX0 1 fA_ fdA_ ["pipeline", "setting"] (spRes)) (mA_ : mg "resolved" = some (.ref fA_)) (kA_ : PySem.W.keepIn K (.ref fA_) = true) (bA_ : Binds K fdA_ ["pipeline", "setting"] [])
    (GB_ : FnOk P w K mg base CX0 17 fB_ fdB_ ["tables", "columns", "step"] (spCb)) (mB_ : mg "columns_behind" = some (.ref fB_)) (kB_ : PySem.W.keepIn K (.ref fB_) = true) (bB_ : Binds K fdB_ ["tables", "columns", "step"] []) : FnOk P w K mg base (L2.CX P w) 18 f fd pRun (spRun C CT) := by
  refine F.okX scRun (fun vs H Q E h => ?_) (fun cdv A outer s H vs Q E hr h => ?_)
  · obtain ⟨D, p, sv, src, kvs0, tbs, rs, ps, qs, es, o, ys, sts, rfl, _⟩ := h
    rfl
  · obtain ⟨D, p, sv, src, kvs0, tbs, rs, ps, qs, es, o, ys, sts, rfl, hD, hT, wT, hsrc, hp, hs, ha, so, l10, k, kE⟩ := h
    obtain ⟨a, cv, hv, hI, hL, cp, rw_, ln⟩ := hT.at wT.nd hsrc
    have ok := rw_.ok
    have wt := hT.w
    have lk := hT.len
    have l10t := wT.l
    have hrA_ : Room (1) _ := hr.mono (by first | decide | omega)
    have hrB_ : Room (17) _ := hr.mono (by first | decide | omega)
    obtain ⟨fI, fdI, GI, FI, bI⟩ := M.i
    obtain ⟨fC, fdC, hC, FC, bC⟩ := M.c
    have hr1 : Room 1 _ := hr.mono (by decide)
    have hr2 : Room (1 + 1) _ := hr.mono (by decide)
    have hr3 : Room 16 _ := hr.mono (by decide)
    have AS : ∀ f sp, spOf C CT g f = some sp → HeldX P w K mg base 16 f sp := fun f sp e => by
      unfold spOf at e
      obtain ⟨x, e1, rfl⟩ := Option.map_eq_some_iff.mp e
      have h1 := List.find?_some e1
      have h2 := List.mem_of_find?_eq_some e1
      rw [← show g x = f by simpa using h1]
      exact A3.h x h2
    refine ⟨_, (pss_cons (ps_asg (pe_call GA_ hrA_ (by rfl) mA_ kA_ bA_ .nil pass0 (pa_cons (pv 1) (pa_cons (pe_ifExp (pt_cmpR op_isN (pv 2) pe_non (nomark _)) pe_dnewK (pv 2)) pa_nil))) (pg_tup rfl (pgs_cons (pg_name (i := 3) scRun.nd rfl (.inl rfl)) (pgs_cons (pg_name (i := 4) scRun.nd rfl (.inl rfl)) pgs_nil))))
      (pss_cons (ps_lock (ps_setDc (i := 5) (own := [("name", 6)]) (g := (gName 6)) (tt := tYes) (tk := (tVar 6)) (tv := (tMeth C "columns" (spTC C) [] E0 (tDGet (tVar 0) (tVar 6)) tNil)) (by rfl) scRun.nd rfl rfl (sw_dict rfl rfl rfl (by decide +kernel)) (pi_keys (pv 0)) (blkOk_by (own := [("name", 6)]) (N := nRun) (sc := defScope sRun) (by decide +kernel)) (fun _ _ _ _ _ => (pg_name (i := 6) scRun.nd rfl (.inl rfl))) (fun _ _ _ _ _ => pts_nil) (fun _ _ _ _ _ => (pv 6)) (fun _ _ _ _ _ => (pe_meth0 (pe_dget (hu_of hr) (pv 0) (pv 6) (fun _ _ => rfl)) GI.cls hC FC hr1 bC .nil pass0))))
      (pss_cons (ps_set (i := 7) scRun.nd rfl (Or.inl rfl) (pe_dget (hu_of hr) (pv 0) (pv 3) (fun _ _ => rfl)))
      (pss_cons (ps_for (passes_of rfl) rfl (pi_tup (pv 4)) (pg_name (i := 8) scRun.nd rfl (.inl rfl)) (pss_cons (ps_set (i := 9) scRun.nd rfl (Or.inl rfl) (pe_ix ix_kdict (pe_glob (v := .ref rA) (by rfl) A3.gr rfl) (pe_ix ix_tup (pv 8) pe_int (fun _ _ => rfl)) (fun _ _ => rfl)))
      (pss_cons (ps_set (i := 10) scRun.nd rfl (Or.inl rfl) (pe_callAX (i := 9) AS hr3 rfl (Or.inl rfl) (fun σ => passAt (W := fun cls d _ H => E cls d H) (takes_of rfl rfl rfl rfl) σ) (pa_cons (pv 0) (pa_cons (pv 7) (pa_cons (pv 8) pa_nil)))))
      (pss_one (ps_set (i := 7) scRun.nd rfl (Or.inl rfl) (pe_make GI.mkC FI hr2 (by rfl) GI.gC bI .nil pass0 (pa_cons (pe_call GB_ hrB_ (by rfl) mB_ kB_ bB_ .nil pass0 (pa_cons (pv 5) (pa_cons (pe_meth0 (pv 7) GI.cls hC FC hr1 bC .nil pass0) (pa_cons (pv 8) pa_nil)))) (pa_cons (pv 10) pa_nil))))))))
      (pss_one (ps_ret (pv 7))))))), ?_⟩
    refine ⟨_, rfl, _, rfl, rfl, _, rfl, ?_⟩
    rw [show decide (V.non = V.non) = true from rfl]
    refine iteT ?_
    intro S0 hS0
    have z0 := Same.upd (o := .dK []) hS0
    refine ⟨p, sv, _, src, ys, sts, rfl, z0 _ _ hp, z0 _ _ hs, ha.same z0, l10, fun q tv H1 s1 eq etv => ?_⟩
    refine ⟨q, _, rfl, SqT.of eq, rfl, _, _, rfl, _, _, rfl, rfl, ?_⟩
    dsimp only [gNil]
    have s01 := z0.trans s1
    have hD1 := s01 _ _ hD
    refine ⟨D, _, hD1, trivial, fun od => ?_⟩
    have eD : L2.upd H1 D (.frz od (.dK kvs0)) D = some (.frz od (.dK kvs0)) := upd_same
    have hT2 := TbsAt.upd (o := .frz od (.dK kvs0)) hD1 dK_n1 dK_n2 (hT.same s01)
    have oD : ∀ b o, b ≠ D → H1 b = some o → L2.upd H1 D (.frz od (.dK kvs0)) b = some o := fun b o n e => by rw [upd_ne n]; exact e
    generalize L2.upd H1 D (.frz od (.dK kvs0)) = H2 at eD hT2 oD ⊢
    refine ⟨_, rfl, D, od, rfl, .inl ⟨_, eD, fun S hS => dc_keys (d := D) (o := od) (kvs0 := kvs0) (fun i H' => (∃ kvs : List (Key × V), H' S = some (.dK kvs) ∧ TabC H' kvs ((osOf tbs).take i)) ∧ Same H2 H') ⟨⟨[], upd_same, .nil⟩, Same.upd hS⟩ (fun i H' _ pr => pr.2 _ _ eD) ?_ ?_⟩⟩
    · rintro i k0 v0 H3 hk ⟨⟨kvs, eS, tc⟩, s3⟩
      obtain ⟨z, cs0, rs0, et, rfl⟩ := hT2.get hk
      obtain ⟨a0, cv0, ev, h0, c0, _⟩ := hT2.at wT.nd (List.mem_of_getElem? et)
      have li := (List.getElem?_eq_some_iff.mp hk).1
      refine ⟨rfl, ?_⟩
      dsimp only [tYes]
      refine iteT ?_
      have h3 := h0.same s3
      obtain ⟨dx, bv, h1, h2, _⟩ := id h3
      have ltc := tc.len
      rw [List.length_take] at ltc
      have eo : (osOf tbs)[i]? = some (z, cs0) := by
        unfold osOf
        rw [List.getElem?_map, et]
        rfl
      have nz : z ∉ ((osOf tbs).take i).map (·.1) := by
        rw [List.map_take]
        refine take_nodup wT.os.nd ?_
        rw [List.getElem?_map, eo]
        rfl
      refine ⟨_, rfl, _, rfl, _, rfl, D, .ref a0, rfl, .inl ⟨_, Sum.inr z, .inr ⟨od, s3 _ _ eD⟩, rfl, ev.symm⟩, a0, dx, _, rfl, h1, rfl, a0, cv0, rs0, rfl, h3, kvs, Sum.inr z, rfl, eS, lt_size (by omega), ⟨_, upd_same, ?_⟩, fun b o e => by rw [upd_ne (ne_of_none e hS)]; exact s3 b o e⟩
      rw [List.take_add_one, eo]
      exact TabC.put ((c0.same s3).upd eS dK_n1.1 dK_n2) (TabC.upd eS dK_n1.1 dK_n2 tc) nz
    rintro H3 ⟨⟨kvsS, eS, tc⟩, s3⟩
    have losf : (osOf tbs).length = tbs.length := List.length_map _
    rw [lk, ← losf, List.take_length] at tc
    refine ⟨s3 _ _ eD, ?_⟩
    have nDS : D ≠ S := ne_of_none eD hS
    have s14 : Same H1 (L2.upd H3 D (.dK kvs0)) := fun b o e => by
      by_cases hb : b = D
      · subst hb
        rw [upd_same]
        rw [hD1] at e
        exact e
      · rw [upd_ne hb]
        exact s3 _ _ (oD b o hb e)
    have tc4 : TabC (L2.upd H3 D (.dK kvs0)) kvsS (osOf tbs) := TabC.upd (s3 _ _ eD) frz_n1 frz_n2 tc
    have eS4 : L2.upd H3 D (.dK kvs0) S = some (.dK kvsS) := by rw [upd_ne (Ne.symm nDS)]; exact eS
    dsimp only
    generalize L2.upd H3 D (.dK kvs0) = H4 at s14 tc4 eS4 ⊢
    have s04 := s01.trans s14
    have hI4 := hI.same s04
    refine ⟨_, rfl, _, rfl, D, .ref a, rfl, ?_, ?_⟩
    · have q := DGet.k (k := (Sum.inr src : Key)) (s04 _ _ hD)
      rw [hv] at q
      exact q
    clear hT2 oD eD s3 eS
    refine ⟨_, rfl, tv, rfl, ⟨_, SqT.of (s14 _ _ etv)⟩, for_tup (K := K) (a := tv) (xs := ys) (fun i σ H' => (∃ (ai cvi : Addr) (rsi : RowsL) (qi : CsL) (x6 x8 x9 x10 : Option V), σ = [some (.ref D), some (.ref p), some .non, some (.str src), some (.ref tv), some (.ref S), x6, some (.ref ai), x8, x9, x10] ∧ IsTb C H' ai cvi rsi ∧ CA H' cvi qi ∧ ColP qi ∧ RowW qi (rsi.map (·.2)) ∧ rsi.length ≤ 1300 ∧ Runs tbs qi (rsi.map (·.2)) (sts.drop i) qs es o) ∧ Same H4 H') ⟨⟨a, cv, rs, ps, _, _, _, _, rfl, hI4, hL.same s04, cp, rw_, ln, so⟩, Same.refl _⟩ (fun i σ H' _ pr => SqT.of (pr.2 _ _ (s14 _ _ etv))) ?_ ?_⟩
    · rintro i y σ H5 hy ⟨⟨ai, cvi, rsi, qi, x6, x8, x9, x10, rfl, hI5, hL5, cp5, rw5, ln5, so5⟩, s5⟩
      have s05 := s04.trans s5
      obtain ⟨b, st, e3, rfl, d3⟩ := (ha.same s05).get hy
      obtain ⟨xs, e4, lx⟩ := ps_at d3
      have li := (List.getElem?_eq_some_iff.mp e3).1
      rw [show sts.drop i = st :: sts.drop (i + 1) by rw [List.drop_eq_getElem_cons li]; obtain ⟨_, q⟩ := List.getElem?_eq_some_iff.mp e3; rw [q]] at so5
      have gk := A3.d _ (pl_w st)
      cases so5 with
      | @big _ q2 _ _ _ _ _ ld pl ck big =>
        refine ⟨_, rfl, b, _, _, .str st.w, rfl, rfl, SqT.of e4, at_of (j := 0) rfl rfl, rA, st.w, _, rfl, rfl, gk, ?_⟩
        exact ⟨g st.w, spRb C CT st.w, rfl, spOf_at A3 (pl_w st), _, rfl, _, rfl, _, rfl, D, ai, cvi, b, kvs0, tbs, qi, q2, st, rsi, rfl, s05 _ _ hD, hT.same s05, wT, hI5, hL5, cp5, rw5, ln5, d3, ld, rfl, pl, fun z => absurd (z ck) (by omega), fun _ _ H6 s6 => kE _ rfl H6 (s05.trans s6)⟩
      | @cons _ q2 _ _ _ _ _ _ ld pl ck so6 =>
      refine ⟨_, rfl, b, _, _, .str st.w, rfl, rfl, SqT.of e4, at_of (j := 0) rfl rfl, rA, st.w, _, rfl, rfl, gk, ?_⟩
      refine ⟨g st.w, spRb C CT st.w, rfl, spOf_at A3 (pl_w st), _, rfl, _, rfl, _, rfl, D, ai, cvi, b, kvs0, tbs, qi, q2, st, rsi, rfl, s05 _ _ hD, hT.same s05, wT, hI5, hL5, cp5, rw5, ln5, d3, ld, rfl, pl, fun _ l H6 rs6 s6 e6 ra6 em6 => ?_, fun h1 h2 => absurd (ck h1) (by omega)⟩
      have hI6 := hI5.same s6
      obtain ⟨dx, bv, h1, h2, h3⟩ := id hI6
      refine ⟨_, rfl, _, rfl, ai, dx, _, rfl, h1, rfl, ai, cvi, _, rfl, hI6, _, rfl, S, kvsS, osOf tbs, cvi, b, qi, q2, st, rfl, s6 _ _ (s5 _ _ eS4), tc4.same (s5.trans s6), wT.os, hL5.same s6, cp5, d3.same s6, ld, fun cv7 H7 s7 hL7 => ⟨_, rfl, ?_⟩⟩
      dsimp only [tNil]
      have ln5' : (rsi.map (·.2)).length ≤ 1300 := by rw [List.length_map]; exact ln5
      have l6 := stepB_len (tbs := tbs) (ps := qi) ln5' ck
      have rw6 : RowW q2 (rs6.map (·.2)) := by rw [em6]; exact ld.rows cp5 rw5 wt wT.nd
      refine mk_tb (.inl (s7 _ _ e6)) (ra6.same s7) rw6.ok fun a2 H8 s8 _ hI8 => ?_
      have l6' : rs6.length ≤ 1300 := by
        have h1 := congrArg List.length em6
        rw [List.length_map] at h1
        omega
      exact ⟨⟨a2, cv7, rs6, q2, _, _, _, _, rfl, hI8, hL7.same s8, ld.go cp5 (fun o ho => (wT.os.ok o ho).2.2), rw6, l6', by rw [em6]; exact so6⟩, s5.trans (s6.trans (s7.trans s8))⟩
    · rintro σ H5 ⟨⟨ai, cvi, rsi, qi, x6, x8, x9, x10, rfl, hI5, hL5, cp5, rw5, ln5, so5⟩, s5⟩
      rw [ha.len, List.drop_length] at so5
      have fin : ∀ {ps qs : CsL} {ds es : List RowD} {l : List Ps} {o : Option Nat}, Runs tbs ps ds l qs es o → l = [] → ps = qs ∧ ds = es ∧ o = none := fun h e => by
        cases h with
        | nil => exact ⟨rfl, rfl, rfl⟩
        | cons _ _ _ _ => cases e
        | big _ _ _ _ => cases e
      obtain ⟨rfl, e2, e3⟩ := fin so5 rfl
      subst e2
      subst e3
      exact ⟨_, rfl, k rfl ai cvi rsi H5 (s04.trans s5) hI5 hL5 cp5 rw5 rfl ln5⟩
end
end
end K19
set_option Elab.async false
set_option linter.all false
set_option maxRecDepth 100000
set_option maxHeartbeats 4000000
namespace K19
open PySem PySem.Spec PyProof.Rows L2 Lc
structure ExO (K : PySem.W.Frag) (CT : Addr) : Prop where
  xf : XfC K CT
  xc : XisC K CT
  cc : PySem.W.exmOne K (.ref CT) (.ref CT) = some true
  cv : PySem.W.kitOne K (.ref CT) (.type "OverflowError") = some true
def tsO (K : PySem.W.Frag) (CT : Addr) : Addr → Value → Option Addr → L2.TS := fun a cls d => tRet (tTup (tCons (tC (.str "large")) (tCons (tXf a cls d CT "size" (tVar 4)) (tCons (tCB (rIsX K cls d CT a) (tCons (tVar 4) (tCons (tC (.ty "OverflowError")) tNil))) tNil))))
def spRan (C : Addr) : Sp := fun vs H Q _ => ∃ (D sv : Addr) (src : Str) (kvs : List (Key × V)) (tbs : TbL) (rs : RowsL) (ps qs : CsL) (es : List RowD) (o : Option Nat) (ys : List V) (sts : List Ps), vs = [.ref D, .str src, .ref sv] ∧ H D = some (.dK kvs) ∧ TbsAt C H kvs tbs ∧ WtP tbs ∧ (src, ps, rs) ∈ tbs ∧ H sv = some (.tup ys) ∧ StepsAt H ys sts ∧ Runs tbs ps (rs.map (·.2)) sts qs es o ∧ ys.length ≤ 10 ∧
  (o = none → ∀ (r cv R' : Addr) (rs' : RowsL) (H' : Hp), Same H H' → H' r = some (.tup [.str "told", .ref cv, .ref R']) → CA H' cv qs → ColP qs → RowW qs es → H' R' = some (.lst (rs'.map (·.1))) → RowsAt H' rs' → rs'.map (·.2) = es → rs'.length ≤ 1300 → Q (.ref r) H') ∧
  (∀ n, o = some n → ∀ (r : Addr) (H' : Hp), Same H H' → H' r = some (.tup [.str "large", .int (n : Nat), .bl true]) → Q (.ref r) H')
def spDue : Sp := fun vs H Q _ => ∃ (C R : Addr) (xs : List V), vs = [.ref C, .ref R] ∧ H R = some (.lst xs) ∧ (xs.length ≤ 1000 → ∀ r, H r = none → Q (.ref r) (L2.upd H r (.tup [.str "told", .ref C, .ref R]))) ∧ (1000 < xs.length → ∀ r, H r = none → Q (.ref r) (L2.upd H r (.tup [.str "large", .int (xs.length : Nat), .bl true])))
section
variable {P : Program} {w : World} {K : PySem.W.Frag} {mg : Str → Option Value} {base : Heap} {f : Addr} {fd : FuncData}
abbrev sRn : Stmt := top 137
abbrev nRn : List Str := ["_law_tables", "_law_source", "_law_steps", "_law_table", "e"]
abbrev pRn : List Str := ["_law_tables", "_law_source", "_law_steps"]
theorem scRn : FnScope nRn pRn (defScope sRn) := ⟨rfl, rfl, rfl, by decide +kernel, rfl, by decide +kernel, by decide +kernel⟩
section
variable {fU : Addr} {fdU : FuncData} {gU : List Value → List Value → List Value}
theorem ok_Rn (F : Fun K "_law_ran" "_law_ran" sRn f fd) (T : Bt mg) {C CT fT : Addr} (M : TbM P w K mg base C) (Z : ErO K mg "TooLarge" "size" CT fT) (X : ExO K CT)
    (GU : FnOk P w K mg base (L2.CX P w) 18 fU fdU ["tables", "pipeline", "setting"] (spRun C CT)) (mU : mg "run" = some (.ref fU)) (kU : PySem.W.keepIn K (.ref fU) = true) (kbU : KBinds K fdU ["tables", "pipeline", "setting"] [] gU (fun vs _ => vs ++ [.non])) : FnOk P w K mg base CX0 19 f fd pRn (spRan C) := by
  refine F.ok scRn (fun vs H Q E h => ?_) (fun cdv A outer s H vs Q E hr h => ?_)
  · obtain ⟨D, sv, src, kvs, tbs, rs, ps, qs, es, o, ys, sts, rfl, _⟩ := h
    rfl
  · obtain ⟨D, sv, src, kvs, tbs, rs, ps, qs, es, o, ys, sts, rfl, hD, hT, wT, hsrc, hs, ha, so, l10, kQ, kE⟩ := h
    have hrU : Room 18 _ := hr.mono (by decide)
    obtain ⟨fC, fdC, hC, FC, bC⟩ := M.c
    obtain ⟨fR, fdR, hR, FR, bR⟩ := M.r
    obtain ⟨fI, fdI, GI, FI, bI⟩ := M.i
    have hr1 : Room 1 _ := hr.mono (by decide)
    refine ⟨_, pss_one (ps_tryL (Wout := fun _ _ _ _ => False) (l := [⟨.ref CT, some 4, tsO K CT⟩]) rfl rfl takes0
        (fun W pn xe tk _ => pss_cons (ps_set (i := 3) scRn.nd rfl (Or.inl rfl) (pe_callKS GU hrU (by rfl) mU kU kbU (fun σ => passAt tk σ) (pa_cons (pv 0) (pa_cons (pe_tup (pa_cons (pv 1) (pa_cons (pv 2) pa_nil))) pa_nil)) pk_nil))
          (pss_one (ps_ret (pe_tup (pa_cons pe_str (pa_cons (pe_meth0 (pv 3) GI.cls hC FC hr1 bC .nil pass0) (pa_cons (pe_meth0 (pv 3) GI.cls hR FR hr1 bR .nil pass0) pa_nil)))))))
        (.named (i := 4) ⟨rfl, by decide, Or.inl Z.gC⟩ rfl scRn.nd rfl rfl (fun a ob cls d pn hz hf => pss_one (ps_ret (pe_tup (pa_cons pe_str (pa_cons (pe_xf X.xf Z.nG hz hf (pv 4)) (pa_cons (pe_callB (call_isX X.xc hz hf) (by rfl) T.isi boot_isinstance (pa_cons (pv 4) (pa_cons (pe_bltn (v := .ty "OverflowError") (by rfl) T.oe PyProof.Rows.Boot.«OverflowError» rfl) pa_nil))) pa_nil)))))) .nil)), ?_⟩
    have two : 2 ≤ sizeLine := by decide
    have three : 3 ≤ sizeLine := by decide
    refine ⟨_, rfl, _, rfl, _, rfl, two, fun p hp => ?_⟩
    have zp := Same.upd (o := .tup [.str src, .ref sv]) hp
    have ep : L2.upd H p (.tup [.str src, .ref sv]) p = some (.tup [.str src, .ref sv]) := upd_same
    generalize L2.upd H p (.tup [.str src, .ref sv]) = H1 at zp ep ⊢
    refine ⟨D, p, sv, src, kvs, tbs, rs, ps, qs, es, o, ys, sts, rfl, zp _ _ hD, hT.same zp, wT, hsrc, ep, zp _ _ hs, ha.same zp, so, l10, fun e a' cv' rs' H2 s2 hI ca cq wq em l13 => ?_, fun n e H2 s2 => ?_⟩
    · obtain ⟨dx, bv, h1, h2, h3⟩ := id hI
      refine ⟨_, rfl, a', dx, _, rfl, h1, rfl, a', cv', rs', rfl, hI, ?_⟩
      refine ⟨_, rfl, a', dx, _, rfl, h1, rfl, a', cv', rs', rfl, hI, fun l hl => ⟨three, fun r hr' => ?_⟩⟩
      have zl := Same.upd (o := .lst (rs'.map (·.1))) hl
      have zr := Same.upd (o := .tup [.str "told", .ref cv', .ref l]) hr'
      have zlr := zl.trans zr
      exact kQ e r cv' l rs' _ (zp.trans (s2.trans zlr)) upd_same (ca.same zlr) cq wq (zr _ _ upd_same) ((show RowsAt H2 rs' from h3).same zlr) em l13
    · intro d H3 s3 hd2 hx
      refine ⟨true, X.cc, fun _ a ha' => ?_, nofun⟩
      have dd : ∀ dd, some d = some dd → ∃ fs, H3 dd = some (.xd fs) := fun dd e => by cases e; exact ⟨_, hx⟩
      refine ⟨_, rfl, rfl, rfl, d, _, .int (n : Nat), rfl, hx, by simp [List.lookup], ?_⟩
      refine ⟨_, rfl, rfl, _, _, _, rfl, .ty "OverflowError", dd, X.cv, three, fun r hr' => ?_⟩
      exact kE n e r _ (zp.trans (s2.trans (s3.trans (Same.upd hr')))) upd_same
end
abbrev sDu : Stmt := top 142
abbrev nDu : List Str := ["_law_columns_here", "_law_rows_here"]
abbrev pDu : List Str := ["_law_columns_here", "_law_rows_here"]
theorem scDu : FnScope nDu pDu (defScope sDu) := ⟨rfl, rfl, rfl, by decide +kernel, rfl, by decide +kernel, by decide +kernel⟩
section
theorem ok_Du (F : Fun K "_law_due" "_law_due" sDu f fd) (T : Bt mg) : FnOk P w K mg base CX0 1 f fd pDu (spDue) := by
  refine F.ok scDu (fun vs H Q E h => ?_) (fun cdv A outer s H vs Q E hr h => ?_)
  · obtain ⟨C, R, xs, rfl, _⟩ := h
    rfl
  · obtain ⟨C, R, xs, rfl, eR, k1, k2⟩ := h
    refine ⟨_, (pss_cons (ps_if (pt_cmpR op_gt (pe_callB call_len_seq (by rfl) T.len PySem.boot_len (pa_cons (pv 1) pa_nil)) pe_int (nomark _)) (pss_one (ps_ret (pe_tup (pa_cons pe_str (pa_cons (pe_callB call_len_seq (by rfl) T.len PySem.boot_len (pa_cons (pv 1) pa_nil)) (pa_cons pe_bl pa_nil)))))) pss_nil)
      (pss_one (ps_ret (pe_tup (pa_cons pe_str (pa_cons (pv 0) (pa_cons (pv 1) pa_nil))))))), ?_⟩
    have three : 3 ≤ sizeLine := by decide
    refine ⟨_, rfl, R, _, rfl, .inl (SqL.of eR), _, _, rfl, rfl, _, rfl, ?_⟩
    by_cases q : xs.length ≤ 1000
    · rw [decide_eq_false (show ¬ ((1000 : Int) < (xs.length : Int)) by omega)]
      exact iteF ⟨_, rfl, _, rfl, three, fun r hr' => k1 q r hr'⟩
    · rw [decide_eq_true (show ((1000 : Int) < (xs.length : Int)) by omega)]
      exact iteT ⟨_, rfl, R, _, rfl, .inl (SqL.of eR), three, fun r hr' => k2 (by omega) r hr'⟩
end
end
end K19
set_option Elab.async false
set_option linter.all false
set_option maxRecDepth 100000
set_option maxHeartbeats 4000000
namespace K19
open PySem PySem.Spec PyProof.Rows L2 Lc
/-! ## what rows are shown as, with small bounds -/
theorem tm_intF {i : Int} (h : i.natAbs ≤ 10000000000000000000000000000000000000000) : Tm 0 42 (.int i) := by
  have b : i.natAbs < 2 ^ 1000 := Nat.lt_of_le_of_lt h (Nat.lt_of_lt_of_le (show 10000000000000000000000000000000000000000 < 2 ^ 140 by decide) (Nat.pow_le_pow_right (by decide) (by decide)))
  obtain ⟨h1, _⟩ := num_len b
  refine ⟨h1, rfl, Nat.le_refl _, ?_⟩
  show (PySem.Str.ofString (toString i)).length ≤ 42
  rw [PySem.ofString_length]
  exact PySem.int_text_length_le10 (k := 41) (by decide) (Nat.lt_of_le_of_lt h (by decide))
theorem tm_txtF {n : Nat} {x : Str} (h : Sh n x) : Tm 0 (10 * n + 2) (.str x) := by
  refine ⟨rfl, rfl, Nat.le_refl _, ?_⟩
  show (reprText x).length ≤ _
  have := StrLaws.reprText_len x (fun c hc => Nat.lt_trans (h.ok c hc) (by decide))
  have e := lenL x
  have := h.len
  omega
theorem Vk.tmF {k : Str} {d : PyData} (h : Vk k d) : Tm 1 130 d := by
  cases h with
  | non => exact ⟨rfl, rfl, by decide, by decide +kernel⟩
  | flag b => exact ⟨rfl, rfl, by simp [PyData.depth], by cases b <;> decide +kernel⟩
  | word h _ => exact (tm_txtF h).mono (by decide) (by decide)
  | @num n d _ h1 h2 => exact (tm_tup (k := 0) (n := 42) (fun x hx => by simp at hx; rcases hx with rfl | rfl; exact tm_intF h1; exact tm_intF h2)).mono (by decide) (by show 42 * 2 + 2 * 2 + 4 ≤ 130; decide)
theorem Vks.tmF {ks : List Str} {ds : List PyData} (h : Vks ks ds) (l : ks.length ≤ 8) : Tm 2 1060 (.tuple ds) := by
  have ln := h.len
  have all : ∀ d ∈ ds, Tm 1 130 d := by
    clear ln l
    induction h with
    | nil => exact nofun
    | cons h r ih =>
      intro d hd
      rcases List.mem_cons.mp hd with rfl | hd
      · exact h.tmF
      · exact ih d hd
  exact (tm_tup all).mono (by decide) (by omega)
theorem lin_shown : ∀ p ∈ linU, (partD p).shown.length ≤ 12 := by decide +kernel
theorem part_tmF {p : Str × Int} (h : PartOk p) : Tm 1 12 (partD p) := by
  have t := part_tm h
  exact ⟨t.sh, t.nd, t.dz, lin_shown p h.2.2.2⟩
theorem row_tmF {ks : List Str} {r : RowD} (h : Vks ks r.vals) (l8 : ks.length ≤ 8) (o : LinOk r.lin) : Tm 3 2128 r.d := by
  have h1 := h.tmF l8
  have h2 : Tm 2 676 (linD r.lin) := by
    have := tm_tup (k := 1) (n := 12) (ds := r.lin.map partD) fun d hd => by
      obtain ⟨p, hp, rfl⟩ := List.mem_map.mp hd
      exact part_tmF (o.2 p hp)
    have l4 := o.len
    rw [List.length_map] at this
    exact this.mono (Nat.le_refl _) (by omega)
  exact (tm_tup (k := 2) (n := 1060) (ds := [.tuple r.vals, linD r.lin]) fun d hd => by
    simp only [List.mem_cons, List.not_mem_nil, or_false] at hd
    rcases hd with rfl | rfl
    · exact h1
    · exact h2.mono (Nat.le_refl _) (by decide)).mono (Nat.le_refl _) (by show 1060 * 2 + 2 * 2 + 4 ≤ 2128; decide)
def RowV (ks : List Str) (rs : RowsL) : Prop := ∀ r ∈ rs, Vks ks r.2.vals ∧ LinOk r.2.lin
def rowsD (rs : RowsL) : PyData := .list (rs.map fun r => r.2.d)
theorem rows_tmF {ks : List Str} {rs : RowsL} (h : RowV ks rs) (l8 : ks.length ≤ 8) (l : rs.length ≤ 1300) : Tm 4 2770000 (rowsD rs) := by
  have := tm_lst (k := 3) (n := 2128) (ds := rs.map fun r => r.2.d) fun d hd => by
    obtain ⟨r, hr, rfl⟩ := List.mem_map.mp hd
    exact row_tmF (h r hr).1 l8 (h r hr).2
  rw [List.length_map] at this
  exact this.mono (Nat.le_refl _) (by omega)
theorem rows_dh {H : Hp} : ∀ {rs : RowsL}, RowsAt H rs → DhAll H (rs.map (·.1)) (rs.map fun r => r.2.d)
  | [], _ => .nil
  | r :: rs, h => .cons (h r List.mem_cons_self) (rows_dh fun q hq => h q (List.mem_cons_of_mem _ hq))
def colsDL (ps : List (Str × Str)) : PyData := .tuple (ps.map colP)
theorem rowsD_eq {rs rs' : RowsL} (e : rs.map (·.2) = rs'.map (·.2)) : rowsD rs = rowsD rs' := by
  have h : ∀ rs : RowsL, (rs.map fun r => r.2.d) = (rs.map (·.2)).map RowD.d := fun rs => by rw [List.map_map]; rfl
  unfold rowsD
  rw [h, h, e]
theorem cols_tmF {ps : List (Str × Str)} (h : ∀ p ∈ ps, Sh 12 p.1 ∧ nameB (.str p.1) = true ∧ KindS p.2) (l8 : ps.length ≤ 8) : Tm 2 17000 (colsDL ps) := by
  have := tm_tup (k := 1) (n := 2100) (ds := ps.map colP) fun d hd => by
    obtain ⟨p, hp, rfl⟩ := List.mem_map.mp hd
    exact (tm_tup (k := 0) (n := 1002) (ds := [.str p.1, .str p.2]) fun d hd => by
      simp only [List.mem_cons, List.not_mem_nil, or_false] at hd
      rcases hd with rfl | rfl
      · exact (tm_txtF (h p hp).1).mono (by decide) (by decide)
      · exact (tm_txtF (h p hp).2.2.sh).mono (by decide) (by decide)).mono (Nat.le_refl _) (by show 1002 * 2 + 2 * 2 + 4 ≤ 2100; decide)
  rw [List.length_map] at this
  exact this.mono (Nat.le_refl _) (by omega)
def toldD (ps : CsL) (rs : RowsL) : PyData := .tuple [.str "told", colsDL ps, rowsD rs]
def bigD (n : Nat) : PyData := .tuple [.str "large", .int (n : Nat), .bool true]
theorem tm_wd {x : Str} (h : (reprText x).length ≤ 100) : Tm 4 2770000 (.str x) := ⟨rfl, rfl, by simp [PyData.depth], Nat.le_trans h (by decide)⟩
theorem told_tm {ps : CsL} {rs : RowsL} (cp : ColP ps) (w : RowW ps (rs.map (·.2))) (l : rs.length ≤ 1300) : Tm 5 8310010 (toldD ps rs) :=
  (tm_tup (k := 4) (n := 2770000) (ds := [.str "told", colsDL ps, rowsD rs]) fun d hd => by
    simp only [List.mem_cons, List.not_mem_nil, or_false] at hd
    rcases hd with rfl | rfl | rfl
    · exact tm_wd (by decide +kernel)
    · exact (cols_tmF cp.ok cp.l8).mono (by decide) (by decide)
    · exact rows_tmF (fun r hr => w r.2 (List.mem_map_of_mem hr)) (by rw [List.length_map]; exact cp.l8) l).mono (Nat.le_refl _) (by show 2770000 * 3 + 2 * 3 + 4 ≤ 8310010; decide)
theorem cols_dp {K : PySem.W.Frag} {H : Hp} {L : Addr} {ps : CsL} (h : CA H L ps) (cp : ColP ps) : Dp K H (.ref L) (colsDL ps) := by
  obtain ⟨xs, zL, cc⟩ := h
  exact .tup zL.sq (cc.dh.dp (by simpa [PyData.hasDict, colsDL] using (cols_tmF cp.ok cp.l8).nd))
theorem rows_dp {K : PySem.W.Frag} {H : Hp} {R : Addr} {ps : CsL} {rs : RowsL} (cp : ColP ps) (e : H R = some (.lst (rs.map (·.1)))) (ra : RowsAt H rs) (w : RowW ps (rs.map (·.2))) (l : rs.length ≤ 1300) : Dp K H (.ref R) (rowsD rs) :=
  (Dh.lst e (rows_dh ra) : Dh H (.ref R) (rowsD rs)).dp (rows_tmF (ks := ps.map (·.2)) (fun r hr => w r.2 (List.mem_map_of_mem hr)) (by rw [List.length_map]; exact cp.l8) l).nd
theorem told_shw {K : PySem.W.Frag} {H : Hp} {r L R : Addr} {ps : CsL} {rs : RowsL} (cp : ColP ps) (hL : CA H L ps) (e : H R = some (.lst (rs.map (·.1)))) (ra : RowsAt H rs) (w : RowW ps (rs.map (·.2))) (l : rs.length ≤ 1300) (er : H r = some (.tup [.str "told", .ref L, .ref R])) : Shw K H (.ref r) (toldD ps rs).shown := by
  have t := told_tm cp w l
  exact .data (.tup (SqT.of er) (.cons (.str _) (.cons (cols_dp hL cp) (.cons (rows_dp cp e ra w l) .nil)))) t.sh t.nd (Nat.le_trans t.dz (by decide)) (Nat.le_trans t.ln (by decide))
theorem big_shw {K : PySem.W.Frag} {H : Hp} {r : Addr} {n : Nat} (hn : n ≤ 100000) (er : H r = some (.tup [.str "large", .int (n : Nat), .bl true])) : Shw K H (.ref r) (bigD n).shown := by
  have t : Tm 5 8310010 (bigD n) := (tm_tup (k := 4) (n := 2770000) (ds := [.str "large", .int (n : Nat), .bool true]) fun d hd => by
    simp only [List.mem_cons, List.not_mem_nil, or_false] at hd
    rcases hd with rfl | rfl | rfl
    · exact tm_wd (by decide +kernel)
    · exact (tm_intF (i := ((n : Nat) : Int)) (by omega)).mono (by decide) (by decide)
    · exact ⟨rfl, rfl, by decide, by decide +kernel⟩).mono (Nat.le_refl _) (by show 2770000 * 3 + 2 * 3 + 4 ≤ 8310010; decide)
  exact .data (.tup (SqT.of er) (.cons (.str _) (.cons (.int _) (.cons (.bl _) .nil)))) t.sh t.nd (Nat.le_trans t.dz (by decide)) (Nat.le_trans t.ln (by decide))
theorem toldD_eq {ps : CsL} {rs rs' : RowsL} (e : rs.map (·.2) = rs'.map (·.2)) : toldD ps rs = toldD ps rs' := by
  unfold toldD
  rw [rowsD_eq e]
def befD (ps : CsL) (rs : RowsL) (cs : CsL) (os : RowsL) : PyData := .list [colsDL ps, rowsD rs, colsDL cs, rowsD os]
theorem bef_shw {K : PySem.W.Frag} {H : Hp} {M L R C O : Addr} {ps cs : CsL} {rs os : RowsL} (cp : ColP ps) (hL : CA H L ps) (e : H R = some (.lst (rs.map (·.1)))) (ra : RowsAt H rs) (w : RowW ps (rs.map (·.2))) (l : rs.length ≤ 1300) (cq : ColP cs) (hC : CA H C cs) (e2 : H O = some (.lst (os.map (·.1)))) (ra2 : RowsAt H os) (w2 : RowW cs (os.map (·.2))) (l2 : os.length ≤ 1300) (er : H M = some (.lst [.ref L, .ref R, .ref C, .ref O])) : Shw K H (.ref M) (befD ps rs cs os).shown := by
  have t : Tm 5 11080020 (befD ps rs cs os) := (tm_lst (k := 4) (n := 2770000) (ds := [colsDL ps, rowsD rs, colsDL cs, rowsD os]) fun d hd => by
    simp only [List.mem_cons, List.not_mem_nil, or_false] at hd
    rcases hd with rfl | rfl | rfl | rfl
    · exact (cols_tmF cp.ok cp.l8).mono (by decide) (by decide)
    · exact rows_tmF (fun r hr => w r.2 (List.mem_map_of_mem hr)) (by rw [List.length_map]; exact cp.l8) l
    · exact (cols_tmF cq.ok cq.l8).mono (by decide) (by decide)
    · exact rows_tmF (fun r hr => w2 r.2 (List.mem_map_of_mem hr)) (by rw [List.length_map]; exact cq.l8) l2).mono (Nat.le_refl _) (by show 2770000 * 4 + 2 * 4 + 4 ≤ 11080020; decide)
  exact .data (.lst (SqL.of er) (.cons (cols_dp hL cp) (.cons (rows_dp cp e ra w l) (.cons (cols_dp hC cq) (.cons (rows_dp cq e2 ra2 w2 l2) .nil))))) t.sh t.nd (Nat.le_trans t.dz (by decide)) (Nat.le_trans t.ln (by decide))
end K19
set_option Elab.async false
set_option linter.all false
set_option maxRecDepth 100000
set_option maxHeartbeats 4000000
namespace K19
open PySem PySem.Spec PyProof.Rows L2 Lc
/-! ## the rows that the law draws -/
def spRws : Sp := fun vs H Q _ => ∃ (t c L : Addr) (ps : CsL) (m : Int) (b : Bool), vs = [.ref t, .ref L, .int m, .bl b] ∧ TapeL c H t ∧ CA H L ps ∧ ColP ps ∧ 0 ≤ m ∧ m ≤ 60 ∧ ∀ (R : Addr) (rs : RowsL) (H' : Hp), H' R = some (.lst (rs.map (·.1))) → R ≠ t → RowsAt (dl t H') rs → RowW ps (rs.map (·.2)) → (rs.length : Int) ≤ m → TapeL c H' t → SameB t H H' → Q (.ref R) H'
abbrev teRws : TE := tTup (tCons (tCall spVals [] E0 (tCons (tVar 0) (tCons (tVar 1) (tCons (tVar 3) tNil)))) (tCons (tCall spFar [] E0 (tCons (tVar 0) tNil)) tNil))
mutual
theorem dh_dl {t : Addr} {H : Hp} (hT : ∃ xs, H t = some (.lst xs)) : ∀ {v : V} {d : PyData}, Dh H v d → noL d = true → Dh (dl t H) v d
  | _, _, .non, _ => .non
  | _, _, .bl b, _ => .bl b
  | _, _, .int i, _ => .int i
  | _, _, .str x, _ => .str x
  | _, _, .tup e h, n => .tup (dl_at (fun z => by obtain ⟨xs, q⟩ := hT; rw [z, q] at e; cases e) e) (dhA_dl hT h (by simpa [noL] using n))
  | _, _, .lst e h, n => by simp [noL] at n
  | _, _, .dct e, _ => .dct (dl_at (fun z => by obtain ⟨xs, q⟩ := hT; rw [z, q] at e; cases e) e)
theorem dhA_dl {t : Addr} {H : Hp} (hT : ∃ xs, H t = some (.lst xs)) : ∀ {vs : List V} {ds : List PyData}, DhAll H vs ds → noLs ds = true → DhAll (dl t H) vs ds
  | _, _, .nil, _ => .nil
  | _, _, .cons h r, n => by
    rw [noLs, Bool.and_eq_true] at n
    exact .cons (dh_dl hT h n.1) (dhA_dl hT r n.2)
end
section
variable {P : Program} {w : World} {K : PySem.W.Frag} {mg : Str → Option Value} {base : Heap} {f : Addr} {fd : FuncData}
abbrev sRws : Stmt := top 136
abbrev nRws : List Str := ["_law_tape_here", "_law_columns_here", "_law_many", "_law_wide", "_law_k"]
abbrev pRws : List Str := ["_law_tape_here", "_law_columns_here", "_law_many", "_law_wide"]
theorem scRws : FnScope nRws pRws (defScope sRws) := ⟨rfl, rfl, rfl, by decide +kernel, rfl, by decide +kernel, by decide +kernel⟩
section
variable {fA_ fB_ fC_ : Addr} {fdA_ fdB_ fdC_ : FuncData}
theorem ok_Rws (F : Fun K "_law_rows" "_law_rows" sRws f fd) (T : Bt mg)
    (GA_ : FnOk P w K mg base CX0 4 fA_ fdA_ ["_law_tape_here", "_law_columns_here", "_law_wide"] (spVals)) (mA_ : mg "_law_values" = some (.ref fA_)) (kA_ : PySem.W.keepIn K (.ref fA_) = true) (bA_ : Binds K fdA_ ["_law_tape_here", "_law_columns_here", "_law_wide"] [])
    (GB_ : FnOk P w K mg base CX0 2 fB_ fdB_ ["_law_tape_here"] (spFar)) (mB_ : mg "_law_lineage" = some (.ref fB_)) (kB_ : PySem.W.keepIn K (.ref fB_) = true) (bB_ : Binds K fdB_ ["_law_tape_here"] [])
    (GC_ : FnOk P w K mg base CX0 1 fC_ fdC_ ["_law_tape_here", "_law_many"] (spDrawL)) (mC_ : mg "_law_draw" = some (.ref fC_)) (kC_ : PySem.W.keepIn K (.ref fC_) = true) (bC_ : Binds K fdC_ ["_law_tape_here", "_law_many"] []) : FnOk P w K mg base CX0 5 f fd pRws (spRws) := by
  refine F.ok scRws (fun vs H Q E h => ?_) (fun cdv A outer s H vs Q E hr h => ?_)
  · obtain ⟨t, c, L, ps, m, b, rfl, _⟩ := h
    rfl
  · obtain ⟨t, c, L, ps, m, b, rfl, hT, hL, cp, m0, m20, k⟩ := h
    have hrA_ : Room (4) _ := hr.mono (by first | decide | omega)
    have hrB_ : Room (2) _ := hr.mono (by first | decide | omega)
    have hrC_ : Room (1) _ := hr.mono (by first | decide | omega)
    refine ⟨_, (pss_one (ps_ret (pe_lc (own := [("_law_k", 4)]) (g := (gName 4)) (tt := tYes) (te := teRws) (by rfl) scRws.nd (pi_range1 (by rfl) T.range (pa_cons (pe_call GC_ hrC_ (by rfl) mC_ kC_ bC_ .nil pass0 (pa_cons (pv 0) (pa_cons (pe_op op_add (pv 2) pe_int) pa_nil))) pa_nil)) (blkOk_by (own := [("_law_k", 4)]) (N := nRws) (sc := defScope sRws) (by decide +kernel)) (fun _ _ _ _ _ => (pg_name (i := 4) scRws.nd rfl (.inl rfl))) (fun _ _ _ _ _ => pts_nil) (fun _ _ _ _ _ => (pe_tup (pa_cons (pe_call GA_ hrA_ (by rfl) mA_ kA_ bA_ .nil pass0 (pa_cons (pv 0) (pa_cons (pv 1) (pa_cons (pv 3) pa_nil)))) (pa_cons (pe_call GB_ hrB_ (by rfl) mB_ kB_ bB_ .nil pass0 (pa_cons (pv 0) pa_nil)) pa_nil))))))), ?_⟩
    have two : 2 ≤ sizeLine := by decide
    obtain ⟨xs, zL, cc⟩ := id hL
    refine ⟨_, rfl, _, rfl, _, _, rfl, rfl, t, c, _, rfl, hT, by omega, big1000 (by omega) (by omega), fun j H1 j0 j1 T1 S1 => ⟨j, rfl, by omega, by omega, fun R hR => lc_range (lo := 0) (n := j.toNat) (fun i H' => (∃ rs : RowsL, H' R = some (.lst (rs.map (·.1))) ∧ RowsAt (dl t H') rs ∧ RowW ps (rs.map (·.2)) ∧ rs.length ≤ i) ∧ TapeL c H' t ∧ SameB t H H') ⟨⟨[], upd_same, nofun, nofun, Nat.le_refl _⟩, T1.same (Same.upd hR), S1.trans (Same.b t (Same.upd hR))⟩ ?_ ?_⟩⟩
    · rintro i H3 hi ⟨⟨rs, hR3, ra, rv, lr⟩, T3, S3⟩
      have nR : R ≠ t := T1.tape.ne hR
      have nRc : R ≠ c := by
        obtain ⟨zs, e⟩ := T1.list
        exact (ne_of_none e hR).symm
      have gR : H R = none := S1.free T1.tape hR
      refine ⟨rfl, ?_⟩
      dsimp only [tYes]
      refine iteT ?_
      change teRws _ _ _
      refine ⟨_, rfl, _, rfl, _, rfl, t, c, L, b, xs, ps, rfl, T3, (zL.b hT.tape S3).rd, cc.b hT.tape S3, fun p hp => (cp.ok p hp).2.2, cp.l8, fun r ds H4 df vks T4 S4 => ?_⟩
      refine ⟨_, rfl, t, c, rfl, T4, fun v l H5 dlin lok T5 S5 => ⟨two, fun p hp => ?_⟩⟩
      have zp := Same.upd (o := .tup [.ref r, v]) hp
      have tl : ∃ zs, H5 t = some (.lst zs) := by
        obtain ⟨_, _, _, _, _, q, _⟩ := T5.tape
        exact ⟨_, q⟩
      have dp : DhT t (L2.upd H5 p (.tup [.ref r, v])) (.ref p) (RowD.d ⟨ds, l⟩) := dh_tupT T5.tape (.cons (dtb (DhF.t T3.tape df) S5) (.cons (dh_dl tl dlin (lin_noL l)) .nil)) hp
      have S36 : SameB t H3 (L2.upd H5 p (.tup [.ref r, v])) := (S4.trans S5).trans (Same.b t zp)
      have T6 := T5.same zp
      have hR6 := S36 _ _ nR hR3
      have nol : noLs ds = true := noLs_all.mpr vks.noL
      generalize L2.upd H5 p (.tup [.ref r, v]) = H6 at S36 dp T6 hR6 ⊢
      refine ⟨_, hR6, lt_size (by rw [List.length_map]; omega), ⟨rs ++ [(.ref p, ⟨ds, l⟩)], by rw [upd_same, List.map_append]; rfl, fun q hq => ?_, fun q hq => ?_, by rw [List.length_append]; show rs.length + 1 ≤ i + 1; omega⟩, T6.upd nR nRc, fun b' o n e => ?_⟩
      · rcases List.mem_append.mp hq with hq | hq
        · exact (((ra q hq).same (dl_same S36)).t (dlT hR6) (row_noL (noLs_all.mpr (rv q.2 (List.mem_map_of_mem hq)).1.noL)))
        · rw [List.mem_singleton.mp hq]
          exact DhT.upd dp (row_noL nol) hR6
      · rw [List.map_append] at hq
        rcases List.mem_append.mp hq with hq | hq
        · exact rv q hq
        · rw [List.mem_singleton.mp hq]
          exact ⟨vks, lok⟩
      · rw [upd_ne (ne_of_none e gR)]
        exact (S3.trans S36) b' o n e
    rintro H3 ⟨⟨rs, hR3, ra, rv, lr⟩, T3, S3⟩
    exact k R rs H3 hR3 (T1.tape.ne hR) ra rv (by omega) T3 S3
end
end
end K19
set_option Elab.async false
set_option linter.all false
set_option maxRecDepth 100000
set_option maxHeartbeats 4000000
namespace K19
open PySem PySem.Spec PyProof.Rows L2 Lc
abbrev ttLu (K : PySem.W.Frag) : TT := tTest (tOp (rNotInD K) (tVar 3) (tVar 1))
section
variable {P : Program} {w : World} {K : PySem.W.Frag} {mg : Str → Option Value} {base : Heap} {f : Addr} {fd : FuncData}
abbrev sLu : Stmt := top 135
abbrev nLu : List Str := ["_law_lineages", "_law_found", "_law_lineage_here", "_law_part"]
abbrev pLu : List Str := ["_law_lineages"]
theorem scLu : FnScope nLu pLu (defScope sLu) := ⟨rfl, rfl, rfl, by decide +kernel, rfl, by decide +kernel, by decide +kernel⟩
section
theorem ok_Lu (F : Fun K "_law_union" "_law_union" sLu f fd) (T : Bt mg) (mS : mg "sorted" = none) : FnOk P w K mg base CX0 1 f fd pLu (spUn) := by
  refine F.ok scLu (fun vs H Q E h => ?_) (fun cdv A outer s H vs Q E hr h => ?_)
  · obtain ⟨a, xs, ls, rfl, _⟩ := h
    rfl
  · obtain ⟨a, xs, ls, rfl, ha, hl, ok, k⟩ := h
    refine ⟨_, (pss_cons (ps_set (i := 1) scLu.nd rfl (Or.inr rfl) (pe_lst pa_nil))
      (pss_cons (ps_for PassesOwn.never rfl (pi_list (pv 0)) (pg_name (i := 2) scLu.nd rfl (.inl rfl)) (pss_one (ps_set (i := 1) scLu.nd rfl (Or.inr rfl) (pe_op op_cat (pv 1) (pe_lc (own := [("_law_part", 3)]) (g := (gName 3)) (tt := ttLu K) (te := tVar 3) (by rfl) scLu.nd (pi_tup (pv 2)) (blkOk_by (own := [("_law_part", 3)]) (N := nLu) (sc := defScope sLu) (by decide +kernel)) (fun _ _ _ _ _ => (pg_name (i := 3) scLu.nd rfl (.inl rfl))) (fun _ _ _ _ _ => (pts_one (pt_cmpR (op_notInD (hu65 hr)) (pv 3) (pv 1) (by rfl)))) (fun _ _ _ _ _ => (pv 3)))))))
      (pss_one (ps_ret (pe_callTy call_tuple_of (by rfl) T.tuple boot_tuple (pa_cons (pe_callB (call_sortedDt hr.units) (by rfl) mS (by decide +kernel) (pa_cons (pv 1) pa_nil)) pa_nil)))))), ?_⟩
    refine ⟨Nat.zero_le _, fun L hL => ?_⟩
    have zL := Same.upd (o := .lst []) hL
    have eL : L2.upd H L (.lst []) L = some (.lst []) := upd_same
    generalize L2.upd H L (.lst []) = H1 at zL eL ⊢
    refine ⟨_, rfl, a, rfl, ⟨_, SqL.of (zL _ _ ha)⟩, for_list (K := K) (a := a) (xs := xs) (fun i σ H' => (∃ (F : Addr) (x2 x3 : Option V), σ = [some (.ref a), some (.ref F), x2, x3] ∧ ∃ ys, H' F = some (.lst ys) ∧ DhAll H' ys ((allL (ls.take i)).map partD)) ∧ Same H H') ⟨⟨L, _, _, rfl, [], eL, .nil⟩, zL⟩ (fun i σ H' _ pr => SqL.of (pr.2 _ _ ha)) ?_ ?_⟩
    · rintro i x σ H2 hx ⟨⟨F0, x2, x3, rfl, ys, eF, dys⟩, s2⟩
      obtain ⟨l, el, dl⟩ := hl.get hx
      have lo := ok l (List.mem_of_getElem? el)
      have okA : ∀ p ∈ allL (ls.take i), PartOk p := fun p hp => by
        obtain ⟨m, h1, h2⟩ := allL_mem.mp hp
        exact (ok m (List.mem_of_mem_take h1)).2 p h2
      have ndA : (allL (ls.take i)).Nodup := allL_nd fun m hm => (ok m (List.mem_of_mem_take hm)).1
      have lA : (allL (ls.take i)).length ≤ 48 := by
        rw [← linU_len]
        exact ndA.length_le_of_subset fun p hp => (okA p hp).2.2.2
      have ll := lo.len
      have et : allL (ls.take (i + 1)) = allL (ls.take i) ++ l.filter fun p => decide (p ∉ allL (ls.take i)) := by
        rw [List.take_add_one, el]
        exact allL_snoc _ _
      have ly := dys.len
      rw [List.length_map] at ly
      cases dl with
      | @tup b us _ eb hs =>
      have lu := hs.len
      rw [List.length_map] at lu
      have eb2 := s2 _ _ eb
      have hs2 := hs.same s2
      refine ⟨_, rfl, _, rfl, b, rfl, ⟨_, SqT.of eb2⟩, fun D hD => lc_tup (K := K) (a := b) (xs := us) (fun j H' => (∃ zs, H' D = some (.lst zs) ∧ DhAll H' zs (((l.take j).filter fun p => decide (p ∉ allL (ls.take i))).map partD)) ∧ Same H2 H') ⟨⟨[], upd_same, .nil⟩, Same.upd hD⟩ (fun j H' _ pr => SqT.of (pr.2 _ _ eb2)) ?_ ?_⟩
      · rintro j y H3 hy ⟨⟨zs, eD, dzs⟩, s3⟩
        obtain ⟨p, c, ep, rfl, ec⟩ := lin_get hs2 hy
        have hp := lo.2 p (List.mem_of_getElem? ep)
        have dp : Dh H3 (.ref c) (partD p) := .tup (s3 _ _ ec) (.cons (.str _) (.cons (.int _) .nil))
        have nd1 : (partD p).hasDict = false := PyData.hasDict_of_canLay _ (part_lay hp).1
        have nd2 : (PyData.list ((allL (ls.take i)).map partD)).hasDict = false := PyData.hasDict_of_canLay _ (SeqAt.canLay_of_shaped (parts_shp okA))
        have lz := dzs.len
        rw [List.length_map] at lz
        have lz2 : zs.length ≤ 48 := by
          rw [lz]
          exact Nat.le_trans (List.length_filter_le _ _) (by rw [List.length_take]; omega)
        refine ⟨rfl, ?_⟩
        change ttLu K _ _ _
        refine ⟨_, rfl, _, rfl, partD p, (allL (ls.take i)).map partD, dp.dp nd1, (Dh.lst (s3 _ _ eF) (dys.same s3)).dp nd2, part_shp hp, parts_shp okA, _, rfl, ?_⟩
        rw [any_part]
        have nl : ∀ l : Lin, noLs (l.map partD) = true := fun l => noLs_all.mpr fun d hd => by
          obtain ⟨_, _, rfl⟩ := List.mem_map.mp hd
          rfl
        by_cases hin : p ∈ allL (ls.take i)
        · rw [decide_eq_true hin]
          refine iteF ⟨⟨zs, eD, ?_⟩, s3⟩
          rw [List.take_add_one, ep, List.filter_append, Option.toList_some, List.filter_cons, if_neg (by simpa using hin), List.filter_nil, List.append_nil]
          exact dzs
        · rw [decide_eq_false hin]
          refine iteT ⟨_, rfl, zs, eD, lt_size (by omega), ⟨zs ++ [.ref c], upd_same, ?_⟩, fun b' o e => by rw [upd_ne (ne_of_none e hD)]; exact s3 b' o e⟩
          rw [List.take_add_one, ep, List.filter_append, Option.toList_some, List.filter_cons, if_pos (by simpa using hin), List.filter_nil, List.map_append]
          exact DhAll.append (DhAll.t (SameT.lst eD) dzs (nl _)) (.cons (dp.t (SameT.lst eD) rfl) .nil)
      rintro H3 ⟨⟨zs, eD, dzs⟩, s3⟩
      rw [lu, List.take_length] at dzs
      have lz := dzs.len
      rw [List.length_map] at lz
      have lz2 : zs.length ≤ 48 := by
        rw [lz]
        exact Nat.le_trans (List.length_filter_le _ _) ll
      refine ⟨F0, D, _, _, rfl, rfl, s3 _ _ eF, eD, by rw [sizeLine_eq]; omega, fun F1 hF1 => ?_⟩
      have zF := Same.upd (o := .lst (ys ++ zs)) hF1
      refine ⟨⟨F1, _, _, rfl, _, upd_same, ?_⟩, s2.trans (s3.trans zF)⟩
      rw [et, List.map_append]
      exact DhAll.append (dys.same (s3.trans zF)) (dzs.same zF)
    · rintro σ H2 ⟨⟨F0, x2, x3, rfl, ys, eF, dys⟩, s2⟩
      rw [hl.len, List.take_length] at dys
      obtain ⟨al, so, dp⟩ := parts_alike (allL ls)
      refine ⟨_, rfl, F0, ys, (allL ls).map partD, rfl, SqL.of eF, parts_dh dys, dys, al, so, dp, fun ws p pm dy hp => ?_⟩
      have zp := Same.upd (o := .lst ws) hp
      refine ⟨p, ws, rfl, .inl ⟨SqL.of upd_same, fun r hr => ?_⟩⟩
      have zr := Same.upd (o := .tup ws) hr
      refine k _ _ (s2.trans (zp.trans zr)) (.tup upd_same ?_)
      rw [show (allL ls).map partD = (allL ls).map plD from rfl, srtL_map] at dy
      exact DhAll.same (zp.trans zr) dy
end
end
end K19
set_option Elab.async false
set_option linter.all false
set_option maxRecDepth 100000
set_option maxHeartbeats 4000000
namespace K19
open PySem PySem.Spec PyProof.Rows L2 Lc
/-- the values of a row at places, one behind the other -/
theorem vals_turn {H H1 : Hp} {D : Addr} {us ys : List V} {ds : List PyData} {js : List Nat} {i j : Nat} {u : V} (hD : H D = none) (e : H1 D = some (.lst ys)) (dys : DhAll H1 ys ((js.take i).map fun j => ds.getD j .none)) (hd : DhAll H1 us ds) (hn : ∀ d ∈ ds, noL d = true) (hj : ∀ j ∈ js, j < ds.length) (l8 : js.length ≤ 8) (ej : js[i]? = some j) (eu : us[j]? = some u) (s : Same H H1) :
    ∃ acc, H1 D = some (.lst acc) ∧ acc.length < sizeLine ∧ ((∃ ys, L2.upd H1 D (.lst (acc ++ [u])) D = some (.lst ys) ∧ DhAll (L2.upd H1 D (.lst (acc ++ [u]))) ys ((js.take (i + 1)).map fun j => ds.getD j .none)) ∧ Same H (L2.upd H1 D (.lst (acc ++ [u])))) := by
  have ly := dys.len
  rw [List.length_map, List.length_take] at ly
  have lj := hj j (List.mem_of_getElem? ej)
  obtain ⟨d, ed, du⟩ := hd.get j u eu
  have nn : ∀ l : List Nat, (∀ j ∈ l, j < ds.length) → noLs (l.map fun j => ds.getD j .none) = true := fun l hl => noLs_all.mpr fun x hx => by
    obtain ⟨j, h1, rfl⟩ := List.mem_map.mp hx
    refine hn _ ?_
    rw [List.getD_eq_getElem?_getD, List.getElem?_eq_getElem (hl j h1)]
    exact List.getElem_mem _
  refine ⟨ys, e, lt_size (by omega), ⟨ys ++ [u], upd_same, ?_⟩, fun b o q => by rw [upd_ne (ne_of_none q hD)]; exact s b o q⟩
  rw [List.take_add_one, ej, List.map_append]
  refine DhAll.append (DhAll.t (SameT.lst e) dys (nn _ fun j h => hj j (List.mem_of_mem_take h))) ?_
  show DhAll _ [u] [ds.getD j .none]
  rw [List.getD_eq_getElem?_getD, ed]
  exact .cons (du.t (SameT.lst e) (hn d (List.mem_of_getElem? ed))) .nil
/-- pairs of a truth and a place -/
def PbAt (H : Hp) (ys : List V) (n : Nat) (bs : Nat → Bool) : Prop := ys.length = n ∧ ∀ i, i < n → ∃ q, ys[i]? = some (.ref q) ∧ H q = some (.tup [.bl (bs i), .int (i : Nat)])
theorem PbAt.same {H H' : Hp} {ys : List V} {n : Nat} {bs : Nat → Bool} (h : PbAt H ys n bs) (s : SameT H H') : PbAt H' ys n bs :=
  ⟨h.1, fun i hi => let ⟨q, h1, h2⟩ := h.2 i hi; ⟨q, h1, s _ _ h2⟩⟩
theorem PbAt.snoc {H : Hp} {ys : List V} {n : Nat} {bs : Nat → Bool} {q : Addr} (h : PbAt H ys n bs) (e : H q = some (.tup [.bl (bs n), .int (n : Nat)])) : PbAt H (ys ++ [.ref q]) (n + 1) bs := by
  obtain ⟨h1, h2⟩ := h
  refine ⟨by rw [List.length_append, h1]; rfl, fun i hi => ?_⟩
  by_cases z : i < n
  · obtain ⟨p, e1, e2⟩ := h2 i z
    exact ⟨p, by rw [List.getElem?_append_left (by omega)]; exact e1, e2⟩
  · obtain rfl : i = n := by omega
    refine ⟨q, ?_, e⟩
    rw [List.getElem?_append_right (by omega), h1, Nat.sub_self]
    rfl
theorem ra_b {t : Addr} {H H' : Hp} {rs : RowsL} (h : RowsAt (dl t H) rs) (S : SameB t H H') : RowsAt (dl t H') rs := fun q hq => (h q hq).same (dl_same S)
/-- data put at the end of a new list -/
theorem mix_turn {t : Addr} {H H1 : Hp} {D : Addr} {ys : List V} {pre : List PyData} {u : V} {d : PyData} (hD : H D = none) (e : H1 D = some (.lst ys)) (h : DhAll (dl t H1) ys pre) (hu : Dh (dl t H1) u d) (n : ∀ x ∈ pre ++ [d], noL x = true) (l : pre.length ≤ 1000) (s : Same H H1) :
    ∃ acc, H1 D = some (.lst acc) ∧ acc.length < sizeLine ∧ ((∃ ys, L2.upd H1 D (.lst (acc ++ [u])) D = some (.lst ys) ∧ DhAll (dl t (L2.upd H1 D (.lst (acc ++ [u])))) ys (pre ++ [d])) ∧ Same H (L2.upd H1 D (.lst (acc ++ [u])))) :=
  ⟨ys, e, lt_size (by have := h.len; omega), ⟨_, upd_same, dhtA_upd (h.append (.cons hu .nil)) n e⟩, fun b o q => by rw [upd_ne (ne_of_none q hD)]; exact s b o q⟩
theorem vks_range {ks : List Str} {f : Nat → PyData} {n : Nat} (l : n = ks.length) (h : ∀ i k, ks[i]? = some k → Vk k (f i)) : Vks ks ((List.range n).map f) := by
  refine vks_of (by rw [List.length_map, List.length_range, l]) fun i k e => ⟨f i, ?_, h i k e⟩
  rw [List.getElem?_map, List.getElem?_range (by rw [l]; exact (List.getElem?_eq_some_iff.mp e).1)]
  rfl
theorem vks_getD {ks : List Str} {ds : List PyData} (h : Vks ks ds) {i : Nat} {k : Str} (e : ks[i]? = some k) : Vk k (ds.getD i .none) := by
  obtain ⟨d, e', v⟩ := vks_get h e
  rw [List.getD_eq_getElem?_getD, e']
  exact v
theorem dhA_getD {H : Hp} {us : List V} {ds : List PyData} (h : DhAll H us ds) {i : Nat} {u : V} (e : us[i]? = some u) : Dh H u (ds.getD i .none) := by
  obtain ⟨d, e', v⟩ := h.get i u e
  rw [List.getD_eq_getElem?_getD, e']
  exact v
abbrev rInt1 : List V → Hp → VK → Prop := fun xs H Q => (∃ i, xs = [.int i] ∧ Q (.int i) H) ∨ ∃ k, xs = [.bl k] ∧ Q (.int (if k then 1 else 0)) H
abbrev teAl1 (K : PySem.W.Frag) : TE := tTup (tCons (tOp (rIn K false) (tOp (rIxT K) (tOp (rIxT K) (tVar 1) (tVar 9)) (tC (.int 0))) (tVar 3)) (tCons (tVar 9) tNil))
abbrev teAl2 (K : PySem.W.Frag) : TE := tOp (rIxL K) (tLst (tCons (tOp (rIxT K) (tVar 5) (tVar 9)) (tCons (tOp (rIxT K) (tVar 7) (tVar 9)) tNil))) (tCB rInt1 (tCons (tVar 10) tNil))
def spAlk : Sp := fun vs H Q _ => ∃ (t c L R N : Addr) (ps : CsL) (rs0 : RowsL) (ks : List Str), vs = [.ref t, .ref L, .ref R, .ref N] ∧ TapeL c H t ∧ CA H L ps ∧ ColP ps ∧ H R = some (.lst (rs0.map (·.1))) ∧ R ≠ t ∧ RowsAt (dl t H) rs0 ∧ RowW ps (rs0.map (·.2)) ∧ rs0.length ≤ 60 ∧ H N = some (.tup (vS ks)) ∧
  ∀ (R' : Addr) (rs : RowsL) (H' : Hp), H' R' = some (.lst (rs.map (·.1))) → H R' = none → RowsAt (dl t H') rs → RowW ps (rs.map (·.2)) → rs.length ≤ rs0.length → TapeL c H' t → SameB t H H' → Q (.ref R') H'
abbrev teKy1 (K : PySem.W.Frag) : TE := tOp (rIxT K) (tVar 7) (tC (.int 0))
abbrev teKy2 (K : PySem.W.Frag) : TE := tOp (rIxT K) (tOp (rIxT K) (tVar 1) (tVar 13)) (tC (.int 0))
abbrev teKy3 (K : PySem.W.Frag) : TE := tIf (tTest (tOp (rIn K false) (tOp (rIxL K) (tVar 12) (tVar 13)) (tVar 5))) (tOp (rIxT K) (tVar 11) (tBM K "list" (rIndex K) (tVar 6) (tCons (tOp (rIxL K) (tVar 12) (tVar 13)) tNil))) (tOp (rIxT K) (tVar 9) (tVar 13))
/-- the left table's rows stand at A, the other's at O -/
def spKyd : Sp := fun vs H Q _ => ∃ (t c Rc O Lc_ A N : Addr) (qs : CsL) (os0 : RowsL) (ps : CsL) (rs0 : RowsL) (ks : List Str), vs = [.ref t, .ref Rc, .ref O, .ref Lc_, .ref A, .ref N] ∧ TapeL c H t ∧ CA H Rc qs ∧ ColP qs ∧ H O = some (.lst (os0.map (·.1))) ∧ O ≠ t ∧ RowsAt (dl t H) os0 ∧ RowW qs (os0.map (·.2)) ∧ os0.length ≤ 60 ∧ CA H Lc_ ps ∧ ColP ps ∧ H A = some (.lst (rs0.map (·.1))) ∧ A ≠ t ∧ RowsAt (dl t H) rs0 ∧ RowW ps (rs0.map (·.2)) ∧ rs0.length ≤ 60 ∧ H N = some (.tup (vS ks)) ∧ (∀ n ∈ ks, n ∈ nms ps ∧ kdOf ps n = kdOf qs n) ∧
  ∀ (R' : Addr) (rs : RowsL) (H' : Hp), H' R' = some (.lst (rs.map (·.1))) → H R' = none → RowsAt (dl t H') rs → RowW qs (rs.map (·.2)) → rs.length ≤ os0.length → TapeL c H' t → SameB t H H' → Q (.ref R') H'
section
variable {P : Program} {w : World} {K : PySem.W.Frag} {mg : Str → Option Value} {base : Heap} {f : Addr} {fd : FuncData}
abbrev sAl : Stmt := top 139
abbrev nAl : List Str := ["_law_tape_here", "_law_columns_here", "_law_rows_here", "_law_shared", "_law_found", "_law_values_here", "_law_lineage_here", "_law_other", "_law_pairs", "_law_k", "_law_inside"]
abbrev pAl : List Str := ["_law_tape_here", "_law_columns_here", "_law_rows_here", "_law_shared"]
theorem scAl : FnScope nAl pAl (defScope sAl) := ⟨rfl, rfl, rfl, by decide +kernel, rfl, by decide +kernel, by decide +kernel⟩
section
variable {fA_ : Addr} {fdA_ : FuncData}
theorem ok_Al (F : Fun K "_law_alike_rows" "_law_alike_rows" sAl f fd) (T : Bt mg)
    (GA_ : FnOk P w K mg base CX0 1 fA_ fdA_ ["_law_tape_here", "_law_many"] (spDrawL)) (mA_ : mg "_law_draw" = some (.ref fA_)) (kA_ : PySem.W.keepIn K (.ref fA_) = true) (bA_ : Binds K fdA_ ["_law_tape_here", "_law_many"] []) : FnOk P w K mg base CX0 2 f fd pAl (spAlk) := by
  refine F.ok scAl (fun vs H Q E h => ?_) (fun cdv A outer s H vs Q E hr h => ?_)
  · obtain ⟨t, c, L, R, N, ps, rs0, ks, rfl, _⟩ := h
    rfl
  · obtain ⟨t, c, L, R, N, ps, rs0, ks, rfl, hT, cL, cp, eR, nR, ra0, rw0, ln0, eN, k⟩ := h
    have hrA_ : Room (1) _ := hr.mono (by first | decide | omega)
    refine ⟨_, (pss_cons (ps_set (i := 4) scAl.nd rfl (Or.inl rfl) (pe_lst pa_nil))
      (pss_cons (ps_for PassesOwn.never rfl (pi_list (pv 2)) (pg_tup rfl (pgs_cons (pg_name (i := 5) scAl.nd rfl (.inr rfl)) (pgs_cons (pg_name (i := 6) scAl.nd rfl (.inl rfl)) pgs_nil))) (Evl.pss_cut (ps_if (PW.pt (pw_and (pt_truth (pv 4) (fun _ => rfl)) (pw_and1 (pt_cmpR op_eq (pe_call GA_ hrA_ (by rfl) mA_ kA_ bA_ .nil pass0 (pa_cons (pv 0) (pa_cons pe_int pa_nil))) pe_int (nomark _))))) (Evl.pss_cut (ps_set (i := 7) scAl.nd rfl (Or.inr rfl) (pe_ix ix_tup (pe_ix ix_list (pv 4) (pe_call GA_ hrA_ (by rfl) mA_ kA_ bA_ .nil pass0 (pa_cons (pv 0) (pa_cons (pe_callB call_len_seq (by rfl) T.len PySem.boot_len (pa_cons (pv 4) pa_nil)) pa_nil))) (fun _ _ => rfl)) pe_int (fun _ _ => rfl)))
      (Evl.pss_cut (ps_setLc (i := 8) (own := [("_law_k", 9)]) (g := (gName 9)) (tt := tYes) (te := teAl1 K) (by rfl) scAl.nd rfl rfl (sw_true rfl rfl rfl (by decide +kernel)) (pi_range1 (by rfl) T.range (pa_cons (pe_callB call_len_seq (by rfl) T.len PySem.boot_len (pa_cons (pv 1) pa_nil)) pa_nil)) (blkOk_by (own := [("_law_k", 9)]) (N := nAl) (sc := defScope sAl) (by decide +kernel)) (fun _ _ _ _ _ => (pg_name (i := 9) scAl.nd rfl (.inl rfl))) (fun _ _ _ _ _ => pts_nil) (fun _ _ _ _ _ => (pe_tup (pa_cons (pe_cmpR op_in_seq (pe_ix ix_tup (pe_ix ix_tup (pv 1) (pv 9) (fun _ _ => rfl)) pe_int (fun _ _ => rfl)) (pv 3) (by rfl)) (pa_cons (pv 9) pa_nil)))))
      (pss_one (ps_set (i := 5) scAl.nd rfl (Or.inr rfl) (pe_callTy call_tuple_of (by rfl) T.tuple boot_tuple (pa_cons (pe_lc (own := [("_law_inside", 10), ("_law_k", 9)]) (g := (gTup K 2 (gCons (gName 10) (gCons (gName 9) gNil)))) (tt := tYes) (te := teAl2 K) (by rfl) scAl.nd (pi_list (pv 8)) (blkOk_by (own := [("_law_inside", 10), ("_law_k", 9)]) (N := nAl) (sc := defScope sAl) (by decide +kernel)) (fun _ _ _ _ _ => (pg_tup rfl (pgs_cons (pg_name (i := 10) scAl.nd rfl (.inl rfl)) (pgs_cons (pg_name (i := 9) scAl.nd rfl (.inl rfl)) pgs_nil)))) (fun _ _ _ _ _ => pts_nil) (fun _ _ _ _ _ => (pe_ix ix_list (pe_lst (pa_cons (pe_ix ix_tup (pv 5) (pv 9) (fun _ _ => rfl)) (pa_cons (pe_ix ix_tup (pv 7) (pv 9) (fun _ _ => rfl)) pa_nil))) (pe_callTy call_int1 (by rfl) T.int boot_int (pa_cons (pv 10) pa_nil)) (fun _ _ => rfl)))) pa_nil)))))) pss_nil)
      (pss_one (ps_expr (pe_bm PySem.F.plainAttrs_list PySem.F.slot_list_append PySem.F.type_list_append mt_append (pv 4) (pa_cons (pe_tup (pa_cons (pv 5) (pa_cons (pv 6) pa_nil))) pa_nil))))))
      (pss_one (ps_ret (pv 4))))), ?_⟩
    have two : 2 ≤ sizeLine := by decide
    refine ⟨Nat.zero_le _, fun F hF => ?_⟩
    have zF := Same.upd (o := .lst []) hF
    have eF0 : L2.upd H F (.lst []) F = some (.lst []) := upd_same
    have nFt := hT.tape.ne hF
    have nFc : F ≠ c := by
      obtain ⟨zs, e⟩ := hT.list
      exact (ne_of_none e hF).symm
    have T1 := hT.same zF
    generalize L2.upd H F (.lst []) = H1 at zF eF0 T1 ⊢
    have S01 := Same.b t zF
    have hT0 := hT.tape
    have nLn : (nms ps).length = ps.length := List.length_map _
    have lk2 : (ps.map (·.2)).length = ps.length := List.length_map _
    have p8 := cp.l8
    have fl : (vS ks).all flatV = true := List.all_eq_true.mpr fun v hv => by
      obtain ⟨x, _, rfl⟩ := List.mem_map.mp hv
      rfl
    let bs : Nat → Bool := fun i => decide ((nms ps).getD i "" ∈ ks)
    refine ⟨_, rfl, R, rfl, ⟨_, SqL.of (zF _ _ eR)⟩, for_list (K := K) (a := R) (xs := rs0.map (·.1)) (fun i σ H' => (∃ (rs : RowsL) (x5 x6 x7 x8 : Option V), σ = [some (.ref t), some (.ref L), some (.ref R), some (.ref N), some (.ref F), x5, x6, x7, x8, none, none] ∧ H' F = some (.lst (rs.map (·.1))) ∧ RowsAt (dl t H') rs ∧ RowW ps (rs.map (·.2)) ∧ rs.length ≤ i) ∧ TapeL c H' t ∧ SameB t H H') ⟨⟨[], _, _, _, _, rfl, eF0, nofun, nofun, Nat.le_refl _⟩, T1, S01⟩ (fun i σ H' _ pr => SqL.of (pr.2.2 _ _ nR eR)) ?_ ?_⟩
    · rintro i y σ H6 hy ⟨⟨rs, x5, x6, x7, x8, rfl, eF, ra, rv, lr⟩, T6, S6⟩
      rw [List.getElem?_map] at hy
      obtain ⟨r, er, rfl⟩ := Option.map_eq_some_iff.mp hy
      have rm := List.mem_of_getElem? er
      have li := (List.getElem?_eq_some_iff.mp er).1
      obtain ⟨vk, lo⟩ := rw0 r.2 (List.mem_map_of_mem rm)
      obtain ⟨rr, va, la, ev, e2, dva, dla⟩ := row_at (ra_b ra0 S6 r rm)
      refine ⟨rr, _, ev, SqT.of (dl_of e2).2, rfl, _, _, rfl, _, _, rfl, rfl, ?_⟩
      dsimp only [gNil]
      refine ⟨fun σ H' => ∃ (v : V) (es : List PyData) (x7 x8 : Option V), σ = [some (.ref t), some (.ref L), some (.ref R), some (.ref N), some (.ref F), some v, some (.ref la), x7, x8, none, none] ∧ DhT t H' v (.tuple es) ∧ Vks (ps.map (·.2)) es ∧ TapeL c H' t ∧ SameB t H6 H', ?_, ?_⟩
      · refine ⟨_, rfl, _, .inl ⟨_, SqL.of eF, rfl⟩, ?_⟩
        cases rs with
        | nil => exact iteF ⟨.ref va, r.2.vals, _, _, rfl, dva, vk, T6, SameB.refl _ _⟩
        | cons r1 rest =>
        refine iteT ⟨_, rfl, t, c, _, rfl, T6, by decide, big1000 (by decide) (by decide), fun j8 H8 a8 b8 T8 S8 => ⟨rfl, _, rfl, ite2 (fun q => ?_) (fun q => ⟨.ref va, r.2.vals, _, _, rfl, dtb dva S8, vk, T8, S8⟩)⟩⟩
        have eF8 := S8 _ _ nFt eF
        -- another row
        refine ⟨fun σ H' => ∃ (vo : Addr) (eo : List PyData), σ = [some (.ref t), some (.ref L), some (.ref R), some (.ref N), some (.ref F), some (.ref va), some (.ref la), some (.ref vo), x8, none, none] ∧ DhT t H' (.ref vo) (.tuple eo) ∧ Vks (ps.map (·.2)) eo ∧ TapeL c H' t ∧ SameB t H6 H', ?_, ?_⟩
        · refine ⟨_, rfl, _, rfl, _, rfl, F, _, rfl, .inl (SqL.of eF8), t, c, _, rfl, T8, by simp <;> omega, big1000 (by simp <;> omega) (by rw [List.length_map]; omega), fun j9 H9 a9 b9 T9 S9 => ?_⟩
          have hj : j9.toNat < (r1 :: rest).length := by rw [List.length_map] at b9; omega
          obtain ⟨y, ey⟩ : ∃ y, (r1 :: rest)[j9.toNat]? = some y := ⟨_, List.getElem?_eq_getElem hj⟩
          have ym := List.mem_of_getElem? ey
          have S69 := S8.trans S9
          obtain ⟨r', va2, la2, e1, e3, hv, _⟩ := row_at ((ra y ym).same (dl_same S69))
          have yv := (rv y.2 (List.mem_map_of_mem ym)).1
          refine ⟨F, _, _, y.1, rfl, rfl, SqL.of (S9 _ _ nFt eF8), at_of (j := j9.toNat) (by omega) (by rw [List.getElem?_map, ey]; rfl), ?_⟩
          rw [e1]
          exact ⟨r', _, _, .ref va2, rfl, rfl, SqT.of (dl_of e3).2, at_of (j := 0) rfl rfl, va2, _, rfl, hv, yv, T9, S69⟩
        rintro σ H9 ⟨vo, eo, rfl, dvo, veo, T9, S69⟩
        have S09 := S6.trans S69
        have cL9 := cL.b hT0 S09
        have eN9 := SameT.b hT0 S09 _ _ eN
        obtain ⟨xs, zL, cc⟩ := id cL9
        have lx := cc.len
        -- the pairs
        refine ⟨fun σ H' => ∃ (Pq : Addr) (ys : List V), σ = [some (.ref t), some (.ref L), some (.ref R), some (.ref N), some (.ref F), some (.ref va), some (.ref la), some (.ref vo), some (.ref Pq), none, none] ∧ H' Pq = some (.lst ys) ∧ PbAt H' ys ps.length bs ∧ Same H9 H', ?_, ?_⟩
        · refine ⟨_, rfl, L, xs, rfl, .inr zL.sq, (xs.length : Nat), rfl, by omega, by omega, fun P1 hP1 => lc_range (lo := 0) (n := ((xs.length : Nat) : Int).toNat) (fun i H' => (∃ ys, H' P1 = some (.lst ys) ∧ PbAt H' ys i bs) ∧ Same H9 H') ⟨⟨[], upd_same, rfl, fun i hi => absurd hi (Nat.not_lt_zero i)⟩, Same.upd hP1⟩ ?_ ?_⟩
          · rintro m H10 hm ⟨⟨ys, eP, pb⟩, s10⟩
            rw [Int.toNat_natCast] at hm
            obtain ⟨x, hx⟩ : ∃ x, xs[m]? = some x := ⟨_, List.getElem?_eq_getElem hm⟩
            obtain ⟨a, z, kk, rfl, ea, ep⟩ := cc.get _ _ hx
            have en : (nms ps)[m]? = some z := by rw [List.getElem?_map, ep]; rfl
            have eb : bs m = decide (z ∈ ks) := by
              show decide ((nms ps).getD m "" ∈ ks) = _
              rw [List.getD_eq_getElem?_getD, en]
              rfl
            rw [Int.zero_add]
            refine ⟨rfl, ?_⟩
            dsimp only [tYes]
            refine iteT ?_
            change teAl1 K _ _ _
            refine ⟨_, rfl, _, rfl, L, xs, (m : Int), .ref a, rfl, rfl, (zL.same s10).sq, at_of (j := m) rfl hx, a, _, _, .str z, rfl, rfl, SqT.of (s10 _ _ ea), at_of (j := 0) rfl rfl, _, rfl, N, _, rfl, .inr (SqT.of (s10 _ _ eN9)), rfl, fl, ?_⟩
            rw [if_neg (by decide), in_strs, ← eb]
            refine ⟨_, rfl, two, fun q hq => ?_⟩
            have zq := Same.upd (o := .tup [.bl (bs m), .int (m : Nat)]) hq
            have eP2 := zq _ _ eP
            have lp := pb.1
            refine ⟨ys, eP2, lt_size (by omega), ⟨ys ++ [.ref q], upd_same, ?_⟩, fun b o e => by rw [upd_ne (ne_of_none e hP1)]; exact zq _ _ (s10 b o e)⟩
            exact ((pb.same (SameT.of zq)).snoc upd_same).same (SameT.lst eP2)
          · rintro H10 ⟨⟨ys, eP, pb⟩, s10⟩
            rw [Int.toNat_natCast, lx] at pb
            exact ⟨P1, ys, rfl, eP, pb, s10⟩
        rintro σ H10 ⟨Pq, ys, rfl, eP, pb, s10⟩
        have T10 := T9.same s10
        have S610 := S69.trans (Same.b t s10)
        have dva10 := dtb dva S610
        have dvo10 := dts dvo s10
        clear cL9 eN9 zL cc s10 dvo T9 S69 S09 eF8 S8 T8
        -- the values
        have hva := dva10
        cases hva with
        | @tup _ us _ eu hu =>
        have hvo := dvo10
        cases hvo with
        | @tup _ us2 _ eu2 hu2 =>
        have l1 := hu.len
        have l2 := hu2.len
        have lv1 := vk.len
        have lv2 := veo.len
        have lp := pb.1
        let f : Nat → PyData := fun k => if bs k then eo.getD k .none else r.2.vals.getD k .none
        have vf : ∀ i k, (ps.map (·.2))[i]? = some k → Vk k (f i) := fun i k e => by
          show Vk k (if bs i then eo.getD i .none else r.2.vals.getD i .none)
          split
          · exact vks_getD veo e
          · exact vks_getD vk e
        have vfl : ∀ i, i < ps.length → noL (f i) = true := fun i hi => by
          obtain ⟨k, ek⟩ : ∃ k, (ps.map (·.2))[i]? = some k := ⟨_, List.getElem?_eq_getElem (by omega)⟩
          exact (vf i k ek).noL
        refine ⟨_, rfl, Pq, rfl, ⟨_, SqL.of eP⟩, fun D hD => lc_list (K := K) (a := Pq) (xs := ys) (fun i H' => (∃ zs, H' D = some (.lst zs) ∧ DhAll (dl t H') zs ((List.range i).map f)) ∧ Same H10 H') ⟨⟨[], upd_same, .nil⟩, Same.upd hD⟩ (fun i H' _ pr => SqL.of (pr.2 _ _ eP)) ?_ ?_⟩
        · rintro m x H11 hx ⟨⟨zs, eD, dz⟩, s11⟩
          have hm : m < ps.length := by rw [← lp]; exact (List.getElem?_eq_some_iff.mp hx).1
          obtain ⟨q, e1, e3⟩ := pb.2 m hm
          rw [hx] at e1
          obtain rfl := Option.some.inj e1
          obtain ⟨u1, hu1⟩ : ∃ u1, us[m]? = some u1 := ⟨_, List.getElem?_eq_getElem (by omega)⟩
          obtain ⟨u2, hu2'⟩ : ∃ u2, us2[m]? = some u2 := ⟨_, List.getElem?_eq_getElem (by omega)⟩
          refine ⟨q, _, rfl, SqT.of (s11 _ _ e3), rfl, _, _, rfl, _, _, rfl, rfl, rfl, ?_⟩
          dsimp only [tYes]
          refine iteT ?_
          change teAl2 K _ _ _
          refine ⟨_, rfl, _, rfl, va, us, (m : Int), u1, rfl, rfl, SqT.of (s11 _ _ (dl_of eu).2), at_of (j := m) rfl hu1, _, rfl, _, rfl, vo, us2, (m : Int), u2, rfl, rfl, SqT.of (s11 _ _ (dl_of eu2).2), at_of (j := m) rfl hu2', two, fun p hp => ?_⟩
          have zp := Same.upd (o := .lst [u1, u2]) hp
          have s1p := s11.trans zp
          have eDp := zp _ _ eD
          have dzp := dtsA dz zp
          have hup := dtsA hu s1p
          have hup2 := dtsA hu2 s1p
          have ep : L2.upd H11 p (.lst [u1, u2]) p = some (.lst [u1, u2]) := upd_same
          generalize L2.upd H11 p (.lst [u1, u2]) = H12 at s1p eDp dzp hup hup2 ep ⊢
          refine ⟨_, rfl, .inr ⟨bs m, rfl, ?_⟩⟩
          have go : ∃ u, atI [u1, u2] (if bs m = true then 1 else 0) = some u ∧ Dh (dl t H12) u (f m) := by
            show ∃ u, _ ∧ Dh _ u (if bs m then eo.getD m .none else r.2.vals.getD m .none)
            cases bs m with
            | true => exact ⟨u2, at_of (j := 1) rfl rfl, dhA_getD hup2 hu2'⟩
            | false => exact ⟨u1, at_of (j := 0) rfl rfl, dhA_getD hup hu1⟩
          obtain ⟨u, au, du⟩ := go
          refine ⟨p, _, _, u, rfl, rfl, SqL.of ep, au, ?_⟩
          rw [List.range_succ, List.map_append]
          refine mix_turn hD eDp dzp du (fun x hx' => ?_) (by rw [List.length_map, List.length_range]; omega) s1p
          rcases List.mem_append.mp hx' with h | h
          · obtain ⟨j, hj, rfl⟩ := List.mem_map.mp h
            exact vfl j (by have := List.mem_range.mp hj; omega)
          · rw [List.mem_singleton.mp h]
            exact vfl m hm
        rintro H11 ⟨⟨zs, eD, dz⟩, s11⟩
        rw [lp] at dz
        have T11 := T10.same s11
        refine ⟨D, zs, rfl, .inl ⟨SqL.of eD, fun q hq => ?_⟩⟩
        have zq := Same.upd (o := .tup zs) hq
        exact ⟨.ref q, _, _, _, rfl, dh_tupT T11.tape dz hq, vks_range lk2.symm vf, T11.same zq, S610.trans (Same.b t (s11.trans zq))⟩
      · rintro σ H8 ⟨v, es, x7, x8, rfl, dv, ve, T8, S8⟩
        have eF8 := S8 _ _ nFt eF
        have S28 := S6.trans S8
        have ra8 : RowsAt (dl t H8) rs := ra_b ra S8
        have dl8 : DhT t H8 (.ref la) (linD r.2.lin) := dtb dla S8
        refine ⟨_, rfl, .inl ⟨rfl, _, SqL.of eF8⟩, _, rfl, _, rfl, two, fun q3 hq3 => ?_⟩
        have z3 := Same.upd (o := .tup [v, .ref la]) hq3
        have T9 := T8.same z3
        have d3 : DhT t _ (.ref q3) (RowD.d ⟨es, r.2.lin⟩) := dh_tupT T8.tape (.cons dv (.cons dl8 .nil)) hq3
        have eF9 := z3 _ _ eF8
        have nol : noLs es = true := noLs_all.mpr ve.noL
        refine ⟨F, _, _, rfl, rfl, eF9, lt_size (by rw [List.length_map]; omega), ⟨rs ++ [(.ref q3, ⟨es, r.2.lin⟩)], _, _, _, _, rfl, by rw [upd_same, List.map_append]; rfl, fun q hq => ?_, fun q hq => ?_, by rw [List.length_append]; show rs.length + 1 ≤ i + 1; omega⟩, T9.upd nFt nFc, fun b' o n e => ?_⟩
        · rcases List.mem_append.mp hq with hq | hq
          · exact ((ra8 q hq).same (dl_same (Same.b t z3))).t (dlT eF9) (row_noL (noLs_all.mpr (rv q.2 (List.mem_map_of_mem hq)).1.noL))
          · rw [List.mem_singleton.mp hq]
            exact DhT.upd d3 (row_noL nol) eF9
        · rw [List.map_append] at hq
          rcases List.mem_append.mp hq with hq | hq
          · exact rv q hq
          · rw [List.mem_singleton.mp hq]
            exact ⟨ve, lo⟩
        · rw [upd_ne (ne_of_none e hF)]
          exact (S28.trans (Same.b t z3)) b' o n e
    · rintro σ H6 ⟨⟨rs, x5, x6, x7, x8, rfl, eF, ra, rv, lr⟩, T6, S6⟩
      rw [List.length_map] at lr
      exact ⟨_, rfl, k F rs H6 eF hF ra rv lr T6 S6⟩
end
abbrev sKy : Stmt := top 140
abbrev nKy : List Str := ["_law_tape_here", "_law_right", "_law_others", "_law_left", "_law_rows_here", "_law_names", "_law_places", "_law_part", "_law_found", "_law_values_here", "_law_lineage_here", "_law_other", "_law_keys", "_law_k"]
abbrev pKy : List Str := ["_law_tape_here", "_law_right", "_law_others", "_law_left", "_law_rows_here", "_law_names"]
theorem scKy : FnScope nKy pKy (defScope sKy) := ⟨rfl, rfl, rfl, by decide +kernel, rfl, by decide +kernel, by decide +kernel⟩
section
variable {fA_ : Addr} {fdA_ : FuncData}
theorem ok_Ky (F : Fun K "_law_keyed" "_law_keyed" sKy f fd) (T : Bt mg)
    (GA_ : FnOk P w K mg base CX0 1 fA_ fdA_ ["_law_tape_here", "_law_many"] (spDrawL)) (mA_ : mg "_law_draw" = some (.ref fA_)) (kA_ : PySem.W.keepIn K (.ref fA_) = true) (bA_ : Binds K fdA_ ["_law_tape_here", "_law_many"] []) : FnOk P w K mg base CX0 2 f fd pKy (spKyd) := by
  refine F.ok scKy (fun vs H Q E h => ?_) (fun cdv A outer s H vs Q E hr h => ?_)
  · obtain ⟨t, c, Rc, O, Lc_, A, N, qs, os0, ps, rs0, ks, rfl, _⟩ := h
    rfl
  · obtain ⟨t, c, Rc, O, Lc_, A, N, qs, os0, ps, rs0, ks, rfl, hT, cR, cq, eO, nO, rao, rwo, lno, cL, cp, eA, nA, raa, rwa, lna, eN, hkd, k⟩ := h
    have hrA_ : Room (1) _ := hr.mono (by first | decide | omega)
    refine ⟨_, (pss_cons (ps_set (i := 6) scKy.nd rfl (Or.inr rfl) (pe_lc (own := [("_law_part", 7)]) (g := (gName 7)) (tt := tYes) (te := teKy1 K) (by rfl) scKy.nd (pi_tup (pv 3)) (blkOk_by (own := [("_law_part", 7)]) (N := nKy) (sc := defScope sKy) (by decide +kernel)) (fun _ _ _ _ _ => (pg_name (i := 7) scKy.nd rfl (.inl rfl))) (fun _ _ _ _ _ => pts_nil) (fun _ _ _ _ _ => (pe_ix ix_tup (pv 7) pe_int (fun _ _ => rfl)))))
      (pss_cons (ps_set (i := 8) scKy.nd rfl (Or.inl rfl) (pe_lst pa_nil))
      (pss_cons (ps_for PassesOwn.never rfl (pi_list (pv 2)) (pg_tup rfl (pgs_cons (pg_name (i := 9) scKy.nd rfl (.inr rfl)) (pgs_cons (pg_name (i := 10) scKy.nd rfl (.inl rfl)) pgs_nil))) (Evl.pss_cut (ps_if (PW.pt (pw_and (pt_truth (pv 4) (fun _ => rfl)) (pw_and1 (pt_cmpR op_eq (pe_call GA_ hrA_ (by rfl) mA_ kA_ bA_ .nil pass0 (pa_cons (pv 0) (pa_cons pe_int pa_nil))) pe_int (nomark _))))) (Evl.pss_cut (ps_set (i := 11) scKy.nd rfl (Or.inr rfl) (pe_ix ix_tup (pe_ix ix_list (pv 4) (pe_call GA_ hrA_ (by rfl) mA_ kA_ bA_ .nil pass0 (pa_cons (pv 0) (pa_cons (pe_callB call_len_seq (by rfl) T.len PySem.boot_len (pa_cons (pv 4) pa_nil)) pa_nil))) (fun _ _ => rfl)) pe_int (fun _ _ => rfl)))
      (Evl.pss_cut (ps_set (i := 12) scKy.nd rfl (Or.inr rfl) (pe_lc (own := [("_law_k", 13)]) (g := (gName 13)) (tt := tYes) (te := teKy2 K) (by rfl) scKy.nd (pi_range1 (by rfl) T.range (pa_cons (pe_callB call_len_seq (by rfl) T.len PySem.boot_len (pa_cons (pv 1) pa_nil)) pa_nil)) (blkOk_by (own := [("_law_k", 13)]) (N := nKy) (sc := defScope sKy) (by decide +kernel)) (fun _ _ _ _ _ => (pg_name (i := 13) scKy.nd rfl (.inl rfl))) (fun _ _ _ _ _ => pts_nil) (fun _ _ _ _ _ => (pe_ix ix_tup (pe_ix ix_tup (pv 1) (pv 13) (fun _ _ => rfl)) pe_int (fun _ _ => rfl)))))
      (pss_one (ps_set (i := 9) scKy.nd rfl (Or.inr rfl) (pe_callTy call_tuple_of (by rfl) T.tuple boot_tuple (pa_cons (pe_lc (own := [("_law_k", 13)]) (g := (gName 13)) (tt := tYes) (te := teKy3 K) (by rfl) scKy.nd (pi_range1 (by rfl) T.range (pa_cons (pe_callB call_len_seq (by rfl) T.len PySem.boot_len (pa_cons (pv 12) pa_nil)) pa_nil)) (blkOk_by (own := [("_law_k", 13)]) (N := nKy) (sc := defScope sKy) (by decide +kernel)) (fun _ _ _ _ _ => (pg_name (i := 13) scKy.nd rfl (.inl rfl))) (fun _ _ _ _ _ => pts_nil) (fun _ _ _ _ _ => (pe_ifExp (pt_cmpR op_in_seq (pe_ix ix_list (pv 12) (pv 13) (fun _ _ => rfl)) (pv 5) (by rfl)) (pe_ix ix_tup (pv 11) (pe_bm PySem.F.plainAttrs_list PySem.F.slot_list_index PySem.F.type_list_index mt_index (pv 6) (pa_cons (pe_ix ix_list (pv 12) (pv 13) (fun _ _ => rfl)) pa_nil)) (fun _ _ => rfl)) (pe_ix ix_tup (pv 9) (pv 13) (fun _ _ => rfl))))) pa_nil)))))) pss_nil)
      (pss_one (ps_expr (pe_bm PySem.F.plainAttrs_list PySem.F.slot_list_append PySem.F.type_list_append mt_append (pv 8) (pa_cons (pe_tup (pa_cons (pv 9) (pa_cons (pv 10) pa_nil))) pa_nil))))))
      (pss_one (ps_ret (pv 8)))))), ?_⟩
    have two : 2 ≤ sizeLine := by decide
    have hT0 := hT.tape
    have lq2 : (qs.map (·.2)).length = qs.length := List.length_map _
    have lp2 : (ps.map (·.2)).length = ps.length := List.length_map _
    have q8 := cq.l8
    have p8 := cp.l8
    have fl : (vS ks).all flatV = true := List.all_eq_true.mpr fun v hv => by
      obtain ⟨x, _, rfl⟩ := List.mem_map.mp hv
      rfl
    have flp : (vS (nms ps)).all flatV = true := List.all_eq_true.mpr fun v hv => by
      obtain ⟨x, _, rfl⟩ := List.mem_map.mp hv
      rfl
    obtain ⟨xs0, zL0, cc0⟩ := id cL
    have lx0 := cc0.len
    -- the left names
    refine ⟨_, rfl, Lc_, rfl, ⟨_, zL0.sq⟩, fun Pl hPl => lc_tup (K := K) (a := Lc_) (xs := xs0) (fun i H' => H' Pl = some (.lst (vS ((nms ps).take i))) ∧ Same H H') ⟨upd_same, Same.upd hPl⟩ (fun i H' _ pr => (zL0.same pr.2).sq) ?_ ?_⟩
    · rintro i x H5 hx ⟨hW1, s1⟩
      obtain ⟨b, z', k', rfl, eb, ep'⟩ := cc0.get _ _ hx
      refine ⟨rfl, ?_⟩
      dsimp only [tYes]
      refine iteT ?_
      change teKy1 K _ _ _
      exact ⟨_, rfl, b, _, _, .str z', rfl, rfl, SqT.of (s1 _ _ eb), at_of (j := 0) rfl rfl, nm_turn hPl hW1 ep' p8 s1⟩
    rintro H0 ⟨eP0, s0⟩
    rw [show xs0.length = (nms ps).length by rw [lx0, List.length_map], List.take_length] at eP0
    have T0 := hT.same s0
    have nPt := hT0.ne hPl
    have S00 := Same.b t s0
    refine ⟨Nat.zero_le _, fun F hF0 => ?_⟩
    have zF := Same.upd (o := .lst []) hF0
    have eF0 : L2.upd H0 F (.lst []) F = some (.lst []) := upd_same
    have hF := Same.gone s0 hF0
    have nFt := hT0.ne hF
    have nFc : F ≠ c := by
      obtain ⟨zs, e⟩ := T0.list
      exact (ne_of_none e hF0).symm
    have T1 := T0.same zF
    have eP1 := zF _ _ eP0
    have nPF : Pl ≠ F := ne_of_none eP0 hF0
    have s01 := s0.trans zF
    generalize L2.upd H0 F (.lst []) = H1 at zF eF0 T1 eP1 s01 ⊢
    have S01 := Same.b t s01
    clear T0 S00 s0 zF eP0 hF0
    refine ⟨_, rfl, O, rfl, ⟨_, SqL.of (s01 _ _ eO)⟩, for_list (K := K) (a := O) (xs := os0.map (·.1)) (fun i σ H' => (∃ (rs : RowsL) (x9 x10 x11 x12 : Option V), σ = [some (.ref t), some (.ref Rc), some (.ref O), some (.ref Lc_), some (.ref A), some (.ref N), some (.ref Pl), none, some (.ref F), x9, x10, x11, x12, none] ∧ H' F = some (.lst (rs.map (·.1))) ∧ RowsAt (dl t H') rs ∧ RowW qs (rs.map (·.2)) ∧ rs.length ≤ i) ∧ H' Pl = some (.lst (vS (nms ps))) ∧ TapeL c H' t ∧ SameB t H H') ⟨⟨[], _, _, _, _, rfl, eF0, nofun, nofun, Nat.le_refl _⟩, eP1, T1, S01⟩ (fun i σ H' _ pr => SqL.of (pr.2.2.2 _ _ nO eO)) ?_ ?_⟩
    · rintro i y σ H6 hy ⟨⟨rs, x9, x10, x11, x12, rfl, eF, ra, rv, lr⟩, eP, T6, S6⟩
      rw [List.getElem?_map] at hy
      obtain ⟨r, er, rfl⟩ := Option.map_eq_some_iff.mp hy
      have rm := List.mem_of_getElem? er
      have li := (List.getElem?_eq_some_iff.mp er).1
      obtain ⟨vk, lo⟩ := rwo r.2 (List.mem_map_of_mem rm)
      obtain ⟨rr, va, la, ev, e2, dva, dla⟩ := row_at (ra_b rao S6 r rm)
      refine ⟨rr, _, ev, SqT.of (dl_of e2).2, rfl, _, _, rfl, _, _, rfl, rfl, ?_⟩
      dsimp only [gNil]
      refine ⟨fun σ H' => ∃ (v : V) (es : List PyData) (x11 x12 : Option V), σ = [some (.ref t), some (.ref Rc), some (.ref O), some (.ref Lc_), some (.ref A), some (.ref N), some (.ref Pl), none, some (.ref F), some v, some (.ref la), x11, x12, none] ∧ DhT t H' v (.tuple es) ∧ Vks (qs.map (·.2)) es ∧ H' Pl = some (.lst (vS (nms ps))) ∧ TapeL c H' t ∧ SameB t H6 H', ?_, ?_⟩
      · have eA6 := S6 _ _ nA eA
        refine ⟨_, rfl, _, .inl ⟨_, SqL.of eA6, rfl⟩, ?_⟩
        cases rs0 with
        | nil => exact iteF ⟨.ref va, r.2.vals, _, _, rfl, dva, vk, eP, T6, SameB.refl _ _⟩
        | cons r1 rest =>
        have l0 : 0 < (r1 :: rest).length := Nat.succ_pos _
        refine iteT ⟨_, rfl, t, c, _, rfl, T6, by decide, big1000 (by decide) (by decide), fun j8 H8 a8 b8 T8 S8 => ⟨rfl, _, rfl, ite2 (fun q => ?_) (fun q => ⟨.ref va, r.2.vals, _, _, rfl, dtb dva S8, vk, S8 _ _ nPt eP, T8, S8⟩)⟩⟩
        have eA8 := S8 _ _ nA eA6
        have eP8 := S8 _ _ nPt eP
        -- a row of the left table
        refine ⟨fun σ H' => ∃ (vo : Addr) (eo : List PyData), σ = [some (.ref t), some (.ref Rc), some (.ref O), some (.ref Lc_), some (.ref A), some (.ref N), some (.ref Pl), none, some (.ref F), some (.ref va), some (.ref la), some (.ref vo), x12, none] ∧ DhT t H' (.ref vo) (.tuple eo) ∧ Vks (ps.map (·.2)) eo ∧ H' Pl = some (.lst (vS (nms ps))) ∧ TapeL c H' t ∧ SameB t H6 H', ?_, ?_⟩
        · refine ⟨_, rfl, _, rfl, _, rfl, A, _, rfl, .inl (SqL.of eA8), t, c, _, rfl, T8, by rw [List.length_map]; omega, big1000 (by rw [List.length_map]; omega) (by rw [List.length_map]; omega), fun j9 H9 a9 b9 T9 S9 => ?_⟩
          have hj : j9.toNat < (r1 :: rest).length := by rw [List.length_map] at b9; omega
          obtain ⟨y, ey⟩ : ∃ y, (r1 :: rest)[j9.toNat]? = some y := ⟨_, List.getElem?_eq_getElem hj⟩
          have ym := List.mem_of_getElem? ey
          have S69 := S8.trans S9
          obtain ⟨r', va2, la2, e1, e3, hv, _⟩ := row_at (ra_b raa (S6.trans S69) y ym)
          have yv := (rwa y.2 (List.mem_map_of_mem ym)).1
          refine ⟨A, _, _, y.1, rfl, rfl, SqL.of (S9 _ _ nA eA8), at_of (j := j9.toNat) (by omega) (by rw [List.getElem?_map, ey]; rfl), ?_⟩
          rw [e1]
          exact ⟨r', _, _, .ref va2, rfl, rfl, SqT.of (dl_of e3).2, at_of (j := 0) rfl rfl, va2, _, rfl, hv, yv, S9 _ _ nPt eP8, T9, S69⟩
        rintro σ H9 ⟨vo, eo, rfl, dvo, veo, eP9, T9, S69⟩
        have S09 := S6.trans S69
        have cR9 := cR.b hT0 S09
        have eN9 := SameT.b hT0 S09 _ _ eN
        obtain ⟨xs, zL, cc⟩ := id cR9
        have lx := cc.len
        -- the keys
        refine ⟨fun σ H' => ∃ (Kq : Addr), σ = [some (.ref t), some (.ref Rc), some (.ref O), some (.ref Lc_), some (.ref A), some (.ref N), some (.ref Pl), none, some (.ref F), some (.ref va), some (.ref la), some (.ref vo), some (.ref Kq), none] ∧ H' Kq = some (.lst (vS (nms qs))) ∧ Same H9 H', ?_, ?_⟩
        · refine ⟨_, rfl, Rc, xs, rfl, .inr zL.sq, (xs.length : Nat), rfl, by omega, by omega, fun P1 hP1 => lc_range (lo := 0) (n := ((xs.length : Nat) : Int).toNat) (fun i H' => H' P1 = some (.lst (vS ((nms qs).take i))) ∧ Same H9 H') ⟨upd_same, Same.upd hP1⟩ ?_ ?_⟩
          · rintro m H10 hm ⟨eP, s10⟩
            rw [Int.toNat_natCast] at hm
            obtain ⟨x, hx⟩ : ∃ x, xs[m]? = some x := ⟨_, List.getElem?_eq_getElem hm⟩
            obtain ⟨a, z, kk, rfl, ea, ep⟩ := cc.get _ _ hx
            rw [Int.zero_add]
            refine ⟨rfl, ?_⟩
            dsimp only [tYes]
            refine iteT ?_
            change teKy2 K _ _ _
            exact ⟨_, rfl, _, rfl, Rc, xs, (m : Int), .ref a, rfl, rfl, (zL.same s10).sq, at_of (j := m) rfl hx, a, _, _, .str z, rfl, rfl, SqT.of (s10 _ _ ea), at_of (j := 0) rfl rfl, nm_turn hP1 eP ep q8 s10⟩
          · rintro H10 ⟨eP, s10⟩
            rw [Int.toNat_natCast, show xs.length = (nms qs).length by rw [lx, List.length_map], List.take_length] at eP
            exact ⟨P1, rfl, eP, s10⟩
        rintro σ H10 ⟨Kq, rfl, eK, s10⟩
        have T10 := T9.same s10
        have S610 := S69.trans (Same.b t s10)
        have dva10 := dtb dva S610
        have dvo10 := dts dvo s10
        have eN10 := s10 _ _ eN9
        have eP10 := s10 _ _ eP9
        clear cR9 eN9 zL cc s10 dvo T9 S69 S09 eA8 S8 T8 eP8 eP9
        -- the values
        have hva := dva10
        cases hva with
        | @tup _ us _ eu hu =>
        have hvo := dvo10
        cases hvo with
        | @tup _ us2 _ eu2 hu2 =>
        have l1 := hu.len
        have l2 := hu2.len
        have lv1 := vk.len
        have lv2 := veo.len
        let f : Nat → PyData := fun k => if (nms qs).getD k "" ∈ ks then eo.getD ((nms ps).idxOf ((nms qs).getD k "")) .none else r.2.vals.getD k .none
        have vf : ∀ i k, (qs.map (·.2))[i]? = some k → Vk k (f i) := fun i k e => by
          show Vk k (if (nms qs).getD i "" ∈ ks then eo.getD ((nms ps).idxOf ((nms qs).getD i "")) .none else r.2.vals.getD i .none)
          rw [List.getElem?_map] at e
          obtain ⟨p, ep, rfl⟩ := Option.map_eq_some_iff.mp e
          have en : (nms qs).getD i "" = p.1 := by rw [List.getD_eq_getElem?_getD, List.getElem?_map, ep]; rfl
          rw [en]
          split
          · next h =>
            obtain ⟨h1, h2⟩ := hkd _ h
            rw [kdOf_mem cq.nd (List.mem_of_getElem? ep)] at h2
            have ei := idx_at h1
            rw [List.getElem?_map] at ei
            obtain ⟨p', ep', e3⟩ := Option.map_eq_some_iff.mp ei
            have kk := kdOf_mem cp.nd (List.mem_of_getElem? ep')
            rw [e3, h2] at kk
            rw [kk]
            exact vks_getD veo (by rw [List.getElem?_map, ep']; rfl)
          · exact vks_getD vk (by rw [List.getElem?_map, ep]; rfl)
        have vfl : ∀ i, i < qs.length → noL (f i) = true := fun i hi => by
          obtain ⟨k, ek⟩ : ∃ k, (qs.map (·.2))[i]? = some k := ⟨_, List.getElem?_eq_getElem (by omega)⟩
          exact (vf i k ek).noL
        have lnq : (vS (nms qs)).length = qs.length := by unfold vS; rw [List.length_map, List.length_map]
        refine ⟨_, rfl, Kq, _, rfl, .inl (SqL.of eK), ((vS (nms qs)).length : Nat), rfl, by omega, by omega, fun D hD => lc_range (lo := 0) (n := (((vS (nms qs)).length : Nat) : Int).toNat) (fun i H' => (∃ zs, H' D = some (.lst zs) ∧ DhAll (dl t H') zs ((List.range i).map f)) ∧ Same H10 H') ⟨⟨[], upd_same, .nil⟩, Same.upd hD⟩ ?_ ?_⟩
        · rintro m H11 hm ⟨⟨zs, eD, dz⟩, s11⟩
          rw [Int.toNat_natCast, lnq] at hm
          obtain ⟨p, ep⟩ : ∃ p, qs[m]? = some p := ⟨_, List.getElem?_eq_getElem hm⟩
          have en : (nms qs)[m]? = some p.1 := by rw [List.getElem?_map, ep]; rfl
          have en2 : (nms qs).getD m "" = p.1 := by rw [List.getD_eq_getElem?_getD, en]; rfl
          have ev : (vS (nms qs))[m]? = some (.str p.1) := by unfold vS; rw [List.getElem?_map, en]; rfl
          have eK11 := s11 _ _ eK
          have eP11 := s11 _ _ eP10
          have dz' := dz
          rw [Int.zero_add]
          have fin : ∀ u, Dh (dl t H11) u (f m) → ∃ acc, H11 D = some (.lst acc) ∧ acc.length < sizeLine ∧ ((∃ ys, L2.upd H11 D (.lst (acc ++ [u])) D = some (.lst ys) ∧ DhAll (dl t (L2.upd H11 D (.lst (acc ++ [u])))) ys ((List.range (m + 1)).map f)) ∧ Same H10 (L2.upd H11 D (.lst (acc ++ [u])))) := fun u du => by
            rw [List.range_succ, List.map_append]
            refine mix_turn hD eD dz du (fun x hx' => ?_) (by rw [List.length_map, List.length_range]; omega) s11
            rcases List.mem_append.mp hx' with h | h
            · obtain ⟨j, hj, rfl⟩ := List.mem_map.mp h
              exact vfl j (by have := List.mem_range.mp hj; omega)
            · rw [List.mem_singleton.mp h]
              exact vfl m hm
          have ef : f m = if p.1 ∈ ks then eo.getD ((nms ps).idxOf p.1) .none else r.2.vals.getD m .none := by
            show (if (nms qs).getD m "" ∈ ks then eo.getD ((nms ps).idxOf ((nms qs).getD m "")) .none else r.2.vals.getD m .none) = _
            rw [en2]
          refine ⟨rfl, ?_⟩
          dsimp only [tYes]
          refine iteT ?_
          change teKy3 K _ _ _
          refine ⟨_, rfl, _, rfl, Kq, _, (m : Int), .str p.1, rfl, rfl, SqL.of eK11, at_of (j := m) rfl ev, _, rfl, N, _, rfl, .inr (SqT.of (s11 _ _ eN10)), rfl, fl, _, rfl, ?_⟩
          rw [if_neg (by decide), in_strs]
          by_cases hk : p.1 ∈ ks
          · rw [decide_eq_true hk]
            obtain ⟨h1, _⟩ := hkd _ hk
            have il := List.idxOf_lt_length_of_mem h1
            rw [List.length_map] at il
            obtain ⟨u, eu'⟩ : ∃ u, us2[(nms ps).idxOf p.1]? = some u := ⟨_, List.getElem?_eq_getElem (by omega)⟩
            refine iteT ⟨_, rfl, _, rfl, .inl ⟨rfl, _, SqL.of eP11⟩, _, rfl, _, rfl, Kq, _, (m : Int), .str p.1, rfl, rfl, SqL.of eK11, at_of (j := m) rfl ev, Pl, vS (nms ps), .str p.1, (nms ps).idxOf p.1, .str p.1, rfl, rfl, SqL.of eP11, rfl, flp, by unfold vS; rw [List.getElem?_map, idx_at h1]; rfl, by simp [eqV], fun m' z' lt ez => ?_, vo, us2, _, u, rfl, rfl, SqT.of (s11 _ _ (dl_of eu2).2), at_of (j := (nms ps).idxOf p.1) rfl eu', ?_⟩
            · unfold vS at ez
              rw [List.getElem?_map] at ez
              obtain ⟨z, ez2, rfl⟩ := Option.map_eq_some_iff.mp ez
              have := idx_no lt ez2
              simp [eqV, this]
            · refine fin u ?_
              rw [ef, if_pos hk]
              exact dhA_getD (dtsA hu2 s11) eu'
          · rw [decide_eq_false hk]
            obtain ⟨u, eu'⟩ : ∃ u, us[m]? = some u := ⟨_, List.getElem?_eq_getElem (by omega)⟩
            refine iteF ⟨_, rfl, _, rfl, va, us, (m : Int), u, rfl, rfl, SqT.of (s11 _ _ (dl_of eu).2), at_of (j := m) rfl eu', fin u ?_⟩
            rw [ef, if_neg hk]
            exact dhA_getD (dtsA hu s11) eu'
        rintro H11 ⟨⟨zs, eD, dz⟩, s11⟩
        rw [Int.toNat_natCast, lnq] at dz
        have T11 := T10.same s11
        refine ⟨D, zs, rfl, .inl ⟨SqL.of eD, fun q hq => ?_⟩⟩
        have zq := Same.upd (o := .tup zs) hq
        exact ⟨.ref q, _, _, _, rfl, dh_tupT T11.tape dz hq, vks_range lq2.symm vf, zq _ _ (s11 _ _ eP10), T11.same zq, S610.trans (Same.b t (s11.trans zq))⟩
      · rintro σ H8 ⟨v, es, x11, x12, rfl, dv, ve, eP8, T8, S8⟩
        have eF8 := S8 _ _ nFt eF
        have S28 := S6.trans S8
        have ra8 : RowsAt (dl t H8) rs := ra_b ra S8
        have dl8 : DhT t H8 (.ref la) (linD r.2.lin) := dtb dla S8
        refine ⟨_, rfl, .inl ⟨rfl, _, SqL.of eF8⟩, _, rfl, _, rfl, two, fun q3 hq3 => ?_⟩
        have z3 := Same.upd (o := .tup [v, .ref la]) hq3
        have T9 := T8.same z3
        have d3 : DhT t _ (.ref q3) (RowD.d ⟨es, r.2.lin⟩) := dh_tupT T8.tape (.cons dv (.cons dl8 .nil)) hq3
        have eF9 := z3 _ _ eF8
        have nol : noLs es = true := noLs_all.mpr ve.noL
        refine ⟨F, _, _, rfl, rfl, eF9, lt_size (by rw [List.length_map]; omega), ⟨rs ++ [(.ref q3, ⟨es, r.2.lin⟩)], _, _, _, _, rfl, by rw [upd_same, List.map_append]; rfl, fun q hq => ?_, fun q hq => ?_, by rw [List.length_append]; show rs.length + 1 ≤ i + 1; omega⟩, by rw [upd_ne nPF]; exact z3 _ _ eP8, T9.upd nFt nFc, fun b' o n e => ?_⟩
        · rcases List.mem_append.mp hq with hq | hq
          · exact ((ra8 q hq).same (dl_same (Same.b t z3))).t (dlT eF9) (row_noL (noLs_all.mpr (rv q.2 (List.mem_map_of_mem hq)).1.noL))
          · rw [List.mem_singleton.mp hq]
            exact DhT.upd d3 (row_noL nol) eF9
        · rw [List.map_append] at hq
          rcases List.mem_append.mp hq with hq | hq
          · exact rv q hq
          · rw [List.mem_singleton.mp hq]
            exact ⟨ve, lo⟩
        · rw [upd_ne (ne_of_none e hF)]
          exact (S28.trans (Same.b t z3)) b' o n e
    · rintro σ H6 ⟨⟨rs, x9, x10, x11, x12, rfl, eF, ra, rv, lr⟩, eP, T6, S6⟩
      rw [List.length_map] at lr
      exact ⟨_, rfl, k F rs H6 eF hF ra rv lr T6 S6⟩
end
end
end K19
set_option Elab.async false
set_option linter.all false
set_option maxRecDepth 100000
set_option maxHeartbeats 4000000
namespace K19
open PySem PySem.Spec PyProof.Rows L2 Lc
theorem key_shp {ds : List PyData} (h : KeyOk ds) : SeqAt.shaped (.list ds) = true ∧ (PyData.list ds).canLay0 = true ∧ (PyData.list ds).depth ≤ 2 := by
  have c : (PyData.list ds).canLay0 = true := by
    rw [PyData.canLay0]
    exact cans_all fun d hd => (h d hd).2.2.2.1
  have d : (PyData.list ds).depth ≤ 2 := by
    have := dep_le (n := 1) fun d hd => (h d hd).2.2.2.2
    rw [PyData.depth]
    omega
  exact ⟨Bool.and_eq_true_iff.mpr ⟨c, decide_eq_true (Nat.le_trans d (by decide))⟩, c, d⟩
theorem lt_sizeB {n : Nat} (h : n ≤ 10000) : n < sizeLine := Nat.lt_of_le_of_lt h (by decide)
theorem in_js {m : Nat} {js : List Nat} : inV (.int (m : Nat)) (jsV js) = decide (m ∈ js) := by
  rw [Bool.eq_iff_iff, decide_eq_true_iff]
  unfold inV jsV
  rw [List.any_eq_true]
  constructor
  · rintro ⟨y, hy, e⟩
    obtain ⟨j, hj, rfl⟩ := List.mem_map.mp hy
    have : ((j : Nat) : Int) = (m : Nat) := by simpa [eqV] using e
    have : j = m := by omega
    rw [← this]
    exact hj
  · intro h
    exact ⟨.int (m : Nat), List.mem_map.mpr ⟨m, h, rfl⟩, by simp [eqV]⟩
theorem jx_mem {cs : CsL} (nd : (nms cs).Nodup) {ks : List Str} (h : ∀ n ∈ ks, n ∈ nms cs) {m : Nat} {z : Str} (e : (nms cs)[m]? = some z) : m ∈ jx cs ks ↔ z ∈ ks := by
  unfold jx
  rw [List.mem_map]
  constructor
  · rintro ⟨n, hn, e2⟩
    have := idx_at (h n hn)
    rw [e2, e] at this
    rw [Option.some.inj this]
    exact hn
  · intro hz
    exact ⟨z, hz, nodup_ix nd e⟩
theorem ad_cols {cs ps : CsL} {ks : List Str} (e : ∀ p ∈ cs, p.1 ∈ ks ↔ p.1 ∈ nms ps) : ∀ i, i ≤ cs.length → ((List.range i).filter fun j => decide ((nms cs).getD j "" ∉ ks)).map (fun j => cs.getD j ("", "")) = (cs.take i).filter fun p => decide (p.1 ∉ nms ps)
  | 0, _ => rfl
  | i + 1, l => by
    have ih := ad_cols e i (by omega)
    obtain ⟨p, ep⟩ : ∃ p, cs[i]? = some p := ⟨_, List.getElem?_eq_getElem (by omega)⟩
    have gi : (nms cs).getD i "" = p.1 := by rw [List.getD_eq_getElem?_getD, List.getElem?_map, ep]; rfl
    have gd : cs.getD i ("", "") = p := by rw [List.getD_eq_getElem?_getD, ep]; rfl
    rw [fil_take _ ep, List.range_succ, List.filter_append, List.filter_cons, List.filter_nil, gi, List.map_append, ih]
    have ee := e p (List.mem_of_getElem? ep)
    by_cases q : p.1 ∈ nms ps
    · rw [decide_eq_false (fun h => h (ee.mpr q)), decide_eq_false (fun h => h q), if_neg (by decide), if_neg (by decide)]
      rfl
    · have nk : ¬ p.1 ∈ ks := fun h => q (ee.mp h)
      rw [decide_eq_true nk, decide_eq_true q, if_pos rfl, if_pos rfl]
      show _ ++ [cs.getD i ("", "")] = _
      rw [gd]
theorem mates_snoc (js ls : List Nat) (os : List RowD) (o r : RowD) : mates js ls (os ++ [o]) r = mates js ls os r ++ if hasN (atD js r) = true then [] else if nkDs (atD js r) = nkDs (atD ls o) then [o] else [] := by
  unfold mates
  by_cases q : hasN (atD js r) = true
  · rw [if_pos q, if_pos q, if_pos q]
    rfl
  · rw [if_neg q, if_neg q, if_neg q, List.filter_append, List.filter_cons, List.filter_nil]
    by_cases e : nkDs (atD ls o) = nkDs (atD js r)
    · rw [decide_eq_true e, if_pos rfl, if_pos e.symm]
    · rw [decide_eq_false e, if_neg (by decide), if_neg fun h => e h.symm]
theorem seq_asg {te : TE} {g : TG} {t : TS} {D : Ends} {σ : L2.St} {H : Hp} (h : te σ H fun v H1 => g v σ H1 fun σ2 H2 => t D σ2 H2) : tSeq (tAsg te g) t D σ H := h
theorem cb_one {te : TE} {r : List V → Hp → VK → Prop} {σ : L2.St} {H : Hp} {Q : VK} (h : te σ H fun v H1 => r [v] H1 Q) : tCB r (tCons te tNil) σ H Q := h
abbrev teJoI (K : PySem.W.Frag) : TE := tOp (rIxT K) (tVar 7) (tC (.int 0))
abbrev teJo1 (K : PySem.W.Frag) (i : Nat) : TE := tBM K "list" (rIndex K) (tLc (iTup K (tVar i)) (gName 7) tYes (teJoI K) [7]) (tCons (tVar 6) tNil)
abbrev ttJoR (K : PySem.W.Frag) : TT := tTest (tOp (rIn K true) (tVar 10) (tVar 8))
abbrev teJoV (K : PySem.W.Frag) (i : Nat) : TE := tOp (rIxT K) (tVar i) (tVar 10)
def spJo : Sp := fun vs H Q _ => ∃ (L A Rc O N : Addr) (ps : CsL) (rs : RowsL) (cs : CsL) (os : RowsL) (ks : List Str), vs = [.ref L, .ref A, .ref Rc, .ref O, .ref N] ∧ CA H L ps ∧ ColP ps ∧ H A = some (.lst (rs.map (·.1))) ∧ RowsAt H rs ∧ RowW ps (rs.map (·.2)) ∧ rs.length ≤ 60 ∧ CA H Rc cs ∧ ColP cs ∧ H O = some (.lst (os.map (·.1))) ∧ RowsAt H os ∧ RowW cs (os.map (·.2)) ∧ os.length ≤ 60 ∧ H N = some (.tup (vS ks)) ∧ ks.length ≤ 3 ∧ (∀ k, k ∈ ks ↔ k ∈ nms cs ∧ k ∈ nms ps) ∧ ps.length + (cs.filter fun p => decide (p.1 ∉ nms ps)).length ≤ 8 ∧
  ∀ (r C' F : Addr) (fs : RowsL) (H' : Hp), Same H H' → H' r = some (.tup [.ref C', .ref F]) → CA H' C' (ps ++ cs.filter fun p => decide (p.1 ∉ nms ps)) → H F = none → H' F = some (.lst (fs.map (·.1))) → RowsAt H' fs → fs.map (·.2) = joinL (jx ps ks) (jx cs ks) (adJ cs ks) (os.map (·.2)) (rs.map (·.2)) → fs.length ≤ rs.length * os.length → Q (.ref r) H'
theorem ix_go {K : PySem.W.Frag} {H : Hp} {C : Addr} {cs : CsL} {i : Nat} {σ : L2.St} {Q : VK} {g : Str} (hi : σ[i]? = some (some (.ref C))) (hg : σ[6]? = some (some (.str g))) (l7 : 7 < σ.length) (cC : CA H C cs) (c8 : cs.length ≤ 8) (hn : g ∈ nms cs) (k : ∀ H', Same H H' → Q (.int ((nms cs).idxOf g : Nat)) H') : teJo1 K i σ H Q := by
  obtain ⟨xs, zL, cc⟩ := cC
  have lx := cc.len
  have flp : (vS (nms cs)).all flatV = true := List.all_eq_true.mpr fun v hv => by
    obtain ⟨x, _, rfl⟩ := List.mem_map.mp hv
    rfl
  refine ⟨_, hi, C, rfl, ⟨_, zL.sq⟩, fun W hW => lc_tup (K := K) (a := C) (xs := xs) (fun i H' => H' W = some (.lst (vS ((nms cs).take i))) ∧ Same H H') ⟨upd_same, Same.upd hW⟩ (fun i H' _ pr => (zL.same pr.2).sq) ?_ ?_⟩
  · rintro m x H5 hx ⟨hW1, s1⟩
    obtain ⟨b, z', k', rfl, eb, ep'⟩ := cc.get _ _ hx
    have w1 : wipe ((wipe σ [7]).set 7 (some (V.ref b))) [7] = wipe σ [7] := by
      show (((σ.set 7 none).set 7 (some (V.ref b))).set 7 none) = σ.set 7 none
      rw [List.set_set, List.set_set]
    refine ⟨w1, ?_⟩
    dsimp only [tYes]
    refine iteT ?_
    change teJoI K _ _ _
    refine ⟨_, ?_, b, _, _, .str z', rfl, rfl, SqT.of (s1 _ _ eb), at_of (j := 0) rfl rfl, nm_turn hW hW1 ep' c8 s1⟩
    show ((σ.set 7 none).set 7 (some (V.ref b)))[7]? = _
    rw [List.getElem?_set_self (by rw [List.length_set]; exact l7)]
  rintro H5 ⟨hW1, s1⟩
  rw [show xs.length = (nms cs).length by rw [lx, List.length_map], List.take_length] at hW1
  refine ⟨.inl ⟨rfl, _, SqL.of hW1⟩, _, hg, W, vS (nms cs), .str g, (nms cs).idxOf g, .str g, rfl, rfl, SqL.of hW1, rfl, flp, by unfold vS; rw [List.getElem?_map, idx_at hn]; rfl, by simp [eqV], fun m z' lt ez => ?_, k H5 s1⟩
  unfold vS at ez
  rw [List.getElem?_map] at ez
  obtain ⟨z, ez2, rfl⟩ := Option.map_eq_some_iff.mp ez
  have := idx_no lt ez2
  simp [eqV, this]
/-- the values of a row at places, one after the other -/
theorem jv_go {K : PySem.W.Frag} {H : Hp} {Pl va : Addr} {us : List V} {ds : List PyData} {js : List Nat} {p i : Nat} {σ : L2.St} {Q : VK} (hp : σ[p]? = some (some (.ref Pl))) (hi : σ[i]? = some (some (.ref va))) (ni : i ≠ 10) (l : 10 < σ.length) (eP : H Pl = some (.lst (jsV js))) (eu : H va = some (.tup us)) (hu : DhAll H us ds) (hn : ∀ d ∈ ds, noL d = true) (hj : ∀ j ∈ js, j < ds.length) (l8 : js.length ≤ 8)
    (k : ∀ D zs H', Same H H' → H' D = some (.lst zs) → H D = none → DhAll H' zs (js.map fun j => ds.getD j .none) → Q (.ref D) H') : tLc (iList K (tVar p)) (gName 10) tYes (teJoV K i) [10] σ H Q := by
  refine ⟨_, hp, Pl, rfl, ⟨_, SqL.of eP⟩, fun D hD => lc_list (K := K) (a := Pl) (xs := jsV js) (fun m H' => (∃ ys, H' D = some (.lst ys) ∧ DhAll H' ys ((js.take m).map fun j => ds.getD j .none)) ∧ Same H H') ⟨⟨[], upd_same, .nil⟩, Same.upd hD⟩ (fun m H' _ pr => SqL.of (pr.2 _ _ eP)) ?_ ?_⟩
  · rintro m y H3 hy ⟨⟨zs, eD, dzs⟩, s3⟩
    unfold jsV at hy
    rw [List.getElem?_map] at hy
    obtain ⟨j, ej, rfl⟩ := Option.map_eq_some_iff.mp hy
    have lj := hj j (List.mem_of_getElem? ej)
    have lu := hu.len
    obtain ⟨u, eu'⟩ : ∃ u, us[j]? = some u := ⟨_, List.getElem?_eq_getElem (by omega)⟩
    have w1 : wipe ((wipe σ [10]).set 10 (some (V.int ((j : Nat) : Int)))) [10] = wipe σ [10] := by
      show (((σ.set 10 none).set 10 (some (V.int ((j : Nat) : Int)))).set 10 none) = σ.set 10 none
      rw [List.set_set, List.set_set]
    refine ⟨w1, ?_⟩
    dsimp only [tYes]
    refine iteT ?_
    change teJoV K i _ _ _
    refine ⟨_, ?_, _, ?_, va, us, (j : Int), u, rfl, rfl, SqT.of (s3 _ _ eu), at_of (j := j) (by omega) eu', vals_turn hD eD dzs (hu.same s3) hn hj l8 ej eu' s3⟩
    · show ((σ.set 10 none).set 10 (some (V.int ((j : Nat) : Int))))[i]? = _
      rw [List.getElem?_set_ne (Ne.symm ni), List.getElem?_set_ne (Ne.symm ni)]
      exact hi
    · show ((σ.set 10 none).set 10 (some (V.int ((j : Nat) : Int))))[10]? = _
      rw [List.getElem?_set_self (by rw [List.length_set]; exact l)]
  rintro H3 ⟨⟨zs, eD, dzs⟩, s3⟩
  rw [show (jsV js).length = js.length from List.length_map _, List.take_length] at dzs
  exact k D zs H3 s3 eD hD dzs
section
variable {P : Program} {w : World} {K : PySem.W.Frag} {mg : Str → Option Value} {base : Heap} {f : Addr} {fd : FuncData}
abbrev sJn : Stmt := top 141
abbrev nJn : List Str := ["_law_left", "_law_rows_here", "_law_right", "_law_others", "_law_names", "_law_mine", "_law_name_here", "_law_part", "_law_theirs", "_law_rest", "_law_k", "_law_found", "_law_values_here", "_law_lineage_here", "_law_key", "_law_other", "_law_more", "_law_new"]
abbrev pJn : List Str := ["_law_left", "_law_rows_here", "_law_right", "_law_others", "_law_names"]
theorem scJn : FnScope nJn pJn (defScope sJn) := ⟨rfl, rfl, rfl, by decide +kernel, rfl, by decide +kernel, by decide +kernel⟩
def scJoI1 : Scope := match bodyOf sJn with
  | .Assign _ (.ListComp _ _ sc _) _ :: _ => sc
  | _ => defScope sJn
def scJoI2 : Scope := match bodyOf sJn with
  | _ :: .Assign _ (.ListComp _ _ sc _) _ :: _ => sc
  | _ => defScope sJn
section
variable {fA_ : Addr} {fdA_ : FuncData}
theorem ok_Jn (F : Fun K "_law_joined" "_law_joined" sJn f fd) (T : Bt mg)
    (GA_ : FnOk P w K mg base CX0 1 fA_ fdA_ ["_law_lineages"] (spUn)) (mA_ : mg "_law_union" = some (.ref fA_)) (kA_ : PySem.W.keepIn K (.ref fA_) = true) (bA_ : Binds K fdA_ ["_law_lineages"] []) : FnOk P w K mg base CX0 2 f fd pJn (spJo) := by
  refine F.ok scJn (fun vs H Q E h => ?_) (fun cdv A outer s H vs Q E hr h => ?_)
  · obtain ⟨L, A, Rc, O, N, ps, rs, cs, os, ks, rfl, _⟩ := h
    rfl
  · obtain ⟨L, A, Rc, O, N, ps, rs, cs, os, ks, rfl, cL, cp, eA, ra0, rw0, ln0, cR, cq, eO, rao, rwo, lno, eN, k3, hks, l8, k⟩ := h
    have hrA_ : Room (1) _ := hr.mono (by first | decide | omega)
    refine ⟨_, (pss_cons (ps_setLc (i := 5) (own := [("_law_name_here", 6)]) (g := (gName 6)) (tt := tYes) (te := teJo1 K 0) (by rfl) scJn.nd rfl rfl (sw_true rfl rfl rfl (by decide +kernel)) (pi_tup (pv 4)) (blkOk_by (own := [("_law_name_here", 6)]) (N := nJn) (sc := defScope sJn) (by decide +kernel)) (fun _ _ _ _ _ => (pg_name (i := 6) scJn.nd rfl (.inl rfl))) (fun _ _ _ _ _ => pts_nil) (fun _ _ _ _ _ => (pe_bm PySem.F.plainAttrs_list PySem.F.slot_list_index PySem.F.type_list_index mt_index (pe_lc (own := [("_law_part", 7)]) (g := (gName 7)) (tt := tYes) (te := teJoI K) (by rfl) scJn.nd (pi_tup (pv 0)) (blkOk_rel (blkOk_by (own := [("_law_part", 7)]) (N := nJn) (sc := scJoI1) (by decide +kernel))) (fun _ _ _ _ _ => (pg_name (i := 7) scJn.nd rfl (.inl rfl))) (fun _ _ _ _ _ => pts_nil) (fun _ _ _ _ _ => (pe_ix ix_tup (pv 7) pe_int (fun _ _ => rfl)))) (pa_cons (pv 6) pa_nil))))
      (Evl.pss_cut (ps_set (i := 8) scJn.nd rfl (Or.inr rfl) (pe_lc (own := [("_law_name_here", 6)]) (g := (gName 6)) (tt := tYes) (te := teJo1 K 2) (by rfl) scJn.nd (pi_tup (pv 4)) (blkOk_by (own := [("_law_name_here", 6)]) (N := nJn) (sc := defScope sJn) (by decide +kernel)) (fun _ _ _ _ _ => (pg_name (i := 6) scJn.nd rfl (.inl rfl))) (fun _ _ _ _ _ => pts_nil) (fun _ _ _ _ _ => (pe_bm PySem.F.plainAttrs_list PySem.F.slot_list_index PySem.F.type_list_index mt_index (pe_lc (own := [("_law_part", 7)]) (g := (gName 7)) (tt := tYes) (te := teJoI K) (by rfl) scJn.nd (pi_tup (pv 2)) (blkOk_rel (blkOk_by (own := [("_law_part", 7)]) (N := nJn) (sc := scJoI2) (by decide +kernel))) (fun _ _ _ _ _ => (pg_name (i := 7) scJn.nd rfl (.inl rfl))) (fun _ _ _ _ _ => pts_nil) (fun _ _ _ _ _ => (pe_ix ix_tup (pv 7) pe_int (fun _ _ => rfl)))) (pa_cons (pv 6) pa_nil)))))
      (Evl.pss_cut (ps_setLc (i := 9) (own := [("_law_k", 10)]) (g := (gName 10)) (tt := ttJoR K) (te := tVar 10) (by rfl) scJn.nd rfl rfl (sw_true rfl rfl rfl (by decide +kernel)) (pi_range1 (by rfl) T.range (pa_cons (pe_callB call_len_seq (by rfl) T.len PySem.boot_len (pa_cons (pv 2) pa_nil)) pa_nil)) (blkOk_by (own := [("_law_k", 10)]) (N := nJn) (sc := defScope sJn) (by decide +kernel)) (fun _ _ _ _ _ => (pg_name (i := 10) scJn.nd rfl (.inl rfl))) (fun _ _ _ _ _ => (pts_one (pt_cmpR op_notIn_seq (pv 10) (pv 8) (by rfl)))) (fun _ _ _ _ _ => (pv 10)))
      (pss_cons (ps_set (i := 11) scJn.nd rfl (Or.inl rfl) (pe_lst pa_nil))
      (Evl.pss_cut (ps_for PassesOwn.never rfl (pi_list (pv 1)) (pg_tup rfl (pgs_cons (pg_name (i := 12) scJn.nd rfl (.inr rfl)) (pgs_cons (pg_name (i := 13) scJn.nd rfl (.inl rfl)) pgs_nil))) (pss_cons (ps_setLc (i := 14) (own := [("_law_k", 10)]) (g := (gName 10)) (tt := tYes) (te := teJoV K 12) (by rfl) scJn.nd rfl rfl (sw_true rfl rfl rfl (by decide +kernel)) (pi_list (pv 5)) (blkOk_by (own := [("_law_k", 10)]) (N := nJn) (sc := defScope sJn) (by decide +kernel)) (fun _ _ _ _ _ => (pg_name (i := 10) scJn.nd rfl (.inl rfl))) (fun _ _ _ _ _ => pts_nil) (fun _ _ _ _ _ => (pe_ix ix_tup (pv 12) (pv 10) (fun _ _ => rfl))))
      (pss_one (ps_for PassesOwn.never rfl (pi_list (pv 3)) (pg_tup rfl (pgs_cons (pg_name (i := 15) scJn.nd rfl (.inr rfl)) (pgs_cons (pg_name (i := 16) scJn.nd rfl (.inl rfl)) pgs_nil))) (pss_one (ps_if (PW.pt (pw_and (pt_cmpR (op_notInD (hu65 hr)) pe_non (pv 14) (by rfl)) (pw_and1 (pt_cmpR (op_eqD hr.units) (pv 14) (pe_lc (own := [("_law_k", 10)]) (g := (gName 10)) (tt := tYes) (te := teJoV K 15) (by rfl) scJn.nd (pi_list (pv 8)) (blkOk_by (own := [("_law_k", 10)]) (N := nJn) (sc := defScope sJn) (by decide +kernel)) (fun _ _ _ _ _ => (pg_name (i := 10) scJn.nd rfl (.inl rfl))) (fun _ _ _ _ _ => pts_nil) (fun _ _ _ _ _ => (pe_ix ix_tup (pv 15) (pv 10) (fun _ _ => rfl)))) (nomark _))))) (pss_cons (ps_set (i := 17) scJn.nd rfl (Or.inl rfl) (pe_op op_catA (pv 12) (pe_callTy call_tuple_of (by rfl) T.tuple boot_tuple (pa_cons (pe_lc (own := [("_law_k", 10)]) (g := (gName 10)) (tt := tYes) (te := teJoV K 15) (by rfl) scJn.nd (pi_list (pv 9)) (blkOk_by (own := [("_law_k", 10)]) (N := nJn) (sc := defScope sJn) (by decide +kernel)) (fun _ _ _ _ _ => (pg_name (i := 10) scJn.nd rfl (.inl rfl))) (fun _ _ _ _ _ => pts_nil) (fun _ _ _ _ _ => (pe_ix ix_tup (pv 15) (pv 10) (fun _ _ => rfl)))) pa_nil))))
      (pss_one (ps_expr (pe_bm PySem.F.plainAttrs_list PySem.F.slot_list_append PySem.F.type_list_append mt_append (pv 11) (pa_cons (pe_tup (pa_cons (pv 17) (pa_cons (pe_call GA_ hrA_ (by rfl) mA_ kA_ bA_ .nil pass0 (pa_cons (pe_lst (pa_cons (pv 13) (pa_cons (pv 16) pa_nil))) pa_nil)) pa_nil))) pa_nil))))) pss_nil))))))
      (pss_one (ps_ret (pe_tup (pa_cons (pe_op op_catZ (pv 0) (pe_callTy call_tuple_of (by rfl) T.tuple boot_tuple (pa_cons (pe_lc (own := [("_law_k", 10)]) (g := (gName 10)) (tt := tYes) (te := teJoV K 2) (by rfl) scJn.nd (pi_list (pv 9)) (blkOk_by (own := [("_law_k", 10)]) (N := nJn) (sc := defScope sJn) (by decide +kernel)) (fun _ _ _ _ _ => (pg_name (i := 10) scJn.nd rfl (.inl rfl))) (fun _ _ _ _ _ => pts_nil) (fun _ _ _ _ _ => (pe_ix ix_tup (pv 2) (pv 10) (fun _ _ => rfl)))) pa_nil))) (pa_cons (pv 11) pa_nil)))))))))), ?_⟩
    have two : 2 ≤ sizeLine := by decide
    have p8 := cp.l8
    have c8 := cq.l8
    have ksp : ∀ n ∈ ks, n ∈ nms ps := fun n hn => ((hks n).mp hn).2
    have ksc : ∀ n ∈ ks, n ∈ nms cs := fun n hn => ((hks n).mp hn).1
    have hjs := jx_lt (cs := ps) ksp
    have hls := jx_lt (cs := cs) ksc
    have had := adJ_lt (cs := cs) (ks := ks)
    have ljs : (jx ps ks).length ≤ 8 := by unfold jx; rw [List.length_map]; omega
    have lls : (jx cs ks).length ≤ 8 := by unfold jx; rw [List.length_map]; omega
    have lad := adJ_len cs ks
    have lps : (ps.map (·.2)).length = ps.length := List.length_map _
    have lcs : (cs.map (·.2)).length = cs.length := List.length_map _
    have jt : ∀ (qs : CsL) (i : Nat) (g : Str), ks[i]? = some g → jx qs (ks.take (i + 1)) = jx qs (ks.take i) ++ [(nms qs).idxOf g] := fun qs i g e => by
      unfold jx
      rw [List.take_add_one, e, List.map_append]
      rfl
    have jsa : ∀ a b : List Nat, jsV (a ++ b) = jsV a ++ jsV b := fun a b => List.map_append
    -- the places
    refine ⟨_, rfl, N, rfl, ⟨_, SqT.of eN⟩, fun M hM => lc_tup (K := K) (a := N) (xs := vS ks) (fun i H' => H' M = some (.lst (jsV (jx ps (ks.take i)))) ∧ Same H H') ⟨upd_same, Same.upd hM⟩ (fun i H' _ pr => SqT.of (pr.2 _ _ eN)) ?_ ?_⟩
    · rintro i y H2 hy ⟨eD, s2⟩
      rw [List.getElem?_map] at hy
      obtain ⟨g, eg, rfl⟩ := Option.map_eq_some_iff.mp hy
      refine ⟨rfl, ?_⟩
      dsimp only [tYes]
      refine iteT ?_
      change teJo1 K 0 _ _ _
      refine ix_go rfl rfl (by show 7 < 18; decide) (cL.same s2) p8 (ksp g (List.mem_of_getElem? eg)) fun H3 s3 => ⟨_, s3 _ _ eD, lt_size (by unfold jsV jx; rw [List.length_map, List.length_map, List.length_take]; omega), ?_, fun b o e => by rw [upd_ne (ne_of_none e hM)]; exact s3 _ _ (s2 b o e)⟩
      rw [upd_same, jt ps i g eg, jsa]
      rfl
    rintro H1 ⟨eM, s1⟩
    rw [show (vS ks).length = ks.length from List.length_map _, List.take_length] at eM
    refine ⟨fun σ H' => ∃ Th : Addr, σ = [some (.ref L), some (.ref A), some (.ref Rc), some (.ref O), some (.ref N), some (.ref M), none, none, some (.ref Th), none, none, none, none, none, none, none, none, none] ∧ H' Th = some (.lst (jsV (jx cs ks))) ∧ Same H1 H', ?_, ?_⟩
    · have eN1 := s1 _ _ eN
      refine ⟨_, rfl, N, rfl, ⟨_, SqT.of eN1⟩, fun Th hTh => lc_tup (K := K) (a := N) (xs := vS ks) (fun i H' => H' Th = some (.lst (jsV (jx cs (ks.take i)))) ∧ Same H1 H') ⟨upd_same, Same.upd hTh⟩ (fun i H' _ pr => SqT.of (pr.2 _ _ eN1)) ?_ ?_⟩
      · rintro i y H2 hy ⟨eD, s2⟩
        rw [List.getElem?_map] at hy
        obtain ⟨g, eg, rfl⟩ := Option.map_eq_some_iff.mp hy
        refine ⟨rfl, ?_⟩
        dsimp only [tYes]
        refine iteT ?_
        change teJo1 K 2 _ _ _
        refine ix_go rfl rfl (by show 7 < 18; decide) (cR.same (s1.trans s2)) c8 (ksc g (List.mem_of_getElem? eg)) fun H3 s3 => ⟨_, s3 _ _ eD, lt_size (by unfold jsV jx; rw [List.length_map, List.length_map, List.length_take]; omega), ?_, fun b o e => by rw [upd_ne (ne_of_none e hTh)]; exact s3 _ _ (s2 b o e)⟩
        rw [upd_same, jt cs i g eg, jsa]
        rfl
      rintro H2 ⟨eT, s2⟩
      rw [show (vS ks).length = ks.length from List.length_map _, List.take_length] at eT
      exact ⟨Th, rfl, eT, s2⟩
    rintro σ H2 ⟨Th, rfl, eT, s12⟩
    have s02 := s1.trans s12
    have eM2 := s12 _ _ eM
    -- what is added
    have cR2 := cR.same s02
    obtain ⟨xs, zC, cc⟩ := id cR2
    have lx := cc.len
    refine ⟨fun σ H' => ∃ Re : Addr, σ = [some (.ref L), some (.ref A), some (.ref Rc), some (.ref O), some (.ref N), some (.ref M), none, none, some (.ref Th), some (.ref Re), none, none, none, none, none, none, none, none] ∧ H' Re = some (.lst (jsV (adJ cs ks))) ∧ Same H2 H', ?_, ?_⟩
    · refine ⟨_, rfl, Rc, xs, rfl, .inr zC.sq, (xs.length : Nat), rfl, by omega, by omega, fun Re hRe => lc_range (lo := 0) (n := ((xs.length : Nat) : Int).toNat) (fun i H' => H' Re = some (.lst (jsV ((List.range i).filter fun j => decide ((nms cs).getD j "" ∉ ks)))) ∧ Same H2 H') ⟨upd_same, Same.upd hRe⟩ ?_ ?_⟩
      · rintro m H3 hm ⟨eR, s3⟩
        rw [Int.toNat_natCast] at hm
        obtain ⟨p, ep⟩ : ∃ p, cs[m]? = some p := ⟨_, List.getElem?_eq_getElem (by omega)⟩
        have en : (nms cs)[m]? = some p.1 := by rw [List.getElem?_map, ep]; rfl
        have gi : (nms cs).getD m "" = p.1 := by rw [List.getD_eq_getElem?_getD, en]; rfl
        have flj : (jsV (jx cs ks)).all flatV = true := List.all_eq_true.mpr fun v hv => by
          obtain ⟨x, _, rfl⟩ := List.mem_map.mp hv
          rfl
        rw [Int.zero_add]
        refine ⟨rfl, ?_⟩
        change ttJoR K _ _ _
        refine ⟨_, rfl, _, rfl, Th, _, rfl, .inl (SqL.of (s3 _ _ eT)), rfl, flj, _, rfl, ?_⟩
        rw [if_pos rfl, in_js, List.range_succ, List.filter_append, List.filter_cons, List.filter_nil, gi, decide_eq_decide.mpr (jx_mem cq.nd ksc en)]
        by_cases q : p.1 ∈ ks
        · rw [decide_eq_true q, show decide (p.1 ∉ ks) = false from decide_eq_false (fun h => h q), if_neg (by decide), List.append_nil]
          exact iteF ⟨eR, s3⟩
        · rw [decide_eq_false q, show decide (p.1 ∉ ks) = true from decide_eq_true q, if_pos rfl]
          refine iteT ⟨_, rfl, _, eR, lt_size (by unfold jsV; rw [List.length_map]; exact Nat.le_trans (List.length_filter_le _ _) (by rw [List.length_range]; omega)), ?_, fun b o e => by rw [upd_ne (ne_of_none e hRe)]; exact s3 b o e⟩
          rw [upd_same, jsa]
          rfl
      · rintro H3 ⟨eR, s3⟩
        rw [Int.toNat_natCast, lx] at eR
        exact ⟨Re, rfl, eR, s3⟩
    rintro σ H3 ⟨Re, rfl, eRe, s23⟩
    have s03 := s02.trans s23
    have eM3 := s23 _ _ eM2
    have eT3 := s23 _ _ eT
    clear eM2 eT s23 s02 cR2 zC cc lx s12 s1 eM
    -- the rows
    refine ⟨Nat.zero_le _, fun F hF => ?_⟩
    have zF := Same.upd (o := .lst []) hF
    have eF0 : L2.upd H3 F (.lst []) F = some (.lst []) := upd_same
    have hF0 := Same.gone s03 hF
    generalize L2.upd H3 F (.lst []) = H4 at zF eF0 ⊢
    have s04 := s03.trans zF
    refine ⟨fun σ H' => (∃ x12 x13 x14 x15 x16 x17 : Option V, σ = [some (.ref L), some (.ref A), some (.ref Rc), some (.ref O), some (.ref N), some (.ref M), none, none, some (.ref Th), some (.ref Re), none, some (.ref F), x12, x13, x14, x15, x16, x17]) ∧ (∃ fs : RowsL, H' F = some (.lst (fs.map (·.1))) ∧ RowsAt H' fs ∧ fs.map (·.2) = joinL (jx ps ks) (jx cs ks) (adJ cs ks) (os.map (·.2)) (rs.map (·.2)) ∧ fs.length ≤ rs.length * os.length) ∧ Same H3 H', ?_, ?_⟩
    · refine ⟨_, rfl, A, rfl, ⟨_, SqL.of (s04 _ _ eA)⟩, for_list (K := K) (a := A) (xs := rs.map (·.1)) (fun i σ H' => (∃ x12 x13 x14 x15 x16 x17 : Option V, σ = [some (.ref L), some (.ref A), some (.ref Rc), some (.ref O), some (.ref N), some (.ref M), none, none, some (.ref Th), some (.ref Re), none, some (.ref F), x12, x13, x14, x15, x16, x17]) ∧ (∃ fs : RowsL, H' F = some (.lst (fs.map (·.1))) ∧ RowsAt H' fs ∧ RowsOk fs ∧ fs.map (·.2) = joinL (jx ps ks) (jx cs ks) (adJ cs ks) (os.map (·.2)) ((rs.take i).map (·.2)) ∧ fs.length ≤ i * os.length) ∧ Same H3 H') ⟨⟨_, _, _, _, _, _, rfl⟩, ⟨[], eF0, nofun, nofun, rfl, Nat.zero_le _⟩, zF⟩ (fun i σ H' _ pr => SqL.of (pr.2.2 _ _ (s03 _ _ eA))) ?_ ?_⟩
      · rintro i y σ H5 hy ⟨⟨x12, x13, x14, x15, x16, x17, rfl⟩, ⟨fs, eF, raf, okf, emf, lf⟩, s5⟩
        rw [List.getElem?_map] at hy
        obtain ⟨r, er, rfl⟩ := Option.map_eq_some_iff.mp hy
        have rm := List.mem_of_getElem? er
        have li := (List.getElem?_eq_some_iff.mp er).1
        obtain ⟨vk, lo⟩ := rw0 r.2 (List.mem_map_of_mem rm)
        have lvk := vk.len
        have s05 := s03.trans s5
        obtain ⟨rr, va, la, ev, e2, dva, dla⟩ := row_at ((ra0 r rm).same s05)
        refine ⟨rr, _, ev, SqT.of e2, rfl, _, _, rfl, _, _, rfl, rfl, ?_⟩
        dsimp only [gNil]
        have hva := dva
        cases hva with
        | @tup _ us _ eu hu =>
        refine seq_asg (jv_go (p := 5) (i := 12) rfl rfl (by decide) (by show 10 < 18; decide) (s5 _ _ eM3) eu hu vk.noL (fun j hj => by rw [← lvk]; exact hjs j hj) ljs fun Kl kz H6 s6 eK nK dk => ?_)
        have ko : KeyOk (atJ (jx ps ks) r) := atJ_ok vk hjs
        have dk : DhAll H6 kz (atJ (jx ps ks) r) := dk
        have s36 := s5.trans s6
        have et : joinL (jx ps ks) (jx cs ks) (adJ cs ks) (os.map (·.2)) ((rs.take (i + 1)).map (·.2)) = joinL (jx ps ks) (jx cs ks) (adJ cs ks) (os.map (·.2)) ((rs.take i).map (·.2)) ++ (mates (jx ps ks) (jx cs ks) (os.map (·.2)) r.2).map (outJ (adJ cs ks) r.2) := by
          unfold joinL
          rw [List.take_add_one, er, Option.toList_some, List.map_append, List.flatMap_append, List.map_cons, List.map_nil, List.flatMap_cons, List.flatMap_nil, List.append_nil]
        have lmul : i * os.length + os.length = (i + 1) * os.length := (Nat.succ_mul _ _).symm
        have lbig : (i + 1) * os.length ≤ 3600 := Nat.mul_le_mul (show i + 1 ≤ 60 by omega) lno
        rw [et]
        have eO6 := s36 _ _ (s03 _ _ eO)
        have dva6 := dva.same s6
        have dla6 := dla.same s6
        have eF6 := s6 _ _ eF
        have raf6 : RowsAt H6 fs := RowsAt.same raf s6
        refine ⟨_, rfl, O, rfl, ⟨_, SqL.of eO6⟩, for_list (K := K) (a := O) (xs := os.map (·.1)) (fun m σ H' => (∃ x15 x16 x17 : Option V, σ = [some (.ref L), some (.ref A), some (.ref Rc), some (.ref O), some (.ref N), some (.ref M), none, none, some (.ref Th), some (.ref Re), none, some (.ref F), some (.ref va), some (.ref la), some (.ref Kl), x15, x16, x17]) ∧ (∃ fs : RowsL, H' F = some (.lst (fs.map (·.1))) ∧ RowsAt H' fs ∧ RowsOk fs ∧ fs.map (·.2) = joinL (jx ps ks) (jx cs ks) (adJ cs ks) (os.map (·.2)) ((rs.take i).map (·.2)) ++ (mates (jx ps ks) (jx cs ks) ((os.take m).map (·.2)) r.2).map (outJ (adJ cs ks) r.2) ∧ fs.length ≤ i * os.length + m) ∧ (∀ b' o', b' ≠ F → H6 b' = some o' → H' b' = some o') ∧ Same H3 H') ⟨⟨_, _, _, rfl⟩, ⟨fs, eF6, raf6, okf, by rw [emf]; unfold mates; simp, by omega⟩, fun _ _ _ e => e, s36⟩ (fun m σ H' _ pr => SqL.of (pr.2.2.2 _ _ (s03 _ _ eO))) ?_ ?_⟩
        · have nKF : Kl ≠ F := Ne.symm (ne_of_none eF nK)
          clear eF raf okf emf lf raf6
          rintro m y σ H7 hy ⟨⟨x15, x16, x17, rfl⟩, ⟨fs, eF, raf, okf, emf, lf⟩, sB, s7⟩
          rw [List.getElem?_map] at hy
          obtain ⟨o, eo, rfl⟩ := Option.map_eq_some_iff.mp hy
          have om := List.mem_of_getElem? eo
          have lm := (List.getElem?_eq_some_iff.mp eo).1
          obtain ⟨vo, loo⟩ := rwo o.2 (List.mem_map_of_mem om)
          have lvo := vo.len
          have s07 := s03.trans s7
          have koo : KeyOk (atJ (jx cs ks) o) := atJ_ok vo hls
          have eK7 := sB _ _ nKF eK
          have st67 : SameT H6 H7 := fun b zs e => sB _ _ (ne_of e eF6 nofun) e
          have nva : noL (.tuple r.2.vals) = true := by rw [Lc.noL]; exact noLs_all.mpr vk.noL
          have dva7 := dva6.t st67 nva
          have dla7 := dla6.t st67 (lin_noL _)
          have dk7 := dk.t st67 (noLs_all.mpr fun d hd => (ko d hd).2.2.1)
          obtain ⟨rr2, va2, la2, evo, e3, dvo, dlo⟩ := row_at ((rao o om).same s07)
          have hadj : ∀ j ∈ adJ cs ks, j < o.2.vals.length := fun j hj => by have := had j hj; omega
          have hlsj : ∀ j ∈ jx cs ks, j < o.2.vals.length := fun j hj => by have := hls j hj; omega
          have ms : mates (jx ps ks) (jx cs ks) ((os.take (m + 1)).map (·.2)) r.2 = mates (jx ps ks) (jx cs ks) ((os.take m).map (·.2)) r.2 ++ if hasN (atJ (jx ps ks) r) = true then [] else if nkDs (atJ (jx ps ks) r) = nkDs (atJ (jx cs ks) o) then [o.2] else [] := by
            rw [List.take_add_one, eo, Option.toList_some, List.map_append, List.map_cons, List.map_nil]
            exact mates_snoc _ _ _ _ _
          rw [ms]
          have nd1 : (PyData.list (atJ (jx ps ks) r)).hasDict = false := PyData.hasDict_of_canLay _ (key_shp ko).2.1
          have nd2 : (PyData.list (atJ (jx cs ks) o)).hasDict = false := PyData.hasDict_of_canLay _ (key_shp koo).2.1
          have hvo := dvo
          cases hvo with
          | @tup _ us2 _ eu2 hu2 =>
          refine ⟨rr2, _, evo, SqT.of e3, rfl, _, _, rfl, _, _, rfl, rfl, ?_⟩
          dsimp only [gNil]
          refine ⟨_, rfl, .none, atJ (jx ps ks) r, .non, (Dh.lst eK7 dk7).dp nd1, rfl, (key_shp ko).1, _, rfl, ?_⟩
          rw [any_none]
          by_cases qn : hasN (atJ (jx ps ks) r) = true
          · rw [qn, if_pos rfl, List.append_nil]
            exact iteF (iteF ⟨⟨_, _, _, rfl⟩, ⟨fs, eF, raf, okf, emf, by omega⟩, sB, s7⟩)
          have qn : hasN (atJ (jx ps ks) r) = false := by simpa using qn
          rw [qn, if_neg (by decide)]
          refine iteT ⟨_, rfl, jv_go (p := 8) (i := 15) rfl rfl (by decide) (by show 10 < 18; decide) (s7 _ _ eT3) eu2 hu2 vo.noL hlsj lls fun Ol oz H8 s8 eO8 nO8 dko => ?_⟩
          have dko : DhAll H8 oz (atJ (jx cs ks) o) := dko
          refine ⟨.list (atJ (jx ps ks) r), .list (atJ (jx cs ks) o), (Dh.lst (s8 _ _ eK7) (dk7.same s8)).dp nd1, (Dh.lst eO8 dko).dp nd2, (key_shp ko).1, (key_shp koo).1, _, rfl, ?_⟩
          rw [eqv_list ko.all koo.all]
          by_cases qe : nkDs (atJ (jx ps ks) r) = nkDs (atJ (jx cs ks) o)
          · rw [decide_eq_true qe, if_pos qe, List.map_append, ← List.append_assoc]
            refine iteT ⟨_, rfl, cb_one (jv_go (p := 9) (i := 15) rfl rfl (by decide) (by show 10 < 18; decide) (s8 _ _ (s7 _ _ eRe)) (s8 _ _ eu2) (hu2.same s8) vo.noL hadj (by omega) fun D zs H9 s9 eD nD dz => ⟨D, zs, rfl, .inl ⟨SqL.of eD, fun q hq => ?_⟩⟩)⟩
            have zq := Same.upd (o := .tup zs) hq
            have dq : Dh (L2.upd H9 q (.tup zs)) (.ref q) (.tuple ((adJ cs ks).map fun j => o.2.vals.getD j .none)) := .tup upd_same (dz.same zq)
            have s7q := s8.trans (s9.trans zq)
            generalize L2.upd H9 q (.tup zs) = H10 at zq dq s7q ⊢
            refine catH (dva7.same s7q) dq (by rw [List.length_map]; omega) fun r3 H11 d3 s11 => ?_
            have s711 := s7q.trans s11
            refine ⟨_, rfl, .inl ⟨rfl, _, SqL.of (s711 _ _ eF)⟩, _, rfl, _, rfl, _, rfl, two, fun ll hll => ?_⟩
            have zll := Same.upd (o := .lst [.ref la, .ref la2]) hll
            have s712 := s711.trans zll
            have okl : ∀ l ∈ [r.2.lin, o.2.lin], LinOk l := fun l hl => by
              simp only [List.mem_cons, List.not_mem_nil, or_false] at hl
              rcases hl with rfl | rfl
              · exact lo
              · exact loo
            refine ⟨ll, _, [r.2.lin, o.2.lin], rfl, upd_same, .cons (dla7.same s712) (.cons (dlo.same s712) .nil), okl, fun u H12 s12 du => ⟨two, fun t3 ht3 => ?_⟩⟩
            have zt := Same.upd (o := .tup [r3, u]) ht3
            have s7t := s712.trans (s12.trans zt)
            have newd : Dh (L2.upd H12 t3 (.tup [r3, u])) (.ref t3) (outJ (adJ cs ks) r.2 o.2).d := .tup upd_same (.cons (((d3.same zll).same s12).same zt) (.cons (du.same zt) .nil))
            have nol : noLs (outJ (adJ cs ks) r.2 o.2).vals = true := noLs_all.mpr fun d hd => by
              rcases List.mem_append.mp hd with hd | hd
              · exact vk.noL d hd
              · exact at_noL vo (by rw [lcs]; exact had) d hd
            have lon : LinOk (outJ (adJ cs ks) r.2 o.2).lin := unL_ok okl
            have eF' := s7t _ _ eF
            generalize L2.upd H12 t3 (.tup [r3, u]) = H13 at s7t newd eF' zt ⊢
            refine ⟨F, _, _, rfl, rfl, eF', lt_sizeB (by rw [List.length_map]; omega), ⟨_, _, _, rfl⟩, ⟨fs ++ [(.ref t3, outJ (adJ cs ks) r.2 o.2)], by rw [upd_same, List.map_append]; rfl, fun y hy => ?_, fun y hy => ?_, ?_, by rw [List.length_append]; show fs.length + 1 ≤ _; omega⟩, fun b' o' n e => by rw [upd_ne n]; exact s7t _ _ (sB _ _ n e), fun b' o' e => by rw [upd_ne (ne_of_none e hF)]; exact s7t _ _ (s7 _ _ e)⟩
            · rcases List.mem_append.mp hy with hy | hy
              · exact ((raf y hy).same s7t).t (SameT.lst eF') (row_noL (okf y hy).1)
              · rw [List.mem_singleton.mp hy]
                exact newd.t (SameT.lst eF') (row_noL nol)
            · rcases List.mem_append.mp hy with hy | hy
              · exact okf y hy
              · rw [List.mem_singleton.mp hy]
                exact ⟨nol, lon⟩
            · rw [List.map_append, emf]
              rfl
          · rw [decide_eq_false qe, if_neg qe, List.append_nil]
            exact iteF ⟨⟨_, _, _, rfl⟩, ⟨fs, s8 _ _ eF, RowsAt.same raf s8, okf, emf, by omega⟩, fun b' o' n e => s8 _ _ (sB _ _ n e), s7.trans s8⟩
        · rintro σ H7 ⟨⟨x15, x16, x17, rfl⟩, ⟨fs, eF, raf, okf, emf, lf⟩, sB, s7⟩
          rw [List.length_map, List.take_length] at emf
          rw [List.length_map] at lf
          exact ⟨⟨_, _, _, _, _, _, rfl⟩, ⟨fs, eF, raf, okf, emf, by omega⟩, s7⟩
      · rintro σ H5 ⟨⟨x12, x13, x14, x15, x16, x17, rfl⟩, ⟨fs, eF, raf, okf, emf, lf⟩, s5⟩
        rw [List.length_map, List.take_length] at emf
        rw [List.length_map] at lf
        exact ⟨⟨_, _, _, _, _, _, rfl⟩, ⟨fs, eF, raf, emf, lf⟩, s5⟩
    rintro σ H5 ⟨⟨x12, x13, x14, x15, x16, x17, rfl⟩, ⟨fs, eF, raf, emf, lf⟩, s35⟩
    have s05 := s03.trans s35
    have eRe5 := s35 _ _ eRe
    -- the columns
    have cR5 := cR.same s05
    obtain ⟨xs, zC, cc⟩ := id cR5
    have lx := cc.len
    have ac := ad_cols (cs := cs) (ps := ps) (ks := ks) (fun p hp => ⟨fun z => ((hks _).mp z).2, fun z => (hks _).mpr ⟨List.mem_map_of_mem (f := (·.1)) hp, z⟩⟩) cs.length (Nat.le_refl _)
    rw [List.take_length] at ac
    have ac : (adJ cs ks).map (fun j => cs.getD j ("", "")) = cs.filter fun p => decide (p.1 ∉ nms ps) := ac
    refine ⟨_, rfl, _, rfl, Re, rfl, ⟨_, SqL.of eRe5⟩, fun D hD => lc_list (K := K) (a := Re) (xs := jsV (adJ cs ks)) (fun m H' => (∃ ys, H' D = some (.lst ys) ∧ Cols H' ys (((adJ cs ks).take m).map fun j => cs.getD j ("", ""))) ∧ Same H5 H') ⟨⟨[], upd_same, .nil⟩, Same.upd hD⟩ (fun m H' _ pr => SqL.of (pr.2 _ _ eRe5)) ?_ ?_⟩
    · rintro m y H6 hy ⟨⟨ys, eD, cy⟩, s6⟩
      unfold jsV at hy
      rw [List.getElem?_map] at hy
      obtain ⟨j, ej, rfl⟩ := Option.map_eq_some_iff.mp hy
      have lj := had j (List.mem_of_getElem? ej)
      have lm := (List.getElem?_eq_some_iff.mp ej).1
      obtain ⟨x, hx⟩ : ∃ x, xs[j]? = some x := ⟨_, List.getElem?_eq_getElem (by omega)⟩
      obtain ⟨a', z, kk, rfl, ea, ep⟩ := cc.get _ _ hx
      have ly := cy.len
      rw [List.length_map, List.length_take] at ly
      refine ⟨rfl, ?_⟩
      dsimp only [tYes]
      refine iteT ?_
      change teJoV K 2 _ _ _
      refine ⟨_, rfl, _, rfl, Rc, xs, (j : Int), .ref a', rfl, rfl, (zC.same s6).sq, at_of (j := j) (by omega) hx, ys, eD, lt_size (by omega), ⟨ys ++ [.ref a'], upd_same, ?_⟩, fun b o e => by rw [upd_ne (ne_of_none e hD)]; exact s6 b o e⟩
      have gd : cs.getD j ("", "") = (z, kk) := by rw [List.getD_eq_getElem?_getD, ep]; rfl
      rw [List.take_add_one, ej, Option.toList_some, List.map_append, List.map_cons, List.map_nil, gd]
      exact (cy.app (.cons (s6 _ _ ea) .nil)).t (SameT.lst eD)
    rintro H6 ⟨⟨ms, eD, cm⟩, s6⟩
    rw [show (jsV (adJ cs ks)).length = (adJ cs ks).length from List.length_map _, List.take_length, ac] at cm
    refine ⟨D, ms, rfl, .inl ⟨SqL.of eD, fun tq htq => ?_⟩⟩
    have zt := Same.upd (o := .tup ms) htq
    have et : L2.upd H6 tq (.tup ms) tq = some (.tup ms) := upd_same
    have cm7 := cm.t (SameT.of zt)
    have s57 := s6.trans zt
    generalize L2.upd H6 tq (.tup ms) = H7 at zt et cm7 s57 ⊢
    have s07 := s05.trans s57
    obtain ⟨xl, zL, cl⟩ := cL.same s07
    have lxl := cl.len
    have lms := cm7.len
    have p1 := cp.l1
    have l7 := l8
    have fin : ∀ (C' : Addr) (H8 : Hp), Same H7 H8 → CA H8 C' (ps ++ cs.filter fun p => decide (p.1 ∉ nms ps)) → ∀ r, H8 r = none → Q (.ref r) (L2.upd H8 r (.tup [.ref C', .ref F])) := fun C' H8 s8 c8' r hr' => by
      have zr := Same.upd (o := .tup [.ref C', .ref F]) hr'
      have s58 := s57.trans (s8.trans zr)
      exact k r C' F fs _ (s05.trans s58) upd_same (c8'.same zr) hF0 (s58 _ _ eF) (RowsAt.same raf s58) emf lf
    refine ⟨L, tq, xl, ms, rfl, rfl, zL.sq, SqT.of et, fun z => by rw [z] at lxl; change 0 = _ at lxl; omega, Nat.le_trans (show _ ≤ 16 by omega) (by decide), fun z => ?_, fun _ q ob hq d1 d2 => ?_⟩
    · subst z
      have ez : (cs.filter fun p => decide (p.1 ∉ nms ps)) = [] := List.eq_nil_of_length_eq_zero lms.symm
      refine ⟨_, rfl, two, fun r hr' => fin L H7 (Same.refl _) ?_ r hr'⟩
      rw [ez, List.append_nil]
      exact ⟨xl, zL, cl⟩
    · have zq := Same.upd (o := .frz ob (.tup (xl ++ ms))) hq
      exact ⟨_, rfl, two, fun r hr' => fin q _ zq ⟨xl ++ ms, ⟨ob, d1, d2, upd_same⟩, (cl.t (SameT.of zq)).app (cm7.t (SameT.of zq))⟩ r hr'⟩
end
end
end K19
set_option Elab.async false
set_option linter.all false
set_option maxRecDepth 100000
set_option maxHeartbeats 4000000
namespace K19
open PySem PySem.Spec PyProof.Rows L2 Lc
theorem merge_new : ∀ (more acc : List (Key × V)), ((acc ++ more).map (·.1)).Nodup → mergeK acc more = acc ++ more
  | [], acc, _ => (List.append_nil acc).symm
  | e :: r, acc, h => by
    have hn : (acc.any fun kv => decide (kv.1 = e.1)) = false := by
      rw [List.any_eq_false]
      intro x hx
      rw [List.map_append, List.nodup_append] at h
      have := h.2.2 x.1 (List.mem_map_of_mem hx) e.1 (List.mem_map_of_mem List.mem_cons_self)
      simpa using this
    have e1 : putK acc e.1 e.2 = acc ++ [e] := by
      unfold putK
      rw [hn, if_neg (by decide)]
    show mergeK (putK acc e.1 e.2) r = _
    rw [e1, merge_new r (acc ++ [e]) (by rw [List.append_assoc]; exact h), List.append_assoc]
    rfl
def spRunQ (C : Addr) : Sp := fun vs H Q _ => ∃ (D p sv : Addr) (src : Str) (kvs : List (Key × V)) (tbs : TbL) (rs : RowsL) (ps qs : CsL) (es : List RowD) (ys : List V) (sts : List Ps), vs = [.ref D, .ref p, .non] ∧ H D = some (.dK kvs) ∧ TbsAt C H kvs tbs ∧ WtP tbs ∧ (src, ps, rs) ∈ tbs ∧ H p = some (.tup [.str src, .ref sv]) ∧ H sv = some (.tup ys) ∧ StepsAt H ys sts ∧ Runs tbs ps (rs.map (·.2)) sts qs es none ∧ ys.length ≤ 10 ∧
  ∀ (a' cv' : Addr) (rs' : RowsL) (H' : Hp), Same H H' → IsTb C H' a' cv' rs' → CA H' cv' qs → ColP qs → RowW qs es → rs'.map (·.2) = es → rs'.length ≤ 1300 → Q (.ref a') H'
theorem fn_quiet {P : Program} {w : World} {K : PySem.W.Frag} {mg : Str → Option Value} {base : Heap} {k : Nat} {f : Addr} {fd : FuncData} {ps : List Str} {sp sp' : Sp} (F : FnOk P w K mg base (L2.CX P w) k f fd ps sp) (h : ∀ vs H Q E, sp' vs H Q E → sp vs H Q (fun _ _ _ => False)) : FnOk P w K mg base CX0 k f fd ps sp' := by
  refine ⟨fun vs H Q E z => F.len _ _ _ _ (h vs H Q E z), fun A outer s H args us vs Q E a b c d z => ?_⟩
  refine codeAny_mono (F.run A outer s H args us vs Q (fun _ _ _ => False) a b c d (h vs H Q E z)) fun r s' hq => ?_
  match r, hq with
  | .error e, hq =>
    obtain ⟨_, _, _, _, _, _, _, _, _, _, _, _, hE⟩ := hq
    exact hE.elim
  | .ok (.ret u), hq => exact hq
  | .ok .next, hq => exact False.elim hq
  | .ok .brk, hq => exact False.elim hq
  | .ok .cont, hq => exact False.elim hq
theorem run_quiet {P : Program} {w : World} {K : PySem.W.Frag} {mg : Str → Option Value} {base : Heap} {C CT f : Addr} {fd : FuncData} {ps : List Str} (F : FnOk P w K mg base (L2.CX P w) 18 f fd ps (spRun C CT)) : FnOk P w K mg base CX0 18 f fd ps (spRunQ C) := fn_quiet F fun vs H Q E h => by
  obtain ⟨D, p, sv, src, kvs, tbs, rs, ps, qs, es, ys, sts, e, hD, hT, wT, hs, hp, hv, ha, so, l, k⟩ := h
  exact ⟨D, p, sv, src, kvs, tbs, rs, ps, qs, es, none, ys, sts, e, hD, hT, wT, hs, hp, hv, ha, so, l, fun _ => k, nofun⟩
def spLg : Sp := fun vs H Q _ => ∃ (t c L R : Addr) (ps : CsL) (rs : RowsL), vs = [.ref t, .ref L, .ref R] ∧ TapeL c H t ∧ CA H L ps ∧ ColP ps ∧ H R = some (.lst (rs.map (·.1))) ∧ R ≠ t ∧ RowsAt (dl t H) rs ∧ RowW ps (rs.map (·.2)) ∧ rs.length ≤ 60 ∧ 1 ≤ rs.length ∧ ∀ H', TapeL c H' t → SameB t H H' → Q (.bl true) H'
/-! ## what is told of a run -/
def toldE (qs : CsL) (es : List RowD) : PyData := .tuple [.str "told", colsDL qs, .list (es.map RowD.d)]
theorem toldE_eq (qs : CsL) (rs : RowsL) : toldD qs rs = toldE qs (rs.map (·.2)) := by
  unfold toldD toldE rowsD
  rw [List.map_map]
  rfl
def outZ (qs : CsL) (es : List RowD) : Option Nat → Str
  | none => (toldE qs es).shown
  | some n => (bigD n).shown
def oOf (es : List RowD) : Option Nat := if es.length ≤ 1000 then none else some es.length
theorem oOf_le {es : List RowD} (h : es.length ≤ 1000) : oOf es = none := if_pos h
theorem oOf_gt {es : List RowD} (h : ¬ es.length ≤ 1000) : oOf es = some es.length := if_neg h
theorem runs_one {tbs : TbL} {ps qs : CsL} {ds : List RowD} {st : Ps} (h : Lead (osOf tbs) ps st qs) (p : st.Pl) (c : st.chk = true) : Runs tbs ps ds [st] qs (stepB tbs ps st ds) (oOf (stepB tbs ps st ds)) := by
  by_cases q : (stepB tbs ps st ds).length ≤ 1000
  · rw [oOf_le q]
    exact .cons h p (fun _ => q) .nil
  · rw [oOf_gt q]
    exact .big h p c (by omega)
theorem runs_first {tbs : TbL} {ps qs : CsL} {ds : List RowD} {st : Ps} (h : Lead (osOf tbs) ps st qs) (p : st.Pl) (c : st.chk = true) {n : Nat} (hn : n ≤ 1000) : Runs tbs ps ds [st, .first n] qs ((stepB tbs ps st ds).take n) (oOf (stepB tbs ps st ds)) := by
  by_cases q : (stepB tbs ps st ds).length ≤ 1000
  · rw [oOf_le q]
    exact .cons h p (fun _ => q) (.cons (.first hn) trivial nofun .nil)
  · rw [oOf_gt q]
    exact .big h p c (by omega)
def spRanS (K : PySem.W.Frag) (C : Addr) : Sp := fun vs H Q _ => ∃ (D sv : Addr) (src : Str) (kvs : List (Key × V)) (tbs : TbL) (rs : RowsL) (ps qs : CsL) (es : List RowD) (o : Option Nat) (ys : List V) (sts : List Ps), vs = [.ref D, .str src, .ref sv] ∧ H D = some (.dK kvs) ∧ TbsAt C H kvs tbs ∧ WtP tbs ∧ (src, ps, rs) ∈ tbs ∧ H sv = some (.tup ys) ∧ StepsAt H ys sts ∧ Runs tbs ps (rs.map (·.2)) sts qs es o ∧ ys.length ≤ 10 ∧ (∀ n, o = some n → n ≤ 100000) ∧
  ∀ (r : Addr) (H' : Hp), Same H H' → (∀ H'', Same H' H'' → Shw K H'' (.ref r) (outZ qs es o)) → Q (.ref r) H'
theorem ran_s {P : Program} {w : World} {K : PySem.W.Frag} {mg : Str → Option Value} {base : Heap} {k : Nat} {C f : Addr} {fd : FuncData} {ps : List Str} (F : FnOk P w K mg base CX0 k f fd ps (spRan C)) : FnOk P w K mg base CX0 k f fd ps (spRanS K C) := F.imp fun vs H Q E h => by
  obtain ⟨D, sv, src, kvs, tbs, rs, ps, qs, es, o, ys, sts, e, hD, hT, wT, hs, hv, ha, so, l, ln, k⟩ := h
  refine ⟨D, sv, src, kvs, tbs, rs, ps, qs, es, o, ys, sts, e, hD, hT, wT, hs, hv, ha, so, l, fun e r cv R' rs' H' s er ca cq wq eR ra em l13 => k r H' s fun H'' s'' => ?_, fun n e r H' s er => k r H' s fun H'' s'' => ?_⟩
  · rw [e]
    show Shw K H'' (.ref r) (toldE qs es).shown
    rw [← em, ← toldE_eq]
    exact told_shw cq (ca.same s'') (s'' _ _ eR) (RowsAt.same ra s'') (by rw [em]; exact wq) l13 (s'' _ _ er)
  · rw [e]
    exact big_shw (ln n e) (s'' _ _ er)
def spDueS (K : PySem.W.Frag) : Sp := fun vs H Q _ => ∃ (C R : Addr) (qs : CsL) (rs : RowsL), vs = [.ref C, .ref R] ∧ CA H C qs ∧ ColP qs ∧ H R = some (.lst (rs.map (·.1))) ∧ RowsAt H rs ∧ RowW qs (rs.map (·.2)) ∧ rs.length ≤ 100000 ∧
  ∀ (r : Addr) (H' : Hp), Same H H' → (∀ H'', Same H' H'' → Shw K H'' (.ref r) (outZ qs (rs.map (·.2)) (oOf (rs.map (·.2))))) → Q (.ref r) H'
theorem due_s {P : Program} {w : World} {K : PySem.W.Frag} {mg : Str → Option Value} {base : Heap} {k : Nat} {f : Addr} {fd : FuncData} {ps : List Str} (F : FnOk P w K mg base CX0 k f fd ps spDue) : FnOk P w K mg base CX0 k f fd ps (spDueS K) := F.imp fun vs H Q E h => by
  obtain ⟨C, R, qs, rs, e, ca, cq, eR, ra, wq, ln, k⟩ := h
  refine ⟨C, R, rs.map (·.1), e, eR, fun q r hr => ?_, fun q r hr => ?_⟩
  · have z := Same.upd (o := .tup [.str "told", .ref C, .ref R]) hr
    refine k r _ z fun H'' s'' => ?_
    rw [List.length_map] at q
    rw [oOf_le (by rw [List.length_map]; exact q)]
    show Shw K H'' (.ref r) (toldE qs _).shown
    rw [← toldE_eq]
    have zs := z.trans s''
    exact told_shw cq (ca.same zs) (zs _ _ eR) (RowsAt.same ra zs) wq (by omega) (s'' _ _ upd_same)
  · have z := Same.upd (o := .tup [.str "large", .int ((rs.map (·.1)).length : Nat), .bl true]) hr
    refine k r _ z fun H'' s'' => ?_
    rw [List.length_map] at q
    rw [oOf_gt (by rw [List.length_map]; omega), List.length_map]
    have e2 := s'' _ _ (show L2.upd H r _ r = some (.tup [.str "large", .int ((rs.map (·.1)).length : Nat), .bl true]) from upd_same)
    rw [List.length_map] at e2
    exact big_shw (by omega) e2
/-! ## a dict of two tables -/
abbrev rTupS (K : PySem.W.Frag) : List V → Hp → VK → Prop := fun xs H Q => ∃ p ys, xs = [.ref p] ∧ ((SqL K H p ys ∧ ∀ l, H l = none → Q (.ref l) (L2.upd H l (.tup ys))) ∨ (SqT K H p ys ∧ Q (.ref p) H))
abbrev teMk (K : PySem.W.Frag) (C : Addr) (i j : Nat) : TE := tMake C (spTI C) [] E0 (tCons (tVar i) (tCons (tCB (rTupS K) (tCons (tVar j) tNil)) tNil))
theorem tabs2 {K : PySem.W.Frag} {C : Addr} {i1 j1 i2 j2 : Nat} {σ : L2.St} {H : Hp} {Q : VK} {c1 R1 c2 R2' : Addr} {rs1 rs2 : RowsL} (h1 : σ[i1]? = some (some (.ref c1))) (h2 : σ[j1]? = some (some (.ref R1))) (h3 : σ[i2]? = some (some (.ref c2))) (h4 : σ[j2]? = some (some (.ref R2'))) (e1 : H R1 = some (.lst (rs1.map (·.1)))) (ra1 : RowsAt H rs1) (o1 : RowsOk rs1) (e2 : H R2' = some (.lst (rs2.map (·.1)))) (ra2 : RowsAt H rs2) (o2 : RowsOk rs2)
    (k : ∀ (D a1 a2 : Addr) (H' : Hp), Same H H' → H D = none → H' D = some (.dK [((Sum.inr "b" : Key), .ref a1), ((Sum.inr "a" : Key), .ref a2)]) → IsTb C H' a1 c1 rs1 → IsTb C H' a2 c2 rs2 → Q (.ref D) H') : tDisp [(tC (.str "b"), teMk K C i1 j1), (tC (.str "a"), teMk K C i2 j2)] σ H Q := by
  intro d hd
  have zd := Same.upd (o := .dK []) hd
  have ed : L2.upd H d (.dK []) d = some (.dK []) := upd_same
  generalize L2.upd H d (.dK []) = H1 at zd ed ⊢
  refine ⟨_, h1, _, h2, R1, _, rfl, .inl ⟨SqL.of (zd _ _ e1), fun tu htu => ?_⟩⟩
  dsimp only [tNil]
  have z1 := Same.upd (o := .tup (rs1.map (·.1))) htu
  have s1 := zd.trans z1
  refine mk_tb (.inr upd_same) (RowsAt.same ra1 s1) o1 fun a1 H2 s2 _ hI1 => ?_
  have s02 := s1.trans s2
  refine ⟨_, h3, _, h4, R2', _, rfl, .inl ⟨SqL.of (s02 _ _ e2), fun tu2 htu2 => ?_⟩⟩
  dsimp only [tNil]
  have z2 := Same.upd (o := .tup (rs2.map (·.1))) htu2
  have s3 := s02.trans z2
  refine mk_tb (.inr upd_same) (RowsAt.same ra2 s3) o2 fun a2 H3 s4 _ hI2 => ?_
  have ed3 : H3 d = some (.dK []) := s4 _ _ (z2 _ _ (s2 _ _ (z1 _ _ ed)))
  refine ⟨ed3, [((Sum.inr "b" : Key), .ref a1), ((Sum.inr "a" : Key), .ref a2)], rfl, by show 2 ≤ 15; decide, ?_⟩
  have mg : mergeK [] [((Sum.inr "b" : Key), V.ref a1), ((Sum.inr "a" : Key), .ref a2)] = [((Sum.inr "b" : Key), V.ref a1), ((Sum.inr "a" : Key), .ref a2)] := merge_new _ [] (by
    rw [List.nil_append]
    show ([("b" : Str), "a"].map (Sum.inr : Str → Key)).Nodup
    exact nodup_map (by decide +kernel) fun a _ b _ q => by injection q)
  rw [mg]
  have s5 : Same H (L2.upd H3 d (.dK [((Sum.inr "b" : Key), .ref a1), ((Sum.inr "a" : Key), .ref a2)])) := fun b o e => by
    rw [upd_ne (ne_of_none e hd)]
    exact s4 _ _ (s3 b o e)
  exact k d a1 a2 _ s5 hd upd_same (((hI1.same z2).same s4).upd ed3 ⟨nofun, nofun⟩ o1) (hI2.upd ed3 ⟨nofun, nofun⟩ o2)
theorem two_wt {ps cs : CsL} {rs os : RowsL} (cp : ColP ps) (cq : ColP cs) : WtP [("b", ps, rs), ("a", cs, os)] := by
  have tb : nmS "b" ∧ Sh 12 "b" := ⟨by decide +kernel, ⟨by decide +kernel, by decide +kernel⟩⟩
  have ta : nmS "a" ∧ Sh 12 "a" := ⟨by decide +kernel, ⟨by decide +kernel, by decide +kernel⟩⟩
  refine ⟨fun o ho => ?_, ?_, by show 2 ≤ 10; decide⟩
  · simp only [List.mem_cons, List.not_mem_nil, or_false] at ho
    rcases ho with rfl | rfl
    · exact ⟨tb.1, tb.2, cp⟩
    · exact ⟨ta.1, ta.2, cq⟩
  · show ([("b" : Str), "a"]).Nodup
    decide +kernel
section
variable {P : Program} {w : World} {K : PySem.W.Frag} {mg : Str → Option Value} {base : Heap} {f : Addr} {fd : FuncData}
abbrev sLg : Stmt := top 143
abbrev nLg : List Str := ["_law_tape_here", "_law_columns_here", "_law_rows_here", "_law_part", "_law_less", "_law_more", "_law_tables", "_law_due_here", "_law_many"]
abbrev pLg : List Str := ["_law_tape_here", "_law_columns_here", "_law_rows_here"]
theorem scLg : FnScope nLg pLg (defScope sLg) := ⟨rfl, rfl, rfl, by decide +kernel, rfl, by decide +kernel, by decide +kernel⟩
section
variable {fA_ fB_ fC_ : Addr} {fdA_ fdB_ fdC_ : FuncData}
theorem ok_Lg (F : Fun K "_law_large" "_law_large" sLg f fd) (T : Bt mg) {C : Addr} (M : TbM P w K mg base C) {fU : Addr} {fdU : FuncData} {dsU : List Value} (GQ : FnOk P w K mg base CX0 18 fU fdU ["tables", "pipeline", "setting"] (spRunQ C)) (mU : mg "run" = some (.ref fU)) (kU : PySem.W.keepIn K (.ref fU) = true) (bU : Binds K fdU ["tables", "pipeline", "setting"] dsU) (vU : Vals [V.non] dsU)
    (GA_ : FnOk P w K mg base CX0 1 fA_ fdA_ ["_law_tape_here", "_law_many"] (spDrawL)) (mA_ : mg "_law_draw" = some (.ref fA_)) (kA_ : PySem.W.keepIn K (.ref fA_) = true) (bA_ : Binds K fdA_ ["_law_tape_here", "_law_many"] [])
    (GB_ : FnOk P w K mg base CX0 1 fB_ fdB_ ["_law_columns_here", "_law_rows_here"] (spDue)) (mB_ : mg "_law_due" = some (.ref fB_)) (kB_ : PySem.W.keepIn K (.ref fB_) = true) (bB_ : Binds K fdB_ ["_law_columns_here", "_law_rows_here"] [])
    (GC_ : FnOk P w K mg base CX0 19 fC_ fdC_ ["_law_tables", "_law_source", "_law_steps"] ((spRanS K C))) (mC_ : mg "_law_ran" = some (.ref fC_)) (kC_ : PySem.W.keepIn K (.ref fC_) = true) (bC_ : Binds K fdC_ ["_law_tables", "_law_source", "_law_steps"] []) : FnG P w K mg base 20 f fd pLg (spLg) := by
  refine Lc.Fun.okG F scLg (fun vs H Q E h => ?_) (fun cdv A outer s H vs Q E hg hr h => ?_)
  · obtain ⟨t, c, L, R, ps, rs, rfl, _⟩ := h
    rfl
  · obtain ⟨t, c, L, R, ps, rs, rfl, hT, cL, cp, eR, nR, ra0, rw0, ln0, l1, k⟩ := h
    have hrA_ : Room (1) _ := hr.mono (by first | decide | omega)
    have hrB_ : Room (1) _ := hr.mono (by first | decide | omega)
    have hrC_ : Room (19) _ := hr.mono (by first | decide | omega)
    obtain ⟨fI, fdI, GI, FI, bI⟩ := M.i
    obtain ⟨fC, fdC, hC, FC, bC⟩ := M.c
    obtain ⟨fR, fdR, hR, FR, bR⟩ := M.r
    have hr1 : Room 1 _ := hr.mono (by omega)
    have hr2 : Room (1 + 1) _ := hr.mono (by decide)
    have hrQ : Room 18 _ := hr.mono (by decide)
    refine ⟨_, (pss_cons (ps_set (i := 3) scLg.nd rfl (Or.inl rfl) (pe_ix ix_list (pv 2) (pe_call GA_ hrA_ (by rfl) mA_ kA_ bA_ .nil pass0 (pa_cons (pv 0) (pa_cons (pe_callB call_len_seq (by rfl) T.len PySem.boot_len (pa_cons (pv 2) pa_nil)) pa_nil))) (fun _ _ => rfl)))
      (pss_cons (ps_set (i := 4) scLg.nd rfl (Or.inl rfl) (pe_op op_rep (pe_lst (pa_cons (pv 3) pa_nil)) (pe_op op_add pe_int (pe_call GA_ hrA_ (by rfl) mA_ kA_ bA_ .nil pass0 (pa_cons (pv 0) (pa_cons pe_int pa_nil))))))
      (pss_cons (ps_set (i := 5) scLg.nd rfl (Or.inl rfl) (pe_op op_rep (pe_lst (pa_cons (pv 3) pa_nil)) (pe_op op_add (pe_op op_sub pe_int (pe_callB call_len_seq (by rfl) T.len PySem.boot_len (pa_cons (pv 4) pa_nil))) (pe_call GA_ hrA_ (by rfl) mA_ kA_ bA_ .nil pass0 (pa_cons (pv 0) (pa_cons pe_int pa_nil))))))
      (pss_cons (ps_set (i := 6) scLg.nd rfl (Or.inl rfl) (pe_disp (pps_cons pe_str (pe_make GI.mkC FI hr2 (by rfl) GI.gC bI .nil pass0 (pa_cons (pv 1) (pa_cons (pe_callTy call_tuple_of (by rfl) T.tuple boot_tuple (pa_cons (pv 4) pa_nil)) pa_nil))) (pps_cons pe_str (pe_make GI.mkC FI hr2 (by rfl) GI.gC bI .nil pass0 (pa_cons (pv 1) (pa_cons (pe_callTy call_tuple_of (by rfl) T.tuple boot_tuple (pa_cons (pv 5) pa_nil)) pa_nil))) pps_nil)) (by rfl) (by rfl) (by decide) (by decide)))
      (Evl.pss_cut (ps_set (i := 7) scLg.nd rfl (Or.inl rfl) (pe_call GB_ hrB_ (by rfl) mB_ kB_ bB_ .nil pass0 (pa_cons (pv 1) (pa_cons (pe_op op_cat (pv 4) (pv 5)) pa_nil))))
      (Evl.pss_cut (ps_if (pt_cmpR op_ne (pe_callB (call_reprV hg hr.units) (by rfl) T.repr boot_repr (pa_cons (pe_call GC_ hrC_ (by rfl) mC_ kC_ bC_ .nil pass0 (pa_cons (pv 6) (pa_cons pe_str (pa_cons (pe_tup (pa_cons (pe_tup (pa_cons pe_str (pa_cons pe_str pa_nil))) pa_nil)) pa_nil)))) pa_nil)) (pe_callB (call_reprV hg hr.units) (by rfl) T.repr boot_repr (pa_cons (pv 7) pa_nil)) (nomark _)) (pss_one (ps_ret pe_bl)) pss_nil)
      (Evl.pss_cut (ps_set (i := 8) scLg.nd rfl (Or.inl rfl) (pe_make GI.mkC FI hr2 (by rfl) GI.gC bI .nil pass0 (pa_cons (pv 1) (pa_cons (pe_op op_repB (pe_tup (pa_cons (pv 3) pa_nil)) pe_int) pa_nil))))
      (Evl.pss_cut (ps_if (pt_cmpR op_ne (pe_callB call_len_seq (by rfl) T.len PySem.boot_len (pa_cons (pe_meth0 (pe_call GQ hrQ (by rfl) mU kU bU vU pass0 (pa_cons (pe_disp (pps_cons pe_str (pv 8) pps_nil) (by rfl) (by rfl) (by decide) (by decide)) (pa_cons (pe_tup (pa_cons pe_str (pa_cons (pe_tup (pa_cons (pe_tup (pa_cons pe_str (pa_cons (pe_tup (pa_cons pe_str (pa_cons pe_bl pa_nil))) pa_nil))) (pa_cons (pe_tup (pa_cons pe_str (pa_cons pe_int (pa_cons pe_int (pa_cons pe_int pa_nil))))) pa_nil))) pa_nil))) pa_nil))) GI.cls hR FR hr1 bR .nil pass0) pa_nil)) pe_int (nomark _)) (pss_one (ps_ret pe_bl)) pss_nil)
      (Evl.pss_cut (ps_if (pt_cmpR op_eq (pe_ix ix_tup (pv 7) pe_int (fun _ _ => rfl)) pe_str (nomark _)) (pss_one (ps_set (i := 7) scLg.nd rfl (Or.inl rfl) (pe_tup (pa_cons pe_str (pa_cons (pv 1) (pa_cons (pe_op op_rep (pe_lst (pa_cons (pv 3) pa_nil)) pe_int) pa_nil)))))) pss_nil)
      (pss_one (ps_ret (pe_cmpR op_eq (pe_callB (call_reprV hg hr.units) (by rfl) T.repr boot_repr (pa_cons (pe_call GC_ hrC_ (by rfl) mC_ kC_ bC_ .nil pass0 (pa_cons (pv 6) (pa_cons pe_str (pa_cons (pe_tup (pa_cons (pe_tup (pa_cons pe_str (pa_cons pe_str pa_nil))) (pa_cons (pe_tup (pa_cons pe_str (pa_cons pe_int pa_nil))) pa_nil))) pa_nil)))) pa_nil)) (pe_callB (call_reprV hg hr.units) (by rfl) T.repr boot_repr (pa_cons (pv 7) pa_nil)) (nomark _))))))))))))), ?_⟩
    have two : 2 ≤ sizeLine := by decide
    have one : 1 ≤ sizeLine := by decide
    have three : 3 ≤ sizeLine := by decide
    have four : 4 ≤ sizeLine := by decide
    have hT0 := hT.tape
    have S24 : sizeLine = 2 ^ 24 := rfl
    -- a row
    refine ⟨_, rfl, _, rfl, _, rfl, R, _, rfl, .inl (SqL.of eR), t, c, _, rfl, hT, by rw [List.length_map]; omega, big1000 (by rw [List.length_map]; omega) (by rw [List.length_map]; omega), fun j H1 j0 j1 T1 S1 => ?_⟩
    rw [List.length_map] at j1
    obtain ⟨r, er⟩ : ∃ r, rs[j.toNat]? = some r := ⟨_, List.getElem?_eq_getElem (by omega)⟩
    have rm := List.mem_of_getElem? er
    obtain ⟨vk, lo⟩ := rw0 r.2 (List.mem_map_of_mem rm)
    refine ⟨R, _, _, r.1, rfl, rfl, SqL.of (S1 _ _ nR eR), at_of (j := j.toNat) (by omega) (by rw [List.getElem?_map, er]; rfl), ?_⟩
    have okr : RowsOk [r] := fun q hq => by rw [List.mem_singleton.mp hq]; exact ⟨noLs_all.mpr vk.noL, lo⟩
    -- the first rows
    refine ⟨_, rfl, one, fun p1 hp1 => ?_⟩
    have z1 := Same.upd (o := .lst [r.1]) hp1
    have n1t := T1.tape.ne hp1
    refine ⟨_, rfl, t, c, _, rfl, T1.same z1, by decide, big1000 (by decide) (by decide), fun a H2 a0 a1 T2 S2 => ⟨_, _, rfl, rfl, ?_⟩⟩
    have e1 : H2 p1 = some (.lst [r.1]) := S2 _ _ n1t upd_same
    obtain ⟨n1, hn1, b1, b1'⟩ : ∃ n1 : Nat, (400 + a).toNat = n1 ∧ 400 ≤ n1 ∧ n1 ≤ 600 := ⟨_, rfl, by omega, by omega⟩
    refine ⟨p1, _, [r.1], rfl, rfl, e1, by omega, by omega, ?_, fun pl hpl => ?_⟩
    · rw [hn1, S24]
      show 1 * n1 ≤ _
      omega
    rw [hn1, flat_one]
    have zl := Same.upd (o := .lst (List.replicate n1 r.1)) hpl
    have el : L2.upd H2 pl (.lst (List.replicate n1 r.1)) pl = some (.lst ((List.replicate n1 r).map (·.1))) := by rw [upd_same, List.map_replicate]
    have nlt := T2.tape.ne hpl
    have T3 := T2.same zl
    have S03 : SameB t H (L2.upd H2 pl (.lst (List.replicate n1 r.1))) := ((S1.trans (Same.b t z1)).trans S2).trans (Same.b t zl)
    generalize L2.upd H2 pl (.lst (List.replicate n1 r.1)) = H3 at el T3 S03 ⊢
    clear z1 S2 e1 T2 T1 S1 hp1 zl hpl
    -- the other rows
    refine ⟨_, rfl, one, fun p2 hp2 => ?_⟩
    have z2 := Same.upd (o := .lst [r.1]) hp2
    have n2t := T3.tape.ne hp2
    refine ⟨_, rfl, pl, _, rfl, .inl (SqL.of (z2 _ _ el)), _, _, rfl, rfl, _, rfl, t, c, _, rfl, T3.same z2, by decide, big1000 (by decide) (by decide), fun d H4 d0 d1 T4 S4 => ⟨_, _, rfl, rfl, ?_⟩⟩
    have e2 : H4 p2 = some (.lst [r.1]) := S4 _ _ n2t upd_same
    rw [List.length_map, List.length_replicate]
    obtain ⟨n2, hn2, b2, b2'⟩ : ∃ n2 : Nat, (999 - ((n1 : Nat) : Int) + d).toNat = n2 ∧ 999 ≤ n1 + n2 ∧ n1 + n2 ≤ 1001 := ⟨_, rfl, by omega, by omega⟩
    refine ⟨p2, _, [r.1], rfl, rfl, e2, by omega, by omega, ?_, fun pm hpm => ?_⟩
    · rw [hn2, S24]
      show 1 * n2 ≤ _
      omega
    rw [hn2, flat_one]
    have zm := Same.upd (o := .lst (List.replicate n2 r.1)) hpm
    have em : L2.upd H4 pm (.lst (List.replicate n2 r.1)) pm = some (.lst ((List.replicate n2 r).map (·.1))) := by rw [upd_same, List.map_replicate]
    have T5 := T4.same zm
    have S35 : SameB t H3 (L2.upd H4 pm (.lst (List.replicate n2 r.1))) := ((Same.b t z2).trans S4).trans (Same.b t zm)
    have el5 := S35 _ _ nlt el
    have S05 := S03.trans S35
    generalize L2.upd H4 pm (.lst (List.replicate n2 r.1)) = H5 at em T5 el5 S05 ⊢
    clear z2 S4 e2 T4 T3 S03 S35 hp2 zm hpm el
    have cL5 := cL.b hT0 S05
    have dr5 : Dh H5 r.1 r.2.d := (ra_b ra0 S05 r rm).same dl_here
    -- rows of it alone
    have inr : ∀ {n : Nat} {q : V × RowD}, q ∈ List.replicate n r → q = r := fun h => List.eq_of_mem_replicate h
    have raR : ∀ {n : Nat} {H' : Hp}, Same H5 H' → RowsAt H' (List.replicate n r) := fun s q hq => by rw [inr hq]; exact dr5.same s
    have okR : ∀ {n : Nat}, RowsOk (List.replicate n r) := fun {n} q hq => by rw [inr hq]; exact okr r List.mem_cons_self
    have rwR : ∀ {n : Nat}, RowW ps ((List.replicate n r).map (·.2)) := fun {n} q hq => by
      obtain ⟨x, hx, rfl⟩ := List.mem_map.mp hq
      rw [inr hx]
      exact ⟨vk, lo⟩
    have lR : ∀ {n : Nat}, (List.replicate n r).length = n := List.length_replicate
    have mR2 : ∀ {n : Nat}, (List.replicate n r).map (·.2) = List.replicate n r.2 := List.map_replicate
    -- the tables
    refine seq_asg (tabs2 (i1 := 1) (j1 := 4) (i2 := 1) (j2 := 5) rfl rfl rfl rfl el5 (raR (Same.refl _)) okR em (raR (Same.refl _)) okR fun D a1 a2 H6 s56 hD eD hI1 hI2 => ?_)
    have cL6 := cL5.same s56
    have el6 := s56 _ _ el5
    have em6 := s56 _ _ em
    have T6 := T5.same s56
    have S06 := S05.trans (Same.b t s56)
    have raR6 : ∀ {n : Nat} {H' : Hp}, Same H6 H' → RowsAt H' (List.replicate n r) := fun s => raR (s56.trans s)
    let tbs : TbL := [("b", ps, List.replicate n1 r), ("a", ps, List.replicate n2 r)]
    have hTb : TbsAt C H6 [((Sum.inr "b" : Key), .ref a1), ((Sum.inr "a" : Key), .ref a2)] tbs := .cons hI1 cL6 cp rwR (by rw [lR]; omega) (.cons hI2 cL6 cp rwR (by rw [lR]; omega) .nil)
    have wT : WtP tbs := two_wt cp cp
    have memb : (("b" : Str), ps, List.replicate n1 r) ∈ tbs := List.mem_cons_self
    have mema : (("a" : Str), ps, List.replicate n2 r) ∈ tbs := List.mem_cons_of_mem _ List.mem_cons_self
    have lead : Lead (osOf tbs) ps (.union "a") ps := .union (List.mem_map_of_mem (f := fun t : Str × CsL × RowsL => (t.1, t.2.1)) mema)
    have eB : stepB tbs ps (.union "a") ((List.replicate n1 r).map (·.2)) = List.replicate (n1 + n2) r.2 := by
      show _ ++ rowsOf tbs "a" = _
      rw [rowsOf_at wT.nd mema, mR2, mR2, List.replicate_append_replicate]
    have rn1 : Runs tbs ps ((List.replicate n1 r).map (·.2)) [.union "a"] ps (List.replicate (n1 + n2) r.2) (oOf (List.replicate (n1 + n2) r.2)) := by
      have := runs_one (ds := (List.replicate n1 r).map (·.2)) lead trivial rfl
      rw [eB] at this
      exact this
    have rn2 : Runs tbs ps ((List.replicate n1 r).map (·.2)) [.union "a", .first 3] ps ((List.replicate (n1 + n2) r.2).take 3) (oOf (List.replicate (n1 + n2) r.2)) := by
      have := runs_first (ds := (List.replicate n1 r).map (·.2)) lead trivial rfl (n := 3) (by decide)
      rw [eB] at this
      exact this
    have hoo : ∀ n, oOf (List.replicate (n1 + n2) r.2) = some n → n ≤ 100000 := fun n h => by
      unfold oOf at h
      rw [List.length_replicate] at h
      split at h
      · cases h
      · have := Option.some.inj h
        omega
    have l3 : (List.replicate 3 r).length = 3 := List.length_replicate
    clear raR dr5 cL5 el5 em s56 T5 S05
    -- what is due
    refine ⟨fun σ H' => ∃ (rd : Addr), σ = [some (.ref t), some (.ref L), some (.ref R), some r.1, some (.ref pl), some (.ref pm), some (.ref D), some (.ref rd), none] ∧ (∀ H'', Same H' H'' → Shw K H'' (.ref rd) (outZ ps (List.replicate (n1 + n2) r.2) (oOf (List.replicate (n1 + n2) r.2)))) ∧ (n1 + n2 ≤ 1000 → ∃ W, H' rd = some (.tup [.str "told", .ref L, .ref W])) ∧ (1000 < n1 + n2 → H' rd = some (.tup [.str "large", .int ((n1 + n2 : Nat) : Int), .bl true])) ∧ Same H6 H', ?_, ?_⟩
    · refine ⟨_, rfl, _, rfl, _, rfl, pl, pm, _, _, rfl, rfl, el6, em6, by rw [List.length_map, List.length_map, lR, lR, S24]; omega, fun W hW => ?_⟩
      have zW := Same.upd (o := .lst ((List.replicate n1 r).map (·.1) ++ (List.replicate n2 r).map (·.1))) hW
      have lW : ((List.replicate n1 r).map (·.1) ++ (List.replicate n2 r).map (·.1)).length = n1 + n2 := by rw [List.length_append, List.length_map, List.length_map, lR, lR]
      have eW : L2.upd H6 W (.lst ((List.replicate n1 r).map (·.1) ++ (List.replicate n2 r).map (·.1))) W = some (.lst ((List.replicate (n1 + n2) r).map (·.1))) := by rw [upd_same, ← List.map_append, List.replicate_append_replicate]
      generalize L2.upd H6 W (.lst ((List.replicate n1 r).map (·.1) ++ (List.replicate n2 r).map (·.1))) = H7 at zW eW ⊢
      refine ⟨L, W, (List.replicate (n1 + n2) r).map (·.1), rfl, eW, fun q rd hrd => ?_, fun q rd hrd => ?_⟩
      · rw [List.length_map, lR] at q
        have z := Same.upd (o := .tup [.str "told", .ref L, .ref W]) hrd
        refine ⟨rd, rfl, fun H'' s'' => ?_, fun _ => ⟨W, upd_same⟩, fun h => absurd q (by omega), zW.trans z⟩
        have zs := zW.trans (z.trans s'')
        rw [oOf_le (by rw [List.length_replicate]; exact q)]
        show Shw K H'' (.ref rd) (toldE ps _).shown
        rw [← mR2, ← toldE_eq]
        exact told_shw cp (cL6.same zs) ((z.trans s'') _ _ eW) (raR6 zs) rwR (by rw [lR]; omega) (s'' _ _ upd_same)
      · rw [List.length_map, lR] at q
        have z := Same.upd (o := .tup [.str "large", .int (((List.replicate (n1 + n2) r).map (·.1)).length : Nat), .bl true]) hrd
        have ez : L2.upd H7 rd (.tup [.str "large", .int (((List.replicate (n1 + n2) r).map (·.1)).length : Nat), .bl true]) rd = some (.tup [.str "large", .int ((n1 + n2 : Nat) : Int), .bl true]) := by rw [upd_same, List.length_map, lR]
        refine ⟨rd, rfl, fun H'' s'' => ?_, fun h => absurd h (by omega), fun _ => ez, zW.trans z⟩
        rw [oOf_gt (by rw [List.length_replicate]; omega), List.length_replicate]
        exact big_shw (by omega) (s'' _ _ ez)
    rintro σ H7 ⟨rd, rfl, shd, td1, td2, s67⟩
    -- the union
    refine ⟨fun σ H' => σ = [some (.ref t), some (.ref L), some (.ref R), some r.1, some (.ref pl), some (.ref pm), some (.ref D), some (.ref rd), none] ∧ Same H7 H', ?_, ?_⟩
    · refine ⟨_, rfl, two, fun q1 hq1 => ⟨one, fun s1 hs1 => ?_⟩⟩
      have zq := Same.upd (o := .tup [.str "union", .str "a"]) hq1
      have zs := Same.upd (o := .tup [.ref q1]) hs1
      have eq1 := zs _ _ (show L2.upd H7 q1 (.tup [.str "union", .str "a"]) q1 = some (.tup [.str "union", .str "a"]) from upd_same)
      have es1 : L2.upd (L2.upd H7 q1 (.tup [.str "union", .str "a"])) s1 (.tup [.ref q1]) s1 = some (.tup [.ref q1]) := upd_same
      have z78 := zq.trans zs
      generalize L2.upd (L2.upd H7 q1 (.tup [.str "union", .str "a"])) s1 (.tup [.ref q1]) = H8 at eq1 es1 z78 ⊢
      have s68 := s67.trans z78
      refine ⟨D, s1, "b", _, tbs, _, ps, ps, _, _, [.ref q1], [.union "a"], rfl, s68 _ _ eD, hTb.same s68, wT, memb, es1, .cons (.tup eq1 (.cons (.str _) (.cons (.str _) .nil))) .nil, rn1, by show 1 ≤ 10; decide, hoo, fun rr H9 s9 shr => ?_⟩
      refine ⟨.ref rr, _, rfl, shr H9 (Same.refl _), _, rfl, .ref rd, _, rfl, shd H9 (z78.trans s9), rfl, _, rfl, ?_⟩
      rw [decide_eq_true rfl]
      exact iteF ⟨rfl, z78.trans s9⟩
    rintro σ H8 ⟨rfl, s78⟩
    have s68 := s67.trans s78
    -- many rows
    refine ⟨fun σ H' => ∃ am : Addr, σ = [some (.ref t), some (.ref L), some (.ref R), some r.1, some (.ref pl), some (.ref pm), some (.ref D), some (.ref rd), some (.ref am)] ∧ IsTb C H' am L (List.replicate 1001 r) ∧ Same H8 H', ?_, ?_⟩
    · refine ⟨_, rfl, _, rfl, one, fun tp htp => ?_⟩
      have zt := Same.upd (o := .tup [r.1]) htp
      refine ⟨tp, 1001, r.1, rfl, rfl, SqT.of upd_same, by decide, by decide, fun tm htm => ?_⟩
      have zm := Same.upd (o := .tup (List.replicate (1001 : Int).toNat r.1)) htm
      dsimp only [tNil]
      refine mk_tb (rs := List.replicate 1001 r) (.inr (by rw [upd_same, List.map_replicate]; rfl)) (raR6 (s68.trans (zt.trans zm))) okR fun am H9 s9 _ hI => ?_
      exact ⟨am, rfl, hI, (zt.trans zm).trans s9⟩
    rintro σ H9 ⟨am, rfl, hIm, s89⟩
    have s69 := s68.trans s89
    refine ⟨fun σ H' => σ = [some (.ref t), some (.ref L), some (.ref R), some r.1, some (.ref pl), some (.ref pm), some (.ref D), some (.ref rd), some (.ref am)] ∧ Same H9 H', ?_, ?_⟩
    · intro d hd
      have zd := Same.upd (o := .dK []) hd
      refine ⟨_, rfl, upd_same, [((Sum.inr "b" : Key), .ref am)], rfl, by show 1 ≤ 15; decide, ?_⟩
      have sd : Same H9 (L2.upd (L2.upd H9 d (.dK [])) d (.dK (mergeK [] [((Sum.inr "b" : Key), .ref am)]))) := fun b o e => by
        rw [upd_ne (ne_of_none e hd)]
        exact zd b o e
      have ed : L2.upd (L2.upd H9 d (.dK [])) d (.dK (mergeK [] [((Sum.inr "b" : Key), .ref am)])) d = some (.dK [((Sum.inr "b" : Key), .ref am)]) := upd_same
      generalize L2.upd (L2.upd H9 d (.dK [])) d (.dK (mergeK [] [((Sum.inr "b" : Key), .ref am)])) = H10 at sd ed ⊢
      refine ⟨two, fun x1 hx1 => ?_⟩
      have y1 := Same.upd (o := .tup [.str "value", .bl true]) hx1
      have f1 : L2.upd H10 x1 (.tup [.str "value", .bl true]) x1 = some (.tup [.str "value", .bl true]) := upd_same
      generalize L2.upd H10 x1 (.tup [.str "value", .bl true]) = J1 at y1 f1 ⊢
      refine ⟨two, fun x2 hx2 => ?_⟩
      have y2 := Same.upd (o := .tup [.str "keep", .ref x1]) hx2
      have f2 : L2.upd J1 x2 (.tup [.str "keep", .ref x1]) x2 = some (.tup [.str "keep", .ref x1]) := upd_same
      generalize L2.upd J1 x2 (.tup [.str "keep", .ref x1]) = J2 at y2 f2 ⊢
      refine ⟨four, fun x3 hx3 => ?_⟩
      have y3 := Same.upd (o := .tup [.str "sample", .int 1, .int 1, .int 0]) hx3
      have f3 : L2.upd J2 x3 (.tup [.str "sample", .int 1, .int 1, .int 0]) x3 = some (.tup [.str "sample", .int 1, .int 1, .int 0]) := upd_same
      generalize L2.upd J2 x3 (.tup [.str "sample", .int 1, .int 1, .int 0]) = J3 at y3 f3 ⊢
      refine ⟨two, fun x4 hx4 => ?_⟩
      have y4 := Same.upd (o := .tup [.ref x2, .ref x3]) hx4
      have f4 : L2.upd J3 x4 (.tup [.ref x2, .ref x3]) x4 = some (.tup [.ref x2, .ref x3]) := upd_same
      generalize L2.upd J3 x4 (.tup [.ref x2, .ref x3]) = J4 at y4 f4 ⊢
      refine ⟨two, fun x5 hx5 => ?_⟩
      have y5 := Same.upd (o := .tup [.str "b", .ref x4]) hx5
      have f5 : L2.upd J4 x5 (.tup [.str "b", .ref x4]) x5 = some (.tup [.str "b", .ref x4]) := upd_same
      generalize L2.upd J4 x5 (.tup [.str "b", .ref x4]) = J5 at y5 f5 ⊢
      have yy := y1.trans (y2.trans (y3.trans (y4.trans y5)))
      have s9J := sd.trans yy
      have F1 := (y2.trans (y3.trans (y4.trans y5))) _ _ f1
      have F2 := (y3.trans (y4.trans y5)) _ _ f2
      have F3 := (y4.trans y5) _ _ f3
      have F4 := y5 _ _ f4
      have tbm : TbsAt C J5 [((Sum.inr "b" : Key), .ref am)] [("b", ps, List.replicate 1001 r)] := .cons (hIm.same s9J) (cL6.same (s69.trans s9J)) cp rwR (by rw [lR]; omega) .nil
      have tbn : nmS "b" ∧ Sh 12 "b" := ⟨by decide +kernel, ⟨by decide +kernel, by decide +kernel⟩⟩
      have wtm : WtP [(("b" : Str), ps, List.replicate 1001 r)] := ⟨fun o ho => by rw [List.mem_singleton.mp ho]; exact ⟨tbn.1, tbn.2, cp⟩, List.nodup_cons.mpr ⟨nofun, List.nodup_nil⟩, by show 1 ≤ 10; decide⟩
      refine ⟨d, x5, x4, "b", _, _, List.replicate 1001 r, ps, ps, (List.replicate 1001 r).map (·.2), [.ref x2, .ref x3], [.keep vT, .sample 1 1 0], rfl, yy _ _ ed, tbm, wtm, List.mem_cons_self, f5, F4, .cons (.tup F2 (.cons (.str _) (.cons (.tup F1 (.cons (.str _) (.cons (.bl true) .nil))) .nil))) (.cons (.tup F3 (.cons (.str _) (.cons (.int 1) (.cons (.int 1) (.cons (.int 0) .nil))))) .nil), .cons .keep trivial nofun (.cons (.sample (by decide) (by decide) (by decide) (by decide)) rfl nofun .nil), by show 2 ≤ 10; decide, fun a' cv' rs' J6 s6 hI' _ _ _ eqF _ => ?_⟩
      obtain ⟨dx, bv, h1, h2, h3⟩ := id hI'
      refine ⟨a', dx, _, rfl, h1, rfl, a', cv', _, rfl, hI', fun l5 hl5 => ?_⟩
      have l1001 : (rs'.map (·.1)).length = 1001 := by
        have := congrArg List.length eqF
        rw [List.length_map, List.length_map, lR] at this
        rw [List.length_map]
        exact this
      refine ⟨l5, _, rfl, .inl (SqL.of upd_same), rfl, _, rfl, ?_⟩
      rw [l1001, show decide (V.int ((1001 : Nat) : Int) = V.int 1001) = true from rfl]
      exact iteF ⟨rfl, s9J.trans (s6.trans (Same.upd hl5))⟩
    rintro σ H10 ⟨rfl, s910⟩
    have s610 := s69.trans s910
    have s710 := s78.trans (s89.trans s910)
    -- what is due of the first ones
    refine ⟨fun σ H' => ∃ (r2 : Addr), σ = [some (.ref t), some (.ref L), some (.ref R), some r.1, some (.ref pl), some (.ref pm), some (.ref D), some (.ref r2), some (.ref am)] ∧ (∀ H'', Same H' H'' → Shw K H'' (.ref r2) (outZ ps ((List.replicate (n1 + n2) r.2).take 3) (oOf (List.replicate (n1 + n2) r.2)))) ∧ Same H10 H', ?_, ?_⟩
    · have t3 : (List.replicate (n1 + n2) r.2).take 3 = List.replicate 3 r.2 := by rw [List.take_replicate, Nat.min_eq_left (by omega)]
      rw [t3]
      by_cases q : n1 + n2 ≤ 1000
      · obtain ⟨W, eW⟩ := td1 q
        refine ⟨_, rfl, rd, _, _, .str "told", rfl, rfl, SqT.of (s710 _ _ eW), at_of (j := 0) rfl rfl, rfl, _, rfl, ?_⟩
        rw [decide_eq_true rfl]
        refine iteT ⟨_, rfl, _, rfl, one, fun x1 hx1 => ⟨x1, 3, [r.1], rfl, rfl, upd_same, by decide, by decide, ?_, fun x2 hx2 => ⟨three, fun x3 hx3 => ?_⟩⟩⟩
        · rw [S24]
          show 1 * 3 ≤ _
          decide
        have y1 := Same.upd (o := .lst [r.1]) hx1
        have y2 := Same.upd (o := .lst (List.replicate (3 : Int).toNat [r.1]).flatten) hx2
        have y3 := Same.upd (o := .tup [.str "told", .ref L, .ref x2]) hx3
        have yy := y1.trans (y2.trans y3)
        refine ⟨x3, rfl, fun H'' s'' => ?_, yy⟩
        have zs := s610.trans (yy.trans s'')
        rw [oOf_le (by rw [List.length_replicate]; exact q)]
        show Shw K H'' (.ref x3) (toldE ps _).shown
        rw [← mR2, ← toldE_eq]
        refine told_shw cp (cL6.same zs) (s'' _ _ (y3 _ _ ?_)) (raR6 zs) rwR (by rw [lR]; omega) (s'' _ _ upd_same)
        rw [upd_same]
        rfl
      · have eW := td2 (by omega)
        refine ⟨_, rfl, rd, _, _, .str "large", rfl, rfl, SqT.of (s710 _ _ eW), at_of (j := 0) rfl rfl, rfl, _, rfl, ?_⟩
        rw [show decide (V.str "large" = V.str "told") = false by rw [dec_str]; decide +kernel]
        refine iteF ⟨rd, rfl, fun H'' s'' => ?_, Same.refl _⟩
        have := shd H'' (s710.trans s'')
        rw [oOf_gt (by rw [List.length_replicate]; exact q)] at this ⊢
        exact this
    rintro σ H11 ⟨r2, rfl, sh2, s1011⟩
    have s611 := s610.trans s1011
    refine ⟨_, rfl, two, fun q1 hq1 => ?_⟩
    have y1 := Same.upd (o := .tup [.str "union", .str "a"]) hq1
    have f1 : L2.upd H11 q1 (.tup [.str "union", .str "a"]) q1 = some (.tup [.str "union", .str "a"]) := upd_same
    generalize L2.upd H11 q1 (.tup [.str "union", .str "a"]) = J1 at y1 f1 ⊢
    refine ⟨two, fun q2 hq2 => ?_⟩
    have y2 := Same.upd (o := .tup [.str "first", .int 3]) hq2
    have f2 : L2.upd J1 q2 (.tup [.str "first", .int 3]) q2 = some (.tup [.str "first", .int 3]) := upd_same
    generalize L2.upd J1 q2 (.tup [.str "first", .int 3]) = J2 at y2 f2 ⊢
    refine ⟨two, fun s1 hs1 => ?_⟩
    have y3 := Same.upd (o := .tup [.ref q1, .ref q2]) hs1
    have f3 : L2.upd J2 s1 (.tup [.ref q1, .ref q2]) s1 = some (.tup [.ref q1, .ref q2]) := upd_same
    generalize L2.upd J2 s1 (.tup [.ref q1, .ref q2]) = J3 at y3 f3 ⊢
    have yy := y1.trans (y2.trans y3)
    have s6J := s611.trans yy
    refine ⟨D, s1, "b", _, tbs, _, ps, ps, _, _, [.ref q1, .ref q2], [.union "a", .first 3], rfl, s6J _ _ eD, hTb.same s6J, wT, memb, f3, .cons (.tup ((y2.trans y3) _ _ f1) (.cons (.str _) (.cons (.str _) .nil))) (.cons (.tup (y3 _ _ f2) (.cons (.str _) (.cons (.int 3) .nil))) .nil), rn2, by show 2 ≤ 10; decide, hoo, fun rr J4 s4 shr => ?_⟩
    refine ⟨.ref rr, _, rfl, shr J4 (Same.refl _), _, rfl, .ref r2, _, rfl, sh2 J4 (yy.trans s4), rfl, ?_⟩
    rw [decide_eq_true rfl]
    have sF := s6J.trans s4
    exact k J4 (T6.same sF) (S06.trans (Same.b t sF))
end
end
end K19
set_option Elab.async false
set_option linter.all false
set_option maxRecDepth 100000
set_option maxHeartbeats 4000000
namespace K19
open PySem PySem.Spec PyProof.Rows L2 Lc
theorem erase_perm {α : Type} : ∀ {l : List α} {k : Nat} {y : α}, l[k]? = some y → (y :: l.eraseIdx k).Perm l
  | [], k, y, h => by simp at h
  | a :: l, 0, y, h => by
    have e : a = y := by simpa using h
    subst e
    exact List.Perm.refl _
  | a :: l, k + 1, y, h => by
    have ih := erase_perm (l := l) (k := k) (y := y) (by simpa using h)
    show (y :: a :: l.eraseIdx k).Perm (a :: l)
    exact (List.Perm.swap a y _).trans (ih.cons a)
theorem seq_ix {n : Nat} {d : Int} (h0 : 0 ≤ d) (h1 : d < n) : seqIndex? d n = some d.toNat := by
  refine (ixN_seq (n := n) (i := d) (j := d.toNat) ?_).1
  unfold ixN
  rw [if_pos h0, if_pos h1]
def spPkV : Sp := fun vs H Q _ => ∃ (t c L : Addr) (ss : List V) (many : Int), vs = [.ref t, .ref L, .int many] ∧ TapeL c H t ∧ H L = some (.lst ss) ∧ L ≠ t ∧ ss.length ≤ 8 ∧ 1 ≤ many ∧ many ≤ 8 ∧
  ∀ (G : Addr) (gs rs : List V) (H' : Hp), H' G = some (.lst gs) → H G = none → (gs ++ rs).Perm ss → (ss ≠ [] → gs ≠ []) → (gs.length : Int) ≤ many → TapeL c H' t → SameB t H H' → Q (.ref G) H'
section
variable {P : Program} {w : World} {K : PySem.W.Frag} {mg : Str → Option Value} {base : Heap} {f : Addr} {fd : FuncData}
abbrev sPk : Stmt := top 133
abbrev nPk : List Str := ["_law_tape_here", "_law_items", "_law_many", "_law_rest", "_law_got", "_law_k"]
abbrev pPk : List Str := ["_law_tape_here", "_law_items", "_law_many"]
theorem scPk : FnScope nPk pPk (defScope sPk) := ⟨rfl, rfl, rfl, by decide +kernel, rfl, by decide +kernel, by decide +kernel⟩
section
variable {fA_ : Addr} {fdA_ : FuncData}
theorem ok_Pk (F : Fun K "_law_pick" "_law_pick" sPk f fd) (T : Bt mg)
    (GA_ : FnOk P w K mg base CX0 1 fA_ fdA_ ["_law_tape_here", "_law_many"] (spDrawL)) (mA_ : mg "_law_draw" = some (.ref fA_)) (kA_ : PySem.W.keepIn K (.ref fA_) = true) (bA_ : Binds K fdA_ ["_law_tape_here", "_law_many"] []) : FnOk P w K mg base CX0 2 f fd pPk (spPkV) := by
  refine F.ok scPk (fun vs H Q E h => ?_) (fun cdv A outer s H vs Q E hr h => ?_)
  · obtain ⟨t, c, L, ss, many, rfl, _⟩ := h
    rfl
  · obtain ⟨t, c, L, ss, many, rfl, hT, hL, nLt, l8, m1, m8, k⟩ := h
    have hrA_ : Room (1) _ := hr.mono (by first | decide | omega)
    refine ⟨_, (pss_cons (ps_set (i := 3) scPk.nd rfl (Or.inl rfl) (pe_callTy call_list_of (by rfl) T.list boot_list (pa_cons (pv 1) pa_nil)))
      (pss_cons (ps_set (i := 4) scPk.nd rfl (Or.inl rfl) (pe_lst pa_nil))
      (pss_cons (ps_for PassesOwn.never rfl (pi_range1 (by rfl) T.range (pa_cons (pe_callB (call_min2 rfl) (by rfl) T.min (by decide +kernel) (pa_cons (pe_callB call_len_seq (by rfl) T.len PySem.boot_len (pa_cons (pv 3) pa_nil)) (pa_cons (pv 2) pa_nil))) pa_nil)) (pg_name (i := 5) scPk.nd rfl (.inl rfl)) (pss_one (ps_if (PW.pt (pw_or (pt_cmpR op_eq (pv 5) pe_int (nomark _)) (pw_or1 (pt_cmpR op_gt (pe_call GA_ hrA_ (by rfl) mA_ kA_ bA_ .nil pass0 (pa_cons (pv 0) (pa_cons pe_int pa_nil))) pe_int (nomark _))))) (pss_one (ps_expr (pe_bm PySem.F.plainAttrs_list PySem.F.slot_list_append PySem.F.type_list_append mt_append (pv 4) (pa_cons (pe_bm PySem.F.plainAttrs_list PySem.F.slot_list_pop PySem.F.type_list_pop mt_popAt (pv 3) (pa_cons (pe_call GA_ hrA_ (by rfl) mA_ kA_ bA_ .nil pass0 (pa_cons (pv 0) (pa_cons (pe_callB call_len_seq (by rfl) T.len PySem.boot_len (pa_cons (pv 3) pa_nil)) pa_nil))) pa_nil)) pa_nil)))) pss_nil)))
      (pss_one (ps_ret (pv 4)))))), ?_⟩
    have nRt : ∀ R, H R = none → R ≠ t := fun R h => hT.tape.ne h
    refine ⟨_, rfl, L, _, rfl, .inl (SqL.of hL), fun R hR => ⟨Nat.zero_le _, fun G hG => ?_⟩⟩
    have zR := Same.upd (o := .lst ss) hR
    have zG := Same.upd (o := .lst []) hG
    have gG := Same.gone zR hG
    have nRt := hT.tape.ne hR
    have nGt := hT.tape.ne gG
    obtain ⟨ys, hc⟩ := hT.list
    have nRc : R ≠ c := Ne.symm (ne_of_none hc hR)
    have nGc : G ≠ c := Ne.symm (ne_of_none hc gG)
    have eR0 : L2.upd H R (.lst ss) R = some (.lst ss) := upd_same
    have nRG : R ≠ G := ne_of_none eR0 hG
    have eR1 := zG _ _ eR0
    have eG1 : L2.upd (L2.upd H R (.lst ss)) G (.lst []) G = some (.lst []) := upd_same
    have z2 := zR.trans zG
    have T2 := hT.same z2
    generalize L2.upd (L2.upd H R (.lst ss)) G (.lst []) = H2 at eR1 eG1 z2 T2 ⊢
    clear zG eR0 zR
    refine ⟨_, rfl, R, _, rfl, .inl (SqL.of eR1), _, rfl, _, _, rfl, ?_⟩
    generalize hn : (if many < (ss.length : Int) then many else (ss.length : Int)) = n
    have n1 : n ≤ many ∧ n ≤ ss.length ∧ 0 ≤ n ∧ (ss ≠ [] → 0 < n) := by
      have : ss ≠ [] → 0 < ss.length := fun h => List.length_pos_iff.mpr h
      by_cases q : many < (ss.length : Int)
      · rw [if_pos q] at hn; omega
      · rw [if_neg q] at hn
        refine ⟨by omega, by omega, by omega, fun h => ?_⟩
        have := this h
        omega
    clear hn
    refine ⟨n, rfl, by omega, by omega, for_range (n := n.toNat) (fun i σ H' => (∃ (x5 : Option V) (rs gs : List V), σ = [some (.ref t), some (.ref L), some (.int many), some (.ref R), some (.ref G), x5] ∧ H' R = some (.lst rs) ∧ H' G = some (.lst gs) ∧ (gs ++ rs).Perm ss ∧ gs.length ≤ i ∧ (0 < i → gs ≠ [])) ∧ TapeL c H' t ∧ SameB t H H')
      ⟨⟨none, ss, [], rfl, eR1, eG1, List.Perm.refl _, Nat.le_refl _, fun h => absurd h (Nat.lt_irrefl 0)⟩, T2, Same.b t z2⟩ ?_ ?_⟩
    · clear eR1 eG1 T2
      rintro i σ H3 hi ⟨⟨x5, rs, gs, rfl, eR, eG, pp, gl, ge⟩, T3, S3⟩
      have len := pp.length_eq
      rw [List.length_append] at len
      refine ⟨_, rfl, rfl, _, rfl, ?_⟩
      by_cases z : i = 0
      · rw [show decide (V.int ((0 : Int) + (i : Int)) = V.int 0) = true by rw [z]; rfl]
        refine iteT (iteT ?_)
        refine ⟨_, rfl, .inl ⟨rfl, _, SqL.of eG⟩, _, rfl, .inl ⟨rfl, _, SqL.of eR⟩, _, rfl, _, rfl, R, _, rfl, .inl (SqL.of eR), t, c, _, rfl, T3, by omega, big1000 (by omega) (by omega), fun d Hd d0 d1 Td Sd => ?_⟩
        have eR2 := Sd _ _ nRt eR
        have eG2 := Sd _ _ nGt eG
        have hd : d.toNat < rs.length := by omega
        obtain ⟨y, ey⟩ : ∃ y, rs[d.toNat]? = some y := ⟨_, List.getElem?_eq_getElem hd⟩
        have pm := erase_perm ey
        refine ⟨R, _, d, d.toNat, y, rfl, rfl, eR2, by omega, by omega, seq_ix d0 d1, ey, G, _, _, rfl, rfl, by rw [upd_ne (Ne.symm nRG)]; exact eG2, lt_size (by omega), ?_⟩
        have er := List.length_eraseIdx_of_lt hd
        refine ⟨⟨_, rs.eraseIdx d.toNat, gs ++ [y], rfl, by rw [upd_ne nRG, upd_same], upd_same, ?_, by rw [List.length_append]; show _ + 1 ≤ _; omega, fun _ => by simp⟩, (Td.upd nRt nRc).upd nGt nGc, ?_⟩
        · rw [List.append_assoc]
          exact (List.Perm.append_left gs pm).trans pp
        · intro b o n e
          rw [upd_ne (fun z => by rw [z, gG] at e; cases e), upd_ne (fun z => by rw [z, hR] at e; cases e)]
          exact (S3.trans Sd) b o n e
      · rw [show decide (V.int ((0 : Int) + (i : Int)) = V.int 0) = false from decide_eq_false (fun h => z (by injection h with h; omega))]
        refine iteF ⟨_, rfl, t, c, _, rfl, T3, by decide, big1000 (by decide) (by decide), fun e He e0 e3 T4 S4 => ?_⟩
        replace eR := S4 _ _ nRt eR
        replace eG := S4 _ _ nGt eG
        have S34 := S3.trans S4
        refine ⟨_, _, rfl, rfl, _, rfl, ite2 (fun _ => ?_) (fun _ => ⟨⟨_, rs, gs, rfl, eR, eG, pp, by omega, fun _ => ge (by omega)⟩, T4, S34⟩)⟩
        refine ⟨_, rfl, .inl ⟨rfl, _, SqL.of eG⟩, _, rfl, .inl ⟨rfl, _, SqL.of eR⟩, _, rfl, _, rfl, R, _, rfl, .inl (SqL.of eR), t, c, _, rfl, T4, by omega, big1000 (by omega) (by omega), fun d Hd d0 d1 Td Sd => ?_⟩
        have eR2 := Sd _ _ nRt eR
        have eG2 := Sd _ _ nGt eG
        have hd : d.toNat < rs.length := by omega
        obtain ⟨y, ey⟩ : ∃ y, rs[d.toNat]? = some y := ⟨_, List.getElem?_eq_getElem hd⟩
        have pm := erase_perm ey
        refine ⟨R, _, d, d.toNat, y, rfl, rfl, eR2, by omega, by omega, seq_ix d0 d1, ey, G, _, _, rfl, rfl, by rw [upd_ne (Ne.symm nRG)]; exact eG2, lt_size (by omega), ?_⟩
        have er := List.length_eraseIdx_of_lt hd
        refine ⟨⟨_, rs.eraseIdx d.toNat, gs ++ [y], rfl, by rw [upd_ne nRG, upd_same], upd_same, ?_, by rw [List.length_append]; show _ + 1 ≤ _; omega, fun _ => by simp⟩, (Td.upd nRt nRc).upd nGt nGc, ?_⟩
        · rw [List.append_assoc]
          exact (List.Perm.append_left gs pm).trans pp
        · intro b o n e
          rw [upd_ne (fun z => by rw [z, gG] at e; cases e), upd_ne (fun z => by rw [z, hR] at e; cases e)]
          exact (S34.trans Sd) b o n e
    · rintro σ H3 ⟨⟨x5, rs, gs, rfl, eR, eG, pp, gl, ge⟩, T3, S3⟩
      exact ⟨_, rfl, k G gs rs H3 eG gG pp (fun h => ge (by have := n1.2.2.2 h; omega)) (by omega) T3 S3⟩
end
end
end K19
set_option Elab.async false
set_option linter.all false
set_option maxRecDepth 100000
set_option maxHeartbeats 4000000
namespace K19
open PySem PySem.Spec PyProof.Rows L2 Lc
theorem Cols.perm {H : Hp} : ∀ {xs ys : List V}, xs.Perm ys → ∀ {ps : CsL}, Cols H xs ps → ∃ qs, Cols H ys qs ∧ ps.Perm qs := by
  intro xs ys pm
  induction pm with
  | nil => exact fun h => ⟨_, h, List.Perm.refl _⟩
  | cons x _ ih =>
    intro ps h
    cases h with
    | cons e r =>
      obtain ⟨qs, h1, h2⟩ := ih r
      exact ⟨_, .cons e h1, h2.cons _⟩
  | swap x y l =>
    intro ps h
    cases h with
    | cons e r => cases r with
      | cons e' r => exact ⟨_, .cons e' (.cons e r), List.Perm.swap _ _ _⟩
  | trans _ _ i1 i2 =>
    intro ps h
    obtain ⟨qs, h1, h2⟩ := i1 h
    obtain ⟨rs, h3, h4⟩ := i2 h1
    exact ⟨rs, h3, h2.trans h4⟩
theorem Cols.split {H : Hp} : ∀ {xs ys : List V} {qs : CsL}, Cols H (xs ++ ys) qs → ∃ q1 q2, qs = q1 ++ q2 ∧ Cols H xs q1 ∧ Cols H ys q2
  | [], _, qs, h => ⟨[], qs, rfl, .nil, h⟩
  | _ :: xs, ys, _, .cons e r => by
    obtain ⟨q1, q2, h1, h2, h3⟩ := Cols.split (xs := xs) r
    exact ⟨_ :: q1, q2, by rw [h1]; rfl, .cons e h2, h3⟩
theorem ins_perm {α : Type} {xs : List α} {y : α} (h : xs[xs.length - 1]? = some y) (i : Nat) : (xs.dropLast.take i ++ [y] ++ xs.dropLast.drop i).Perm xs := by
  have e : xs = xs.dropLast ++ [y] := by
    have ne : xs ≠ [] := fun z => by subst z; simp at h
    have l : xs.getLast ne = y := by
      rw [List.getLast_eq_getElem]
      rw [List.getElem?_eq_getElem (by have := List.length_pos_iff.mpr ne; omega)] at h
      exact Option.some.inj h
    rw [← l]
    exact (List.dropLast_concat_getLast ne).symm
  have p1 : (xs.dropLast.take i ++ [y] ++ xs.dropLast.drop i).Perm (y :: (xs.dropLast.take i ++ xs.dropLast.drop i)) := by
    rw [List.append_assoc]
    exact List.perm_middle
  rw [List.take_append_drop] at p1
  refine p1.trans ?_
  have p2 : (xs.dropLast ++ [y]).Perm (y :: xs.dropLast) := List.perm_append_singleton y _
  rw [← e] at p2
  exact p2.symm
theorem ColP.of_perm {ps qs : CsL} (h : ColP ps) (p : ps.Perm qs) : ColP qs :=
  ⟨fun x hx => h.ok x (p.mem_iff.mpr hx), (p.map (·.1)).nodup_iff.mp h.nd, by rw [← p.length_eq]; exact h.l1, by rw [← p.length_eq]; exact h.l8⟩
theorem vS_perm {xs : List V} {ns : List Str} (p : xs.Perm (vS ns)) : ∃ ms : List Str, xs = vS ms ∧ ms.Perm ns := by
  obtain ⟨ms, h1, h2⟩ := map_perm_lift V.str (L := ns) (vs := xs) p
  exact ⟨ms, h2, h1⟩
abbrev tePa (K : PySem.W.Frag) : TE := tOp (rIxT K) (tVar 4) (tC (.int 0))
abbrev ttPa (K : PySem.W.Frag) : TT := tTest (tOp (rIn K true) (tOp (rIxT K) (tVar 4) (tC (.int 0))) (tVar 6))
def spPair : Sp := fun vs H Q _ => ∃ (t c : Addr), vs = [.ref t] ∧ TapeL c H t ∧ ∀ (r L R N : Addr) (ps qs : CsL) (ks : List Str) (H' : Hp), H' r = some (.tup [.ref L, .ref R, .ref N]) → CA H' L ps → CA H' R qs → H' N = some (.tup (vS ks)) → ColP ps → ColP qs → ps.length ≤ 4 → ks.Nodup → 1 ≤ ks.length → ks.length ≤ 3 → (∀ k, k ∈ ks ↔ k ∈ nms qs ∧ k ∈ nms ps) → (∀ k ∈ ks, kdOf ps k = kdOf qs k) → ps.length + (qs.filter fun p => decide (p.1 ∉ nms ps)).length ≤ 8 → TapeL c H' t → SameB t H H' → Q (.ref r) H'
section
variable {P : Program} {w : World} {K : PySem.W.Frag} {mg : Str → Option Value} {base : Heap} {f : Addr} {fd : FuncData}
abbrev sPa : Stmt := top 138
abbrev nPa : List Str := ["_law_tape_here", "_law_one", "_law_shared", "_law_more", "_law_part", "_law_two", "_law_names"]
abbrev pPa : List Str := ["_law_tape_here"]
theorem scPa : FnScope nPa pPa (defScope sPa) := ⟨rfl, rfl, rfl, by decide +kernel, rfl, by decide +kernel, by decide +kernel⟩
section
variable {fA_ fB_ fC_ : Addr} {fdA_ fdB_ fdC_ : FuncData}
theorem ok_Pa (F : Fun K "_law_pair" "_law_pair" sPa f fd) (T : Bt mg)
    (GA_ : FnOk P w K mg base CX0 1 fA_ fdA_ ["_law_tape_here", "_law_many"] (spDrawL)) (mA_ : mg "_law_draw" = some (.ref fA_)) (kA_ : PySem.W.keepIn K (.ref fA_) = true) (bA_ : Binds K fdA_ ["_law_tape_here", "_law_many"] [])
    (GB_ : FnOk P w K mg base CX0 4 fB_ fdB_ ["_law_tape_here", "_law_lead", "_law_many", "_law_taken"] (spCls)) (mB_ : mg "_law_columns" = some (.ref fB_)) (kB_ : PySem.W.keepIn K (.ref fB_) = true) (bB_ : Binds K fdB_ ["_law_tape_here", "_law_lead", "_law_many", "_law_taken"] [])
    (GC_ : FnOk P w K mg base CX0 2 fC_ fdC_ ["_law_tape_here", "_law_items", "_law_many"] (spPkV)) (mC_ : mg "_law_pick" = some (.ref fC_)) (kC_ : PySem.W.keepIn K (.ref fC_) = true) (bC_ : Binds K fdC_ ["_law_tape_here", "_law_items", "_law_many"] []) : FnOk P w K mg base CX0 5 f fd pPa (spPair) := by
  refine F.ok scPa (fun vs H Q E h => ?_) (fun cdv A outer s H vs Q E hr h => ?_)
  · obtain ⟨t, c, rfl, _⟩ := h
    rfl
  · obtain ⟨t, c, rfl, hT, k⟩ := h
    have hrA_ : Room (1) _ := hr.mono (by first | decide | omega)
    have hrB_ : Room (4) _ := hr.mono (by first | decide | omega)
    have hrC_ : Room (2) _ := hr.mono (by first | decide | omega)
    refine ⟨_, (pss_cons (ps_set (i := 1) scPa.nd rfl (Or.inl rfl) (pe_callTy call_list_of (by rfl) T.list boot_list (pa_cons (pe_call GB_ hrB_ (by rfl) mB_ kB_ bB_ .nil pass0 (pa_cons (pv 0) (pa_cons (pe_lst (pa_cons pe_str (pa_cons pe_str pa_nil))) (pa_cons pe_int (pa_cons (pe_lst pa_nil) pa_nil))))) pa_nil)))
      (pss_cons (ps_set (i := 2) scPa.nd rfl (Or.inl rfl) (pe_call GC_ hrC_ (by rfl) mC_ kC_ bC_ .nil pass0 (pa_cons (pv 0) (pa_cons (pv 1) (pa_cons pe_int pa_nil)))))
      (pss_cons (ps_set (i := 3) scPa.nd rfl (Or.inl rfl) (pe_callTy call_list_of (by rfl) T.list boot_list (pa_cons (pe_call GB_ hrB_ (by rfl) mB_ kB_ bB_ .nil pass0 (pa_cons (pv 0) (pa_cons (pe_lst pa_nil) (pa_cons pe_int (pa_cons (pe_lc (own := [("_law_part", 4)]) (g := (gName 4)) (tt := tYes) (te := tePa K) (by rfl) scPa.nd (pi_list (pv 1)) (blkOk_by (own := [("_law_part", 4)]) (N := nPa) (sc := defScope sPa) (by decide +kernel)) (fun _ _ _ _ _ => (pg_name (i := 4) scPa.nd rfl (.inl rfl))) (fun _ _ _ _ _ => pts_nil) (fun _ _ _ _ _ => (pe_ix ix_tup (pv 4) pe_int (fun _ _ => rfl)))) pa_nil))))) pa_nil)))
      (Evl.pss_cut (ps_set (i := 5) scPa.nd rfl (Or.inl rfl) (pe_op op_cat (pv 2) (pv 3)))
      (pss_cons (ps_expr (pe_bm PySem.F.plainAttrs_list PySem.F.slot_list_insert PySem.F.type_list_insert mt_insert (pv 5) (pa_cons (pe_call GA_ hrA_ (by rfl) mA_ kA_ bA_ .nil pass0 (pa_cons (pv 0) (pa_cons (pe_callB call_len_seq (by rfl) T.len PySem.boot_len (pa_cons (pv 5) pa_nil)) pa_nil))) (pa_cons (pe_bm0 PySem.F.plainAttrs_list PySem.F.slot_list_pop PySem.F.type_list_pop mt_pop (pv 5)) pa_nil))))
      (Evl.pss_cut (ps_set (i := 6) scPa.nd rfl (Or.inr rfl) (pe_call GC_ hrC_ (by rfl) mC_ kC_ bC_ .nil pass0 (pa_cons (pv 0) (pa_cons (pe_lc (own := [("_law_part", 4)]) (g := (gName 4)) (tt := tYes) (te := tePa K) (by rfl) scPa.nd (pi_list (pv 2)) (blkOk_by (own := [("_law_part", 4)]) (N := nPa) (sc := defScope sPa) (by decide +kernel)) (fun _ _ _ _ _ => (pg_name (i := 4) scPa.nd rfl (.inl rfl))) (fun _ _ _ _ _ => pts_nil) (fun _ _ _ _ _ => (pe_ix ix_tup (pv 4) pe_int (fun _ _ => rfl)))) (pa_cons pe_int pa_nil)))))
      (Evl.pss_cut (ps_set (i := 6) scPa.nd rfl (Or.inr rfl) (pe_op op_cat (pv 6) (pe_lc (own := [("_law_part", 4)]) (g := (gName 4)) (tt := ttPa K) (te := tePa K) (by rfl) scPa.nd (pi_list (pv 2)) (blkOk_by (own := [("_law_part", 4)]) (N := nPa) (sc := defScope sPa) (by decide +kernel)) (fun _ _ _ _ _ => (pg_name (i := 4) scPa.nd rfl (.inl rfl))) (fun _ _ _ _ _ => (pts_one (pt_cmpR op_notIn_seq (pe_ix ix_tup (pv 4) pe_int (fun _ _ => rfl)) (pv 6) (by rfl)))) (fun _ _ _ _ _ => (pe_ix ix_tup (pv 4) pe_int (fun _ _ => rfl))))))
      (pss_one (ps_ret (pe_tup (pa_cons (pe_callTy call_tupleZ (by rfl) T.tuple boot_tuple (pa_cons (pv 1) pa_nil)) (pa_cons (pe_callTy call_tupleZ (by rfl) T.tuple boot_tuple (pa_cons (pv 5) pa_nil)) (pa_cons (pe_callTy call_tuple_of (by rfl) T.tuple boot_tuple (pa_cons (pv 6) pa_nil)) pa_nil))))))))))))), ?_⟩
    have two : 2 ≤ sizeLine := by decide
    have three : 3 ≤ sizeLine := by decide
    -- the left one's columns
    refine ⟨_, rfl, two, fun p1 hp1 => ?_⟩
    have z1 := Same.upd (o := .lst [.str "word", .str "number"]) hp1
    refine ⟨by show 0 ≤ sizeLine; decide, fun p2 hp2 => ?_⟩
    have z2 := Same.upd (o := .lst []) hp2
    have z12 := z1.trans z2
    refine ⟨t, c, p1, p2, 2, ["word", "number"], [], rfl, hT.same z12, .inr (z2 _ _ upd_same), .inr upd_same, by decide, by decide, by decide, by decide, fun k hk => by simp only [List.mem_cons, List.not_mem_nil, or_false] at hk; rcases hk with rfl | rfl; exact .inr (.inl rfl); exact .inl rfl, fun L0 xs ps H1 hL0 hc1 ho nd _ l1 l3 T1 S1 => ?_⟩
    have l8 : ps.length ≤ 8 := Nat.le_trans l3 (by decide)
    have l2 : 2 ≤ ps.length := l1
    have l4 : ps.length ≤ 4 := l3
    have cp : ColP ps := ⟨ho, nd, by omega, l8⟩
    have S01 := (Same.b t z12).trans S1
    have lx := hc1.len
    clear z1 z2 z12 hp1 hp2 S1 hT l1 l3
    refine ⟨L0, xs, rfl, .inr hL0.sq, fun O hO => ?_⟩
    have zO := Same.upd (o := .lst xs) hO
    have eO : L2.upd H1 O (.lst xs) O = some (.lst xs) := upd_same
    have nOt := T1.tape.ne hO
    have T2 := T1.same zO
    have S02 := S01.trans (Same.b t zO)
    have hc2 := hc1.t (SameT.of zO)
    generalize L2.upd H1 O (.lst xs) = H2 at eO T2 S02 hc2 ⊢
    clear T1 S01 hc1 zO hL0 hO
    -- the shared ones
    refine ⟨_, rfl, _, rfl, t, c, O, xs, 3, rfl, T2, eO, nOt, by omega, by decide, by decide, fun G gs rs H3 eG nG pp ne gl T3 S23 => ?_⟩
    have gl : (gs.length : Int) ≤ 3 := gl
    have nGt := T2.tape.ne nG
    have S03 := S02.trans S23
    have hc3 := hc2.b T2.tape S23
    have eO3 := S23 _ _ nOt eO
    obtain ⟨q0, hq0, pq0⟩ := hc3.perm pp.symm
    obtain ⟨sh, rest, rfl, hsh, _⟩ := hq0.split
    have lsh := hsh.len
    have gne : gs ≠ [] := ne fun z => by rw [z] at lx; change 0 = _ at lx; omega
    have sh1 : 1 ≤ sh.length := by
      have := List.length_pos_iff.mpr gne
      omega
    clear T2 S02 S23 hc2 eO nG pp ne hq0
    -- more ones
    refine ⟨_, rfl, by show 0 ≤ sizeLine; decide, fun p3 hp3 => ?_⟩
    have z3 := Same.upd (o := .lst []) hp3
    have e3 : L2.upd H3 p3 (.lst []) p3 = some (.lst []) := upd_same
    have T4 := T3.same z3
    have S04 := S03.trans (Same.b t z3)
    have hc4 := hc3.t (SameT.of z3)
    have hs4 := hsh.t (SameT.of z3)
    have eO4 := z3 _ _ eO3
    have eG4 := z3 _ _ eG
    generalize L2.upd H3 p3 (.lst []) = H4 at e3 T4 S04 hc4 hs4 eO4 eG4 ⊢
    clear z3 hp3 T3 S03 hc3 hsh eO3 eG
    refine ⟨_, rfl, O, rfl, ⟨_, SqL.of eO4⟩, fun W hW => lc_list (K := K) (a := O) (xs := xs) (fun i H' => H' W = some (.lst (vS ((nms ps).take i))) ∧ Same H4 H') ⟨upd_same, Same.upd hW⟩ (fun i H' _ pr => SqL.of (pr.2 _ _ eO4)) ?_ ?_⟩
    · rintro i x H5 hx ⟨hW1, s1⟩
      obtain ⟨b, z', k', rfl, eb, ep'⟩ := hc4.get _ _ hx
      refine ⟨rfl, ?_⟩
      dsimp only [tYes]
      refine iteT ?_
      change tePa K _ _ _
      exact ⟨_, rfl, b, _, _, .str z', rfl, rfl, SqT.of (s1 _ _ eb), at_of (j := 0) rfl rfl, nm_turn hW hW1 ep' l8 s1⟩
    rintro H5 ⟨hW1, s45⟩
    rw [show xs.length = (nms ps).length by rw [lx, List.length_map], List.take_length] at hW1
    have T5 := T4.same s45
    refine ⟨t, c, p3, W, 2, [], nms ps, rfl, T5, .inr (s45 _ _ e3), .inr hW1, by rw [List.length_map]; omega, by decide, by decide, by decide, nofun, fun L2' xs2 ps2 H6 hL2 hm6 ho2 nd2 dis _ l32 T6 S56 => ?_⟩
    have l32 : ps2.length ≤ 2 := l32
    have S46 := (Same.b t s45).trans S56
    have S06 := S04.trans S46
    have lm := hm6.len
    refine ⟨L2', xs2, rfl, .inr hL2.sq, fun M hM => ?_⟩
    have zM := Same.upd (o := .lst xs2) hM
    have eM : L2.upd H6 M (.lst xs2) M = some (.lst xs2) := upd_same
    have T7 := T6.same zM
    have S47 := S46.trans (Same.b t zM)
    have S07 := S06.trans (Same.b t zM)
    have hm7 := hm6.t (SameT.of zM)
    have hc7 := hc4.b T4.tape S47
    have hs7 := hs4.b T4.tape S47
    have eO7 := S47 _ _ nOt eO4
    have eG7 := S47 _ _ nGt eG4
    generalize L2.upd H6 M (.lst xs2) = H7 at eM T7 S07 hm7 hc7 hs7 eO7 eG7 ⊢
    clear zM hM S46 S47 S56 T6 T5 s45 hW1 hW hL2 hm6 S06 T4 S04 hc4 hs4 eO4 eG4 e3
    -- both
    refine ⟨fun σ H' => ∃ B : Addr, σ = [some (.ref t), some (.ref O), some (.ref G), some (.ref M), none, some (.ref B), none] ∧ H' B = some (.lst (gs ++ xs2)) ∧ H7 B = none ∧ Same H7 H', ?_, ?_⟩
    · exact ⟨_, rfl, _, rfl, G, M, _, _, rfl, rfl, eG7, eM, Nat.le_trans (show gs.length + xs2.length ≤ 10 by omega) (by decide), fun B hB => ⟨B, rfl, upd_same, hB, Same.upd hB⟩⟩
    rintro σ H8 ⟨B, rfl, eB, hB7, s78⟩
    have nBt := T7.tape.ne hB7
    have nBc : B ≠ c := by
      obtain ⟨yy, hcc⟩ := T7.list
      exact Ne.symm (ne_of_none hcc hB7)
    have gB : H B = none := S07.free T7.tape hB7
    have nOB : O ≠ B := ne_of_none eO7 hB7
    have nGB : G ≠ B := ne_of_none eG7 hB7
    have T8 := T7.same s78
    have S08 := S07.trans (Same.b t s78)
    have hm8 := hm7.t (SameT.of s78)
    have hc8 := hc7.t (SameT.of s78)
    have hs8 := hs7.t (SameT.of s78)
    have eO8 := s78 _ _ eO7
    have eG8 := s78 _ _ eG7
    clear T7 S07 hm7 hc7 hs7 eO7 eG7 s78 hB7 eM
    have lB : (gs ++ xs2).length = gs.length + xs2.length := List.length_append
    refine ⟨_, rfl, .inl ⟨rfl, _, SqL.of eB⟩, _, rfl, _, rfl, B, _, rfl, .inl (SqL.of eB), t, c, _, rfl, T8, by omega, big1000 (by omega) (by omega), fun d H9 d0 d1 T9 S89 => ?_⟩
    have eB9 := S89 _ _ nBt eB
    obtain ⟨y, hy⟩ : ∃ y, (gs ++ xs2)[(gs ++ xs2).length - 1]? = some y := ⟨_, List.getElem?_eq_getElem (by omega)⟩
    have pB := ins_perm hy d.toNat
    refine ⟨_, rfl, .inl ⟨rfl, _, SqL.of eB9⟩, B, _, y, rfl, rfl, eB9, hy, ?_⟩
    refine ⟨B, _, d, y, rfl, rfl, upd_same, lt_size (by rw [List.length_dropLast]; omega), d0, by omega, ?_⟩
    generalize (gs ++ xs2).dropLast.take d.toNat ++ [y] ++ (gs ++ xs2).dropLast.drop d.toNat = bs at pB ⊢
    have T10 := (T9.upd (o := .lst (gs ++ xs2).dropLast) nBt nBc).upd (o := .lst bs) nBt nBc
    have S10 : SameB t H (L2.upd (L2.upd H9 B (.lst (gs ++ xs2).dropLast)) B (.lst bs)) := fun b o n e => by
      have nb := ne_of_none e gB
      rw [upd_ne nb, upd_ne nb]
      exact (S08.trans S89) b o n e
    have st10 : SameT H9 (L2.upd (L2.upd H9 B (.lst (gs ++ xs2).dropLast)) B (.lst bs)) := fun b zs e => by
      have nb := ne_of e eB9 nofun
      rw [upd_ne nb, upd_ne nb]
      exact e
    have hm10 := (hm8.b T8.tape S89).t st10
    have hc10 := (hc8.b T8.tape S89).t st10
    have hs10 := (hs8.b T8.tape S89).t st10
    have eO10 : L2.upd (L2.upd H9 B (.lst (gs ++ xs2).dropLast)) B (.lst bs) O = some (.lst xs) := by
      rw [upd_ne nOB, upd_ne nOB]
      exact S89 _ _ nOt eO8
    have eG10 : L2.upd (L2.upd H9 B (.lst (gs ++ xs2).dropLast)) B (.lst bs) G = some (.lst gs) := by
      rw [upd_ne nGB, upd_ne nGB]
      exact S89 _ _ nGt eG8
    have eB10 : L2.upd (L2.upd H9 B (.lst (gs ++ xs2).dropLast)) B (.lst bs) B = some (.lst bs) := upd_same
    dsimp only
    generalize L2.upd (L2.upd H9 B (.lst (gs ++ xs2).dropLast)) B (.lst bs) = H10 at T10 S10 hm10 hc10 hs10 eO10 eG10 eB10 ⊢
    clear T9 T8 S08 S89 hm8 hc8 hs8 eO8 eG8 eB eB9 st10
    obtain ⟨qs, hqs, pqs⟩ := (hs10.app hm10).perm pB.symm
    -- the mathematics
    have shin : ∀ p ∈ sh, p ∈ ps := fun p hp => pq0.mem_iff.mpr (List.mem_append_left _ hp)
    have shnd : (nms sh).Nodup := by
      have := (pq0.map (·.1)).nodup_iff.mp nd
      rw [List.map_append, List.nodup_append] at this
      exact this.1
    have bnd : (nms (sh ++ ps2)).Nodup := by
      unfold nms
      rw [List.map_append, List.nodup_append]
      refine ⟨shnd, nd2, fun a ha b hb e => ?_⟩
      obtain ⟨p, hp, rfl⟩ := List.mem_map.mp ha
      obtain ⟨q, hq, rfl⟩ := List.mem_map.mp hb
      exact dis q hq (by rw [← e]; exact List.mem_map_of_mem (shin p hp))
    have cb : ColP (sh ++ ps2) := ⟨fun p hp => (List.mem_append.mp hp).elim (fun h => ho p (shin p h)) (ho2 p), bnd, by rw [List.length_append]; omega, by rw [List.length_append]; omega⟩
    have cq := cb.of_perm pqs
    have inq : ∀ k, k ∈ nms sh ↔ k ∈ nms qs ∧ k ∈ nms ps := fun k => by
      constructor
      · intro h
        obtain ⟨p, hp, rfl⟩ := List.mem_map.mp h
        exact ⟨List.mem_map_of_mem (f := (·.1)) (pqs.mem_iff.mp (List.mem_append_left _ hp)), List.mem_map_of_mem (f := (·.1)) (shin p hp)⟩
      · rintro ⟨h1, h2⟩
        obtain ⟨p, hp, rfl⟩ := List.mem_map.mp h1
        rcases List.mem_append.mp (pqs.mem_iff.mpr hp) with h | h
        · exact List.mem_map_of_mem (f := (·.1)) h
        · exact absurd h2 (dis p h)
    have kds : ∀ k ∈ nms sh, kdOf ps k = kdOf qs k := fun k h => by
      obtain ⟨p, hp, rfl⟩ := List.mem_map.mp h
      rw [kdOf_mem nd (shin p hp), kdOf_mem cq.nd (pqs.mem_iff.mp (List.mem_append_left _ hp))]
    have lf : (qs.filter fun p => decide (p.1 ∉ nms ps)).length ≤ 2 := by
      have e1 := (pqs.filter fun p => decide (p.1 ∉ nms ps)).length_eq
      rw [← e1, List.filter_append, List.length_append]
      have e2 : sh.filter (fun p => decide (p.1 ∉ nms ps)) = [] := List.filter_eq_nil_iff.mpr fun p hp => by
        rw [decide_eq_true_iff]
        exact fun h => h (List.mem_map_of_mem (f := (·.1)) (shin p hp))
      rw [e2]
      have := List.length_filter_le (fun p : Str × Str => decide (p.1 ∉ nms ps)) ps2
      show 0 + _ ≤ 2
      omega
    have lks : (nms sh).length ≤ 3 := by rw [List.length_map]; omega
    -- the names
    refine ⟨fun σ H' => ∃ (N : Addr) (gn rn : List Str), σ = [some (.ref t), some (.ref O), some (.ref G), some (.ref M), none, some (.ref B), some (.ref N)] ∧ H' N = some (.lst (vS gn)) ∧ N ≠ t ∧ (gn ++ rn).Perm (nms sh) ∧ TapeL c H' t ∧ SameB t H10 H', ?_, ?_⟩
    · refine ⟨_, rfl, _, rfl, G, rfl, ⟨_, SqL.of eG10⟩, fun W hW => lc_list (K := K) (a := G) (xs := gs) (fun i H' => H' W = some (.lst (vS ((nms sh).take i))) ∧ Same H10 H') ⟨upd_same, Same.upd hW⟩ (fun i H' _ pr => SqL.of (pr.2 _ _ eG10)) ?_ ?_⟩
      · rintro i x H5 hx ⟨hW1, s1⟩
        obtain ⟨b, z', k', rfl, eb, ep'⟩ := hs10.get _ _ hx
        refine ⟨rfl, ?_⟩
        dsimp only [tYes]
        refine iteT ?_
        change tePa K _ _ _
        exact ⟨_, rfl, b, _, _, .str z', rfl, rfl, SqT.of (s1 _ _ eb), at_of (j := 0) rfl rfl, nm_turn hW hW1 ep' (by omega) s1⟩
      rintro H11 ⟨hW1, s11⟩
      rw [show gs.length = (nms sh).length by rw [lsh, List.length_map], List.take_length] at hW1
      have T11 := T10.same s11
      have nWt := T10.tape.ne hW
      refine ⟨t, c, W, _, 3, rfl, T11, hW1, nWt, by rw [List.length_map]; omega, by decide, by decide, fun N gv rv H12 eN nN pv ne gl2 T12 S12 => ?_⟩
      obtain ⟨ms, e1, e2⟩ := vS_perm pv
      have e1 : gv ++ rv = ms.map V.str := e1
      obtain ⟨gn, rn, rfl, rfl, rfl⟩ : ∃ gn rn, ms = gn ++ rn ∧ gv = vS gn ∧ rv = vS rn := by
        obtain ⟨a, b, h1, h2, h3⟩ := List.map_eq_append_iff.mp e1.symm
        exact ⟨a, b, h1, h2.symm, h3.symm⟩
      exact ⟨N, gn, rn, rfl, eN, T11.tape.ne nN, e2, T12, (Same.b t s11).trans S12⟩
    rintro σ H11 ⟨N, gn, rn, rfl, eN, nNt, pn, T11, S1011⟩
    have S011 := S10.trans S1011
    have hm11 := hm10.b T10.tape S1011
    have hc11 := hc10.b T10.tape S1011
    have hs11 := hs10.b T10.tape S1011
    have hq11 := hqs.b T10.tape S1011
    have eO11 := S1011 _ _ nOt eO10
    have eG11 := S1011 _ _ nGt eG10
    have eB11 := S1011 _ _ nBt eB10
    clear T10 S10 S1011 hm10 hc10 hs10 hqs eO10 eG10 eB10
    have fl : (vS gn).all flatV = true := List.all_eq_true.mpr fun v hv => by
      obtain ⟨x, _, rfl⟩ := List.mem_map.mp hv
      rfl
    have ln := pn.length_eq
    rw [List.length_append] at ln
    refine ⟨fun σ H' => ∃ (N2 : Addr), σ = [some (.ref t), some (.ref O), some (.ref G), some (.ref M), none, some (.ref B), some (.ref N2)] ∧ H' N2 = some (.lst (vS (gn ++ (nms sh).filter fun x => decide (x ∉ gn)))) ∧ Same H11 H', ?_, ?_⟩
    · refine ⟨_, rfl, _, rfl, G, rfl, ⟨_, SqL.of eG11⟩, fun W hW => lc_list (K := K) (a := G) (xs := gs) (fun i H' => H' W = some (.lst (vS (((nms sh).take i).filter fun x => decide (x ∉ gn)))) ∧ Same H11 H') ⟨upd_same, Same.upd hW⟩ (fun i H' _ pr => SqL.of (pr.2 _ _ eG11)) ?_ ?_⟩
      · rintro i x H5 hx ⟨hW1, s1⟩
        obtain ⟨b, z', k', rfl, eb, ep'⟩ := hs11.get _ _ hx
        have en : (nms sh)[i]? = some z' := by rw [List.getElem?_map, ep']; rfl
        have lfi := List.length_filter_le (fun x => decide (x ∉ gn)) ((nms sh).take i)
        rw [List.length_take] at lfi
        refine ⟨rfl, ?_⟩
        change ttPa K _ _ _
        refine ⟨_, rfl, b, _, _, .str z', rfl, rfl, SqT.of (s1 _ _ eb), at_of (j := 0) rfl rfl, _, rfl, N, _, rfl, .inl (SqL.of (s1 _ _ eN)), rfl, fl, _, rfl, ?_⟩
        rw [if_pos rfl, in_strs, fil_take _ en]
        by_cases m : z' ∈ gn
        · rw [decide_eq_true m, show decide (z' ∉ gn) = false from decide_eq_false (fun h => h m), if_neg (by decide), List.append_nil]
          exact iteF ⟨hW1, s1⟩
        · rw [decide_eq_false m, show decide (z' ∉ gn) = true from decide_eq_true m, if_pos rfl]
          refine iteT ⟨_, rfl, b, _, _, .str z', rfl, rfl, SqT.of (s1 _ _ eb), at_of (j := 0) rfl rfl, _, hW1, lt_size (by rw [List.length_map]; omega), ?_, fun b o e => by rw [upd_ne (ne_of_none e hW)]; exact s1 b o e⟩
          rw [upd_same]
          unfold vS
          rw [List.map_append]
          rfl
      rintro H12 ⟨hW1, s12⟩
      rw [show gs.length = (nms sh).length by rw [lsh, List.length_map], List.take_length] at hW1
      have lfi := List.length_filter_le (fun x => decide (x ∉ gn)) (nms sh)
      refine ⟨N, W, _, _, rfl, rfl, s12 _ _ eN, hW1, Nat.le_trans (show (vS gn).length + (vS ((nms sh).filter fun x => decide (x ∉ gn))).length ≤ 10 by unfold vS; rw [List.length_map, List.length_map]; omega) (by decide), fun N2 hN2 => ⟨N2, rfl, ?_, s12.trans (Same.upd hN2)⟩⟩
      rw [upd_same]
      unfold vS
      rw [List.map_append]
    rintro σ H12 ⟨N2, rfl, eN2, s12⟩
    have T12 := T11.same s12
    have S012 := S011.trans (Same.b t s12)
    have hc12 := hc11.t (SameT.of s12)
    have hq12 := hq11.t (SameT.of s12)
    have eO12 := s12 _ _ eO11
    have eB12 := s12 _ _ eB11
    -- the end
    refine ⟨_, rfl, O, xs, rfl, SqL.of eO12, fun L ob hL1 d1 d2 => ?_⟩
    have zL := Same.upd (o := .frz ob (.tup xs)) hL1
    have cL : CA (L2.upd H12 L (.frz ob (.tup xs))) L ps := ⟨xs, ⟨ob, d1, d2, upd_same⟩, hc12.t (SameT.of zL)⟩
    have hq13 := hq12.t (SameT.of zL)
    have eB13 := zL _ _ eB12
    have eN13 := zL _ _ eN2
    generalize L2.upd H12 L (.frz ob (.tup xs)) = H13 at zL cL hq13 eB13 eN13 ⊢
    refine ⟨_, rfl, B, bs, rfl, SqL.of eB13, fun R ob2 hR1 f1 f2 => ?_⟩
    have zR := Same.upd (o := .frz ob2 (.tup bs)) hR1
    have cR : CA (L2.upd H13 R (.frz ob2 (.tup bs))) R qs := ⟨bs, ⟨ob2, f1, f2, upd_same⟩, hq13.t (SameT.of zR)⟩
    have cL14 := cL.same zR
    have eN14 := zR _ _ eN13
    generalize L2.upd H13 R (.frz ob2 (.tup bs)) = H14 at zR cR cL14 eN14 ⊢
    refine ⟨_, rfl, N2, _, rfl, .inl ⟨SqL.of eN14, fun q hq => ⟨three, fun r hr => ?_⟩⟩⟩
    have zq := Same.upd (o := .tup (vS (gn ++ (nms sh).filter fun x => decide (x ∉ gn)))) hq
    have zr := Same.upd (o := .tup [.ref L, .ref R, .ref q]) hr
    have zqr := zq.trans zr
    have zz := zL.trans (zR.trans zqr)
    have gnin : ∀ x ∈ gn, x ∈ nms sh := fun x hx => pn.mem_iff.mp (List.mem_append_left _ hx)
    have mem : ∀ k, k ∈ gn ++ (nms sh).filter (fun x => decide (x ∉ gn)) ↔ k ∈ nms sh := fun k => by
      rw [List.mem_append, List.mem_filter, decide_eq_true_iff]
      constructor
      · rintro (h | h)
        · exact gnin k h
        · exact h.1
      · intro h
        by_cases q : k ∈ gn
        · exact .inl q
        · exact .inr ⟨h, q⟩
    have gnd : gn.Nodup := (List.nodup_append.mp (pn.nodup_iff.mpr shnd)).1
    have knd : (gn ++ (nms sh).filter fun x => decide (x ∉ gn)).Nodup := by
      rw [List.nodup_append]
      refine ⟨gnd, shnd.filter _, fun a ha b hb e => ?_⟩
      have := (List.mem_filter.mp hb).2
      rw [decide_eq_true_iff] at this
      exact this (by rw [← e]; exact ha)
    have lk1 := knd.length_le_of_subset fun x hx => (mem x).mp hx
    have lk2 := shnd.length_le_of_subset fun x hx => (mem x).mpr hx
    exact k r L R q ps qs _ _ upd_same (cL14.same zqr) (cR.same zqr) (zr _ _ upd_same) cp cq l4 knd (by rw [List.length_map] at lk2; omega) (by omega) (fun x => (mem x).trans (inq x)) (fun x hx => kds x ((mem x).mp hx)) (by omega) (T12.same zz) (S012.trans (Same.b t zz))
end
end
end K19
set_option Elab.async false
set_option linter.all false
set_option maxRecDepth 100000
set_option maxHeartbeats 4000000
namespace K19
open PySem PySem.Spec PyProof.Rows L2 Lc
theorem cut_drop (ys : List V) : cutV ys (some 1) none = ys.drop 1 := by
  have e1 : HT.sIx ys.length ys.length none = ys.length := rfl
  have e2 : HT.sIx ys.length 0 (some 1) = min 1 ys.length := HT.sIx_nat _ _ 1
  unfold cutV
  rw [e1, e2]
  rcases Nat.le_total 1 ys.length with q | q
  · rw [Nat.min_eq_left q]
    exact List.take_of_length_le (by rw [List.length_drop]; exact Nat.le_refl _)
  · rw [Nat.min_eq_right q, List.drop_length, List.drop_eq_nil_of_le q]
    simp
theorem self_filter (ps : CsL) : (ps.filter fun p => decide (p.1 ∉ nms ps)) = [] := List.filter_eq_nil_iff.mpr fun p hp => by
  rw [decide_eq_true_iff]
  exact fun h => h (List.mem_map_of_mem (f := (·.1)) hp)
theorem vS_dh {H : Hp} : ∀ ns : List Str, DhAll H (vS ns) (ns.map PyData.str)
  | [] => .nil
  | z :: ns => .cons (.str z) (vS_dh ns)
theorem rowsF {t : Addr} {H : Hp} {rs : RowsL} (T : Tape H t) (ra : RowsAt H rs) (o : RowsOk rs) : RowsAt (dl t H) rs := fun r hr => by
  obtain ⟨_, _, _, _, _, q, _⟩ := T
  exact dh_dl ⟨_, q⟩ (ra r hr) (row_noL (o r hr).1)
def spLaw (K : PySem.W.Frag) : Sp := fun vs H Q _ => ∃ (a : Addr) (ns : List Int), vs = [.ref a] ∧ SqL K H a (ns.map V.int) ∧ ∀ H', Q (.bl true) H'
section
variable {P : Program} {w : World} {K : PySem.W.Frag} {mg : Str → Option Value} {base : Heap} {f : Addr} {fd : FuncData}
abbrev sLaw : Stmt := top 144
abbrev nLaw : List Str := ["_law_script", "_law_tape_here", "_law_left", "_law_right", "_law_names", "_law_many", "_law_rows_here", "_law_others", "_law_tables", "_law_before", "_law_columns_here", "_law_found", "_law_due_here", "_law_key", "_law_part"]
abbrev pLaw : List Str := ["_law_script"]
theorem scLaw : FnScope nLaw pLaw (defScope sLaw) := ⟨rfl, rfl, rfl, by decide +kernel, rfl, by decide +kernel, by decide +kernel⟩
section
variable {fA_ fB_ fC_ fD_ fE_ fF_ fG_ fH_ fI_ fJ_ : Addr} {fdA_ fdB_ fdC_ fdD_ fdE_ fdF_ fdG_ fdH_ fdI_ fdJ_ : FuncData}
theorem ok_Law (F : Fun K "law" "law" sLaw f fd) (T : Bt mg) {C : Addr} (M : TbM P w K mg base C)
    (GA_ : FnOk P w K mg base CX0 1 fA_ fdA_ ["_law_script"] (spTape K)) (mA_ : mg "_law_tape" = some (.ref fA_)) (kA_ : PySem.W.keepIn K (.ref fA_) = true) (bA_ : Binds K fdA_ ["_law_script"] [])
    (GB_ : FnOk P w K mg base CX0 5 fB_ fdB_ ["_law_tape_here"] (spPair)) (mB_ : mg "_law_pair" = some (.ref fB_)) (kB_ : PySem.W.keepIn K (.ref fB_) = true) (bB_ : Binds K fdB_ ["_law_tape_here"] [])
    (GC_ : FnOk P w K mg base CX0 1 fC_ fdC_ ["_law_tape_here", "_law_many"] (spDrawL)) (mC_ : mg "_law_draw" = some (.ref fC_)) (kC_ : PySem.W.keepIn K (.ref fC_) = true) (bC_ : Binds K fdC_ ["_law_tape_here", "_law_many"] [])
    (GD_ : FnOk P w K mg base CX0 2 fD_ fdD_ ["_law_tape_here", "_law_columns_here", "_law_rows_here", "_law_shared"] (spAlk)) (mD_ : mg "_law_alike_rows" = some (.ref fD_)) (kD_ : PySem.W.keepIn K (.ref fD_) = true) (bD_ : Binds K fdD_ ["_law_tape_here", "_law_columns_here", "_law_rows_here", "_law_shared"] [])
    (GE_ : FnOk P w K mg base CX0 5 fE_ fdE_ ["_law_tape_here", "_law_columns_here", "_law_many", "_law_wide"] (spRws)) (mE_ : mg "_law_rows" = some (.ref fE_)) (kE_ : PySem.W.keepIn K (.ref fE_) = true) (bE_ : Binds K fdE_ ["_law_tape_here", "_law_columns_here", "_law_many", "_law_wide"] [])
    (GF_ : FnOk P w K mg base CX0 2 fF_ fdF_ ["_law_tape_here", "_law_right", "_law_others", "_law_left", "_law_rows_here", "_law_names"] (spKyd)) (mF_ : mg "_law_keyed" = some (.ref fF_)) (kF_ : PySem.W.keepIn K (.ref fF_) = true) (bF_ : Binds K fdF_ ["_law_tape_here", "_law_right", "_law_others", "_law_left", "_law_rows_here", "_law_names"] [])
    (GG_ : FnOk P w K mg base CX0 2 fG_ fdG_ ["_law_left", "_law_rows_here", "_law_right", "_law_others", "_law_names"] (spJo)) (mG_ : mg "_law_joined" = some (.ref fG_)) (kG_ : PySem.W.keepIn K (.ref fG_) = true) (bG_ : Binds K fdG_ ["_law_left", "_law_rows_here", "_law_right", "_law_others", "_law_names"] [])
    (GH_ : FnOk P w K mg base CX0 19 fH_ fdH_ ["_law_tables", "_law_source", "_law_steps"] ((spRanS K C))) (mH_ : mg "_law_ran" = some (.ref fH_)) (kH_ : PySem.W.keepIn K (.ref fH_) = true) (bH_ : Binds K fdH_ ["_law_tables", "_law_source", "_law_steps"] [])
    (GI_ : FnOk P w K mg base CX0 1 fI_ fdI_ ["_law_columns_here", "_law_rows_here"] ((spDueS K))) (mI_ : mg "_law_due" = some (.ref fI_)) (kI_ : PySem.W.keepIn K (.ref fI_) = true) (bI_ : Binds K fdI_ ["_law_columns_here", "_law_rows_here"] [])
    (GJ_ : FnG P w K mg base 20 fJ_ fdJ_ ["_law_tape_here", "_law_columns_here", "_law_rows_here"] (spLg)) (mJ_ : mg "_law_large" = some (.ref fJ_)) (kJ_ : PySem.W.keepIn K (.ref fJ_) = true) (bJ_ : Binds K fdJ_ ["_law_tape_here", "_law_columns_here", "_law_rows_here"] []) : FnG P w K mg base 21 f fd pLaw (spLaw K) := by
  refine Lc.Fun.okG F scLaw (fun vs H Q E h => ?_) (fun cdv A outer s H vs Q E hg hr h => ?_)
  · obtain ⟨a0, ns, rfl, _⟩ := h
    rfl
  · obtain ⟨a0, ns, rfl, hS, k⟩ := h
    have hrA_ : Room (1) _ := hr.mono (by first | decide | omega)
    have hrB_ : Room (5) _ := hr.mono (by first | decide | omega)
    have hrC_ : Room (1) _ := hr.mono (by first | decide | omega)
    have hrD_ : Room (2) _ := hr.mono (by first | decide | omega)
    have hrE_ : Room (5) _ := hr.mono (by first | decide | omega)
    have hrF_ : Room (2) _ := hr.mono (by first | decide | omega)
    have hrG_ : Room (2) _ := hr.mono (by first | decide | omega)
    have hrH_ : Room (19) _ := hr.mono (by first | decide | omega)
    have hrI_ : Room (1) _ := hr.mono (by first | decide | omega)
    have hrJ_ : Room (20) _ := hr.mono (by first | decide | omega)
    obtain ⟨fI, fdI, GI, FI, bI⟩ := M.i
    obtain ⟨fC, fdC, hC, FC, bC⟩ := M.c
    obtain ⟨fR, fdR, hR, FR, bR⟩ := M.r
    have hr1 : Room 1 _ := hr.mono (by omega)
    have hr2 : Room (1 + 1) _ := hr.mono (by decide)
    refine ⟨_, (pss_cons (ps_set (i := 1) scLaw.nd rfl (Or.inl rfl) (pe_call GA_ hrA_ (by rfl) mA_ kA_ bA_ .nil pass0 (pa_cons (pv 0) pa_nil)))
      (pss_cons (ps_asg (pe_call GB_ hrB_ (by rfl) mB_ kB_ bB_ .nil pass0 (pa_cons (pv 1) pa_nil)) (pg_tup rfl (pgs_cons (pg_name (i := 2) scLaw.nd rfl (.inl rfl)) (pgs_cons (pg_name (i := 3) scLaw.nd rfl (.inl rfl)) (pgs_cons (pg_name (i := 4) scLaw.nd rfl (.inl rfl)) pgs_nil)))))
      (pss_cons (ps_set (i := 5) scLaw.nd rfl (Or.inl rfl) (pe_op op_add pe_int (pe_op op_mul pe_int (pe_callTy call_int1 (by rfl) T.int boot_int (pa_cons (pe_cmpR op_eq (pe_call GC_ hrC_ (by rfl) mC_ kC_ bC_ .nil pass0 (pa_cons (pv 1) (pa_cons pe_int pa_nil))) pe_int (nomark _)) pa_nil)))))
      (pss_cons (ps_set (i := 6) scLaw.nd rfl (Or.inl rfl) (pe_call GD_ hrD_ (by rfl) mD_ kD_ bD_ .nil pass0 (pa_cons (pv 1) (pa_cons (pv 2) (pa_cons (pe_call GE_ hrE_ (by rfl) mE_ kE_ bE_ .nil pass0 (pa_cons (pv 1) (pa_cons (pv 2) (pa_cons (pv 5) (pa_cons pe_bl pa_nil))))) (pa_cons (pv 4) pa_nil))))))
      (pss_cons (ps_set (i := 7) scLaw.nd rfl (Or.inl rfl) (pe_call GF_ hrF_ (by rfl) mF_ kF_ bF_ .nil pass0 (pa_cons (pv 1) (pa_cons (pv 3) (pa_cons (pe_call GE_ hrE_ (by rfl) mE_ kE_ bE_ .nil pass0 (pa_cons (pv 1) (pa_cons (pv 3) (pa_cons (pv 5) (pa_cons pe_bl pa_nil))))) (pa_cons (pv 2) (pa_cons (pv 6) (pa_cons (pv 4) pa_nil))))))))
      (pss_cons (ps_set (i := 7) scLaw.nd rfl (Or.inl rfl) (pe_call GD_ hrD_ (by rfl) mD_ kD_ bD_ .nil pass0 (pa_cons (pv 1) (pa_cons (pv 3) (pa_cons (pv 7) (pa_cons (pv 4) pa_nil))))))
      (pss_cons (ps_set (i := 8) scLaw.nd rfl (Or.inl rfl) (pe_disp (pps_cons pe_str (pe_make GI.mkC FI hr2 (by rfl) GI.gC bI .nil pass0 (pa_cons (pv 2) (pa_cons (pe_callTy call_tuple_of (by rfl) T.tuple boot_tuple (pa_cons (pv 6) pa_nil)) pa_nil))) (pps_cons pe_str (pe_make GI.mkC FI hr2 (by rfl) GI.gC bI .nil pass0 (pa_cons (pv 3) (pa_cons (pe_callTy call_tuple_of (by rfl) T.tuple boot_tuple (pa_cons (pv 7) pa_nil)) pa_nil))) pps_nil)) (by rfl) (by rfl) (by decide) (by decide)))
      (Evl.pss_cut (ps_set (i := 9) scLaw.nd rfl (Or.inl rfl) (pe_callB (call_reprV hg hr.units) (by rfl) T.repr boot_repr (pa_cons (pe_lst (pa_cons (pv 2) (pa_cons (pv 6) (pa_cons (pv 3) (pa_cons (pv 7) pa_nil))))) pa_nil)))
      (Evl.pss_cut (ps_asg (pe_call GG_ hrG_ (by rfl) mG_ kG_ bG_ .nil pass0 (pa_cons (pv 2) (pa_cons (pv 6) (pa_cons (pv 3) (pa_cons (pv 7) (pa_cons (pv 4) pa_nil)))))) (pg_tup rfl (pgs_cons (pg_name (i := 10) scLaw.nd rfl (.inl rfl)) (pgs_cons (pg_name (i := 11) scLaw.nd rfl (.inl rfl)) pgs_nil))))
      (Evl.pss_cut (ps_if (pt_cmpR op_ne (pe_callB (call_reprV hg hr.units) (by rfl) T.repr boot_repr (pa_cons (pe_call GH_ hrH_ (by rfl) mH_ kH_ bH_ .nil pass0 (pa_cons (pv 8) (pa_cons pe_str (pa_cons (pe_tup (pa_cons (pe_tup (pa_cons pe_str (pa_cons pe_str (pa_cons (pv 4) pa_nil)))) pa_nil)) pa_nil)))) pa_nil)) (pe_callB (call_reprV hg hr.units) (by rfl) T.repr boot_repr (pa_cons (pe_call GI_ hrI_ (by rfl) mI_ kI_ bI_ .nil pass0 (pa_cons (pv 10) (pa_cons (pv 11) pa_nil))) pa_nil)) (nomark _)) (pss_one (ps_ret pe_bl)) pss_nil)
      (Evl.pss_cut (ps_set (i := 12) scLaw.nd rfl (Or.inl rfl) (pe_call GI_ hrI_ (by rfl) mI_ kI_ bI_ .nil pass0 (pa_cons (pv 10) (pa_cons (pe_op op_cat (pe_slice sl_list (pv 11) po_none (po_some pe_int)) (pe_op op_rep (pe_slice sl_list (pv 11) (po_some pe_int) po_none) (pe_callTy call_int1 (by rfl) T.int boot_int (pa_cons (pe_cmpR op_gt (pe_callB call_len_seq (by rfl) T.len PySem.boot_len (pa_cons (pv 11) pa_nil)) pe_int (nomark _)) pa_nil)))) pa_nil))))
      (Evl.pss_cut (ps_if (pt_cmpR op_ne (pe_callB (call_reprV hg hr.units) (by rfl) T.repr boot_repr (pa_cons (pe_call GH_ hrH_ (by rfl) mH_ kH_ bH_ .nil pass0 (pa_cons (pv 8) (pa_cons pe_str (pa_cons (pe_tup (pa_cons (pe_tup (pa_cons pe_str (pa_cons pe_str (pa_cons (pv 4) pa_nil)))) (pa_cons (pe_tup (pa_cons pe_str (pa_cons pe_int pa_nil))) pa_nil))) pa_nil)))) pa_nil)) (pe_callB (call_reprV hg hr.units) (by rfl) T.repr boot_repr (pa_cons (pv 12) pa_nil)) (nomark _)) (pss_one (ps_ret pe_bl)) pss_nil)
      (Evl.pss_cut (ps_if (pt_cmpR op_ne (pe_callB (call_reprV hg hr.units) (by rfl) T.repr boot_repr (pa_cons (pe_call GH_ hrH_ (by rfl) mH_ kH_ bH_ .nil pass0 (pa_cons (pv 8) (pa_cons pe_str (pa_cons (pe_tup (pa_cons (pe_tup (pa_cons pe_str (pa_cons pe_str pa_nil))) (pa_cons (pe_tup (pa_cons pe_str (pa_cons pe_str pa_nil))) pa_nil))) pa_nil)))) pa_nil)) (pe_callB (call_reprV hg hr.units) (by rfl) T.repr boot_repr (pa_cons (pe_tup (pa_cons pe_str (pa_cons (pv 2) (pa_cons (pe_op op_rep (pv 6) pe_int) pa_nil)))) pa_nil)) (nomark _)) (pss_one (ps_ret pe_bl)) pss_nil)
      (Evl.pss_cut (ps_set (i := 13) scLaw.nd rfl (Or.inl rfl) (pe_callTy call_tuple_of (by rfl) T.tuple boot_tuple (pa_cons (pe_slice sl_list (pe_lc (own := [("_law_part", 14)]) (g := (gName 14)) (tt := tYes) (te := (tOp (rIxT K) (tVar 14) (tC (.int 0)))) (by rfl) scLaw.nd (pi_tup (pv 2)) (blkOk_by (own := [("_law_part", 14)]) (N := nLaw) (sc := defScope sLaw) (by decide +kernel)) (fun _ _ _ _ _ => (pg_name (i := 14) scLaw.nd rfl (.inl rfl))) (fun _ _ _ _ _ => pts_nil) (fun _ _ _ _ _ => (pe_ix ix_tup (pv 14) pe_int (fun _ _ => rfl)))) po_none (po_some pe_int)) pa_nil)))
      (Evl.pss_cut (ps_if (pt_cmpR op_le (pe_callB call_len_seq (by rfl) T.len PySem.boot_len (pa_cons (pv 2) pa_nil)) pe_int (nomark _)) (Evl.pss_cut (ps_set (i := 12) scLaw.nd rfl (Or.inl rfl) (pe_call GG_ hrG_ (by rfl) mG_ kG_ bG_ .nil pass0 (pa_cons (pv 2) (pa_cons (pv 6) (pa_cons (pv 2) (pa_cons (pv 6) (pa_cons (pv 13) pa_nil)))))))
      (pss_one (ps_if (pt_cmpR op_ne (pe_callB (call_reprV hg hr.units) (by rfl) T.repr boot_repr (pa_cons (pe_call GH_ hrH_ (by rfl) mH_ kH_ bH_ .nil pass0 (pa_cons (pv 8) (pa_cons pe_str (pa_cons (pe_tup (pa_cons (pe_tup (pa_cons pe_str (pa_cons pe_str (pa_cons (pv 13) pa_nil)))) pa_nil)) pa_nil)))) pa_nil)) (pe_callB (call_reprV hg hr.units) (by rfl) T.repr boot_repr (pa_cons (pe_call GI_ hrI_ (by rfl) mI_ kI_ bI_ .nil pass0 (pa_cons (pe_ix ix_tup (pv 12) pe_int (fun _ _ => rfl)) (pa_cons (pe_ix ix_tup (pv 12) pe_int (fun _ _ => rfl)) pa_nil))) pa_nil)) (nomark _)) (pss_one (ps_ret pe_bl)) pss_nil))) pss_nil)
      (Evl.pss_cut (ps_if (PW.pt (pw_and (pt_truth (pv 6) (fun _ => rfl)) (pw_and1 (pt_not (pt_val (pe_callG GJ_ hg hrJ_ (by rfl) mJ_ kJ_ bJ_ (pa_cons (pv 1) (pa_cons (pv 2) (pa_cons (pv 6) pa_nil))))))))) (pss_one (ps_ret pe_bl)) pss_nil)
      (pss_one (ps_ret (pe_cmpR op_eq (pe_callB (call_reprV hg hr.units) (by rfl) T.repr boot_repr (pa_cons (pe_lst (pa_cons (pe_meth0 (pe_dget (hu_of hr) (pv 8) pe_str (fun _ _ => rfl)) GI.cls hC FC hr1 bC .nil pass0) (pa_cons (pe_meth0 (pe_dget (hu_of hr) (pv 8) pe_str (fun _ _ => rfl)) GI.cls hR FR hr1 bR .nil pass0) (pa_cons (pe_meth0 (pe_dget (hu_of hr) (pv 8) pe_str (fun _ _ => rfl)) GI.cls hC FC hr1 bC .nil pass0) (pa_cons (pe_meth0 (pe_dget (hu_of hr) (pv 8) pe_str (fun _ _ => rfl)) GI.cls hR FR hr1 bR .nil pass0) pa_nil))))) pa_nil)) (pv 9) (nomark _)))))))))))))))))))), ?_⟩
    have two : 2 ≤ sizeLine := by decide
    have one : 1 ≤ sizeLine := by decide
    have three : 3 ≤ sizeLine := by decide
    have four : 4 ≤ sizeLine := by decide
    have S24 : sizeLine = 2 ^ 24 := rfl
    refine ⟨_, rfl, a0, ns, rfl, hS, fun t H0 s0 ht hT1 => ?_⟩
    obtain ⟨c, hT1⟩ := hT1
    have hT1 : TapeL c H0 t := hT1
    refine ⟨_, rfl, t, c, rfl, hT1, fun pr L Rc N ps cs ks H1 epr cL1 cR1 eN1 cp cq l4 knd k1 k3 hks hkd l8 T1 _ => ?_⟩
    refine ⟨pr, _, rfl, SqT.of epr, rfl, _, _, rfl, _, _, rfl, _, _, rfl, rfl, ?_⟩
    dsimp only [gNil]
    clear hT1 s0 ht hS epr
    -- how many
    refine ⟨_, rfl, t, c, _, rfl, T1, by decide, big1000 (by decide) (by decide), fun j H2 j0 j1 T2 S12 => ⟨rfl, ?_⟩⟩
    generalize decide (V.int j = V.int 2) = b
    refine .inr ⟨b, rfl, _, _, rfl, rfl, (by cases b <;> exact .inl ⟨by decide, by decide⟩), _, _, rfl, rfl, ?_⟩
    obtain ⟨m, hm, m0, m35⟩ : ∃ m : Int, (8 + 27 * (if b = true then 1 else 0) : Int) = m ∧ 0 ≤ m ∧ m ≤ 35 := ⟨_, rfl, by cases b <;> decide, by cases b <;> decide⟩
    rw [show ((fun i j => V.int (i + j)) (8 : Int) (27 * (if b = true then 1 else 0))) = V.int m from congrArg V.int hm]
    have cL2 := cL1.b T1.tape S12
    have cR2 := cR1.b T1.tape S12
    have eN2 := SameT.b T1.tape S12 _ _ eN1
    clear hm j0 j1
    -- the rows of the left one
    refine ⟨_, rfl, _, rfl, _, rfl, _, rfl, _, rfl, t, c, L, ps, m, false, rfl, T2, cL2, cp, m0, by omega, fun R0 rs0 H3 eR0 nR0 ra0 rw0 lr0 T3 S3 => ?_⟩
    have cL3 := cL2.b T2.tape S3
    have cR3 := cR2.b T2.tape S3
    have eN3 := SameT.b T2.tape S3 _ _ eN2
    refine ⟨_, rfl, t, c, L, R0, N, ps, rs0, ks, rfl, T3, cL3, cp, eR0, nR0, ra0, rw0, by omega, eN3, fun A rs H4 eA nA raA rwA lrA T4 S4 => ?_⟩
    have nAt := T3.tape.ne nA
    have cL4 := cL3.b T3.tape S4
    have cR4 := cR3.b T3.tape S4
    have eN4 := SameT.b T3.tape S4 _ _ eN3
    have lrs : rs.length ≤ 35 := by omega
    clear cL1 cR1 eN1 T1 S12 cL2 cR2 eN2 T2 S3 cL3 cR3 eN3 T3 S4 eR0 ra0 rw0 nA
    -- the rows of the other one
    refine ⟨_, rfl, _, rfl, _, rfl, _, rfl, _, rfl, t, c, Rc, cs, m, false, rfl, T4, cR4, cq, m0, by omega, fun O0 os0 H5 eO0 nO0 rao0 rwo0 lo0 T5 S5 => ?_⟩
    have cL5 := cL4.b T4.tape S5
    have cR5 := cR4.b T4.tape S5
    have eN5 := SameT.b T4.tape S5 _ _ eN4
    have eA5 := S5 _ _ nAt eA
    have raA5 := ra_b raA S5
    refine ⟨_, rfl, _, rfl, _, rfl, t, c, Rc, O0, L, A, N, cs, os0, ps, rs, ks, rfl, T5, cR5, cq, eO0, nO0, rao0, rwo0, by omega, cL5, cp, eA5, nAt, raA5, rwA, by omega, eN5, fun n hn => ⟨((hks n).mp hn).2, hkd n hn⟩, fun O1 os1 H6 eO1 nO1 rao1 rwo1 lo1 T6 S6 => ?_⟩
    have nO1t := T5.tape.ne nO1
    have cL6 := cL5.b T5.tape S6
    have cR6 := cR5.b T5.tape S6
    have eN6 := SameT.b T5.tape S6 _ _ eN5
    have eA6 := S6 _ _ nAt eA5
    have raA6 := ra_b raA5 S6
    refine ⟨_, rfl, _, rfl, _, rfl, _, rfl, t, c, Rc, O1, N, cs, os1, ks, rfl, T6, cR6, cq, eO1, nO1t, rao1, rwo1, by omega, eN6, fun O os H7 eO nO raO rwO lO T7 S7 => ?_⟩
    have nOt := T6.tape.ne nO
    have cL7 := cL6.b T6.tape S7
    have cR7 := cR6.b T6.tape S7
    have eN7 := SameT.b T6.tape S7 _ _ eN6
    have eA7 := S7 _ _ nAt eA6
    have raA7 : RowsAt H7 rs := RowsAt.same (ra_b raA6 S7) dl_here
    have raO7 : RowsAt H7 os := RowsAt.same raO dl_here
    have los : os.length ≤ 35 := by omega
    have okA : RowsOk rs := rwA.ok
    have okO : RowsOk os := rwO.ok
    clear cL4 cR4 eN4 T4 S5 cL5 cR5 eN5 eA5 raA5 T5 S6 cL6 cR6 eN6 eA6 raA6 T6 S7 eO0 rao0 rwo0 eO1 rao1 rwo1 nO1 nO nO1t eA raA raO lr0 lrA lo0 lo1 lO
    -- the tables
    refine seq_asg (tabs2 (i1 := 2) (j1 := 6) (i2 := 3) (j2 := 7) rfl rfl rfl rfl eA7 raA7 okA eO raO7 okO fun D a1 a2 H8 s78 hD eD hI1 hI2 => ?_)
    have cL8 := cL7.same s78
    have cR8 := cR7.same s78
    have eN8 := s78 _ _ eN7
    have eA8 := s78 _ _ eA7
    have eO8 := s78 _ _ eO
    have raA8 : RowsAt H8 rs := RowsAt.same raA7 s78
    have raO8 : RowsAt H8 os := RowsAt.same raO7 s78
    have T8 := T7.same s78
    clear cL7 cR7 eN7 eA7 eO raA7 raO7 T7 s78 hD
    let tbs : TbL := [("b", ps, rs), ("a", cs, os)]
    have hTb : TbsAt C H8 [((Sum.inr "b" : Key), .ref a1), ((Sum.inr "a" : Key), .ref a2)] tbs := .cons hI1 cL8 cp rwA (by omega) (.cons hI2 cR8 cq rwO (by omega) .nil)
    have wT : WtP tbs := two_wt cp cq
    have memb : (("b" : Str), ps, rs) ∈ tbs := List.mem_cons_self
    have mema : (("a" : Str), cs, os) ∈ tbs := List.mem_cons_of_mem _ List.mem_cons_self
    have memO : ∀ {x : Str × CsL × RowsL}, x ∈ tbs → (x.1, x.2.1) ∈ osOf tbs := fun h => List.mem_map_of_mem (f := fun t : Str × CsL × RowsL => (t.1, t.2.1)) h
    have lead : Lead (osOf tbs) ps (.join "a" ks) (ps ++ cs.filter fun p => decide (p.1 ∉ nms ps)) := .join (memO mema) knd k1 k3 hks hkd l8
    have cJ := lead.go cp (fun o ho => (wT.os.ok o ho).2.2)
    have wJ := lead.rows cp rwA hTb.w wT.nd
    have eJ : stepB tbs ps (.join "a" ks) (rs.map (·.2)) = joinL (jx ps ks) (jx cs ks) (adJ cs ks) (os.map (·.2)) (rs.map (·.2)) := by
      show joinL _ (jx (colsOf tbs "a") ks) (adJ (colsOf tbs "a") ks) (rowsOf tbs "a") _ = _
      rw [colsOf_at wT.nd mema, rowsOf_at wT.nd mema]
    have rn1 := runs_one (ds := rs.map (·.2)) lead trivial rfl
    have rn2 := runs_first (ds := rs.map (·.2)) lead trivial rfl (n := 1) (by decide)
    rw [eJ] at wJ rn1 rn2
    have sq : ∀ {n k : Nat}, n ≤ 35 → k ≤ 35 → n * k ≤ 1225 := fun h1 h2 => Nat.mul_le_mul h1 h2
    have hoo : ∀ {es : List RowD}, es.length ≤ 1225 → ∀ n, oOf es = some n → n ≤ 100000 := fun h n e => by
      unfold oOf at e
      split at e
      · cases e
      · have := Option.some.inj e
        omega
    have fal : ∀ {σ : L2.St} {D : Ends} {H' : Hp}, True := trivial
    -- before
    refine ⟨fun σ H' => σ = [some (.ref a0), some (.ref t), some (.ref L), some (.ref Rc), some (.ref N), some (.int m), some (.ref A), some (.ref O), some (.ref D), some (.str (befD ps rs cs os).shown), none, none, none, none, none] ∧ Same H8 H', ?_, ?_⟩
    · refine ⟨_, rfl, _, rfl, _, rfl, _, rfl, four, fun M hM => ?_⟩
      have zM := Same.upd (o := .lst [.ref L, .ref A, .ref Rc, .ref O]) hM
      exact ⟨.ref M, _, rfl, bef_shw cp (cL8.same zM) (zM _ _ eA8) (RowsAt.same raA8 zM) rwA (by omega) cq (cR8.same zM) (zM _ _ eO8) (RowsAt.same raO8 zM) rwO (by omega) upd_same, rfl, zM⟩
    rintro σ H9 ⟨rfl, s89⟩
    -- the law's join
    refine ⟨fun σ H' => ∃ (Cc F : Addr) (fs : RowsL), σ = [some (.ref a0), some (.ref t), some (.ref L), some (.ref Rc), some (.ref N), some (.int m), some (.ref A), some (.ref O), some (.ref D), some (.str (befD ps rs cs os).shown), some (.ref Cc), some (.ref F), none, none, none] ∧ CA H' Cc (ps ++ cs.filter fun p => decide (p.1 ∉ nms ps)) ∧ H' F = some (.lst (fs.map (·.1))) ∧ RowsAt H' fs ∧ fs.map (·.2) = joinL (jx ps ks) (jx cs ks) (adJ cs ks) (os.map (·.2)) (rs.map (·.2)) ∧ fs.length ≤ 1225 ∧ Same H8 H', ?_, ?_⟩
    · refine ⟨_, rfl, _, rfl, _, rfl, _, rfl, _, rfl, L, A, Rc, O, N, ps, rs, cs, os, ks, rfl, cL8.same s89, cp, s89 _ _ eA8, RowsAt.same raA8 s89, rwA, by omega, cR8.same s89, cq, s89 _ _ eO8, RowsAt.same raO8 s89, rwO, by omega, s89 _ _ eN8, k3, hks, l8, fun r Cc F fs H' s' er ca _ eF raF emF lF => ?_⟩
      refine ⟨r, _, rfl, SqT.of er, rfl, _, _, rfl, _, _, rfl, rfl, ?_⟩
      dsimp only [gNil]
      exact ⟨Cc, F, fs, rfl, ca, eF, raF, emF, Nat.le_trans lF (sq lrs los), s89.trans s'⟩
    rintro σ H10 ⟨Cc, F, fs, rfl, cC, eF, raF, emF, lF, s8⟩
    rw [← emF] at wJ rn1 rn2
    have lE : (fs.map (·.2)).length ≤ 1225 := by rw [List.length_map]; exact lF
    -- join
    refine ⟨fun σ H' => σ = [some (.ref a0), some (.ref t), some (.ref L), some (.ref Rc), some (.ref N), some (.int m), some (.ref A), some (.ref O), some (.ref D), some (.str (befD ps rs cs os).shown), some (.ref Cc), some (.ref F), none, none, none] ∧ Same H10 H', ?_, ?_⟩
    · refine ⟨_, rfl, _, rfl, three, fun q1 hq1 => ⟨one, fun s1 hs1 => ?_⟩⟩
      have zq := Same.upd (o := .tup [.str "join", .str "a", .ref N]) hq1
      have zs := Same.upd (o := .tup [.ref q1]) hs1
      have eq1 := zs _ _ (show L2.upd H10 q1 (.tup [.str "join", .str "a", .ref N]) q1 = some (.tup [.str "join", .str "a", .ref N]) from upd_same)
      have es1 : L2.upd (L2.upd H10 q1 (.tup [.str "join", .str "a", .ref N])) s1 (.tup [.ref q1]) s1 = some (.tup [.ref q1]) := upd_same
      have z78 := zq.trans zs
      generalize L2.upd (L2.upd H10 q1 (.tup [.str "join", .str "a", .ref N])) s1 (.tup [.ref q1]) = H11 at eq1 es1 z78 ⊢
      have s68 := s8.trans z78
      refine ⟨D, s1, "b", _, tbs, _, ps, _, _, _, [.ref q1], [.join "a" ks], rfl, s68 _ _ eD, hTb.same s68, wT, memb, es1, .cons (.tup eq1 (.cons (.str _) (.cons (.str _) (.cons (.tup (s68 _ _ eN8) (vS_dh ks)) .nil)))) .nil, rn1, by show 1 ≤ 10; decide, hoo lE, fun rr H12 s12 shr => ?_⟩
      have s1012 := z78.trans s12
      refine ⟨.ref rr, _, rfl, shr H12 (Same.refl _), _, rfl, _, rfl, Cc, F, _, fs, rfl, cC.same s1012, cJ, s1012 _ _ eF, RowsAt.same raF s1012, wJ, by omega, fun rd H13 s13 shd => ?_⟩
      refine ⟨.ref rd, _, rfl, shd H13 (Same.refl _), rfl, _, rfl, ?_⟩
      rw [decide_eq_true rfl]
      exact iteF ⟨rfl, s1012.trans s13⟩
    rintro σ H11 ⟨rfl, s1011⟩
    replace s8 := s8.trans s1011
    replace cC := cC.same s1011
    replace eF := s1011 _ _ eF
    replace raF : RowsAt H11 fs := RowsAt.same raF s1011
    -- the first of it
    refine ⟨fun σ H' => ∃ rd : Addr, σ = [some (.ref a0), some (.ref t), some (.ref L), some (.ref Rc), some (.ref N), some (.int m), some (.ref A), some (.ref O), some (.ref D), some (.str (befD ps rs cs os).shown), some (.ref Cc), some (.ref F), some (.ref rd), none, none] ∧ (∀ H'', Same H' H'' → Shw K H'' (.ref rd) (outZ (ps ++ cs.filter fun p => decide (p.1 ∉ nms ps)) ((fs.map (·.2)).take 1) (oOf (fs.map (·.2))))) ∧ Same H11 H', ?_, ?_⟩
    · refine ⟨_, rfl, _, rfl, 1, rfl, F, _, rfl, SqL.of eF, fun x1 hx1 => ?_⟩
      have y1 := Same.upd (o := .lst (cutV (fs.map (·.1)) none (some 1))) hx1
      have f1 : L2.upd H11 x1 (.lst (cutV (fs.map (·.1)) none (some 1))) x1 = some (.lst ((fs.map (·.1)).take 1)) := by rw [upd_same, cut_take _ (by decide)]; rfl
      generalize L2.upd H11 x1 (.lst (cutV (fs.map (·.1)) none (some 1))) = J1 at y1 f1 ⊢
      refine ⟨_, rfl, 1, rfl, F, _, rfl, SqL.of (y1 _ _ eF), fun x2 hx2 => ?_⟩
      have y2 := Same.upd (o := .lst (cutV (fs.map (·.1)) (some 1) none)) hx2
      have f2 : L2.upd J1 x2 (.lst (cutV (fs.map (·.1)) (some 1) none)) x2 = some (.lst ((fs.map (·.1)).drop 1)) := by rw [upd_same, cut_drop]
      generalize L2.upd J1 x2 (.lst (cutV (fs.map (·.1)) (some 1) none)) = J2 at y2 f2 ⊢
      refine ⟨_, rfl, F, _, rfl, .inl (SqL.of ((y1.trans y2) _ _ eF)), _, _, rfl, rfl, .inr ⟨_, rfl, ?_⟩⟩
      rw [List.length_map]
      have kk : ∃ k : Nat, ((if decide ((1000 : Int) < (fs.length : Nat)) = true then 1 else 0 : Int)).toNat = k ∧ k ≤ 1 ∧ (fs.length ≤ 1000 → k = 0) ∧ (1000 < fs.length → k = 1) := by
        by_cases q : fs.length ≤ 1000
        · rw [decide_eq_false (show ¬ (1000 : Int) < (fs.length : Nat) by omega)]
          exact ⟨0, rfl, by decide, fun _ => rfl, fun h => absurd h (by omega)⟩
        · rw [decide_eq_true (show (1000 : Int) < (fs.length : Nat) by omega)]
          exact ⟨1, rfl, by decide, fun h => absurd h q, fun _ => rfl⟩
      have kb : (-(2 ^ 63) : Int) ≤ (if decide ((1000 : Int) < (fs.length : Nat)) = true then 1 else 0) ∧ ((if decide ((1000 : Int) < (fs.length : Nat)) = true then 1 else 0) : Int) < 2 ^ 63 := by split <;> decide
      obtain ⟨kq, hk, hk1, hk2, hk3⟩ := kk
      have l2 : ((fs.map (·.1)).drop 1).length ≤ 1225 := by rw [List.length_drop, List.length_map]; omega
      have lk := Nat.mul_le_mul l2 hk1
      refine ⟨x2, _, _, rfl, rfl, f2, kb.1, kb.2, by rw [hk, S24]; omega, fun x3 hx3 => ?_⟩
      rw [hk]
      have y3 := Same.upd (o := .lst (List.replicate kq ((fs.map (·.1)).drop 1)).flatten) hx3
      have f3 : L2.upd J2 x3 (.lst (List.replicate kq ((fs.map (·.1)).drop 1)).flatten) x3 = some (.lst (List.replicate kq ((fs.map (·.1)).drop 1)).flatten) := upd_same
      generalize L2.upd J2 x3 (.lst (List.replicate kq ((fs.map (·.1)).drop 1)).flatten) = J3 at y3 f3 ⊢
      have lfl : (List.replicate kq ((fs.map (·.1)).drop 1)).flatten.length ≤ 1225 := by
        rw [PyProof.Rows.lm_len_rep_flat, Nat.mul_comm]
        exact Nat.le_trans lk (by decide)
      refine ⟨x1, x3, _, _, rfl, rfl, (y2.trans y3) _ _ f1, f3, by rw [List.length_take, S24]; omega, fun x4 hx4 => ?_⟩
      let gs : RowsL := if fs.length ≤ 1000 then fs.take 1 else fs
      have eg : (fs.map (·.1)).take 1 ++ (List.replicate kq ((fs.map (·.1)).drop 1)).flatten = gs.map (·.1) := by
        show _ = (if fs.length ≤ 1000 then fs.take 1 else fs).map (·.1)
        by_cases q : fs.length ≤ 1000
        · rw [hk2 q, if_pos q, List.map_take]
          simp
        · rw [hk3 (by omega), if_neg q]
          show _ ++ [(fs.map (·.1)).drop 1].flatten = _
          rw [List.flatten_cons, List.flatten_nil, List.append_nil, List.take_append_drop]
      rw [eg]
      have y4 := Same.upd (o := .lst (gs.map (·.1))) hx4
      have yy := y1.trans (y2.trans (y3.trans y4))
      have gin : ∀ q ∈ gs, q ∈ fs := fun q hq => by
        have hq : q ∈ (if fs.length ≤ 1000 then fs.take 1 else fs) := hq
        split at hq
        · exact List.mem_of_mem_take hq
        · exact hq
      have lg : gs.length ≤ 1225 := by
        show (if fs.length ≤ 1000 then fs.take 1 else fs).length ≤ 1225
        split
        · rw [List.length_take]; omega
        · exact lF
      refine ⟨Cc, x4, _, gs, rfl, cC.same yy, cJ, upd_same, fun q hq => (raF q (gin q hq)).same yy, fun r hr => ?_, by omega, fun rd H' s' shd => ⟨rd, rfl, ?_, yy.trans s'⟩⟩
      · obtain ⟨x, hx, rfl⟩ := List.mem_map.mp hr
        exact wJ x.2 (List.mem_map_of_mem (gin x hx))
      · have e2 : outZ (ps ++ cs.filter fun p => decide (p.1 ∉ nms ps)) (gs.map (·.2)) (oOf (gs.map (·.2))) = outZ (ps ++ cs.filter fun p => decide (p.1 ∉ nms ps)) ((fs.map (·.2)).take 1) (oOf (fs.map (·.2))) := by
          by_cases q : fs.length ≤ 1000
          · have e3 : gs = fs.take 1 := if_pos q
            rw [e3, List.map_take, oOf_le (by rw [List.length_take]; omega), oOf_le (by rw [List.length_map]; exact q)]
          · have e3 : gs = fs := if_neg q
            rw [e3, oOf_gt (by rw [List.length_map]; exact q)]
            rfl
        rw [← e2]
        exact shd
    rintro σ H12 ⟨rd, rfl, shd, s1112⟩
    refine ⟨fun σ H' => σ = [some (.ref a0), some (.ref t), some (.ref L), some (.ref Rc), some (.ref N), some (.int m), some (.ref A), some (.ref O), some (.ref D), some (.str (befD ps rs cs os).shown), some (.ref Cc), some (.ref F), some (.ref rd), none, none] ∧ Same H12 H', ?_, ?_⟩
    · refine ⟨_, rfl, _, rfl, three, fun q1 hq1 => ?_⟩
      have y1 := Same.upd (o := .tup [.str "join", .str "a", .ref N]) hq1
      have f1 : L2.upd H12 q1 (.tup [.str "join", .str "a", .ref N]) q1 = some (.tup [.str "join", .str "a", .ref N]) := upd_same
      generalize L2.upd H12 q1 (.tup [.str "join", .str "a", .ref N]) = J1 at y1 f1 ⊢
      refine ⟨two, fun q2 hq2 => ?_⟩
      have y2 := Same.upd (o := .tup [.str "first", .int 1]) hq2
      have f2 : L2.upd J1 q2 (.tup [.str "first", .int 1]) q2 = some (.tup [.str "first", .int 1]) := upd_same
      generalize L2.upd J1 q2 (.tup [.str "first", .int 1]) = J2 at y2 f2 ⊢
      refine ⟨two, fun s1 hs1 => ?_⟩
      have y3 := Same.upd (o := .tup [.ref q1, .ref q2]) hs1
      have f3 : L2.upd J2 s1 (.tup [.ref q1, .ref q2]) s1 = some (.tup [.ref q1, .ref q2]) := upd_same
      generalize L2.upd J2 s1 (.tup [.ref q1, .ref q2]) = J3 at y3 f3 ⊢
      have yy := y1.trans (y2.trans y3)
      have s6J := s8.trans (s1112.trans yy)
      refine ⟨D, s1, "b", _, tbs, _, ps, _, _, _, [.ref q1, .ref q2], [.join "a" ks, .first 1], rfl, s6J _ _ eD, hTb.same s6J, wT, memb, f3, .cons (.tup ((y2.trans y3) _ _ f1) (.cons (.str _) (.cons (.str _) (.cons (.tup (s6J _ _ eN8) (vS_dh ks)) .nil)))) (.cons (.tup (y3 _ _ f2) (.cons (.str _) (.cons (.int 1) .nil))) .nil), rn2, by show 2 ≤ 10; decide, hoo lE, fun rr J4 s4 shr => ?_⟩
      refine ⟨.ref rr, _, rfl, shr J4 (Same.refl _), _, rfl, .ref rd, _, rfl, shd J4 (yy.trans s4), rfl, _, rfl, ?_⟩
      rw [decide_eq_true rfl]
      exact iteF ⟨rfl, yy.trans s4⟩
    rintro σ H13 ⟨rfl, s1213⟩
    replace s8 := s8.trans (s1112.trans s1213)
    clear shd s1112 s1213 s1011 cC eF raF s89 rn1 rn2 wJ cJ lead eJ emF
    -- the union with itself
    refine ⟨fun σ H' => σ = [some (.ref a0), some (.ref t), some (.ref L), some (.ref Rc), some (.ref N), some (.int m), some (.ref A), some (.ref O), some (.ref D), some (.str (befD ps rs cs os).shown), some (.ref Cc), some (.ref F), some (.ref rd), none, none] ∧ Same H13 H', ?_, ?_⟩
    · refine ⟨_, rfl, two, fun q1 hq1 => ?_⟩
      have y1 := Same.upd (o := .tup [.str "union", .str "b"]) hq1
      have f1 : L2.upd H13 q1 (.tup [.str "union", .str "b"]) q1 = some (.tup [.str "union", .str "b"]) := upd_same
      generalize L2.upd H13 q1 (.tup [.str "union", .str "b"]) = J1 at y1 f1 ⊢
      refine ⟨two, fun q2 hq2 => ?_⟩
      have y2 := Same.upd (o := .tup [.str "union", .str "b"]) hq2
      have f2 : L2.upd J1 q2 (.tup [.str "union", .str "b"]) q2 = some (.tup [.str "union", .str "b"]) := upd_same
      generalize L2.upd J1 q2 (.tup [.str "union", .str "b"]) = J2 at y2 f2 ⊢
      refine ⟨two, fun s1 hs1 => ?_⟩
      have y3 := Same.upd (o := .tup [.ref q1, .ref q2]) hs1
      have f3 : L2.upd J2 s1 (.tup [.ref q1, .ref q2]) s1 = some (.tup [.ref q1, .ref q2]) := upd_same
      generalize L2.upd J2 s1 (.tup [.ref q1, .ref q2]) = J3 at y3 f3 ⊢
      have yy := y1.trans (y2.trans y3)
      have s6J := s8.trans yy
      have leU : Lead (osOf tbs) ps (.union "b") ps := .union (memO memb)
      have eU : ∀ ds, stepB tbs ps (.union "b") ds = ds ++ rs.map (·.2) := fun ds => by
        show ds ++ rowsOf tbs "b" = _
        rw [rowsOf_at wT.nd memb]
      have rnU : Runs tbs ps (rs.map (·.2)) [.union "b", .union "b"] ps ((rs ++ rs ++ rs).map (·.2)) none := by
        rw [List.map_append, List.map_append, ← eU, ← eU]
        refine .cons leU trivial (fun _ => ?_) (.cons leU trivial (fun _ => ?_) .nil)
        · rw [eU, List.length_append, List.length_map]; omega
        · rw [eU, eU, List.length_append, List.length_append, List.length_map]; omega
      refine ⟨D, s1, "b", _, tbs, _, ps, _, _, _, [.ref q1, .ref q2], [.union "b", .union "b"], rfl, s6J _ _ eD, hTb.same s6J, wT, memb, f3, .cons (.tup ((y2.trans y3) _ _ f1) (.cons (.str _) (.cons (.str _) .nil))) (.cons (.tup (y3 _ _ f2) (.cons (.str _) (.cons (.str _) .nil))) .nil), rnU, by show 2 ≤ 10; decide, nofun, fun rr J4 s4 shr => ?_⟩
      have s6J4 := s6J.trans s4
      refine ⟨.ref rr, _, rfl, shr J4 (Same.refl _), _, rfl, _, rfl, A, 3, _, rfl, rfl, s6J4 _ _ eA8, by decide, by decide, by rw [List.length_map, S24]; show rs.length * 3 ≤ _; omega, fun x hx => ⟨three, fun r hr' => ?_⟩⟩
      have w1 := Same.upd (o := .lst (List.replicate (3 : Int).toNat (rs.map (·.1))).flatten) hx
      have w2 := Same.upd (o := .tup [.str "told", .ref L, .ref x]) hr'
      have e3 : (List.replicate (3 : Int).toNat (rs.map (·.1))).flatten = (rs ++ rs ++ rs).map (·.1) := by
        show [rs.map (·.1), rs.map (·.1), rs.map (·.1)].flatten = _
        rw [List.flatten_cons, List.flatten_cons, List.flatten_cons, List.flatten_nil, List.append_nil, List.map_append, List.map_append, List.append_assoc]
      have ex := w2 _ _ (show L2.upd J4 x (.lst (List.replicate (3 : Int).toNat (rs.map (·.1))).flatten) x = some (.lst (List.replicate (3 : Int).toNat (rs.map (·.1))).flatten) from upd_same)
      replace ex := ex.trans (congrArg (fun l => some (HO.lst l)) e3)
      have sw := s6J4.trans (w1.trans w2)
      have in3 : ∀ q ∈ rs ++ rs ++ rs, q ∈ rs := fun q hq => by
        rcases List.mem_append.mp hq with h | h
        · rcases List.mem_append.mp h with h | h
          · exact h
          · exact h
        · exact h
      refine ⟨.ref r, (toldD ps (rs ++ rs ++ rs)).shown, rfl, told_shw cp (cL8.same sw) ex (fun q hq => (raA8 q (in3 q hq)).same sw) (fun q hq => by obtain ⟨y, hy, rfl⟩ := List.mem_map.mp hq; exact rwA y.2 (List.mem_map_of_mem (in3 y hy))) (by rw [List.length_append, List.length_append]; omega) upd_same, ?_⟩
      refine ⟨rfl, _, rfl, ?_⟩
      rw [decide_eq_true (show V.str (outZ ps ((rs ++ rs ++ rs).map (·.2)) none) = V.str (toldD ps (rs ++ rs ++ rs)).shown by rw [toldE_eq]; rfl)]
      exact iteF ⟨rfl, yy.trans (s4.trans (w1.trans w2))⟩
    rintro σ H14 ⟨rfl, s1314⟩
    replace s8 := s8.trans s1314
    clear s1314
    -- the first names
    refine ⟨fun σ H' => ∃ kt : Addr, σ = [some (.ref a0), some (.ref t), some (.ref L), some (.ref Rc), some (.ref N), some (.int m), some (.ref A), some (.ref O), some (.ref D), some (.str (befD ps rs cs os).shown), some (.ref Cc), some (.ref F), some (.ref rd), some (.ref kt), none] ∧ H' kt = some (.tup (vS ((nms ps).take 3))) ∧ Same H14 H', ?_, ?_⟩
    · obtain ⟨xs, zL, cc⟩ := cL8.same s8
      refine ⟨_, rfl, L, rfl, ⟨_, zL.sq⟩, fun W hW => lc_tup (K := K) (a := L) (xs := xs) (fun i H' => H' W = some (.lst (vS ((nms ps).take i))) ∧ Same H14 H') ⟨upd_same, Same.upd hW⟩ (fun i H' _ pr => (zL.same pr.2).sq) ?_ ?_⟩
      · rintro i x H1 hx ⟨hW1, s1⟩
        obtain ⟨ca, z, kk2, rfl, ea, ep⟩ := cc.get _ _ hx
        refine ⟨rfl, ?_⟩
        dsimp only [tYes]
        exact iteT ⟨_, rfl, ca, _, _, .str z, rfl, rfl, SqT.of (s1 _ _ ea), at_of (j := 0) rfl rfl, nm_turn hW hW1 ep cp.l8 s1⟩
      rintro H15 ⟨hW1, s15⟩
      rw [show xs.length = (nms ps).length by rw [cc.len, List.length_map], List.take_length] at hW1
      refine ⟨3, rfl, W, _, rfl, SqL.of hW1, fun x1 hx1 => ?_⟩
      have y1 := Same.upd (o := .lst (cutV (vS (nms ps)) none (some 3))) hx1
      have f1 : L2.upd H15 x1 (.lst (cutV (vS (nms ps)) none (some 3))) x1 = some (.lst (vS ((nms ps).take 3))) := by
        rw [upd_same, cut_take _ (by decide)]
        show some (HO.lst (((nms ps).map V.str).take 3)) = _
        rw [← List.map_take]
      generalize L2.upd H15 x1 (.lst (cutV (vS (nms ps)) none (some 3))) = J1 at y1 f1 ⊢
      refine ⟨x1, _, rfl, .inl ⟨SqL.of f1, fun kt hkt => ?_⟩⟩
      exact ⟨kt, rfl, upd_same, s15.trans (y1.trans (Same.upd hkt))⟩
    rintro σ H15 ⟨kt, rfl, ekt, s1415⟩
    replace s8 := s8.trans s1415
    clear s1415
    -- a table joined with itself
    refine ⟨fun σ H' => ∃ x12 : Option V, σ = [some (.ref a0), some (.ref t), some (.ref L), some (.ref Rc), some (.ref N), some (.int m), some (.ref A), some (.ref O), some (.ref D), some (.str (befD ps rs cs os).shown), some (.ref Cc), some (.ref F), x12, some (.ref kt), none] ∧ Same H15 H', ?_, ?_⟩
    · obtain ⟨xs, zL, cc⟩ := cL8.same s8
      have lx := cc.len
      refine ⟨_, rfl, L, xs, rfl, .inr zL.sq, _, _, rfl, rfl, _, rfl, ite2 (fun q => ?_) (fun q => ⟨_, rfl, Same.refl _⟩)⟩
      have l3 : ps.length ≤ 3 := by
        have := of_decide_eq_true q
        omega
      rw [List.take_of_length_le (show (nms ps).length ≤ 3 by rw [List.length_map]; exact l3)] at ekt
      have leS : Lead (osOf tbs) ps (.join "b" (nms ps)) (ps ++ ps.filter fun p => decide (p.1 ∉ nms ps)) := .join (memO memb) cp.nd (by rw [List.length_map]; exact cp.l1) (by rw [List.length_map]; exact l3) (fun k => ⟨fun h => ⟨h, h⟩, fun h => h.1⟩) (fun _ _ => rfl) (by rw [self_filter]; exact cp.l8)
      have cS := leS.go cp (fun o ho => (wT.os.ok o ho).2.2)
      have wS := leS.rows cp rwA hTb.w wT.nd
      have eS : stepB tbs ps (.join "b" (nms ps)) (rs.map (·.2)) = joinL (jx ps (nms ps)) (jx ps (nms ps)) (adJ ps (nms ps)) (rs.map (·.2)) (rs.map (·.2)) := by
        show joinL _ (jx (colsOf tbs "b") _) (adJ (colsOf tbs "b") _) (rowsOf tbs "b") _ = _
        rw [colsOf_at wT.nd memb, rowsOf_at wT.nd memb]
      have rnS := runs_one (ds := rs.map (·.2)) leS trivial rfl
      rw [eS] at wS rnS
      refine ⟨fun σ H' => ∃ (dr Cs Fs : Addr) (gs : RowsL), σ = [some (.ref a0), some (.ref t), some (.ref L), some (.ref Rc), some (.ref N), some (.int m), some (.ref A), some (.ref O), some (.ref D), some (.str (befD ps rs cs os).shown), some (.ref Cc), some (.ref F), some (.ref dr), some (.ref kt), none] ∧ H' dr = some (.tup [.ref Cs, .ref Fs]) ∧ CA H' Cs (ps ++ ps.filter fun p => decide (p.1 ∉ nms ps)) ∧ H' Fs = some (.lst (gs.map (·.1))) ∧ RowsAt H' gs ∧ gs.map (·.2) = joinL (jx ps (nms ps)) (jx ps (nms ps)) (adJ ps (nms ps)) (rs.map (·.2)) (rs.map (·.2)) ∧ gs.length ≤ 1225 ∧ Same H15 H', ?_, ?_⟩
      · refine ⟨_, rfl, _, rfl, _, rfl, _, rfl, _, rfl, L, A, L, A, kt, ps, rs, ps, rs, nms ps, rfl, cL8.same s8, cp, s8 _ _ eA8, RowsAt.same raA8 s8, rwA, by omega, cL8.same s8, cp, s8 _ _ eA8, RowsAt.same raA8 s8, rwA, by omega, ekt, by rw [List.length_map]; exact l3, fun k => ⟨fun h => ⟨h, h⟩, fun h => h.1⟩, by rw [self_filter]; exact cp.l8, fun r Cs Fs gs H' s' er ca _ eG raG emG lG => ?_⟩
        exact ⟨r, Cs, Fs, gs, rfl, er, ca, eG, raG, emG, Nat.le_trans lG (sq lrs lrs), s'⟩
      rintro σ H16 ⟨dr, Cs, Fs, gs, rfl, edr, cC, eG, raG, emG, lG, s1516⟩
      rw [← emG] at wS rnS
      have lE : (gs.map (·.2)).length ≤ 1225 := by rw [List.length_map]; exact lG
      refine ⟨_, rfl, _, rfl, three, fun q1 hq1 => ⟨one, fun s1 hs1 => ?_⟩⟩
      have zq := Same.upd (o := .tup [.str "join", .str "b", .ref kt]) hq1
      have zs := Same.upd (o := .tup [.ref q1]) hs1
      have eq1 := zs _ _ (show L2.upd H16 q1 (.tup [.str "join", .str "b", .ref kt]) q1 = some (.tup [.str "join", .str "b", .ref kt]) from upd_same)
      have es1 : L2.upd (L2.upd H16 q1 (.tup [.str "join", .str "b", .ref kt])) s1 (.tup [.ref q1]) s1 = some (.tup [.ref q1]) := upd_same
      have z78 := zq.trans zs
      generalize L2.upd (L2.upd H16 q1 (.tup [.str "join", .str "b", .ref kt])) s1 (.tup [.ref q1]) = H17 at eq1 es1 z78 ⊢
      have s15b := s1516.trans z78
      have s68 := s8.trans s15b
      refine ⟨D, s1, "b", _, tbs, _, ps, _, _, _, [.ref q1], [.join "b" (nms ps)], rfl, s68 _ _ eD, hTb.same s68, wT, memb, es1, .cons (.tup eq1 (.cons (.str _) (.cons (.str _) (.cons (.tup (s15b _ _ ekt) (vS_dh (nms ps))) .nil)))) .nil, rnS, by show 1 ≤ 10; decide, hoo lE, fun rr H18 s18 shr => ?_⟩
      have s1618 := z78.trans s18
      refine ⟨.ref rr, _, rfl, shr H18 (Same.refl _), _, rfl, dr, _, 0, .ref Cs, rfl, rfl, SqT.of (s1618 _ _ edr), at_of (j := 0) rfl rfl, _, rfl, dr, _, 1, .ref Fs, rfl, rfl, SqT.of (s1618 _ _ edr), at_of (j := 1) rfl rfl, Cs, Fs, _, gs, rfl, cC.same s1618, cS, s1618 _ _ eG, RowsAt.same raG s1618, wS, by omega, fun rd2 H19 s19 shd => ?_⟩
      refine ⟨.ref rd2, _, rfl, shd H19 (Same.refl _), rfl, _, rfl, ?_⟩
      rw [decide_eq_true rfl]
      exact iteF ⟨_, rfl, s1516.trans (s1618.trans s19)⟩
    rintro σ H16 ⟨x12, rfl, s1516⟩
    replace s8 := s8.trans s1516
    have T16 := T8.same s8
    have cL16 := cL8.same s8
    have cR16 := cR8.same s8
    have eA16 := s8 _ _ eA8
    have eO16 := s8 _ _ eO8
    have eD16 := s8 _ _ eD
    have raA16 : RowsAt H16 rs := RowsAt.same raA8 s8
    have raO16 : RowsAt H16 os := RowsAt.same raO8 s8
    have hI1 := hI1.same s8
    have hI2 := hI2.same s8
    clear s1516 ekt s8 hTb T8 cL8 cR8 eN8 eA8 eO8 eD raA8 raO8
    -- large tables
    refine ⟨fun σ H' => σ = [some (.ref a0), some (.ref t), some (.ref L), some (.ref Rc), some (.ref N), some (.int m), some (.ref A), some (.ref O), some (.ref D), some (.str (befD ps rs cs os).shown), some (.ref Cc), some (.ref F), x12, some (.ref kt), none] ∧ SameB t H16 H', ?_, ?_⟩
    · refine ⟨_, rfl, _, .inl ⟨_, SqL.of eA16, rfl⟩, ?_⟩
      cases rs with
      | nil => exact iteF (iteF ⟨rfl, SameB.refl _ _⟩)
      | cons r1 rest =>
        refine iteT ?_
        refine ⟨_, rfl, _, rfl, _, rfl, t, c, L, A, ps, r1 :: rest, rfl, T16, cL16, cp, eA16, nAt, rowsF T16.tape raA16 okA, rwA, by omega, by rw [List.length_cons]; omega, fun H' T' S' => ?_⟩
        exact ⟨_, rfl, iteF ⟨rfl, S'⟩⟩
    rintro σ H17 ⟨rfl, S⟩
    have cL17 := cL16.b T16.tape S
    have cR17 := cR16.b T16.tape S
    have eA17 := S _ _ nAt eA16
    have eO17 := S _ _ nOt eO16
    obtain ⟨_, _, _, _, _, tq, _⟩ := id T16.tape
    have eD17 := S _ _ (ne_of eD16 tq nofun) eD16
    have raA17 : RowsAt H17 rs := RowsAt.same (ra_b (rowsF T16.tape raA16 okA) S) dl_here
    have raO17 : RowsAt H17 os := RowsAt.same (ra_b (rowsF T16.tape raO16 okO) S) dl_here
    have hJ1 := hI1.b T16.tape S okA
    have hJ2 := hI2.b T16.tape S okO
    clear S T16 cL16 cR16 eA16 eO16 eD16 raA16 raO16 hI1 hI2
    -- nothing has changed
    obtain ⟨dx1, bv1, h11, h12, h13⟩ := id hJ1
    obtain ⟨dx2, bv2, h21, h22, h23⟩ := id hJ2
    have g1 := DGet.k (k := (Sum.inr "b" : Key)) eD17
    rw [valV_pos rfl] at g1
    have g2 : ∀ {H' : Hp}, Same H17 H' → DGet H' D (.str "a") (some (.ref a2)) := fun s => by
      have q := DGet.k (k := (Sum.inr "a" : Key)) (s _ _ eD17)
      rw [valV_neg (fun w => absurd (show ("b" : Str) = "a" by injection w) (by decide +kernel)), valV_pos rfl] at q
      exact q
    refine ⟨_, rfl, D, .ref a1, rfl, g1, a1, dx1, _, rfl, h11, rfl, a1, L, rs, rfl, hJ1, _, rfl, D, .ref a1, rfl, g1, a1, dx1, _, rfl, h11, rfl, a1, L, rs, rfl, hJ1, fun l1 hl1 => ?_⟩
    have z1 := Same.upd (o := .lst (rs.map (·.1))) hl1
    have e1 : L2.upd H17 l1 (.lst (rs.map (·.1))) l1 = some (.lst (rs.map (·.1))) := upd_same
    generalize L2.upd H17 l1 (.lst (rs.map (·.1))) = J1 at z1 e1 ⊢
    refine ⟨_, rfl, D, .ref a2, rfl, g2 z1, a2, dx2, _, rfl, z1 _ _ h21, rfl, a2, Rc, os, rfl, hJ2.same z1, _, rfl, D, .ref a2, rfl, g2 z1, a2, dx2, _, rfl, z1 _ _ h21, rfl, a2, Rc, os, rfl, hJ2.same z1, fun l2 hl2 => ⟨four, fun M hM => ?_⟩⟩
    have z2 := Same.upd (o := .lst (os.map (·.1))) hl2
    have z3 := Same.upd (o := .lst [.ref L, .ref l1, .ref Rc, .ref l2]) hM
    have e2 := z3 _ _ (show L2.upd J1 l2 (.lst (os.map (·.1))) l2 = some (.lst (os.map (·.1))) from upd_same)
    have zz := z1.trans (z2.trans z3)
    refine ⟨.ref M, _, rfl, bef_shw cp (cL17.same zz) ((z2.trans z3) _ _ e1) (RowsAt.same raA17 zz) rwA (by omega) cq (cR17.same zz) e2 (RowsAt.same raO17 zz) rwO (by omega) upd_same, _, rfl, rfl, ?_⟩
    rw [decide_eq_true rfl]
    exact k _
end
end
end K19
set_option Elab.async false
set_option linter.all false
set_option maxRecDepth 100000
set_option maxHeartbeats 4000000
namespace K19
open PySem PySem.Spec PyProof.Rows L2 Lc He
/-! ## the table of rows behind steps -/
def rbG (K : PySem.W.Frag) : Str → Addr := fun x => if x = "keep" then ga K "kept_rows" else if x = "first" then ga K "first_rows" else if x = "sample" then ga K "sampled_rows" else if x = "join" then ga K "joined_rows" else ga K "united_rows"
theorem rbG_keep (K : PySem.W.Frag) : rbG K "keep" = ga K "kept_rows" := by
  unfold rbG
  rw [if_pos rfl]
theorem rbG_first (K : PySem.W.Frag) : rbG K "first" = ga K "first_rows" := by
  unfold rbG
  rw [if_neg (by decide +kernel), if_pos rfl]
theorem rbG_sample (K : PySem.W.Frag) : rbG K "sample" = ga K "sampled_rows" := by
  unfold rbG
  rw [if_neg (by decide +kernel), if_neg (by decide +kernel), if_pos rfl]
theorem rbG_join (K : PySem.W.Frag) : rbG K "join" = ga K "joined_rows" := by
  unfold rbG
  rw [if_neg (by decide +kernel), if_neg (by decide +kernel), if_neg (by decide +kernel), if_pos rfl]
theorem rbG_union (K : PySem.W.Frag) : rbG K "union" = ga K "united_rows" := by
  unfold rbG
  rw [if_neg (by decide +kernel), if_neg (by decide +kernel), if_neg (by decide +kernel), if_neg (by decide +kernel)]
theorem rbW_cases {x : Str} (h : x ∈ rbW) : x = "keep" ∨ x = "first" ∨ x = "sample" ∨ x = "join" ∨ x = "union" := by
  simpa only [rbW, List.mem_cons, List.not_mem_nil, or_false] using h
theorem rb_inj {K : PySem.W.Frag} (h : [ga K "kept_rows", ga K "first_rows", ga K "sampled_rows", ga K "joined_rows", ga K "united_rows"].Nodup) : ∀ a ∈ rbW, ∀ b ∈ rbW, rbG K a = rbG K b → a = b := by
  intro a ha b hb e
  generalize hk1 : ga K "kept_rows" = k1 at h
  generalize hk2 : ga K "first_rows" = k2 at h
  generalize hk3 : ga K "sampled_rows" = k3 at h
  generalize hk4 : ga K "joined_rows" = k4 at h
  generalize hk5 : ga K "united_rows" = k5 at h
  simp only [List.nodup_cons, List.mem_cons, List.not_mem_nil, or_false, not_or] at h
  obtain ⟨⟨a1_2, a1_3, a1_4, a1_5⟩, ⟨a2_3, a2_4, a2_5⟩, ⟨a3_4, a3_5⟩, a4_5, _⟩ := h
  rcases rbW_cases ha with rfl | rfl | rfl | rfl | rfl <;> rcases rbW_cases hb with rfl | rfl | rfl | rfl | rfl <;> first
    | rfl
    | (simp only [rbG_keep, rbG_first, rbG_sample, rbG_join, rbG_union, hk1, hk2, hk3, hk4, hk5] at e
       first | exact absurd e ‹_› | exact absurd e.symm ‹_›)
end K19
set_option Elab.async false
set_option linter.all false
set_option maxRecDepth 100000
set_option maxHeartbeats 8000000
namespace K19
open PySem PySem.Spec PyProof.Rows L2 Lc He
theorem facts {P : Program} {w : World} {K : PySem.W.Frag} {h : Heap} {mg : Str → Option Value} {f : Addr} (X : K.In h) (G : h.Ns mainGlobals mg) (hfa : mg ("law" : Str) = some (.ref f)) (c : SaysD fa fn K) (e : ex K = true) (tb : TabsOk ts w K) :
    ∃ fd : FuncData, (∀ (s : Shared) (v : Value), BindsTo s fd ⟨[v], []⟩ [("_law_script", v)]) ∧ ∀ base : Heap, K.In base → base.Ns mainGlobals mg → FnG P w K mg base 21 f fd ["_law_script"] (spLaw K) := by
  obtain ⟨fd0, D0⟩ := c.def_ 0 (d := dMt "TooLarge" "__init__" "TooLarge.__init__" sIniL) rfl
  obtain ⟨fd1, D1⟩ := c.def_ 1 (d := dMt "Table" "__init__" "Table.__init__" sTI) rfl
  obtain ⟨fd2, D2⟩ := c.def_ 2 (d := dMt "Table" "columns" "Table.columns" sTC) rfl
  obtain ⟨fd3, D3⟩ := c.def_ 3 (d := dMt "Table" "rows" "Table.rows" sTR) rfl
  obtain ⟨fd4, D4⟩ := c.def_ 4 (d := dOf "is_whole" sWhole) rfl
  obtain ⟨fd5, D5⟩ := c.def_ 5 (d := dOf "common_divisor" sCd) rfl
  obtain ⟨fd6, D6⟩ := c.def_ 6 (d := dOf "is_rational" sIsR) rfl
  obtain ⟨fd7, D7⟩ := c.def_ 7 (d := dOf "is_name" sName) rfl
  obtain ⟨fd8, D8⟩ := c.def_ 8 (d := dOf "within_limit" sWithin) rfl
  obtain ⟨fd9, D9⟩ := c.def_ 9 (d := dOf "is_value" sValue) rfl
  obtain ⟨fd10, D10⟩ := c.def_ 10 (d := dOf "kind_of" sKo) rfl
  obtain ⟨fd11, D11⟩ := c.def_ 11 (d := dOf "kind_or_none" sKn) rfl
  obtain ⟨fd12, D12⟩ := c.def_ 12 (d := dOf "kind_at" sKa) rfl
  obtain ⟨fd13, D13⟩ := c.def_ 13 (d := dOf "has_word" sHw) rfl
  obtain ⟨fd14, D14⟩ := c.def_ 14 (d := dOf "leaf_kind" sLk) rfl
  obtain ⟨fd15, D15⟩ := c.def_ 15 (d := dOf "kind_of_value" sKv) rfl
  obtain ⟨fd16, D16⟩ := c.def_ 16 (d := dOf "evaluate" sEv) rfl
  obtain ⟨fd17, D17⟩ := c.def_ 17 (d := dOf "worth" sWo) rfl
  obtain ⟨fd18, D18⟩ := c.def_ 18 (d := dOf "union_of" sUn) rfl
  obtain ⟨fd19, D19⟩ := c.def_ 19 (d := dOf "names_of" sNo) rfl
  obtain ⟨fd20, D20⟩ := c.def_ 20 (d := dOf "is_between" sBt) rfl
  obtain ⟨fd21, D21⟩ := c.def_ 21 (d := dOf "is_tuple_of" sTo) rfl
  obtain ⟨fd22, D22⟩ := c.def_ 22 (d := dOf "kind_in" sKi) rfl
  obtain ⟨fd23, D23⟩ := c.def_ 23 (d := dOf "are_columns" sAc) rfl
  obtain ⟨fd24, D24⟩ := c.def_ 24 (d := dOf "bounded" sBd) rfl
  obtain ⟨fd25, D25⟩ := c.def_ 25 (d := dOf "behind_keep" sBk) rfl
  obtain ⟨fd26, D26⟩ := c.def_ 26 (d := dOf "behind_first" sFi) rfl
  obtain ⟨fd27, D27⟩ := c.def_ 27 (d := dOf "behind_sample" sBs) rfl
  obtain ⟨fd28, D28⟩ := c.def_ 28 (d := dOf "behind_join" sJo) rfl
  obtain ⟨fd29, D29⟩ := c.def_ 29 (d := dOf "behind_union" sUo) rfl
  obtain ⟨fd30, D30⟩ := c.def_ 30 (d := dOf "word_of" sWd) rfl
  obtain ⟨fd31, D31⟩ := c.def_ 31 (d := dOf "columns_behind" sCb) rfl
  obtain ⟨fd32, D32⟩ := c.def_ 32 (d := dOf "resolved" sRes) rfl
  obtain ⟨fd33, D33⟩ := c.def_ 33 (d := dOf "draw" sDrw) rfl
  obtain ⟨fd34, D34⟩ := c.def_ 34 (d := dOf "places_of" sPo) rfl
  obtain ⟨fd35, D35⟩ := c.def_ 35 (d := dOf "picked" sPc) rfl
  obtain ⟨fd36, D36⟩ := c.def_ 36 (d := dOf "kept_rows" sKr) rfl
  obtain ⟨fd37, D37⟩ := c.def_ 37 (d := dOf "first_rows" sFr_) rfl
  obtain ⟨fd38, D38⟩ := c.def_ 38 (d := dOf "sampled_rows" sSr) rfl
  obtain ⟨fd39, D39⟩ := c.def_ 39 (d := dOf "grouped" sGr) rfl
  obtain ⟨fd40, D40⟩ := c.def_ 40 (d := dOf "check_size" sCz) rfl
  obtain ⟨fd41, D41⟩ := c.def_ 41 (d := dOf "joined_rows" sJr) rfl
  obtain ⟨fd42, D42⟩ := c.def_ 42 (d := dOf "united_rows" sUr) rfl
  obtain ⟨fd43, D43⟩ := c.def_ 43 (d := dKw "run" sRun [("setting", .non)]) rfl
  obtain ⟨fd44, D44⟩ := c.def_ 44 (d := dOf "_law_tape" sTape) rfl
  obtain ⟨fd45, D45⟩ := c.def_ 45 (d := dOf "_law_draw" sDraw) rfl
  obtain ⟨fd46, D46⟩ := c.def_ 46 (d := dOf "_law_lowest" sLst) rfl
  obtain ⟨fd47, D47⟩ := c.def_ 47 (d := dOf "_law_rational" sRat) rfl
  obtain ⟨fd48, D48⟩ := c.def_ 48 (d := dOf "_law_name" sLnm) rfl
  obtain ⟨fd49, D49⟩ := c.def_ 49 (d := dOf "_law_fresh" sFr) rfl
  obtain ⟨fd50, D50⟩ := c.def_ 50 (d := dOf "_law_columns" sCls) rfl
  obtain ⟨fd51, D51⟩ := c.def_ 51 (d := dOf "_law_value" sLv) rfl
  obtain ⟨fd52, D52⟩ := c.def_ 52 (d := dOf "_law_values" sLvs) rfl
  obtain ⟨fd53, D53⟩ := c.def_ 53 (d := dOf "_law_pick" sPk) rfl
  obtain ⟨fd54, D54⟩ := c.def_ 54 (d := dOf "_law_lineage" sFar) rfl
  obtain ⟨fd55, D55⟩ := c.def_ 55 (d := dOf "_law_union" sLu) rfl
  obtain ⟨fd56, D56⟩ := c.def_ 56 (d := dOf "_law_rows" sRws) rfl
  obtain ⟨fd57, D57⟩ := c.def_ 57 (d := dOf "_law_ran" sRn) rfl
  obtain ⟨fd58, D58⟩ := c.def_ 58 (d := dOf "_law_pair" sPa) rfl
  obtain ⟨fd59, D59⟩ := c.def_ 59 (d := dOf "_law_alike_rows" sAl) rfl
  obtain ⟨fd60, D60⟩ := c.def_ 60 (d := dOf "_law_keyed" sKy) rfl
  obtain ⟨fd61, D61⟩ := c.def_ 61 (d := dOf "_law_joined" sJn) rfl
  obtain ⟨fd62, D62⟩ := c.def_ 62 (d := dOf "_law_due" sDu) rfl
  obtain ⟨fd63, D63⟩ := c.def_ 63 (d := dOf "_law_large" sLg) rfl
  obtain ⟨fd64, D64⟩ := c.def_ 64 (d := dOf "law" sLaw) rfl
  have ef := hfa.symm.trans (glo_ok X G (c.fact 0 (f := .glo "law") rfl))
  cases ef
  have g : ∀ (i : Nat) (x : Str), fa[i]? = some (.glo x) → mg x = some (.ref (ga K x)) := fun i x z => glo_ok X G (c.fact i (f := .glo x) z)
  have z : ∀ (i : Nat) (x : Str), fa[i]? = some (.free x) → mg x = none := fun i x z => free_ok X G (c.fact i (f := .free x) z)
  have T : Bt mg := ⟨z 68 _ rfl, z 69 _ rfl, z 70 _ rfl, z 71 _ rfl, z 72 _ rfl, z 73 _ rfl, z 74 _ rfl, z 75 _ rfl, z 76 _ rfl, z 77 _ rfl, z 78 _ rfl, z 79 _ rfl, z 80 _ rfl, z 81 _ rfl, z 82 _ rfl, z 83 _ rfl, z 84 _ rfl, z 85 _ rfl⟩
  obtain ⟨uc0, mc0⟩ := str_ok X G (c.fact 90 (f := .str "LETTERS" letters) rfl)
  obtain ⟨uc1, mc1⟩ := str_ok X G (c.fact 91 (f := .str "NAME_SIGNS" signs) rfl)
  obtain ⟨uc2, mc2⟩ := int_ok X G (c.fact 92 (f := .int "LONGEST_NAME" 12) rfl)
  obtain ⟨uc3, mc3⟩ := int_ok X G (c.fact 93 (f := .int "LIMIT" lim) rfl)
  obtain ⟨uc4, mc4⟩ := int_ok X G (c.fact 94 (f := .int "DEEPEST" 8) rfl)
  obtain ⟨uc5, mc5⟩ := int_ok X G (c.fact 95 (f := .int "MOST_COLUMNS" 8) rfl)
  obtain ⟨uc6, mc6⟩ := int_ok X G (c.fact 96 (f := .int "MOST_COUNT" 1000) rfl)
  obtain ⟨uc7, mc7⟩ := int_ok X G (c.fact 97 (f := .int "MOST_WHOLE" 1000) rfl)
  obtain ⟨uc8, mc8⟩ := int_ok X G (c.fact 98 (f := .int "MOST_SEED" 1000000000) rfl)
  obtain ⟨uc9, mc9⟩ := int_ok X G (c.fact 99 (f := .int "MOST_KEYS" 3) rfl)
  obtain ⟨uc10, mc10⟩ := int_ok X G (c.fact 100 (f := .int "MOST_ROWS" 1000) rfl)
  have a : ∀ (i : Nat) {b : Bool}, (exL K)[i]? = some b → b = true := fun i _ z => all_at e i z
  have b0 : Binds K fd0 ["self", "size"] [] := D0.bindsN fun _ _ _ _ _ _ us hl => match us, hl with | [_, _], _ => rfl
  have b1 : Binds K fd1 ["self", "columns", "rows"] [] := D1.bindsN fun _ _ _ _ _ _ us hl => match us, hl with | [_, _, _], _ => rfl
  have b2 : Binds K fd2 ["self"] [] := D2.bindsN fun _ _ _ _ _ _ us hl => match us, hl with | [_], _ => rfl
  have b3 : Binds K fd3 ["self"] [] := D3.bindsN fun _ _ _ _ _ _ us hl => match us, hl with | [_], _ => rfl
  have b4 : Binds K fd4 ["value"] [] := D4.bindsN fun _ _ _ _ _ _ us hl => match us, hl with | [_], _ => rfl
  have b5 : Binds K fd5 ["a", "b"] [] := D5.bindsN fun _ _ _ _ _ _ us hl => match us, hl with | [_, _], _ => rfl
  have b6 : Binds K fd6 ["value"] [] := D6.bindsN fun _ _ _ _ _ _ us hl => match us, hl with | [_], _ => rfl
  have b7 : Binds K fd7 ["value"] [] := D7.bindsN fun _ _ _ _ _ _ us hl => match us, hl with | [_], _ => rfl
  have b8 : Binds K fd8 ["number"] [] := D8.bindsN fun _ _ _ _ _ _ us hl => match us, hl with | [_], _ => rfl
  have b9 : Binds K fd9 ["value", "kind"] [] := D9.bindsN fun _ _ _ _ _ _ us hl => match us, hl with | [_, _], _ => rfl
  have b10 : Binds K fd10 ["columns", "expression"] [] := D10.bindsN fun _ _ _ _ _ _ us hl => match us, hl with | [_, _], _ => rfl
  have b11 : Binds K fd11 ["columns", "expression"] [] := D11.bindsN fun _ _ _ _ _ _ us hl => match us, hl with | [_, _], _ => rfl
  have b12 : Binds K fd12 ["kinds", "part", "path"] [] := D12.bindsN fun _ _ _ _ _ _ us hl => match us, hl with | [_, _, _], _ => rfl
  have b13 : Binds K fd13 ["part"] [] := D13.bindsN fun _ _ _ _ _ _ us hl => match us, hl with | [_], _ => rfl
  have b14 : Binds K fd14 ["kinds", "part"] [] := D14.bindsN fun _ _ _ _ _ _ us hl => match us, hl with | [_, _], _ => rfl
  have b15 : Binds K fd15 ["value"] [] := D15.bindsN fun _ _ _ _ _ _ us hl => match us, hl with | [_], _ => rfl
  have b16 : Binds K fd16 ["columns", "values", "expression"] [] := D16.bindsN fun _ _ _ _ _ _ us hl => match us, hl with | [_, _, _], _ => rfl
  have b17 : Binds K fd17 ["row", "part"] [] := D17.bindsN fun _ _ _ _ _ _ us hl => match us, hl with | [_, _], _ => rfl
  have b18 : Binds K fd18 ["lineages"] [] := D18.bindsN fun _ _ _ _ _ _ us hl => match us, hl with | [_], _ => rfl
  have b19 : Binds K fd19 ["columns"] [] := D19.bindsN fun _ _ _ _ _ _ us hl => match us, hl with | [_], _ => rfl
  have b20 : Binds K fd20 ["value", "low", "high"] [] := D20.bindsN fun _ _ _ _ _ _ us hl => match us, hl with | [_, _, _], _ => rfl
  have b21 : Binds K fd21 ["value", "low", "high"] [] := D21.bindsN fun _ _ _ _ _ _ us hl => match us, hl with | [_, _, _], _ => rfl
  have b22 : Binds K fd22 ["columns", "name"] [] := D22.bindsN fun _ _ _ _ _ _ us hl => match us, hl with | [_, _], _ => rfl
  have b23 : Binds K fd23 ["columns", "names"] [] := D23.bindsN fun _ _ _ _ _ _ us hl => match us, hl with | [_, _], _ => rfl
  have b24 : Binds K fd24 ["columns"] [] := D24.bindsN fun _ _ _ _ _ _ us hl => match us, hl with | [_], _ => rfl
  have b25 : Binds K fd25 ["tables", "columns", "step"] [] := D25.bindsN fun _ _ _ _ _ _ us hl => match us, hl with | [_, _, _], _ => rfl
  have b26 : Binds K fd26 ["tables", "columns", "step"] [] := D26.bindsN fun _ _ _ _ _ _ us hl => match us, hl with | [_, _, _], _ => rfl
  have b27 : Binds K fd27 ["tables", "columns", "step"] [] := D27.bindsN fun _ _ _ _ _ _ us hl => match us, hl with | [_, _, _], _ => rfl
  have b28 : Binds K fd28 ["tables", "columns", "step"] [] := D28.bindsN fun _ _ _ _ _ _ us hl => match us, hl with | [_, _, _], _ => rfl
  have b29 : Binds K fd29 ["tables", "columns", "step"] [] := D29.bindsN fun _ _ _ _ _ _ us hl => match us, hl with | [_, _, _], _ => rfl
  have b30 : Binds K fd30 ["step"] [] := D30.bindsN fun _ _ _ _ _ _ us hl => match us, hl with | [_], _ => rfl
  have b31 : Binds K fd31 ["tables", "columns", "step"] [] := D31.bindsN fun _ _ _ _ _ _ us hl => match us, hl with | [_, _, _], _ => rfl
  have b32 : Binds K fd32 ["pipeline", "setting"] [] := D32.bindsN fun _ _ _ _ _ _ us hl => match us, hl with | [_, _], _ => rfl
  have b33 : Binds K fd33 ["seed", "lineage", "whole"] [] := D33.bindsN fun _ _ _ _ _ _ us hl => match us, hl with | [_, _, _], _ => rfl
  have b34 : Binds K fd34 ["columns", "names"] [] := D34.bindsN fun _ _ _ _ _ _ us hl => match us, hl with | [_, _], _ => rfl
  have b35 : Binds K fd35 ["values", "places"] [] := D35.bindsN fun _ _ _ _ _ _ us hl => match us, hl with | [_, _], _ => rfl
  have b36 : Binds K fd36 ["tables", "table", "step"] [] := D36.bindsN fun _ _ _ _ _ _ us hl => match us, hl with | [_, _, _], _ => rfl
  have b37 : Binds K fd37 ["tables", "table", "step"] [] := D37.bindsN fun _ _ _ _ _ _ us hl => match us, hl with | [_, _, _], _ => rfl
  have b38 : Binds K fd38 ["tables", "table", "step"] [] := D38.bindsN fun _ _ _ _ _ _ us hl => match us, hl with | [_, _, _], _ => rfl
  have b39 : Binds K fd39 ["rows", "places"] [] := D39.bindsN fun _ _ _ _ _ _ us hl => match us, hl with | [_, _], _ => rfl
  have b40 : Binds K fd40 ["size"] [] := D40.bindsN fun _ _ _ _ _ _ us hl => match us, hl with | [_], _ => rfl
  have b41 : Binds K fd41 ["tables", "table", "step"] [] := D41.bindsN fun _ _ _ _ _ _ us hl => match us, hl with | [_, _, _], _ => rfl
  have b42 : Binds K fd42 ["tables", "table", "step"] [] := D42.bindsN fun _ _ _ _ _ _ us hl => match us, hl with | [_, _, _], _ => rfl
  obtain ⟨ds43, v43, b43⟩ := FunD.binds0 (ps := ["tables", "pipeline", "setting"]) D43 2 (List.cons_ne_nil _ _) rfl (fun D doc pm an cdv ct us ks hl hk => match us, ks, hl, hk with | [_, _], [_], _, _ => ⟨_, _, _, _, _, _, rfl, rfl, rfl⟩)
  have b44 : Binds K fd44 ["_law_script"] [] := D44.bindsN fun _ _ _ _ _ _ us hl => match us, hl with | [_], _ => rfl
  have b45 : Binds K fd45 ["_law_tape_here", "_law_many"] [] := D45.bindsN fun _ _ _ _ _ _ us hl => match us, hl with | [_, _], _ => rfl
  have b46 : Binds K fd46 ["_law_n", "_law_d"] [] := D46.bindsN fun _ _ _ _ _ _ us hl => match us, hl with | [_, _], _ => rfl
  have b47 : Binds K fd47 ["_law_tape_here", "_law_wide"] [] := D47.bindsN fun _ _ _ _ _ _ us hl => match us, hl with | [_, _], _ => rfl
  have b48 : Binds K fd48 ["_law_tape_here"] [] := D48.bindsN fun _ _ _ _ _ _ us hl => match us, hl with | [_], _ => rfl
  have b49 : Binds K fd49 ["_law_tape_here", "_law_taken"] [] := D49.bindsN fun _ _ _ _ _ _ us hl => match us, hl with | [_, _], _ => rfl
  have b50 : Binds K fd50 ["_law_tape_here", "_law_lead", "_law_many", "_law_taken"] [] := D50.bindsN fun _ _ _ _ _ _ us hl => match us, hl with | [_, _, _, _], _ => rfl
  have b51 : Binds K fd51 ["_law_tape_here", "_law_kind", "_law_wide"] [] := D51.bindsN fun _ _ _ _ _ _ us hl => match us, hl with | [_, _, _], _ => rfl
  have b52 : Binds K fd52 ["_law_tape_here", "_law_columns_here", "_law_wide"] [] := D52.bindsN fun _ _ _ _ _ _ us hl => match us, hl with | [_, _, _], _ => rfl
  have b53 : Binds K fd53 ["_law_tape_here", "_law_items", "_law_many"] [] := D53.bindsN fun _ _ _ _ _ _ us hl => match us, hl with | [_, _, _], _ => rfl
  have b54 : Binds K fd54 ["_law_tape_here"] [] := D54.bindsN fun _ _ _ _ _ _ us hl => match us, hl with | [_], _ => rfl
  have b55 : Binds K fd55 ["_law_lineages"] [] := D55.bindsN fun _ _ _ _ _ _ us hl => match us, hl with | [_], _ => rfl
  have b56 : Binds K fd56 ["_law_tape_here", "_law_columns_here", "_law_many", "_law_wide"] [] := D56.bindsN fun _ _ _ _ _ _ us hl => match us, hl with | [_, _, _, _], _ => rfl
  have b57 : Binds K fd57 ["_law_tables", "_law_source", "_law_steps"] [] := D57.bindsN fun _ _ _ _ _ _ us hl => match us, hl with | [_, _, _], _ => rfl
  have b58 : Binds K fd58 ["_law_tape_here"] [] := D58.bindsN fun _ _ _ _ _ _ us hl => match us, hl with | [_], _ => rfl
  have b59 : Binds K fd59 ["_law_tape_here", "_law_columns_here", "_law_rows_here", "_law_shared"] [] := D59.bindsN fun _ _ _ _ _ _ us hl => match us, hl with | [_, _, _, _], _ => rfl
  have b60 : Binds K fd60 ["_law_tape_here", "_law_right", "_law_others", "_law_left", "_law_rows_here", "_law_names"] [] := D60.bindsN fun _ _ _ _ _ _ us hl => match us, hl with | [_, _, _, _, _, _], _ => rfl
  have b61 : Binds K fd61 ["_law_left", "_law_rows_here", "_law_right", "_law_others", "_law_names"] [] := D61.bindsN fun _ _ _ _ _ _ us hl => match us, hl with | [_, _, _, _, _], _ => rfl
  have b62 : Binds K fd62 ["_law_columns_here", "_law_rows_here"] [] := D62.bindsN fun _ _ _ _ _ _ us hl => match us, hl with | [_, _], _ => rfl
  have b63 : Binds K fd63 ["_law_tape_here", "_law_columns_here", "_law_rows_here"] [] := D63.bindsN fun _ _ _ _ _ _ us hl => match us, hl with | [_, _, _], _ => rfl
  have bl := FunD.bindsA (ps := ["_law_script"]) D64 fun _ _ _ _ _ _ us hl => match us, hl with | [_], _ => rfl
  refine ⟨fd64, fun s v => bl s [v] rfl, fun base _ _ => ?_⟩
  have m_TooLarge : mg "TooLarge" = some (.ref (ga K "TooLarge")) := g 1 _ rfl
  have m_BadExpression : mg "BadExpression" = some (.ref (ga K "BadExpression")) := g 2 _ rfl
  have m_Table : mg "Table" = some (.ref (ga K "Table")) := g 3 _ rfl
  have m_LENGTHS : mg "LENGTHS" = some (.ref (ga K "LENGTHS")) := g 4 _ rfl
  have m_BEHIND : mg "BEHIND" = some (.ref (ga K "BEHIND")) := g 5 _ rfl
  have m_ROWS_BEHIND : mg "ROWS_BEHIND" = some (.ref (ga K "ROWS_BEHIND")) := g 6 _ rfl
  have m_KINDS : mg "KINDS" = some (.ref (ga K "KINDS")) := g 7 _ rfl
  have m_is_whole : mg "is_whole" = some (.ref (ga K "is_whole")) := g 8 _ rfl
  have m_common_divisor : mg "common_divisor" = some (.ref (ga K "common_divisor")) := g 9 _ rfl
  have m_is_rational : mg "is_rational" = some (.ref (ga K "is_rational")) := g 10 _ rfl
  have m_is_name : mg "is_name" = some (.ref (ga K "is_name")) := g 11 _ rfl
  have m_within_limit : mg "within_limit" = some (.ref (ga K "within_limit")) := g 12 _ rfl
  have m_is_value : mg "is_value" = some (.ref (ga K "is_value")) := g 13 _ rfl
  have m_kind_of : mg "kind_of" = some (.ref (ga K "kind_of")) := g 14 _ rfl
  have m_kind_or_none : mg "kind_or_none" = some (.ref (ga K "kind_or_none")) := g 15 _ rfl
  have m_kind_at : mg "kind_at" = some (.ref (ga K "kind_at")) := g 16 _ rfl
  have m_has_word : mg "has_word" = some (.ref (ga K "has_word")) := g 17 _ rfl
  have m_leaf_kind : mg "leaf_kind" = some (.ref (ga K "leaf_kind")) := g 18 _ rfl
  have m_kind_of_value : mg "kind_of_value" = some (.ref (ga K "kind_of_value")) := g 19 _ rfl
  have m_evaluate : mg "evaluate" = some (.ref (ga K "evaluate")) := g 20 _ rfl
  have m_worth : mg "worth" = some (.ref (ga K "worth")) := g 21 _ rfl
  have m_union_of : mg "union_of" = some (.ref (ga K "union_of")) := g 22 _ rfl
  have m_names_of : mg "names_of" = some (.ref (ga K "names_of")) := g 23 _ rfl
  have m_is_between : mg "is_between" = some (.ref (ga K "is_between")) := g 24 _ rfl
  have m_is_tuple_of : mg "is_tuple_of" = some (.ref (ga K "is_tuple_of")) := g 25 _ rfl
  have m_kind_in : mg "kind_in" = some (.ref (ga K "kind_in")) := g 26 _ rfl
  have m_are_columns : mg "are_columns" = some (.ref (ga K "are_columns")) := g 27 _ rfl
  have m_bounded : mg "bounded" = some (.ref (ga K "bounded")) := g 28 _ rfl
  have m_behind_keep : mg "behind_keep" = some (.ref (ga K "behind_keep")) := g 29 _ rfl
  have m_behind_first : mg "behind_first" = some (.ref (ga K "behind_first")) := g 30 _ rfl
  have m_behind_sample : mg "behind_sample" = some (.ref (ga K "behind_sample")) := g 31 _ rfl
  have m_behind_join : mg "behind_join" = some (.ref (ga K "behind_join")) := g 32 _ rfl
  have m_behind_union : mg "behind_union" = some (.ref (ga K "behind_union")) := g 33 _ rfl
  have m_word_of : mg "word_of" = some (.ref (ga K "word_of")) := g 34 _ rfl
  have m_columns_behind : mg "columns_behind" = some (.ref (ga K "columns_behind")) := g 35 _ rfl
  have m_resolved : mg "resolved" = some (.ref (ga K "resolved")) := g 36 _ rfl
  have m_draw : mg "draw" = some (.ref (ga K "draw")) := g 37 _ rfl
  have m_places_of : mg "places_of" = some (.ref (ga K "places_of")) := g 38 _ rfl
  have m_picked : mg "picked" = some (.ref (ga K "picked")) := g 39 _ rfl
  have m_kept_rows : mg "kept_rows" = some (.ref (ga K "kept_rows")) := g 40 _ rfl
  have m_first_rows : mg "first_rows" = some (.ref (ga K "first_rows")) := g 41 _ rfl
  have m_sampled_rows : mg "sampled_rows" = some (.ref (ga K "sampled_rows")) := g 42 _ rfl
  have m_grouped : mg "grouped" = some (.ref (ga K "grouped")) := g 43 _ rfl
  have m_check_size : mg "check_size" = some (.ref (ga K "check_size")) := g 44 _ rfl
  have m_joined_rows : mg "joined_rows" = some (.ref (ga K "joined_rows")) := g 45 _ rfl
  have m_united_rows : mg "united_rows" = some (.ref (ga K "united_rows")) := g 46 _ rfl
  have m_run : mg "run" = some (.ref (ga K "run")) := g 47 _ rfl
  have m__law_tape : mg "_law_tape" = some (.ref (ga K "_law_tape")) := g 48 _ rfl
  have m__law_draw : mg "_law_draw" = some (.ref (ga K "_law_draw")) := g 49 _ rfl
  have m__law_lowest : mg "_law_lowest" = some (.ref (ga K "_law_lowest")) := g 50 _ rfl
  have m__law_rational : mg "_law_rational" = some (.ref (ga K "_law_rational")) := g 51 _ rfl
  have m__law_name : mg "_law_name" = some (.ref (ga K "_law_name")) := g 52 _ rfl
  have m__law_fresh : mg "_law_fresh" = some (.ref (ga K "_law_fresh")) := g 53 _ rfl
  have m__law_columns : mg "_law_columns" = some (.ref (ga K "_law_columns")) := g 54 _ rfl
  have m__law_value : mg "_law_value" = some (.ref (ga K "_law_value")) := g 55 _ rfl
  have m__law_values : mg "_law_values" = some (.ref (ga K "_law_values")) := g 56 _ rfl
  have m__law_pick : mg "_law_pick" = some (.ref (ga K "_law_pick")) := g 57 _ rfl
  have m__law_lineage : mg "_law_lineage" = some (.ref (ga K "_law_lineage")) := g 58 _ rfl
  have m__law_union : mg "_law_union" = some (.ref (ga K "_law_union")) := g 59 _ rfl
  have m__law_rows : mg "_law_rows" = some (.ref (ga K "_law_rows")) := g 60 _ rfl
  have m__law_ran : mg "_law_ran" = some (.ref (ga K "_law_ran")) := g 61 _ rfl
  have m__law_pair : mg "_law_pair" = some (.ref (ga K "_law_pair")) := g 62 _ rfl
  have m__law_alike_rows : mg "_law_alike_rows" = some (.ref (ga K "_law_alike_rows")) := g 63 _ rfl
  have m__law_keyed : mg "_law_keyed" = some (.ref (ga K "_law_keyed")) := g 64 _ rfl
  have m__law_joined : mg "_law_joined" = some (.ref (ga K "_law_joined")) := g 65 _ rfl
  have m__law_due : mg "_law_due" = some (.ref (ga K "_law_due")) := g 66 _ rfl
  have m__law_large : mg "_law_large" = some (.ref (ga K "_law_large")) := g 67 _ rfl
  have mf_sorted : mg "sorted" = none := z 86 _ rfl
  have mf_any : mg "any" = none := z 87 _ rfl
  have mf_zip : mg "zip" = none := z 88 _ rfl
  have mf_sum : mg "sum" = none := z 89 _ rfl
  have Z : ErO K mg "TooLarge" "size" (ga K "TooLarge") _ := ⟨oexGB_ok (a 0 rfl), eqO_ok (a 1 rfl), of_decide_eq_true (a 2 rfl), eqO_ok (a 3 rfl), m_TooLarge⟩
  have X0 : ExO K (ga K "TooLarge") := ⟨xfB_ok (a 4 rfl), xisB_ok (a 5 rfl), of_decide_eq_true (a 6 rfl), of_decide_eq_true (a 7 rfl)⟩
  have G0 : FnOk P w K mg base CX0 (1) _ fd0 ["self", "size"] (spIni (ga K "TooLarge") "size") := ok_iniL (fun_of D0) Z
  have Tb : TbF K mg (ga K "Table") _ := ⟨mkr_ok (a 8 rfl), cls_ok (a 9 rfl), noat_ok (a 10 rfl), noat_ok (a 11 rfl), m_Table⟩
  have G1 : FnOk P w K mg base CX0 (1) _ fd1 ["self", "columns", "rows"] (spTI (ga K "Table")) := ok_ti (fun_of D1) T Tb
  have G2 : FnOk P w K mg base CX0 (1) _ fd2 ["self"] (spTC (ga K "Table")) := ok_tc (fun_of D2) Tb
  have G3 : FnOk P w K mg base CX0 (1) _ fd3 ["self"] (spTR (ga K "Table")) := ok_tr (fun_of D3) T Tb
  have M : TbM P w K mg base (ga K "Table") := ⟨⟨_, _, Tb, G1, b1⟩, ⟨_, _, meth_ok (a 12 rfl), G2, b2⟩, ⟨_, _, meth_ok (a 13 rfl), G3, b3⟩⟩
  have t0 : ∃ es n, KDict K w (ga K "LENGTHS") es n := tb 0 _ rfl
  have t1 : ∃ es n, KDict K w (ga K "BEHIND") es n := tb 1 _ rfl
  have t2 : ∃ es n, KDict K w (ga K "ROWS_BEHIND") es n := tb 2 _ rfl
  have G4 : FnOk P w K mg base CX0 (1) _ fd4 ["value"] (spWhole) := ok_whole (fun_of D4) T
  have G5 : FnOk P w K mg base CX0 (1) _ fd5 ["a", "b"] (spCd) := ok_cd (fun_of D5)
  have G6 : FnOk P w K mg base CX0 (2) _ fd6 ["value"] (spIsR) := ok_isr (fun_of D6) T G4 m_is_whole D4.kp b4 G5 m_common_divisor D5.kp b5
  have G7 : FnOk P w K mg base CX0 (1) _ fd7 ["value"] (spName) := ok_name (fun_of D7) T mc0 mc1 mc2
  have G8 : FnOk P w K mg base CX0 (1) _ fd8 ["number"] (spWithin) := ok_within (fun_of D8) T mc3
  have G9 : FnOk P w K mg base CX0 (3) _ fd9 ["value", "kind"] (spValue) := ok_value (fun_of D9) G6 m_is_rational D6.kp b6 G8 m_within_limit D8.kp b8 G7 m_is_name D7.kp b7
  have G13 : FnOk P w K mg base CX0 (1) _ fd13 ["part"] (spHw) := ok_hw (fun_of D13) T
  have G15 : FnOk P w K mg base CX0 (4) _ fd15 ["value"] (spKv) := ok_kv (fun_of D15) T G9 m_is_value D9.kp b9 m_KINDS (fun H => tupB_ok (a 14 rfl) H)
  have G14 : FnOk P w K mg base CX0 (5) _ fd14 ["kinds", "part"] (spLk) := ok_lk (fun_of D14) T G15 m_kind_of_value D15.kp b15
  have G12 : FnOk P w K mg base CX0 (6) _ fd12 ["kinds", "part", "path"] (spKaT) := ok_Ka (fun_of D12) T mc4 G13 m_has_word D13.kp b13 G14 m_leaf_kind D14.kp b14
  have G10 : FnOk P w K mg base CX0 (7) _ fd10 ["columns", "expression"] (spKoT) := ok_Ko (fun_of D10) G12 m_kind_at D12.kp b12
  have G11 : FnOk P w K mg base CX0 (8) _ fd11 ["columns", "expression"] (spKoT) := ok_Kn (fun_of D11) T m_BadExpression G10 m_kind_of D10.kp b10
  have G17 : FnOk P w K mg base CX0 (1) _ fd17 ["row", "part"] (spWoT) := ok_Wo (fun_of D17)
  have G16 : FnOk P w K mg base CX0 (2) _ fd16 ["columns", "values", "expression"] (spEvT) := ok_Ev (fun_of D16) mf_zip G17 m_worth D17.kp b17
  have G18 : FnOk P w K mg base CX0 (1) _ fd18 ["lineages"] (spUn) := ok_Un (fun_of D18) T mf_sorted
  have G19 : FnOk P w K mg base CX0 (1) _ fd19 ["columns"] (spNo) := ok_No (fun_of D19) T
  have G20 : FnOk P w K mg base CX0 (2) _ fd20 ["value", "low", "high"] (spBt) := ok_Bt (fun_of D20) T G4 m_is_whole D4.kp b4
  have G21 : FnOk P w K mg base CX0 (1) _ fd21 ["value", "low", "high"] (spTo) := ok_To (fun_of D21) T
  have G22 : FnOk P w K mg base CX0 (1) _ fd22 ["columns", "name"] (spKi) := ok_Ki (fun_of D22) T
  have G23 : FnOk P w K mg base CX0 (2) _ fd23 ["columns", "names"] (spAc) := ok_Ac (fun_of D23) T G22 m_kind_in D22.kp b22
  have G24 : FnOk P w K mg base CX0 (1) _ fd24 ["columns"] (spBd) := ok_Bd (fun_of D24) T mc5
  have G25 : FnOk P w K mg base CX0 (16) _ fd25 ["tables", "columns", "step"] (spBeh "keep") := ok_Bk (fun_of D25) T G11 m_kind_or_none D11.kp b11
  have G26 : FnOk P w K mg base CX0 (3) _ fd26 ["tables", "columns", "step"] (spBeh "first") := ok_Fi (fun_of D26) T mc6 G20 m_is_between D20.kp b20
  have G27 : FnOk P w K mg base CX0 (3) _ fd27 ["tables", "columns", "step"] (spBeh "sample") := ok_Bs (fun_of D27) T mc7 mc8 G20 m_is_between D20.kp b20
  have G28 : FnOk P w K mg base CX0 (3) _ fd28 ["tables", "columns", "step"] (spBeh "join") := ok_Jo (fun_of D28) T mf_any mc9 G7 m_is_name D7.kp b7 G21 m_is_tuple_of D21.kp b21 G23 m_are_columns D23.kp b23 G22 m_kind_in D22.kp b22 G24 m_bounded D24.kp b24
  have G29 : FnOk P w K mg base CX0 (2) _ fd29 ["tables", "columns", "step"] (spBeh "union") := ok_Uo (fun_of D29) T G7 m_is_name D7.kp b7
  have G30 : FnOk P w K mg base CX0 (1) _ fd30 ["step"] (spWd) := ok_Wd (fun_of D30) T
  have A2 : CbA P w K mg base (ga K "LENGTHS") (ga K "BEHIND") := by
    refine ⟨m_LENGTHS, m_BEHIND, t0, fun st => ?_, fun st => ?_⟩
    · cases st with
      | keep e => exact di_ok t0 (a 15 rfl)
      | first n => exact di_ok t0 (a 16 rfl)
      | sample n m s => exact di_ok t0 (a 17 rfl)
      | join t ks => exact di_ok t0 (a 18 rfl)
      | union t => exact di_ok t0 (a 19 rfl)
    · cases st with
      | keep e => exact ⟨_, kdct_of t1 (eqO_ok (a 20 rfl)), ⟨⟨_, _, G25.mono (by decide), D25.kp, b25⟩⟩⟩
      | first n => exact ⟨_, kdct_of t1 (eqO_ok (a 21 rfl)), ⟨⟨_, _, G26.mono (by decide), D26.kp, b26⟩⟩⟩
      | sample n m s => exact ⟨_, kdct_of t1 (eqO_ok (a 22 rfl)), ⟨⟨_, _, G27.mono (by decide), D27.kp, b27⟩⟩⟩
      | join t ks => exact ⟨_, kdct_of t1 (eqO_ok (a 23 rfl)), ⟨⟨_, _, G28.mono (by decide), D28.kp, b28⟩⟩⟩
      | union t => exact ⟨_, kdct_of t1 (eqO_ok (a 24 rfl)), ⟨⟨_, _, G29.mono (by decide), D29.kp, b29⟩⟩⟩
  have G31 : FnOk P w K mg base CX0 (17) _ fd31 ["tables", "columns", "step"] (spCb) := ok_Cb (fun_of D31) T A2 G30 m_word_of D30.kp b30
  have G32 : FnOk P w K mg base CX0 (1) _ fd32 ["pipeline", "setting"] (spRes) := ok_Res (fun_of D32) T
  have G33 : FnOk P w K mg base CX0 (1) _ fd33 ["seed", "lineage", "whole"] (spNum) := ok_Drw (fun_of D33) T
  have G34 : FnOk P w K mg base CX0 (2) _ fd34 ["columns", "names"] (spPo) := ok_Po (fun_of D34) T G19 m_names_of D19.kp b19
  have G35 : FnOk P w K mg base CX0 (1) _ fd35 ["values", "places"] (spPc) := ok_Pc (fun_of D35) T
  have G39 : FnOk P w K mg base CX0 (2) _ fd39 ["rows", "places"] (spGr P w) := ok_Gr (fun_of D39) T G35 m_picked D35.kp b35
  have G40 : FnOk P w K mg base (L2.CX P w) (3) _ fd40 ["size"] (spCz (ga K "TooLarge")) := ok_Cz (fun_of D40) T mc10 Z G0 b0
  have G36 : FnOk P w K mg base CX0 (3) _ fd36 ["tables", "table", "step"] (spRb (ga K "Table") (ga K "TooLarge") "keep") := ok_Kr (fun_of D36) T M G16 m_evaluate D16.kp b16
  have G37 : FnOk P w K mg base CX0 (3) _ fd37 ["tables", "table", "step"] (spRb (ga K "Table") (ga K "TooLarge") "first") := ok_Fr_ (fun_of D37) T M
  have G38 : FnOk P w K mg base CX0 (3) _ fd38 ["tables", "table", "step"] (spRb (ga K "Table") (ga K "TooLarge") "sample") := ok_Sr (fun_of D38) T M G33 m_draw D33.kp b33
  have G42 : FnOk P w K mg base (L2.CX P w) (4) _ fd42 ["tables", "table", "step"] (spRb (ga K "Table") (ga K "TooLarge") "union") := ok_Ur (fun_of D42) T M G40 m_check_size D40.kp b40
  have G41 : FnOk P w K mg base (L2.CX P w) (5) _ fd41 ["tables", "table", "step"] (spRb (ga K "Table") (ga K "TooLarge") "join") := ok_Jr (fun_of D41) T M mf_sum G34 m_places_of D34.kp b34 G39 m_grouped D39.kp b39 G35 m_picked D35.kp b35 G40 m_check_size D40.kp b40 G18 m_union_of D18.kp b18 G19 m_names_of D19.kp b19
  have A3 : RbA P w K mg base (ga K "Table") (ga K "TooLarge") (ga K "ROWS_BEHIND") (rbG K) := by
    refine ⟨m_ROWS_BEHIND, fun x hx => ?_, fun x hx => ?_, rb_inj (of_decide_eq_true (a 25 rfl))⟩
    · rcases rbW_cases hx with rfl | rfl | rfl | rfl | rfl
      · rw [rbG_keep]; exact kdct_of t2 (eqO_ok (a 26 rfl))
      · rw [rbG_first]; exact kdct_of t2 (eqO_ok (a 27 rfl))
      · rw [rbG_sample]; exact kdct_of t2 (eqO_ok (a 28 rfl))
      · rw [rbG_join]; exact kdct_of t2 (eqO_ok (a 29 rfl))
      · rw [rbG_union]; exact kdct_of t2 (eqO_ok (a 30 rfl))
    · rcases rbW_cases hx with rfl | rfl | rfl | rfl | rfl
      · rw [rbG_keep]; exact ⟨⟨_, _, fn_loud (G36.mono (by decide)), D36.kp, b36⟩⟩
      · rw [rbG_first]; exact ⟨⟨_, _, fn_loud (G37.mono (by decide)), D37.kp, b37⟩⟩
      · rw [rbG_sample]; exact ⟨⟨_, _, fn_loud (G38.mono (by decide)), D38.kp, b38⟩⟩
      · rw [rbG_join]; exact ⟨⟨_, _, G41.mono (by decide), D41.kp, b41⟩⟩
      · rw [rbG_union]; exact ⟨⟨_, _, G42.mono (by decide), D42.kp, b42⟩⟩
  have G43 : FnOk P w K mg base (L2.CX P w) (18) _ fd43 ["tables", "pipeline", "setting"] (spRun (ga K "Table") (ga K "TooLarge")) := ok_Run (He5.fun_of D43) T M A3 G32 m_resolved D32.kp b32 G31 m_columns_behind D31.kp b31
  have GQ : FnOk P w K mg base CX0 18 _ fd43 ["tables", "pipeline", "setting"] (spRunQ (ga K "Table")) := run_quiet G43
  have G44 : FnOk P w K mg base CX0 (1) _ fd44 ["_law_script"] (spTape K) := ok_tape (fun_of D44) T
  have G45 : FnOk P w K mg base CX0 (1) _ fd45 ["_law_tape_here", "_law_many"] (spDrawL) := ok_draw (fun_of D45) T
  have G46 : FnOk P w K mg base CX0 (1) _ fd46 ["_law_n", "_law_d"] (spLowest) := ok_lst (fun_of D46) T
  have G47 : FnOk P w K mg base CX0 (2) _ fd47 ["_law_tape_here", "_law_wide"] (spRatL) := ok_rat (fun_of D47) T G45 m__law_draw D45.kp b45 G46 m__law_lowest D46.kp b46
  have G48 : FnOk P w K mg base CX0 (2) _ fd48 ["_law_tape_here"] (spLNm) := ok_lnm (fun_of D48) T G45 m__law_draw D45.kp b45
  have G49 : FnOk P w K mg base CX0 (3) _ fd49 ["_law_tape_here", "_law_taken"] (spFr) := ok_fr (fun_of D49) G48 m__law_name D48.kp b48
  have G50 : FnOk P w K mg base CX0 (4) _ fd50 ["_law_tape_here", "_law_lead", "_law_many", "_law_taken"] (spCls) := ok_cls (fun_of D50) T G45 m__law_draw D45.kp b45 G49 m__law_fresh D49.kp b49
  have G51 : FnOk P w K mg base CX0 (3) _ fd51 ["_law_tape_here", "_law_kind", "_law_wide"] (spVal) := ok_lv (fun_of D51) G45 m__law_draw D45.kp b45 G47 m__law_rational D47.kp b47 G48 m__law_name D48.kp b48
  have G52 : FnOk P w K mg base CX0 (4) _ fd52 ["_law_tape_here", "_law_columns_here", "_law_wide"] (spVals) := ok_lvs (fun_of D52) T G51 m__law_value D51.kp b51
  have G53 : FnOk P w K mg base CX0 (2) _ fd53 ["_law_tape_here", "_law_items", "_law_many"] (spPkV) := ok_Pk (fun_of D53) T G45 m__law_draw D45.kp b45
  have G54 : FnOk P w K mg base CX0 (2) _ fd54 ["_law_tape_here"] (spFar) := ok_Far (fun_of D54) T mf_sorted G45 m__law_draw D45.kp b45
  have G55 : FnOk P w K mg base CX0 (1) _ fd55 ["_law_lineages"] (spUn) := ok_Lu (fun_of D55) T mf_sorted
  have G56 : FnOk P w K mg base CX0 (5) _ fd56 ["_law_tape_here", "_law_columns_here", "_law_many", "_law_wide"] (spRws) := ok_Rws (fun_of D56) T G52 m__law_values D52.kp b52 G54 m__law_lineage D54.kp b54 G45 m__law_draw D45.kp b45
  have G57 : FnOk P w K mg base CX0 (19) _ fd57 ["_law_tables", "_law_source", "_law_steps"] (spRan (ga K "Table")) := ok_Rn (fun_of D57) T M Z X0 G43 m_run D43.kp (kb_of b43 v43)
  have GrS := ran_s (K := K) G57
  have G58 : FnOk P w K mg base CX0 (5) _ fd58 ["_law_tape_here"] (spPair) := ok_Pa (fun_of D58) T G45 m__law_draw D45.kp b45 G50 m__law_columns D50.kp b50 G53 m__law_pick D53.kp b53
  have G59 : FnOk P w K mg base CX0 (2) _ fd59 ["_law_tape_here", "_law_columns_here", "_law_rows_here", "_law_shared"] (spAlk) := ok_Al (fun_of D59) T G45 m__law_draw D45.kp b45
  have G60 : FnOk P w K mg base CX0 (2) _ fd60 ["_law_tape_here", "_law_right", "_law_others", "_law_left", "_law_rows_here", "_law_names"] (spKyd) := ok_Ky (fun_of D60) T G45 m__law_draw D45.kp b45
  have G61 : FnOk P w K mg base CX0 (2) _ fd61 ["_law_left", "_law_rows_here", "_law_right", "_law_others", "_law_names"] (spJo) := ok_Jn (fun_of D61) T G55 m__law_union D55.kp b55
  have G62 : FnOk P w K mg base CX0 (1) _ fd62 ["_law_columns_here", "_law_rows_here"] (spDue) := ok_Du (fun_of D62) T
  have GdS := due_s (K := K) G62
  have G63 : FnG P w K mg base (20) _ fd63 ["_law_tape_here", "_law_columns_here", "_law_rows_here"] (spLg) := ok_Lg (fun_of D63) T M GQ m_run D43.kp b43 v43 G45 m__law_draw D45.kp b45 G62 m__law_due D62.kp b62 GrS m__law_ran D57.kp b57
  exact ok_Law (fun_of D64) T M G44 m__law_tape D44.kp b44 G58 m__law_pair D58.kp b58 G45 m__law_draw D45.kp b45 G59 m__law_alike_rows D59.kp b59 G56 m__law_rows D56.kp b56 G60 m__law_keyed D60.kp b60 G61 m__law_joined D61.kp b61 GrS m__law_ran D57.kp b57 GdS m__law_due D62.kp b62 G63 m__law_large D63.kp b63
end K19
open PySem PySem.W PySem.Calls PyProof.Rows
theorem PySem.Challenge.cw_liveclaims_k19_joined_and_united_rows_holds : PySem.Challenge.rw_liveclaims_k19_joined_and_united_rows.Holds := by
  w_on; o_law
  refine HandSHeadRun.head_any (r := OpenLaw.row PySem.Challenge.rw_liveclaims_k19_joined_and_united_rows) (q := view (OpenLaw.row PySem.Challenge.rw_liveclaims_k19_joined_and_united_rows).prog [144]) (H := K19.hk) (ob := K19.ob) (M := 20000) (loose := K19.loose) (d := HandSHeadRun.topDef (OpenLaw.row PySem.Challenge.rw_liveclaims_k19_joined_and_united_rows).prog 144) (kwd := []) K19.ob_eq
    (by kernel_rfl) (fun s => by kernel_rfl) K19.run (by kernel_rfl) (by kernel_rfl) (by kernel_rfl) (by rfl) (by first | assumption | decide +kernel) (by decide +kernel) ⟨rfl, rfl, rfl, rfl, rfl, by decide +kernel⟩ ?hw ?hc
  case hw => w_witness2
  case hc =>
    refine Lc.walk_GE (l := PySem.Challenge.rw_liveclaims_k19_joined_and_united_rows) (n := 63) (k := 21) (x := "_law_script") rfl (by decide) (by kernel_rfl) ⟨rfl, by decide, by decide⟩ ?F
    intro w mg fa h Y G hmg0
    obtain ⟨K, KX, c, e, tb⟩ := Y
    have hmg : mg ("law" : PySem.Str) = some (.ref fa) := by
      have e : (HandSHeadRun.topDef (OpenLaw.row PySem.Challenge.rw_liveclaims_k19_joined_and_united_rows).prog 144).name = ("law" : PySem.Str) := by kernel_rfl
      rw [← e]
      exact hmg0
    obtain ⟨fd, hb, hF⟩ := K19.facts (P := (PySem.Challenge.rw_liveclaims_k19_joined_and_united_rows).prog) (w := w) KX G hmg c e tb
    exact ⟨K, fd, K19.spLaw K, KX, hb, fun H a ns hl hS => ⟨a, ns, rfl, hS, fun _ => rfl⟩, hF⟩
