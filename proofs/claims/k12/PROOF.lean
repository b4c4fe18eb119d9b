import PyProof.Rows.All
import Wide.All
import OpenK.AllK
import Wide.FinOn
import HandS.ForMost
import HandS.ForExc
import HandS.Wide
import HandS.Flow
import HandS.IsInst
import HandS.ExcInit
import HandS.ExcField
import HandS.ExcIs
import HandS.TryMany
import HandS.CallLocal
import HandS.RaiseMore
import HandS.CallSlots
import KE.KExcIs
import PyProof.ReprRoads
import PyProof.ReprText
import HandS.Evl
import HandS.Walk
import HandS.Style
import PyProof.StrBlock2
import PyProof.StrLawsRepr
import PyProof.ReprLen
import KE.GoesEnum
import HandS.Iter
import HandS.TupMul
import HandS.ListItems
import HandS.OwnIter
import HandS.More
import PyProof.InstSpecial
import HandS.Defaults
import HandS.Head0
import HandS.Head1
import HandS.Head2
import HandS.HeadHook1
import HandS.HeadHook2
import KE.KStateDown
import HandS.HeadHook3
import HandS.Lambda
import HandS.ExcOwn
import KE.KExcInit
import PyProof.ExcBaseAll.IndexError
import PyProof.ExcBaseAll.OverflowError
import OpenK.KMore
import HandS.HeadNt
import HandS.MakeKw
import HandS.MakeKwOnly
import PyProof.InstNe
import HandS.DictSub
import PyProof.ExcBaseAll.LookupError
import HandS.DictComp
import HandS.Zip
import HandS.Dict
import KE.KDictPairs
import HandS.Sort
import KE.SortCalls
import KE.SortKeyed
import PyProof.Rows.RowHeap
import HandS.TupSets
import KE.KDictKeyed
import KE.KeyNested
import HandS.SetBool
import HandS.DictTup
import HandS.Set
import HandS.Comp
import HandS.Deep
import KE.KIntText
import PyProof.StrLawsTight
import PyProof.StrLawsChain
import HandS.StrMore
import HandS.Replace
import PyProof.EqKinds
import HandS.OwnEq
import HandS.FStr
import KE.GoesRaise
import HandS.TupAny
import KE.DataEq
import PySem.Challenge.RW_liveclaims_k12_tables_and_their_lineage
set_option Elab.async false
set_option linter.all false
set_option maxRecDepth 100000
set_option maxHeartbeats 4000000
namespace Lc
open PySem PySem.Spec PyProof.Rows L2
/-! ## A try with clauses of both forms, «except X:» and «except X as n:» -/
structure Cl where
  c : Value
  slot : Option Nat
  ts : Addr → Value → Option Addr → TS
def putS : Option Nat → Option V → L2.St → L2.St
  | none, _, σ => σ
  | some i, v, σ => σ.set i v
def endS (q : Option Nat) (D : Ends) : Ends := ⟨fun σ H => D.nx (putS q none σ) H, D.rt, fun σ H => D.bk (putS q none σ) H, fun σ H => D.ct (putS q none σ) H⟩
def wCl (K : PySem.W.Frag) (Wout : WX) (D : Ends) : List Cl → WX
  | [] => Wout
  | q :: r => fun cls d σ H => ∃ b, PySem.W.exmOne K cls q.c = some b ∧ (b = true → ∀ a, H a = none → q.ts a cls d (endS q.slot D) (putS q.slot (some (.ref a)) σ) H) ∧
      (b = false → wCl K Wout D r cls d σ H)
abbrev SuiteOk (X : Cx) (st : List Stmt) (ts : Addr → Value → Option Addr → TS) : Prop :=
  ∀ (a : Addr) (ob : Obj) (cls : Value) (d : Option Addr) (pn : List (Addr × Obj)), Zc cls d ob → (∃ vs, ob.data = .fields vs) → PSs (X.suite a ((a, ob) :: pn)) st (ts a cls d)
inductive ClsOk (X : Cx) : List ExceptHandler → List Cl → Prop
  | nil : ClsOk X [] []
  | bare {x : Str} {q : Cl} {st : Stmt} {sts : List Stmt} {p1 p2 : Pos} {hds : List ExceptHandler} {l : List Cl} (hc : Names X x q.c) (hq : q.slot = none) (su : SuiteOk X (st :: sts) q.ts) (r : ClsOk X hds l) :
      ClsOk X (.ExceptHandler (some (.Name x p1)) none (st :: sts) p2 :: hds) (q :: l)
  | named {x n : Str} {q : Cl} {i : Nat} {st : Stmt} {sts : List Stmt} {p1 p2 : Pos} {hds : List ExceptHandler} {l : List Cl} (hc : Names X x q.c) (hq : q.slot = some i) (hN : X.N.Nodup) (hi : X.N[i]? = some n) (hn : X.env.kindOf n = some .local)
      (su : SuiteOk X (st :: sts) q.ts) (r : ClsOk X hds l) : ClsOk X (.ExceptHandler (some (.Name x p1)) (some n) (st :: sts) p2 :: hds) (q :: l)
section
variable {X : Cx}
theorem clauses_go {Wout : WX} {D : Ends} {pins : List (Addr × Obj)} {σ : L2.St} {H : Hp} {cls : Value} {d : Option Addr} {a : Addr} {B : Heap} {sI s' : Shared} {h3 : Heap}
    (hs : X.stack = X.env :: X.outer) (hf : X.env.frame = some X.env.locals) (tk : Takes X Wout) (J : Inv X pins σ H sI)
    (nb : ∀ b o, sI.heap.get? b = some o → b ∉ frs X.stack → B.get? b = some o) (na : H a = none) (os : s'.os = sI.os) (ag : AllBare s'.gens)
    (up : sI.heap.UpToSlots h3) (fl : HandSPX.FlyingZ B (X.env :: X.outer) a (Zc cls d) h3) :
    ∀ {hds : List ExceptHandler} {l : List Cl}, ClsOk X hds l → wCl X.K Wout D l cls d σ H → wpAny (model X.prog X.w) X.A (handleBy (.ref a) X.env hds) (SP X pins D) X.xe { s' with heap := h3 } := by
  have ok := J.ok
  have land : ∀ {h4 : Heap}, HandSPX.FlyingZ B (X.env :: X.outer) a (Zc cls d) h4 → sI.heap.UpToSlots h4 → Inv X pins σ H { s' with heap := h4 } ∧ ∃ ob vs, Zc cls d ob ∧ ob.data = .fields vs ∧ h4.get? a = some ob ∧
      Inv (X.suite a ((a, ob) :: (X.pn ++ pins))) [] σ H { s' with heap := h4 } := by
    intro h4 f4 u4
    have J4 : Inv X pins σ H { s' with heap := h4 } := J.landed nb f4.1 u4 os ag
    obtain ⟨ob, vs, hob, hz, hd⟩ := f4.there
    have nfr : a ∉ frs (X.env :: X.outer) := fun hm => by
      obtain ⟨_, ox, ex, nf⟩ := f4.2.2.1.mem hm
      rw [hob] at ex
      cases ex
      exact nf _ hd
    have nL : a ≠ X.env.locals := fun z => nfr (List.mem_filterMap.mpr ⟨X.env, List.mem_cons_self, by rw [hf, z]⟩)
    have nF : a ∉ X.fs := fun hm => by
      obtain ⟨en, hen, qq⟩ := List.mem_filterMap.mp hm
      exact nfr (List.mem_filterMap.mpr ⟨en, List.mem_cons_of_mem _ hen, qq⟩)
    exact ⟨J4, ob, vs, hz, hd, hob, J4.suite hob hd na nL nF⟩
  obtain ⟨J3, o3, vs3, hz3, hd3, ho3, S3⟩ := land fl up
  have ty : PySem.W.Looks (model X.prog X.w) h3 (typeOf (.ref a)) cls := fun _ _ _ _ kk qq => wpAny_typeOf_ref (kk _ _ ho3) (by rw [hz3.1]; exact qq)
  have tst : ∀ {x : Str} {c : Value} {p1 : Pos} {Q : Value → Shared → Prop} {E : Value → Shared → Prop}, Names X x c → Q c { s' with heap := h3 } →
      wpAny (model X.prog X.w) (X.A.mark (some (.ref a))) (eval (.Name x p1) X.env) Q E { s' with heap := h3 } := by
    intro x c p1 Q E hc hq
    rcases hc with ⟨hg, hdb, hm | ⟨hm, hv, hne⟩⟩
    · exact ld_glob (X := X.suite a ((a, o3) :: (X.pn ++ pins))) S3 hg hm hq hdb
    · exact ld_blt (X := X.suite a ((a, o3) :: (X.pn ++ pins))) S3 hg hm hv hq hne hdb
  intro hds l hk
  induction hk with
  | nil =>
    intro wi
    refine wpAny_handleBy_nil ?_
    obtain ⟨_, _, _, ox, vx, T, _, _, hox, _, hdx, h1, _⟩ := id fl
    have out : wpAny (model X.prog X.w) X.A (setFlight (.ref a) X.env.frame) (fun _ s4 => wpAny (model X.prog X.w) X.A (throw (.ref a) : Sem Flow) (SP X pins D) X.xe s4) X.xe { s' with heap := h3 } := by
      rw [hf]
      exact HandSPX.setFlight_upZ fl fun h4 f4 u4 => wpAny_throw (tk _ _ ⟨a, B, sI, pins, σ, H, cls, d, rfl, J, nb, up.trans u4, .inr (.inr (by rw [hs]; exact f4)), na, os, ag, wi⟩)
    unfold PySem.passOn
    refine wpAny_bind (wpAny_field hox hdx h1 ?_)
    rw [if_neg (by simp : ¬ ((Value.ref T == Value.none) = true))]
    first
      | exact wpAny_bind out
      | exact wpAny_bind (wpAny_pure (wpAny_bind out))
  | @bare x q st sts p1 p2 hds2 l2 hc hq su r ih =>
    intro wi
    obtain ⟨b, hb, yes, no⟩ := wi
    refine wpAny_handleBy_cons (codeAny_handlers_test (tst hc ((PySem.W.exm_one (M := model X.prog X.w) J3.kIn ty hb).here ?_))) (by intro z; cases z)
    cases b with
    | false => exact ih (no rfl)
    | true =>
      refine codeAny_handlers_suite (HandSPX.lands_againZ fl fun h4 f4 u4 => ?_)
      obtain ⟨J4, o4, vs4, hz4, hd4, ho4, S4⟩ := land f4 (up.trans u4)
      have yy := yes rfl a na
      rw [hq] at yy
      refine wpAny_mono ((su a o4 cls d (X.pn ++ pins) hz4 ⟨_, hd4⟩).run [] _ _ H _ S4 yy) (fun f s6 hsp => ?_) (fun _ _ z => z.elim)
      cases f with
      | ret u =>
        obtain ⟨v6, σ6, H6, S6, r6, q6⟩ := hsp
        exact ⟨v6, σ6, H6, S6.unsuite ok, r6, q6⟩
      | next => obtain ⟨σ6, H6, S6, q6⟩ := hsp; exact ⟨σ6, H6, S6.unsuite ok, q6⟩
      | brk => obtain ⟨σ6, H6, S6, q6⟩ := hsp; exact ⟨σ6, H6, S6.unsuite ok, q6⟩
      | cont => obtain ⟨σ6, H6, S6, q6⟩ := hsp; exact ⟨σ6, H6, S6.unsuite ok, q6⟩
  | @named x n q i st sts p1 p2 hds2 l2 hc hq hN hi hn su r ih =>
    intro wi
    obtain ⟨b, hb, yes, no⟩ := wi
    refine wpAny_handleBy_cons (codeAny_handlers_test (tst hc ((PySem.W.exm_one (M := model X.prog X.w) J3.kIn ty hb).here ?_))) (by intro z; cases z)
    cases b with
    | false => exact ih (no rfl)
    | true =>
      refine codeAny_handlers_suite_as (HandSPX.lands_againZ fl fun h4 f4 u4 => ?_)
      obtain ⟨J4, o4, vs4, hz4, hd4, ho4, S4⟩ := land f4 (up.trans u4)
      have yy := yes rfl a na
      rw [hq] at yy
      refine store_ok (X := X.suite a ((a, o4) :: (X.pn ++ pins))) (v := .ref a) S4 hN hi (.inl hn) rfl (fun s5 S5 => ?_) (.inr hn)
      refine wpAny_mono ((su a o4 cls d (X.pn ++ pins) hz4 ⟨_, hd4⟩).run [] s5 _ H _ S5 yy) (fun f s6 hsp => ?_) (fun _ _ z => z.elim)
      have fin : ∀ {σ6 : L2.St} {H6 : Hp} {Q : Shared → Prop}, Inv (X.suite a ((a, o4) :: (X.pn ++ pins))) [] σ6 H6 s6 → (∀ s7, Inv X pins (σ6.set i none) H6 s7 → Q s7) →
          wpAny (model X.prog X.w) X.A (do bindName X.env n .none; unbindBehindTheSuite X.env n p2) (fun _ s7 => Q s7) X.xe s6 := fun S6 k => gone_ok (S6.unsuite ok) hN hi hn k
      cases f with
      | ret u =>
        obtain ⟨v6, σ6, H6, S6, r6, q6⟩ := hsp
        exact fin S6 fun s7 J7 => ⟨_, _, _, J7, r6, q6⟩
      | next => obtain ⟨σ6, H6, S6, q6⟩ := hsp; exact fin S6 fun s7 J7 => ⟨_, _, J7, q6⟩
      | brk => obtain ⟨σ6, H6, S6, q6⟩ := hsp; exact fin S6 fun s7 J7 => ⟨_, _, J7, q6⟩
      | cont => obtain ⟨σ6, H6, S6, q6⟩ := hsp; exact fin S6 fun s7 J7 => ⟨_, _, J7, q6⟩
theorem ps_tryL {body : List Stmt} {h₀ : ExceptHandler} {hds : List ExceptHandler} {l : List Cl} {pos : Pos} {tb : WX → TS} {Wout : WX} (hs : X.stack = X.env :: X.outer) (hf : X.env.frame = some X.env.locals) (tk : Takes X Wout)
    (hb : ∀ (W : WX) (pn : List (Addr × Obj)) (xe : Value → Shared → Prop), Takes (X.tr pn xe) W → PassesOwn (model X.prog X.w) X.A X.env xe → PSs (X.tr pn xe) body (tb W)) (hh : ClsOk X (h₀ :: hds) l) :
    PS X (.Try body (h₀ :: hds) [] [] pos) (fun D σ H => tb (wCl X.K Wout D l) D σ H) := by
  refine ⟨fun pins s σ H D I h => ?_⟩
  have ok := I.ok
  have fr : X.A.frames = some (X.env :: X.outer) := ok.frames.trans (congrArg some hs)
  refine wpAny_Try_except (wpAny_mono ((hb (wCl X.K Wout D l) (X.pn ++ pins) (fun e s₁ => wpAny (model X.prog X.w) X.A (noteFrame e X.env) (fun _ s₂ => wpAny (model X.prog X.w) X.A (setFlight e none)
    (fun _ s₃ => wpAny (model X.prog X.w) X.A (handleBy e X.env (h₀ :: hds)) (SP X pins D) X.xe s₃) X.xe s₂) X.xe s₁) (fun u s' xx => ?_) PassesOwn.looking).run [] s σ H D (I.toTry _) h) (fun f s1 hsp => ?_) (fun _ _ he => he))
  · obtain ⟨a, B, sI, _, σ1, H1, cls, d, rfl, J', nb, up, sky, na, os, ag, wi⟩ := xx
    rw [hs] at sky
    exact Sky.land Zc.steady fr hf sky fun h3 f3 u3 => clauses_go hs hf tk (J'.ofTry ok) nb na os ag (up.trans u3) f3 hh wi
  · cases f with
    | ret u =>
      obtain ⟨v1, σ1, H1, J1, r1, q1⟩ := hsp
      exact ⟨v1, σ1, H1, J1.ofTry ok, r1, q1⟩
    | next => obtain ⟨σ1, H1, J1, q1⟩ := hsp; exact wpAny_execs_nil ⟨σ1, H1, J1.ofTry ok, q1⟩
    | brk => obtain ⟨σ1, H1, J1, q1⟩ := hsp; exact ⟨σ1, H1, J1.ofTry ok, q1⟩
    | cont => obtain ⟨σ1, H1, J1, q1⟩ := hsp; exact ⟨σ1, H1, J1.ofTry ok, q1⟩
end
/-! ## isinstance of the caught error, whether it has a dict or not -/
structure XisC (K : PySem.W.Frag) (C : Addr) : Prop where
  hc : (PySem.W.clsIn K C).isSome = true
  ga : PySem.W.findIn K (.ref C) "__getattribute__" = some (some (.builtin "BaseException.__getattribute__"))
  gt : PySem.W.findIn K (.ref C) "__getattr__" = some none
  sb : PySem.W.subIn K (.ref C) (.type "BaseException") = some true
  cl : PySem.W.findIn K (.ref C) "__class__" = some (some (.builtin "object.__class__"))
  sp : PySem.W.specialIn K (.builtin "object.__class__") "__get__" = some (some (.builtin "getset_descriptor.__get__"))
  tk : PySem.W.takesIn K (.builtin "object.__class__") = some true
  mo : PySem.W.mroIn K C (.type "object") = some true
def rIsX (K : PySem.W.Frag) (cls : Value) (d : Option Addr) (C a : Addr) : List V → Hp → VK → Prop := fun xs H Q => cls = .ref C ∧ ∃ (c : V) (cv : Value) (b : Bool), xs = [.ref a, c] ∧ ClsV c cv ∧ (∀ dd, d = some dd → ∃ fs, H dd = some (.xd fs)) ∧
  PySem.W.kitOne K (.ref C) cv = some b ∧ Q (.bl b) H
section
variable {X : Cx}
theorem call_isX {a C : Addr} {ob : Obj} {cls : Value} {d : Option Addr} {pn : List (Addr × Obj)} (T : XisC X.K C) (hz : Zc cls d ob) (hf : ∃ vs, ob.data = .fields vs) : CallR (X.suite a ((a, ob) :: pn)) (.builtin "isinstance") (rIsX X.K cls d C a) := by
  intro pins s σ H xs us Q I r h
  obtain ⟨ec, c, cv, b, rfl, hcv, hd, e, q⟩ := h
  obtain ⟨u1, u2, rfl, r1, r2⟩ := vals2 r
  have e2 := hcv.eq r2
  subst e2 ec
  obtain rfl : u1 = Value.ref a := r1
  obtain ⟨vs, hv⟩ := hf
  obtain ⟨hget, _⟩ := I.pin (a, ob) (List.mem_append_left _ List.mem_cons_self)
  have nc : PySem.W.notCls ob = true := by unfold PySem.W.notCls; rw [hv]
  have key : ∃ od, PySem.W.InstAt s.heap a ob C od := by
    cases d with
    | none => exact ⟨none, hget, hz.1, nc, by rw [hz.2]; trivial⟩
    | some dd =>
      obtain ⟨fs, hfs⟩ := hd dd rfl
      obtain ⟨mA, ⟨o, _, _, ho, _⟩, _⟩ := (show ObjOk X.prog X.w H s.heap dd (.xd fs) from I.hok dd _ hfs)
      exact ⟨some o, hget, hz.1, nc, by rw [hz.2]; exact ho⟩
  obtain ⟨od, J⟩ := key
  exact PySem.W.kia_one (PySem.W.kitx_exc T.hc T.ga T.gt T.sb T.cl T.sp T.tk T.mo) I.kIn J e (fun z => nomatch z) fun tk => ⟨.bl b, H, I.kept (t' := tk) fun _ _ z => z, rfl, q⟩
/-! ## f(e, ..), f a local name that holds a def which may raise -/
def tCallLS (i : Nat) (f : Addr) (sp : Sp) (E : L2.St → XK) (t : TA) : TE := fun σ H Q => σ[i]? = some (some (.ref f)) ∧ t σ H fun vs H1 => sp vs H1 Q (E σ)
theorem pe_callLS {CX : CXT} {k i : Nat} {f : Addr} {fd : FuncData} {ps : List Str} {sp : Sp} {E : L2.St → XK} {x : Str} {p pos : Pos} {e : Expr} {es : List Expr} {t : TA}
    (F : FnOk X.prog X.w X.K X.mg X.base CX k f fd ps sp) (hr : Room k X.A) (hN : X.N[i]? = some x) (hv : Vis X.env.scope x) (hk : PySem.W.keepIn X.K (.ref f) = true) (hb : Binds X.K fd ps []) (hx : ∀ σ, PassesAt CX X σ (E σ)) (ha : PA X (e :: es) t)
    (hdb : (x == ("__debug__" : Str)) = false := by decide) (hcd : (x == ("__classdict__" : Str)) = false := by decide)
    (he : starEach (e :: es) X.env = (false, eval e X.env) :: starEach es X.env := by rfl) (hpl : (backTo pos (starEach es X.env)).any (·.1) = false := by rfl) : PE X (.Call (.Name x p) (e :: es) [] pos) (tCallLS i f sp E t) := by
  refine ⟨fun pins s σ H Q I ⟨hs, ht⟩ => wpAny_Call_Name_kw (thn ((pe_var (pos := p) hN hv hdb hcd).run pins s σ H (fun v H1 => v = .ref f ∧ H1 = H) I ⟨.ref f, hs, rfl, rfl⟩) fun u s1 ⟨v, H1, I1, r1, e1, e2⟩ => ?_)⟩
  subst e1 e2
  obtain rfl : u = Value.ref f := r1
  exact PySem.W.callWith_K (h₀ := X.base) I.ok.mod.kin hk (thn (ha.run pos pins s1 σ _ _ I1 ht) fun us s2 ⟨vs, H2, I2, r, q⟩ => ⟨I2.kIn, run_fnS F hr hb (hx σ) I2 r q⟩) he hpl
/-! ## C(), an own error class without an __init__ -/
theorem pmk_own0 {C : Addr} {bmB : List Value} {B newId initId : String} {x : Str} {p pos : Pos} (F : ExcBaseFacts B newId initId bmB) (q : PySem.W.excIn X.K C bmB newId = true) (gC : X.mg x = some (.ref C)) (kC : PySem.W.keepIn X.K (.ref C) = true)
    (r : Raises X (.ref C)) (hg : Gl X x) (hdb : (x == ("__debug__" : Str)) = false := by decide) : PMk X (.Call (.Name x p) [] [] pos) (fun _ H Q => Q (.ref C) none H) := by
  intro pins s σ H Q I h
  refine wpAny_Call_Name_kw (ld_glob I hg gC (PySem.W.callWith_K0 I.kIn kC ?_) hdb)
  obtain ⟨_, _, _, _, _, _, _, _, _, _, _, _, _, _, _, _, _, hC, hN, hni, T⟩ := exc_obj I.kIn q
  exact wpAny_call_exc_subT F T hC hN hni (fun h' e hm => mk_of I hm r h (I.hok.gone hm.new)) (by show 0 ≤ sizeLine; omega)
/-! ## // by any great number but 0 -/
theorem op_fdivZ : OpR X (binaryOp .FloorDiv) (rI (fun _ j => j ≠ 0 ∧ j.natAbs.log2 < 9000) fun i j => .int (i.fdiv j)) := opI fun _ _ _ _ _ _ _ hc q => floordiv_int hc.1 q (.inl (PyProof.noPylong_of_log2 hc.2))
/-! ## repr of data -/
def rReprD (K : PySem.W.Frag) : List V → Hp → VK → Prop := fun xs H Q => ∃ (a : Addr) (d : PyData), xs = [.ref a] ∧ Dp K H (.ref a) d ∧ d.showable = true ∧ d.hasDict = false ∧ d.depth ≤ 60 ∧ d.shown.length ≤ sizeLine ∧ Q (.str d.shown) H
theorem call_reprD (hu : X.A.units + 64 < cLine) (hg : X.A.guards = some []) : CallR X (.builtin "repr") (rReprD X.K) := by
  intro pins s σ H xs us Q I r h
  obtain ⟨a, d, rfl, hd, hs, hn, hde, hl, q⟩ := h
  obtain ⟨u, rfl, ru⟩ := vals1 r
  obtain rfl : u = Value.ref a := ru
  obtain ⟨as, rd⟩ := Dp.reads I d _ _ hd rfl
  exact repr_of_reads' rd hs (fun z => by rw [hn] at z; cases z) hg (by omega) (fun _ _ e => e) (fun h' u tk hk => ⟨.str d.shown, H, I.kept (t' := tk) hk, ⟨u, rfl⟩, q⟩) hl
end
end Lc
set_option Elab.async false
set_option linter.all false
set_option maxRecDepth 100000
set_option maxHeartbeats 4000000
namespace Lc
open PySem PySem.Spec PyProof.Rows L2
/-! ## Promises of defs that are called where no repr is under way -/
structure FnG (P : Program) (w : World) (K : PySem.W.Frag) (mg : Str → Option Value) (base : Heap) (k : Nat) (f : Addr) (fd : FuncData) (ps : List Str) (sp : Sp) : Prop where
  len : ∀ vs H Q E, sp vs H Q E → vs.length = ps.length
  run : ∀ (A : Around) (outer : List Env) (s : Shared) (H : Hp) (args : Args) (us : List Value) (vs : List V) (Q : VK) (E : XK), A.guards = some [] → Room k A → Env0 P w K mg base A outer s H → BindsTo s fd args (ps.zip us) → Vals vs us → sp vs H Q E →
    codeAny (model P w) A (.call (.ref f) args) (CR CX0 outer P w H s Q E) s
section
variable {P : Program} {w : World} {K : PySem.W.Frag} {mg : Str → Option Value} {base : Heap}
theorem Fun.okG {x qual : Str} {st : Stmt} {f : Addr} {fd : FuncData} {N ps : List Str} {k : Nat} {sp : Sp} (F : Fun K x qual st f fd) (S : FnScope N ps (defScope st)) (len : ∀ vs H Q E, sp vs H Q E → vs.length = ps.length)
    (go : ∀ (cdv : Value) (A : Around) (outer : List Env) (s : Shared) (H : Hp) (vs : List V) (Q : VK) (E : XK), A.guards = some [] → Room k (A.deeper (envOfC qual (defScope st) s.heap.objs.size f cdv)) → sp vs H Q E →
      ∃ t, PSs (cxOf CX0 P w K mg base N qual (defScope st) f cdv A outer s H E).nox (defBody st) t ∧ t { nx := fun _ H' => Q .non H', rt := Q } (start N vs) H) : FnG P w K mg base (k + 1) f fd ps sp := by
  obtain ⟨oc, od, kV, doc, pm, an, cdv, ct, osl, rfl, lk, hcd⟩ := F.ex
  refine ⟨len, fun A outer s H args us vs Q E hg hr e0 hb r hsp => ?_⟩
  have up : ∀ b o, base.get? b = some o → s.heap.get? b = some o := fun b o z => (e0.bs b o z).1
  have KX := e0.mod.kin.keeps up
  refine codeAny_call_function hr.depth (KX _ _ lk) rfl S.co S.gen rfl (PySem.W.codeRec_of KX hcd) (hb _ _ _ _ ?_)
  refine wpAny_newFunctionEnv_cells S.kind (fun y hy => ?_) fun env he s1 x => ?_
  · rcases S.par y.1 (List.of_mem_zip (a := y.1) (b := y.2) hy).1 with z | z
    · exact .inl z
    · exact .inr ⟨z, PySem.W.cellsFrom_some _ _ _ (.inl z)⟩
  subst he
  obtain ⟨t, ht, hq⟩ := go cdv A outer s H vs Q E hg (hr.deeper _) hsp
  have I : Inv (cxOf CX0 P w K mg base N qual (defScope st) f cdv A outer s H E) [] (start N vs) H s1 := inv_start S hr.hd e0 (len _ _ _ _ hsp) r x
  refine ⟨(e0.mod.nolimit.keeps up).keeps x.toInCall.keep, codeAny_func (wpAny_mono (ht.nox.run [] s1 (start N vs) H _ I hq) (fun fl s' hs => ?_) fun _ _ z => z)⟩
  cases fl with
  | ret u => obtain ⟨v, _, H', J, rv, q⟩ := hs; exact ⟨v, H', J.os, J.bare, J.base, J.hok, rv, q⟩
  | next => obtain ⟨_, H', J, q⟩ := hs; exact ⟨V.non, H', J.os, J.bare, J.base, J.hok, rfl, q⟩
  | brk => obtain ⟨_, _, _, q⟩ := hs; exact q.elim
  | cont => obtain ⟨_, _, _, q⟩ := hs; exact q.elim
end
section
variable {X : Cx} {k : Nat} {f : Addr} {fd : FuncData} {ps : List Str} {sp : Sp} {x : Str} {p pos : Pos} {e : Expr} {es : List Expr} {t : TA}
/-- f(e, ..), f kept under FnG -/
theorem pe_callG (F : FnG X.prog X.w X.K X.mg X.base k f fd ps sp) (gg : X.A.guards = some []) (hr : Room k X.A) (hg : Gl X x) (hm : X.mg x = some (.ref f)) (hk : PySem.W.keepIn X.K (.ref f) = true) (hb : Binds X.K fd ps [])
    (ha : PA X (e :: es) t) (hdb : (x == ("__debug__" : Str)) = false := by decide) (he : starEach (e :: es) X.env = (false, eval e X.env) :: starEach es X.env := by rfl) (hpl : (backTo pos (starEach es X.env)).any (·.1) = false := by rfl) :
    PE X (.Call (.Name x p) (e :: es) [] pos) (tCall sp [] E0 t) := by
  refine ⟨fun pins s σ H Q I h => wpAny_Call_Name_kw (ld_glob I hg hm ?_ hdb)⟩
  refine PySem.W.callWith_K (h₀ := X.base) I.ok.mod.kin hk (thn (ha.run pos pins s σ H _ I h) fun us s1 ⟨vs, H1, I1, r, q⟩ => ⟨I1.kIn, ?_⟩) he hpl
  replace q : sp vs H1 Q E0 := by
    have z : sp (vs ++ []) H1 Q E0 := q
    rw [List.append_nil] at z
    exact z
  have hl : us.length = ps.length := by rw [← r.length]; exact F.len _ _ _ _ q
  have b := hb s1 us I1.kIn (by rw [List.append_nil]; exact hl)
  rw [List.append_nil] at b
  refine wpAny_call (codeAny_mono (F.run X.A X.stack s1 H1 ⟨us, []⟩ us vs Q E0 gg hr I1.env0 b r q) fun rr s' hq => ?_)
  cases rr with
  | error er => exact False.elim hq
  | ok fl =>
    cases fl with
    | ret u => exact I1.after hq
    | next => exact False.elim hq
    | brk => exact False.elim hq
    | cont => exact False.elim hq
end
/-! ## The law itself -/
section
variable {P : Program} {w : World} {K : PySem.W.Frag} {mg mb : Str → Option Value} {k : Nat} {fa a : Addr} {fd : FuncData} {x : Str} {sp : Sp} {s : Shared} {vs : List Value} {ns : List Int}
theorem env_of {H : Hp} (KX : K.In s.heap) (hns : s.heap.Ns mainGlobals mg) (hb : s.heap.Ns builtinsNs mb) (hbb : ∀ x : Str, x ≠ "__name__" → mb x = bootBuiltins x) (hlim : s.heap.NoLimit) (hg : s.gens = #[])
    (ha : s.heap.get? a = some { cls := .type "list", data := .seq vs.toArray }) (hok : HOk P w H s.heap) (one : ∀ b, b ≠ a → H b = none) (nk : H a = none ∨ K.lookup a = none) :
    K.In (hidT s.heap H) ∧ (hidT s.heap H).Ns mainGlobals mg ∧ Env0 P w K mg (hidT s.heap H) callerA [] s H := by
  have keepN : ∀ {b : Addr} {m : Str → Option Value}, s.heap.Ns b m → (hidT s.heap H).Ns b m := by
    rintro b m ⟨o, es, ep, e, d, r⟩
    have nb : b ≠ a := fun z => by
      rw [z, ha] at e
      cases e
      exact nomatch (show Data.seq vs.toArray _ = Data.dict es ep from d)
    exact ⟨o, es, ep, hidT_get e (one b nb), d, r⟩
  have kin : K.In (hidT s.heap H) := fun b o e => hidT_get (KX b o e) (by
    by_cases z : b = a
    · rcases nk with q | q
      · rw [z]; exact q
      · rw [z, q] at e; cases e
    · exact one b z)
  obtain ⟨mc, l1, l2⟩ := hlim
  exact ⟨kin, keepN hns, rfl, ⟨kin, keepN hns, ⟨mb, keepN hb, hbb⟩, ⟨mc, keepN l1, l2⟩⟩, fun b o e => of_hidT e, Nat.le_of_eq (hidT_size _ _), trivial, fun b z => absurd (show b ∈ ([] : List Addr) from z) (by simp), hok, .of_eq hg⟩
theorem law_callG (KX : K.In s.heap) (hns : s.heap.Ns mainGlobals mg) (hb : s.heap.Ns builtinsNs mb) (hbb : ∀ x : Str, x ≠ "__name__" → mb x = bootBuiltins x) (hlim : s.heap.NoLimit) (hg : s.gens = #[])
    (ha : s.heap.get? a = some { cls := .type "list", data := .seq vs.toArray }) (hi : IntsAre vs ns) (hl : ns.length ≤ sizeLine) (hr : Room k callerA)
    (F : ∀ base : Heap, K.In base → base.Ns mainGlobals mg → FnG P w K mg base k fa fd [x] sp) (hbind : ∀ (s : Shared) (u : Value), BindsTo s fd ⟨[u], []⟩ [(x, u)])
    (hsp : ∀ H : Hp, SqL K H a (ns.map V.int) → sp [.ref a] H (fun v _ => v = .bl true) fun _ _ _ => False) :
    codeAny (model P w) callerA (.call (.ref fa) ⟨[.ref a], []⟩) (fun r s' => r = .ok (.ret (.bool true)) ∧ OldK s.heap s'.heap ∧ s'.os = s.os ∧ AllBare s'.gens) s := by
  have rv := vals_ints hi
  have go : ∀ H : Hp, SqL K H a (ns.map V.int) → HOk P w H s.heap → (∀ b, b ≠ a → H b = none) → (H a = none ∨ K.lookup a = none) → (∀ o, H a = some o → ∃ ob u, o = .frz ob u) →
      codeAny (model P w) callerA (.call (.ref fa) ⟨[.ref a], []⟩) (fun r s' => r = .ok (.ret (.bool true)) ∧ OldK s.heap s'.heap ∧ s'.os = s.os ∧ AllBare s'.gens) s := by
    intro H hS hok one nk fz
    obtain ⟨k1, k2, e0⟩ := env_of KX hns hb hbb hlim hg ha hok one nk
    refine codeAny_mono ((F _ k1 k2).run callerA [] s H ⟨[.ref a], []⟩ [.ref a] [.ref a] _ _ rfl hr e0 (hbind s (.ref a)) (.cons rfl .nil) (hsp H hS)) fun r s' h => ?_
    cases r with
    | error _ => exact False.elim h
    | ok fl =>
      cases fl with
      | next => exact False.elim h
      | brk => exact False.elim h
      | cont => exact False.elim h
      | ret u =>
        obtain ⟨v, H', os, bare, un, hok', ru, ev⟩ := h
        subst ev
        obtain rfl : u = Value.bool true := ru
        refine ⟨rfl, OldK.of_keep fun b o e => ?_, os, bare⟩
        cases q : H b with
        | none => exact un.keep b o e q (fun z => absurd (show b ∈ ([] : List Addr) from z) (by simp)) (by simp)
        | some oo =>
          have zb : b = a := Classical.byContradiction fun z => by rw [one b z] at q; cases q
          subst zb
          obtain ⟨ob, u, rfl⟩ := fz oo q
          obtain ⟨e1, _⟩ := hok b _ q
          obtain ⟨e2, _⟩ := hok' b _ (un.frzs b ob u q)
          rw [e] at e1
          cases e1
          exact e2
  cases hk : K.lookup a with
  | some o =>
    have e := KX a o hk
    rw [ha] at e
    cases e
    exact go (fun _ => none) (.inr ⟨_, vs.toArray, _, hk, rfl, rfl, rfl, by rw [List.size_toArray, hi.length]; exact hl, by simpa using rv⟩) (fun b u z => nomatch z) (fun _ _ => rfl) (.inl rfl) (fun o z => nomatch z)
  | none =>
    let ob : Obj := { cls := .type "list", data := .seq vs.toArray }
    refine go (upd (fun _ => none) a (.frz ob (.lst (ns.map V.int)))) (.inl (.inr ⟨ob, upd_same⟩)) (fun b u z => ?_) (fun b z => upd_ne z) (.inr hk) (fun o z => ?_)
    · by_cases q : b = a
      · subst q
        rw [upd_same] at z
        cases z
        exact ⟨ha, by rw [List.length_map]; exact hl, vs, _, rv, ha⟩
      · rw [upd_ne q] at z
        cases z
    · rw [upd_same] at z
      cases z
      exact ⟨_, _, rfl⟩
end
theorem walk_G {l : PySem.W.OpenLaw} {n k : Nat} {q : Program} {loose : List Str} {XP : (Str → Option Value) → Heap → Prop} {YP : World → Heap → Prop} {d : DefRec} {K : Params → PySem.W.Frag} {sp : PySem.W.Frag → Sp} {x : Str}
    (hn : l.most = some n) (hn2 : n ≤ sizeLine) (hdf : d.params.defaults = []) (hr : Room k callerA) (hY : ∀ (w : World) (h : Heap), YP w h → (K w.params).In h)
    (F : ∀ (w : World) (mg : Str → Option Value) (fa : Addr) (h : Heap), (K w.params).In h → h.Ns mainGlobals mg → mg d.name = some (.ref fa) →
      ∃ fd : FuncData, (∀ (s : Shared) (u : Value), BindsTo s fd ⟨[u], []⟩ [(x, u)]) ∧ ∀ base : Heap, (K w.params).In base → base.Ns mainGlobals mg → FnG l.prog w (K w.params) mg base k fa fd [x] (sp (K w.params)))
    (hsp : ∀ (K : PySem.W.Frag) (H : Hp) (a : Addr) (ns : List Int), ns.length ≤ n → SqL K H a (ns.map V.int) → sp K [.ref a] H (fun v _ => v = .bl true) fun _ _ _ => False) :
    PySem.W.WalkO q loose XP YP l.row.toRowW d [] (fun f vs => PySem.call f vs) := by
  refine Att.attach_call hn hdf fun w _ s mg mb fa _ _ _ _ a vs ns G Y _ _ _ hmg hobj hints hlen hg => ?_
  obtain ⟨fd, hb, hF⟩ := F w mg fa _ (hY w _ Y) G.T.g hmg
  exact law_callG (hY w _ Y) G.T.g G.T.b G.T.builtins G.T.nolimit hg hobj hints (Nat.le_trans hlen hn2) hr hF hb fun H hS => hsp _ H a ns hlen hS
end Lc
set_option maxRecDepth 100000
set_option maxHeartbeats 4000000
set_option linter.all false
namespace Lc
/-! ## Greatest common divisors and lowest terms -/
def gd (a b : Int) : Int := (Int.gcd a b : Int)
theorem gd_nonneg (a b : Int) : 0 ≤ gd a b := Int.natCast_nonneg _
theorem gd_pos {a b : Int} (h : b ≠ 0) : 0 < gd a b := by
  have : 0 < Int.gcd a b := Int.gcd_pos_of_ne_zero_right a h
  unfold gd
  omega
theorem gd_zero {a : Int} (h : 0 ≤ a) : gd a 0 = a := by
  unfold gd
  rw [Int.gcd_zero_right]
  omega
theorem gd_step {a b : Int} (ha : 0 ≤ a) (hb : 0 < b) : gd b (a % b) = gd a b := by
  unfold gd Int.gcd
  have e1 : (a % b).natAbs = a.natAbs % b.natAbs := by
    have h0 : 0 ≤ a % b := Int.emod_nonneg a (by omega)
    have : ((a % b).natAbs : Int) = ((a.natAbs % b.natAbs : Nat) : Int) := by
      rw [Int.natCast_emod, Int.natAbs_of_nonneg h0, Int.natAbs_of_nonneg ha, Int.natAbs_of_nonneg (by omega : 0 ≤ b)]
    exact Int.ofNat.inj this
  rw [e1, Nat.gcd_comm b.natAbs, ← Nat.gcd_rec, Nat.gcd_comm]
theorem gd_abs (a b : Int) : gd (if a < 0 then -a else a) b = gd a b := by
  unfold gd
  split
  · rw [Int.neg_gcd]
  · rfl
theorem gd_abs2 (a b : Int) : gd a (if b < 0 then -b else b) = gd a b := by
  unfold gd
  split
  · rw [Int.gcd_neg]
  · rfl
theorem gd_dvd1 (a b : Int) : gd a b ∣ a := Int.gcd_dvd_left a b
theorem gd_dvd2 (a b : Int) : gd a b ∣ b := Int.gcd_dvd_right a b
theorem gd_natAbs_le {a b : Int} (h : b ≠ 0) : (gd a b).natAbs ≤ b.natAbs := by
  have h1 : Int.gcd a b ≤ b.natAbs := Nat.le_of_dvd (by omega) (Int.gcd_dvd_natAbs_right a b)
  unfold gd
  rw [Int.natAbs_natCast]
  exact h1
def lowN (n d : Int) : Int := n / gd n d
def lowD (n d : Int) : Int := d / gd n d
structure Rt (n d : Int) : Prop where
  pos : 0 < d
  cop : gd n d = 1
theorem low_mul {n d : Int} (h : d ≠ 0) : lowN n d * gd n d = n ∧ lowD n d * gd n d = d := ⟨Int.ediv_mul_cancel (gd_dvd1 n d), Int.ediv_mul_cancel (gd_dvd2 n d)⟩
theorem lowD_pos {n d : Int} (h : 0 < d) : 0 < lowD n d := Int.ediv_pos_of_pos_of_dvd h (gd_nonneg n d) (gd_dvd2 n d)
theorem low_rt {n d : Int} (h : 0 < d) : Rt (lowN n d) (lowD n d) := by
  refine ⟨lowD_pos h, ?_⟩
  have hg : 0 < Int.gcd n d := Int.gcd_pos_of_ne_zero_right n (by omega)
  unfold lowN lowD gd
  rw [Int.gcd_ediv_gcd_ediv_gcd hg]
  rfl
theorem dvd_cop {k m n : Int} (h : k ∣ n * m) (g : Int.gcd m k = 1) : k ∣ n := by
  have h1 : k.natAbs ∣ m.natAbs * n.natAbs := by
    rw [← Int.natAbs_mul, Int.mul_comm]
    exact Int.natAbs_dvd_natAbs.mpr h
  have c : Nat.Coprime k.natAbs m.natAbs := by
    show Nat.gcd k.natAbs m.natAbs = 1
    rw [Nat.gcd_comm]
    exact g
  exact Int.natAbs_dvd_natAbs.mp (c.dvd_of_dvd_mul_left h1)
/-- lowest terms are one pair alone -/
theorem rt_unique {a b c d : Int} (h1 : Rt a b) (h2 : Rt c d) (e : a * d = c * b) : a = c ∧ b = d := by
  have g1 : Int.gcd a b = 1 := by have := h1.cop; unfold gd at this; omega
  have g2 : Int.gcd c d = 1 := by have := h2.cop; unfold gd at this; omega
  have db : b ∣ d := by
    have : b ∣ d * a := ⟨c, by rw [Int.mul_comm d a, e, Int.mul_comm]⟩
    exact dvd_cop this g1
  have dd : d ∣ b := by
    have : d ∣ b * c := ⟨a, by rw [Int.mul_comm b c, ← e, Int.mul_comm]⟩
    exact dvd_cop this g2
  have hb := h1.pos
  have hd := h2.pos
  have ebd : b = d := Int.le_antisymm (Int.le_of_dvd hd db) (Int.le_of_dvd hb dd)
  subst ebd
  exact ⟨Int.eq_of_mul_eq_mul_right (by omega) e, rfl⟩
theorem low_is {n d a b : Int} (hd : 0 < d) (h : Rt a b) (e : n * b = a * d) : lowN n d = a ∧ lowD n d = b := by
  have m := low_mul (n := n) (d := d) (by omega)
  have g := gd_pos (a := n) (b := d) (by omega)
  refine rt_unique (low_rt hd) h ?_
  have e2 : (lowN n d * b) * gd n d = (a * lowD n d) * gd n d := by
    rw [Int.mul_right_comm, m.1, Int.mul_assoc, m.2, e]
  exact Int.eq_of_mul_eq_mul_right (by omega) e2
theorem fdiv_neg_dvd {a g : Int} (hg : 0 < g) (h : g ∣ a) : a.fdiv (-g) = (-a) / g := by
  obtain ⟨m, rfl⟩ := h
  have e1 : g * m = (-g) * (-m) := by rw [Int.neg_mul_neg]
  have e2 : -(g * m) = g * (-m) := by rw [Int.mul_neg]
  rw [e2, Int.mul_ediv_cancel_left _ (by omega), e1, Int.mul_fdiv_cancel_left _ (by omega)]
/-- the sums and products of the law -/
theorem sub_add {an ad bn bd p q : Int} (had : 0 < ad) (hbd : 0 < bd) (hq : 0 < q) (h : p * (ad * bd) = (an * bd + bn * ad) * q) : (p * bd - bn * q) * ad = an * (q * bd) := by
  have e1 : (p * bd - bn * q) * ad = p * (ad * bd) - bn * q * ad := by
    rw [Int.sub_mul, Int.mul_assoc p bd ad, Int.mul_comm bd ad]
  have e2 : (an * bd + bn * ad) * q = an * (q * bd) + bn * q * ad := by
    rw [Int.add_mul, Int.mul_assoc an bd q, Int.mul_comm bd q, Int.mul_assoc bn ad q, Int.mul_comm ad q, Int.mul_assoc bn q ad]
  rw [e1, h, e2]
  omega
theorem mul_div {an ad bn bd p q : Int} (h : p * (ad * bn) = (an * bd) * q) (hbn : bn ≠ 0) : (p * bn) * ad = an * (q * bd) := by
  rw [Int.mul_assoc p bn ad, Int.mul_comm bn ad, h, Int.mul_assoc an bd q, Int.mul_comm bd q]
end Lc
namespace Lc
theorem low_le {n d : Int} (h : d ≠ 0) : (lowN n d).natAbs ≤ n.natAbs ∧ (lowD n d).natAbs ≤ d.natAbs := by
  have m := low_mul (n := n) (d := d) h
  have g := gd_pos (a := n) (b := d) h
  have e1 : n.natAbs = (lowN n d).natAbs * (gd n d).natAbs := by rw [← Int.natAbs_mul, m.1]
  have e2 : d.natAbs = (lowD n d).natAbs * (gd n d).natAbs := by rw [← Int.natAbs_mul, m.2]
  have gp : 0 < (gd n d).natAbs := by omega
  exact ⟨by rw [e1]; exact Nat.le_mul_of_pos_right _ gp, by rw [e2]; exact Nat.le_mul_of_pos_right _ gp⟩
theorem rt_one (n : Int) : Rt n 1 := ⟨by decide, by unfold gd; rw [Int.gcd_one]; rfl⟩
theorem rt_inv {d : Int} (h : 0 < d) : Rt 1 d := ⟨h, by unfold gd; rw [Int.one_gcd]; rfl⟩
theorem rt_ninv {d : Int} (h : 0 < d) : Rt (-1) d := ⟨h, by unfold gd; rw [Int.neg_gcd, Int.one_gcd]; rfl⟩
end Lc
set_option Elab.async false
set_option linter.all false
set_option maxRecDepth 100000
set_option maxHeartbeats 4000000
namespace Lc
open PySem PySem.Spec PyProof.Rows L2
/-! ## Kinds of values -/
inductive TyN (H : Hp) : V → String → Prop
  | non : TyN H .non "NoneType"
  | bl (b : Bool) : TyN H (.bl b) "bool"
  | int (i : Int) : TyN H (.int i) "int"
  | str (x : Str) : TyN H (.str x) "str"
  | tup {a : Addr} {xs : List V} (e : H a = some (.tup xs)) : TyN H (.ref a) "tuple"
  | lst {a : Addr} {xs : List V} (e : H a = some (.lst xs)) : TyN H (.ref a) "list"
  | dct {a : Addr} {kvs : List (Key × V)} (e : H a = some (.dK kvs)) : TyN H (.ref a) "dict"
theorem TyN.x {K : PySem.W.Frag} {H : Hp} {v : V} {t : String} (h : TyN H v t) : TyX K H v (.type t) := by
  cases h with
  | non => exact .base .non
  | bl b => exact .base (.bl b)
  | int i => exact .base (.int i)
  | str x => exact .base (.str x)
  | tup e => exact .base (.tup e)
  | lst e => exact .base (.lst e)
  | dct e => exact .base (.dK e)
theorem TyN.same {H H' : Hp} {v : V} {t : String} (h : TyN H v t) (s : Same H H') : TyN H' v t := by
  cases h with
  | non => exact .non
  | bl b => exact .bl b
  | int i => exact .int i
  | str x => exact .str x
  | tup e => exact .tup (s _ _ e)
  | lst e => exact .lst (s _ _ e)
  | dct e => exact .dct (s _ _ e)
theorem TyN.isInt {H : Hp} {v : V} {t : String} (h : TyN H v t) (e : t = "int") : ∃ i, v = .int i := by
  cases h <;> first | exact ⟨_, rfl⟩ | exact absurd e (by decide)
theorem TyN.isStr {H : Hp} {v : V} {t : String} (h : TyN H v t) (e : t = "str") : ∃ x, v = .str x := by
  cases h <;> first | exact ⟨_, rfl⟩ | exact absurd e (by decide)
theorem TyN.isTup {H : Hp} {v : V} {t : String} (h : TyN H v t) (e : t = "tuple") : ∃ a xs, v = .ref a ∧ H a = some (.tup xs) := by
  cases h <;> first | exact ⟨_, _, rfl, by assumption⟩ | exact absurd e (by decide)
def tyNames : List String := ["NoneType", "bool", "int", "str", "tuple", "list", "dict"]
theorem TyN.mem {H : Hp} {v : V} {t : String} (h : TyN H v t) : t ∈ tyNames := by
  cases h <;> simp [tyNames]
theorem kit_int {K : PySem.W.Frag} {t : String} (h : t ∈ tyNames) : PySem.W.kitOne K (.type t) (.type "int") = some (t == "int" || t == "bool") := by
  have : ∀ t ∈ tyNames, kitB t "int" = some (t == "int" || t == "bool") := by decide +kernel
  exact kit_ty (this t h)
theorem kit_bool {K : PySem.W.Frag} {t : String} (h : t ∈ tyNames) : PySem.W.kitOne K (.type t) (.type "bool") = some (t == "bool") := by
  have : ∀ t ∈ tyNames, kitB t "bool" = some (t == "bool") := by decide +kernel
  exact kit_ty (this t h)
theorem kit_tuple {K : PySem.W.Frag} {t : String} (h : t ∈ tyNames) : PySem.W.kitOne K (.type t) (.type "tuple") = some (t == "tuple") := by
  have : ∀ t ∈ tyNames, kitB t "tuple" = some (t == "tuple") := by decide +kernel
  exact kit_ty (this t h)
theorem kit_str {K : PySem.W.Frag} {t : String} (h : t ∈ tyNames) : PySem.W.kitOne K (.type t) (.type "str") = some (t == "str") := by
  have : ∀ t ∈ tyNames, kitB t "str" = some (t == "str") := by decide +kernel
  exact kit_ty (this t h)
/-! ## What is a rational -/
def ratB : V → V → Bool
  | .int n, .int d => decide (0 < d) && decide (gd n d = 1)
  | _, _ => false
inductive Rk (H : Hp) : V → Bool → Prop
  | other {v : V} {t : String} (h : TyN H v t) (n : t ≠ "tuple") : Rk H v false
  | len {a : Addr} {xs : List V} (e : H a = some (.tup xs)) (n : xs.length ≠ 2) : Rk H (.ref a) false
  | pair {a : Addr} {x y : V} {tx ty : String} (e : H a = some (.tup [x, y])) (hx : TyN H x tx) (hy : TyN H y ty) : Rk H (.ref a) (ratB x y)
theorem Rk.same {H H' : Hp} {v : V} {b : Bool} (h : Rk H v b) (s : Same H H') : Rk H' v b := by
  cases h with
  | other h n => exact .other (h.same s) n
  | len e n => exact .len (s _ _ e) n
  | pair e hx hy => exact .pair (s _ _ e) (hx.same s) (hy.same s)
theorem Rk.of {H : Hp} {a : Addr} {n d : Int} (e : H a = some (.tup [.int n, .int d])) (r : Rt n d) : Rk H (.ref a) true := by
  have z : ratB (.int n) (.int d) = true := by
    show (decide (0 < d) && decide (gd n d = 1)) = true
    rw [decide_eq_true r.pos, decide_eq_true r.cop]
    rfl
  rw [← z]
  exact .pair e (.int n) (.int d)
/-! ## repr -/
inductive Shw (K : PySem.W.Frag) (H : Hp) : V → Str → Prop
  | data {v : V} {d : PyData} (h : Dp K H v d) (h1 : d.showable = true) (h2 : d.hasDict = false) (h3 : d.depth ≤ 60) (h4 : d.shown.length ≤ sizeLine) : Shw K H v d.shown
  | empty {a : Addr} (e : H a = some (.dK [])) : Shw K H (.ref a) (PyData.dict []).shown
def rReprV (K : PySem.W.Frag) : List V → Hp → VK → Prop := fun xs H Q => ∃ (v : V) (z : Str), xs = [v] ∧ Shw K H v z ∧ Q (.str z) H
theorem call_reprV {X : Cx} (hg : X.A.guards = some []) (hu : X.A.units + 64 < cLine) : CallR X (.builtin "repr") (rReprV X.K) := by
  intro pins s σ H xs us Q I r h
  obtain ⟨v, z, rfl, hd, q⟩ := h
  obtain ⟨u, rfl, ru⟩ := vals1 r
  cases hd with
  | @data _ d hd h1 h2 h3 h4 =>
    obtain ⟨as, rd⟩ := Dp.reads I d _ _ hd ru
    cases hd with
    | non =>
      obtain rfl : u = Value.none := ru
      exact P.repr_of_none ⟨.str _, H, I.tok _, ⟨_, rfl⟩, q⟩
    | bl b =>
      obtain rfl : u = Value.bool b := ru
      exact P.repr_of_bool ⟨.str _, H, I.tok _, ⟨_, rfl⟩, q⟩
    | int i =>
      obtain ⟨t, rfl⟩ := (show ∃ t, u = Value.int i t from ru)
      exact P.repr_of_int (of_decide_eq_true (by simpa [PyData.showable] using h1)) ⟨.str _, H, I.tok _, ⟨_, rfl⟩, q⟩
    | str x =>
      obtain ⟨t, rfl⟩ := (show ∃ t, u = Value.str x t from ru)
      exact P.repr_of_str ⟨.str _, H, I.tok _, ⟨_, rfl⟩, q⟩ h4
    | @lst a xs ds e1 e2 =>
      obtain rfl : u = Value.ref a := ru
      exact repr_of_reads' rd h1 (PyData.noDict_hsm h2) hg (by omega) (fun _ _ e => e) (fun h' u tk hk => ⟨.str _, H, I.kept (t' := tk) hk, ⟨u, rfl⟩, q⟩) h4
    | @tup a xs ds e1 e2 =>
      obtain rfl : u = Value.ref a := ru
      exact repr_of_reads' rd h1 (PyData.noDict_hsm h2) hg (by omega) (fun _ _ e => e) (fun h' u tk hk => ⟨.str _, H, I.kept (t' := tk) hk, ⟨u, rfl⟩, q⟩) h4
  | @empty a e =>
    obtain rfl : u = Value.ref a := ru
    obtain ⟨_, ns, vs, kv, o, es, ep, h1, h2, h3, h4⟩ := (show ObjOk X.prog X.w H s.heap a (.dK []) from I.hok a _ e)
    cases kv
    have es0 : es.toList = [] := by
      obtain ⟨_, hp, _⟩ := h4
      generalize es.toList = l at hp
      cases hp
      rfl
    have rd : Reads s.heap (.ref a) (.dict []) (a :: [] ++ []) := Reads.dict h1 h2.1 h3 (by rw [es0]; exact .nil) (by rw [es0]; exact .nil)
    exact repr_of_reads' rd (by decide) (fun _ hm => by
      have : sysModules = a := by simpa using hm
      rw [this] at ns
      simp at ns) hg (by show X.A.units + (PyData.depth (.dict []) + 1) < cLine; have : PyData.depth (.dict []) ≤ 60 := by decide +kernel
                         omega) (fun _ _ e => e) (fun h' u tk hk => ⟨.str _, H, I.kept (t' := tk) hk, ⟨u, rfl⟩, q⟩) (by decide +kernel)
theorem dp_same {K : PySem.W.Frag} {H H' : Hp} (s : Same H H') : ∀ {v : V} {d : PyData}, Dp K H v d → Dp K H' v d := by
  have sq : ∀ {a xs}, SqT K H a xs → SqT K H' a xs := by
    intro a xs h
    rcases h with (h | ⟨o, h⟩) | h
    · exact .inl (.inl (s _ _ h))
    · exact .inl (.inr ⟨o, s _ _ h⟩)
    · exact .inr h
  intro v d h
  induction h using Dp.rec (motive_2 := fun vs ds _ => DpAll K H' vs ds) with
  | non => exact .non
  | bl b => exact .bl b
  | int i => exact .int i
  | str x => exact .str x
  | lst h1 _ ih => exact .lst (s.seq h1) ih
  | tup h1 _ ih => exact .tup (sq h1) ih
  | nil => exact .nil
  | cons _ _ i1 i2 => exact .cons i1 i2
theorem Shw.same {K : PySem.W.Frag} {H H' : Hp} (s : Same H H') {v : V} {z : Str} (h : Shw K H v z) : Shw K H' v z := by
  cases h with
  | data h h1 h2 h3 h4 => exact .data (dp_same s h) h1 h2 h3 h4
  | empty e => exact .empty (s _ _ e)
theorem Same.upd {H : Hp} {p : Addr} {o : HO} (h : H p = none) : Same H (upd H p o) := fun b u e => by rw [upd_ne (ne_of_none e h)]; exact e
end Lc
set_option Elab.async false
set_option linter.all false
set_option maxRecDepth 100000
set_option maxHeartbeats 4000000
namespace Lc
open PySem PySem.Spec PyProof.Rows L2
/-! ## The law's tape -/
def Tape (H : Hp) (t : Addr) : Prop := ∃ (l : Addr) (ns : List Int) (pos rest mix : Int), H t = some (.lst [.ref l, .int pos, .int rest, .int mix]) ∧ H l = some (.lst (ns.map V.int)) ∧ 0 ≤ pos ∧ 0 ≤ rest ∧ 0 ≤ mix ∧ mix < 2147483647
/-- all but what stands at t is as it was -/
def SameB (t : Addr) (H H' : Hp) : Prop := ∀ b o, b ≠ t → H b = some o → H' b = some o
theorem SameB.refl (t : Addr) (H : Hp) : SameB t H H := fun _ _ _ e => e
theorem SameB.trans {t : Addr} {H H1 H2 : Hp} (a : SameB t H H1) (b : SameB t H1 H2) : SameB t H H2 := fun c o n e => b c o n (a c o n e)
theorem Same.b {H H' : Hp} (t : Addr) (s : Same H H') : SameB t H H' := fun b o _ e => s b o e
theorem SameB.upd {t : Addr} {H : Hp} {o : HO} : SameB t H (upd H t o) := fun b u n e => by rw [upd_ne n]; exact e
theorem tape_ne {l t : Addr} {H : Hp} {ns : List Int} {vs : List V} (h1 : H t = some (.lst (.ref l :: vs))) (h2 : H l = some (.lst (ns.map V.int))) : l ≠ t := by
  refine ne_of h2 h1 fun z => ?_
  cases ns with
  | nil => injection z with z; cases z
  | cons n ns => injection z with z; injection z with z; cases z
theorem Tape.same {H H' : Hp} {t : Addr} (h : Tape H t) (s : Same H H') : Tape H' t := by
  obtain ⟨l, ns, pos, rest, mix, h1, h2, h3⟩ := h
  exact ⟨l, ns, pos, rest, mix, s _ _ h1, s _ _ h2, h3⟩
theorem cut_ints (ns : List Int) (lo hi : Option Int) : ∃ ms : List Int, cutV (ns.map V.int) lo hi = ms.map V.int := by
  unfold cutV
  rw [← List.map_drop, ← List.map_take]
  exact ⟨_, rfl⟩
def spTape (K : PySem.W.Frag) : Sp := fun vs H Q _ => ∃ (a : Addr) (ns : List Int), vs = [.ref a] ∧ SqL K H a (ns.map V.int) ∧ ∀ (t : Addr) (H' : Hp), Same H H' → H t = none → Tape H' t → Q (.ref t) H'
def spDraw : Sp := fun vs H Q _ => ∃ (t : Addr) (many : Int), vs = [.ref t, .int many] ∧ Tape H t ∧ 0 < many ∧ many.natAbs < 2 ^ 4000 ∧ ∀ (k : Int) (H' : Hp), 0 ≤ k → k < many → Tape H' t → SameB t H H' → Q (.int k) H'
def New2' (H : Hp) (Q : VK) (n d : Int) : Prop := ∀ p, H p = none → Q (.ref p) (upd H p (.tup [.int n, .int d]))
def spLowest : Sp := fun vs H Q _ => ∃ n d : Int, vs = [.int n, .int d] ∧ 0 < d ∧ d.natAbs < 2 ^ 4000 ∧ New2' H Q (lowN n d) (lowD n d)
def spRational : Sp := fun vs H Q _ => ∃ (t : Addr) (b : Bool), vs = [.ref t, .bl b] ∧ Tape H t ∧ ∀ (p : Addr) (n d : Int) (H' : Hp), Rt n d → n.natAbs < 2 ^ 140 → d.natAbs < 2 ^ 140 → H' p = some (.tup [.int n, .int d]) → H p = none → Tape H' t → SameB t H H' → Q (.ref p) H'
theorem log_lt' {n : Int} (h : n.natAbs < 2 ^ 4000) : n.natAbs.log2 < 9000 := by
  by_cases z : n.natAbs = 0
  · rw [z]
    decide
  · exact Nat.lt_of_lt_of_le ((Nat.log2_lt z).mpr h) (by decide)
end Lc
namespace Lc
open PySem PySem.Spec PyProof.Rows L2
theorem SameB.free {t p : Addr} {H H' : Hp} (s : SameB t H H') (h : Tape H' t) (e : H' p = none) : H p = none := by
  cases q : H p with
  | none => rfl
  | some o =>
    by_cases z : p = t
    · subst z
      obtain ⟨_, _, _, _, _, h1, _⟩ := h
      rw [h1] at e
      cases e
    · rw [s p o z q] at e
      cases e
theorem Tape.ne {t p : Addr} {H : Hp} (h : Tape H t) (e : H p = none) : p ≠ t := by
  intro z
  subst z
  obtain ⟨_, _, _, _, _, h1, _⟩ := h
  rw [h1] at e
  cases e
theorem Tape.neT {t p : Addr} {H : Hp} {xs : List V} (h : Tape H t) (e : H p = some (.tup xs)) : p ≠ t := by
  intro z
  subst z
  obtain ⟨_, _, _, _, _, h1, _⟩ := h
  rw [h1] at e
  cases e
theorem p18 : (10 : Int) ^ (18 : Int).toNat = 1000000000000000000 := by decide
theorem p40 : (10 : Int) ^ (40 : Int).toNat = 10000000000000000000000000000000000000000 := by decide
end Lc
namespace Lc
open PySem PySem.Spec PyProof.Rows L2
/-- the tape, its list at l -/
def TapeL (l : Addr) (H : Hp) (t : Addr) : Prop := ∃ (ns : List Int) (pos rest mix : Int), H t = some (.lst [.ref l, .int pos, .int rest, .int mix]) ∧ H l = some (.lst (ns.map V.int)) ∧ 0 ≤ pos ∧ 0 ≤ rest ∧ 0 ≤ mix ∧ mix < 2147483647
theorem TapeL.tape {l : Addr} {H : Hp} {t : Addr} (h : TapeL l H t) : Tape H t := ⟨l, h⟩
theorem TapeL.same {l : Addr} {H H' : Hp} {t : Addr} (h : TapeL l H t) (s : Same H H') : TapeL l H' t := by
  obtain ⟨ns, pos, rest, mix, h1, h2, h3⟩ := h
  exact ⟨ns, pos, rest, mix, s _ _ h1, s _ _ h2, h3⟩
theorem TapeL.list {l : Addr} {H : Hp} {t : Addr} (h : TapeL l H t) : ∃ xs, H l = some (.lst xs) := by
  obtain ⟨ns, pos, rest, mix, h1, h2, h3⟩ := h
  exact ⟨_, h2⟩
/-- another object is written -/
theorem TapeL.upd {l : Addr} {H : Hp} {t a : Addr} {o : HO} (h : TapeL l H t) (n1 : a ≠ t) (n2 : a ≠ l) : TapeL l (upd H a o) t := by
  obtain ⟨ns, pos, rest, mix, h1, h2, h3⟩ := h
  exact ⟨ns, pos, rest, mix, by rw [upd_ne (Ne.symm n1)]; exact h1, by rw [upd_ne (Ne.symm n2)]; exact h2, h3⟩
def spDrawL : Sp := fun vs H Q _ => ∃ (t l : Addr) (many : Int), vs = [.ref t, .int many] ∧ TapeL l H t ∧ 0 < many ∧ many.natAbs < 2 ^ 4000 ∧ ∀ (k : Int) (H' : Hp), 0 ≤ k → k < many → TapeL l H' t → SameB t H H' → Q (.int k) H'
theorem fn_weak {P : Program} {w : World} {K : PySem.W.Frag} {mg : Str → Option Value} {base : Heap} {CX : CXT} {k : Nat} {f : Addr} {fd : FuncData} {ps : List Str} {sp sp' : Sp} (h : ∀ vs H Q E, sp vs H Q E → sp' vs H Q E) (F : FnOk P w K mg base CX k f fd ps sp') : FnOk P w K mg base CX k f fd ps sp :=
  ⟨fun vs H Q E z => F.len vs H Q E (h vs H Q E z), fun A outer s H args us vs Q E a b c d z => F.run A outer s H args us vs Q E a b c d (h vs H Q E z)⟩
theorem draw_weak {vs : List V} {H : Hp} {Q : VK} {E : XK} (h : spDraw vs H Q E) : spDrawL vs H Q E := by
  obtain ⟨t, m, e, ⟨l, hT⟩, h1, h2, k⟩ := h
  exact ⟨t, l, m, e, hT, h1, h2, fun k1 H' a b c d => k k1 H' a b c.tape d⟩
end Lc
set_option Elab.async false
set_option linter.all false
set_option maxRecDepth 100000
set_option maxHeartbeats 4000000
namespace Lc
open PySem PySem.Spec PyProof.Rows L2
/-- names of built-ins that no text binds -/
structure Bt (mg : Str → Option Value) : Prop where
  isi : mg "isinstance" = none
  int : mg "int" = none
  bool : mg "bool" = none
  str : mg "str" = none
  tuple : mg "tuple" = none
  list : mg "list" = none
  dict : mg "dict" = none
  len : mg "len" = none
  abs : mg "abs" = none
  min : mg "min" = none
  all : mg "all" = none
  repr : mg "repr" = none
  range : mg "range" = none
  enum : mg "enumerate" = none
  ve : mg "ValueError" = none
  zd : mg "ZeroDivisionError" = none
  ie : mg "IndexError" = none
  oe : mg "OverflowError" = none
def btNames : List Str := ["isinstance", "int", "bool", "str", "tuple", "list", "dict", "len", "abs", "min", "all", "repr", "range", "enumerate", "ValueError", "ZeroDivisionError", "IndexError", "OverflowError"]
/-! ## x is True, x any value -/
def rIsBA : R2 := fun x y H Q => ∃ b : Bool, y = .bl b ∧ Q (.bl (decide (x = .bl b))) H
theorem op_isBA {X : Cx} : OpR X (compareOp .Is) rIsBA := by
  intro pins s σ H x y v u Q I rx ry h
  obtain ⟨b, rfl, q⟩ := h
  cases (show u = Value.bool b from ry)
  have key : plainIs v (.bool b) = true ∧ (v == Value.bool b) = decide (x = .bl b) := by
    cases x with
    | non => cases (show v = Value.none from rx); exact ⟨rfl, by cases b <;> rfl⟩
    | bl c => cases (show v = Value.bool c from rx); exact ⟨rfl, by cases b <;> cases c <;> rfl⟩
    | int i => obtain ⟨t, rfl⟩ := (show ∃ t, v = Value.int i t from rx); exact ⟨rfl, by cases b <;> rfl⟩
    | str i => obtain ⟨t, rfl⟩ := (show ∃ t, v = Value.str i t from rx); exact ⟨rfl, by cases b <;> rfl⟩
    | byt i => obtain ⟨t, rfl⟩ := (show ∃ t, v = Value.bytes i t from rx); exact ⟨rfl, by cases b <;> rfl⟩
    | flt i => obtain ⟨t, rfl⟩ := (show ∃ t, v = Value.float i t from rx); exact ⟨rfl, by cases b <;> rfl⟩
    | ref a => cases (show v = Value.ref a from rx); exact ⟨rfl, by cases b <;> rfl⟩
    | ty n => cases (show v = Value.type n from rx); exact ⟨rfl, by cases b <;> rfl⟩
  refine wpAny_is_plain key.1 ?_
  rw [key.2]
  exact ⟨.bl _, H, I, rfl, q⟩
/-! ## Texts of few signs -/
structure Sh (n : Nat) (x : Str) : Prop where
  len : x.cps.toList.length ≤ n
  ok : ∀ c ∈ x.cps.toList, c < 1114112
theorem Sh.mono {n m : Nat} {x : Str} (h : Sh n x) (l : n ≤ m) : Sh m x := ⟨Nat.le_trans h.len l, h.ok⟩
theorem Sh.line {n : Nat} {x : Str} (h : Sh n x) (l : n ≤ 1000) : x.length ≤ sizeLine := by
  have : x.length = x.cps.toList.length := by show x.cps.size = _; simp
  rw [this]
  exact Nat.le_trans h.len (Nat.le_trans l (by decide))
theorem sh_app {n m : Nat} {x y : Str} (h : Sh n x) (g : Sh m y) : Sh (n + m) (x ++ y) := by
  have e : (x ++ y).cps.toList = x.cps.toList ++ y.cps.toList := by
    show (x.cps ++ y.cps).toList = _
    simp
  refine ⟨?_, fun c hc => ?_⟩
  · rw [e, List.length_append]
    exact Nat.add_le_add h.len g.len
  · rw [e] at hc
    rcases List.mem_append.mp hc with hc | hc
    · exact h.ok c hc
    · exact g.ok c hc
theorem sh_one {c : Nat} (h : c < 1114112) : Sh 1 ⟨#[c]⟩ := ⟨Nat.le_refl _, fun d hd => by
  have : d = c := by simpa using hd
  rw [this]
  exact h⟩
theorem sh_sub {n : Nat} {x : Str} {l : List Nat} (h : Sh n x) (s : l.Sublist x.cps.toList) : Sh n ⟨l.toArray⟩ := by
  refine ⟨?_, fun c hc => ?_⟩
  · show l.toArray.toList.length ≤ n
    exact Nat.le_trans s.length_le h.len
  · exact h.ok c (s.subset (by simpa using hc))
theorem sh_cut {n : Nat} {x : Str} (lo hi : Option Int) (h : Sh n x) : Sh n (cutS x lo hi) := sh_sub h ((List.take_sublist _ _).trans (List.drop_sublist _ _))
theorem foldl_app : ∀ (l : List (Array Nat)) (a : Array Nat), (l.foldl (· ++ ·) a).toList = a.toList ++ (l.map Array.toList).flatten
  | [], a => by simp
  | b :: l, a => by
    show ((l.foldl (· ++ ·) (a ++ b))).toList = _
    rw [foldl_app l (a ++ b)]
    simp [List.append_assoc]
theorem sh_mul {x : Str} {n k : Nat} {i : Int} (h : Sh n x) (hi : i.toNat ≤ k) (hn : n ≤ 1) : Sh k (Txt.mul x i) := by
  unfold Txt.mul
  by_cases h1 : i < 1
  · rw [if_pos h1]
    exact ⟨Nat.zero_le _, fun c hc => by cases (by simpa [Str.empty] using hc : c ∈ ([] : List Nat))⟩
  · rw [if_neg h1]
    by_cases h2 : (i == 1 || x.length == 0) = true
    · rw [if_pos h2]
      exact h.mono (by omega)
    · rw [if_neg h2]
      have e : ((List.replicate i.toNat x.cps).foldl (· ++ ·) #[]).toList = (List.replicate i.toNat x.cps.toList).flatten := by
        rw [foldl_app]
        simp
      refine ⟨?_, fun c hc => ?_⟩
      · show ((List.replicate i.toNat x.cps).foldl (· ++ ·) #[]).toList.length ≤ k
        rw [e, List.length_flatten]
        have : ((List.replicate i.toNat x.cps.toList).map List.length).sum ≤ i.toNat * 1 := by
          have key : ∀ m : Nat, ((List.replicate m x.cps.toList).map List.length).sum ≤ m * 1 := by
            intro m
            induction m with
            | zero => simp
            | succ m ih =>
              rw [List.replicate_succ, List.map_cons, List.sum_cons]
              have := Nat.le_trans h.len hn
              omega
          exact key _
        omega
      · have hc : c ∈ ((List.replicate i.toNat x.cps).foldl (· ++ ·) #[]).toList := hc
        rw [e] at hc
        obtain ⟨l, hl, hcl⟩ := List.mem_flatten.mp hc
        rw [List.eq_of_mem_replicate hl] at hcl
        exact h.ok c hcl
theorem mul_ok {x : Str} {i : Int} (h : x.cps.size ≤ 1) (h2 : i < 1000) (h3 : -1000 < i) : MulOk x i := by
  have hx : x.length ≤ 1 := h
  refine ⟨by simp; omega, fun h1 _ => ?_, fun h1 _ => ?_⟩
  · have : (2 ^ 63 - 1 : Int) / i ≥ 1 := by
      have : (1 : Int) * i ≤ 2 ^ 63 - 1 := by omega
      exact (Int.le_ediv_iff_mul_le (by omega)).mpr this
    omega
  · unfold Builtin.Str.tooLong
    have : x.length * i.toNat ≤ 1000 := by
      have : x.length * i.toNat ≤ 1 * i.toNat := Nat.mul_le_mul_right _ hx
      omega
    have : ¬ (x.length * i.toNat > sizeLine) := by
      have : (1000 : Nat) ≤ sizeLine := by decide
      omega
    simpa using this
def rMulS : R2 := fun x y H Q => ∃ (z : Str) (i : Int), x = .str z ∧ y = .int i ∧ MulOk z i ∧ Q (.str (Txt.mul z i)) H
theorem op_mulS {X : Cx} : OpR X (binaryOp .Mult) rMulS := by
  intro pins s σ H x y v u Q I rx ry h
  obtain ⟨z, i, rfl, rfl, ok, q⟩ := h
  obtain ⟨t, rfl⟩ := (show ∃ t, v = Value.str z t from rx)
  obtain ⟨t2, rfl⟩ := (show ∃ t, u = Value.int i t from ry)
  exact SB.mul ok fun t' k => ⟨.str _, H, I.tok _, ⟨_, rfl⟩, q⟩
theorem glued_sh : ∀ (ys : List Str), (∀ y ∈ ys, Sh 1 y) → Sh ys.length (Str.join Str.empty ys)
  | [], _ => ⟨Nat.le_refl _, fun c hc => by cases (by simpa [Str.join, Str.empty] using hc : c ∈ ([] : List Nat))⟩
  | [x], h => h x List.mem_cons_self
  | x :: y :: r, h => by
    have ih := glued_sh (y :: r) fun z hz => h z (List.mem_cons_of_mem _ hz)
    have e : Str.join Str.empty (x :: y :: r) = x ++ Str.empty ++ Str.join Str.empty (y :: r) := rfl
    rw [e]
    have s0 : Sh 0 Str.empty := ⟨Nat.le_refl _, fun c hc => by cases (by simpa [Str.empty] using hc : c ∈ ([] : List Nat))⟩
    exact (sh_app (sh_app (h x List.mem_cons_self) s0) ih).mono (by simp; omega)
/-! ## repr of a short text, of a bounded number -/
theorem shw_text {K : PySem.W.Frag} {H : Hp} {n : Nat} {x : Str} (h : Sh n x) (l : n ≤ 1000) : Shw K H (.str x) (PyData.str x).shown := by
  refine .data (.str x) rfl rfl (by simp [PyData.depth]) ?_
  show (reprText x).length ≤ sizeLine
  have := StrLaws.reprText_len x (fun c hc => Nat.lt_trans (h.ok c hc) (by decide))
  have e : x.length = x.cps.toList.length := by show x.cps.size = _; simp
  have := h.len
  have : (10002 : Nat) ≤ sizeLine := by decide
  omega
theorem num_len {i : Int} (h : i.natAbs < 2 ^ 1000) : (PyData.int i).showable = true ∧ (PyData.int i).shown.length ≤ 1921 := by
  have l : i.natAbs.log2 < 1920 := by
    by_cases z : i.natAbs = 0
    · rw [z]
      decide
    · exact Nat.lt_of_lt_of_le ((Nat.log2_lt z).mpr h) (by decide)
  exact ⟨decide_eq_true l, int_text_len_1921 l⟩
end Lc
namespace Lc
open PySem PySem.Spec PyProof.Rows L2
/-! ## Names -/
def letters : Str := "abcdefghijklmnopqrstuvwxyz"
def signs : Str := "abcdefghijklmnopqrstuvwxyz0123456789"
def inS (c : Nat) : Bool := decide (c ∈ signs.cps.toList)
def inL (c : Nat) : Bool := decide (c ∈ letters.cps.toList)
def nameL : List Nat → Bool
  | [] => false
  | c :: r => decide ((c :: r).length ≤ 12) && (inL c && (c :: r).all inS)
def nameB : V → Bool
  | .str x => nameL x.cps.toList
  | _ => false
abbrev rInS : R2 := fun x y H Q => ∃ (c : Nat) (z : Str), x = .str ⟨#[c]⟩ ∧ y = .str z ∧ Q (.bl (decide (c ∈ z.cps.toList))) H
def spName : Sp := fun vs H Q _ => ∃ (v : V) (t : String), vs = [v] ∧ TyN H v t ∧ (∀ x, v = .str x → x.length ≤ sizeLine) ∧ ∀ H', Same H H' → Q (.bl (nameB v)) H'
def spLName : Sp := fun vs H Q _ => ∃ t : Addr, vs = [.ref t] ∧ Tape H t ∧ ∀ (x : Str) (H' : Hp), Sh 12 x → Tape H' t → SameB t H H' → Q (.str x) H'
theorem lenL (x : Str) : x.length = x.cps.toList.length := by show x.cps.size = _; simp
theorem nil_of {x : Str} (h : x.cps.toList = []) : x = ⟨#[]⟩ := by
  obtain ⟨⟨l⟩⟩ := x
  have : l = [] := h
  rw [this]
theorem dec_empty (x : Str) : decide (V.str x = V.str "") = decide (x.cps.toList = []) := by
  rw [Bool.eq_iff_iff, decide_eq_true_iff, decide_eq_true_iff]
  constructor
  · intro h
    injection h with h
    rw [h]
    rfl
  · intro h
    rw [nil_of h]
    rfl
theorem name_nil {x : Str} (h : x.cps.toList = []) : nameB (.str x) = false := by
  show nameL x.cps.toList = false
  rw [h]
  rfl
theorem name_long {x : Str} (h : ¬ x.cps.toList.length ≤ 12) : nameB (.str x) = false := by
  show nameL x.cps.toList = false
  cases e : x.cps.toList with
  | nil => rfl
  | cons c r =>
    rw [e] at h
    show (decide ((c :: r).length ≤ 12) && _) = false
    rw [decide_eq_false h]
    rfl
theorem name_is {x : Str} {c : Nat} {r : List Nat} (e : x.cps.toList = c :: r) (h : x.cps.toList.length ≤ 12) : nameB (.str x) = (inL c && (c :: r).all inS) := by
  show nameL x.cps.toList = _
  rw [e] at h ⊢
  show (decide ((c :: r).length ≤ 12) && _) = _
  rw [decide_eq_true h]
  rfl
/-- the list of a comprehension over a text's signs, as it grows -/
theorem grow {x : Str} {i : Nat} {c : Nat} (h : x.cps[i]? = some c) (p : Nat → Bool) : (x.cps.toList.take i).map (fun c => V.bl (p c)) ++ [V.bl (p c)] = (x.cps.toList.take (i + 1)).map fun c => V.bl (p c) := by
  have h2 : x.cps.toList[i]? = some c := by rw [Array.getElem?_toList]; exact h
  rw [List.take_succ, h2, List.map_append]
  rfl
end Lc
namespace Lc
open PySem PySem.Spec PyProof.Rows L2
theorem cut26 : cutS signs none (some 26) = letters := by decide +kernel
theorem signs_ok : ∀ c ∈ signs.cps.toList, c < 1114112 := by decide +kernel
theorem signs_len : signs.cps.toList.length = 36 := by decide +kernel
theorem at_text {l : List Nat} {i : Int} (h0 : 0 ≤ i) (h1 : i < (l.length : Int)) : ∃ c, atI l i = some c ∧ c ∈ l := by
  obtain ⟨n, rfl⟩ : ∃ n : Nat, i = (n : Int) := ⟨i.toNat, by omega⟩
  have h : n < l.length := by omega
  exact ⟨l[n], atI_nat (List.getElem?_eq_getElem h), List.getElem_mem h⟩
theorem big1000 {z : Int} (h1 : 0 ≤ z) (h2 : z ≤ 1000) : z.natAbs < 2 ^ 4000 := by
  have e : (2 : Nat) ^ 10 = 1024 := by decide
  exact Nat.lt_of_lt_of_le (show z.natAbs < 2 ^ 10 by omega) (Nat.pow_le_pow_right (by decide) (by decide))
theorem sh_a : Sh 1 (PySem.Str.ofString "a") := ⟨by decide +kernel, by decide +kernel⟩
theorem a_size : (PySem.Str.ofString "a").cps.size ≤ 1 := by decide +kernel
theorem sh_len {n : Nat} {x : Str} (h : Sh n x) : x.length ≤ n := by rw [lenL]; exact h.len
end Lc
namespace Lc
open PySem PySem.Spec PyProof.Rows L2
theorem join_sh (ys : List Str) (h : ∀ y ∈ ys, Sh 1 y) : Sh ys.length (Txt.join (PySem.Str.ofString "") ys) := by
  have e : Txt.join (PySem.Str.ofString "") ys = Str.join Str.empty ys := by
    exact (StrLaws.glued_eq_join (PySem.Str.ofString "") ys).trans rfl
  rw [e]
  exact glued_sh ys h
end Lc
set_option Elab.async false
set_option linter.all false
set_option maxRecDepth 100000
set_option maxHeartbeats 4000000
namespace Lc
open PySem PySem.Spec PyProof.Rows L2
/-! ## Flat values and what they are shown as -/
structure Fl (v : V) (d : PyData) (s : String) : Prop where
  dp : ∀ (K : PySem.W.Frag) (H : Hp), Dp K H v d
  ty : ∀ H : Hp, TyN H v s
  sh : d.showable = true
  nd : d.hasDict = false
  dz : d.depth = 0
  ln : d.shown.length ≤ 20000
theorem fl_non : Fl .non .none "NoneType" := ⟨fun _ _ => .non, fun _ => .non, rfl, rfl, rfl, by decide +kernel⟩
theorem fl_bl (b : Bool) : Fl (.bl b) (.bool b) "bool" := ⟨fun _ _ => .bl b, fun _ => .bl b, rfl, rfl, rfl, by cases b <;> decide +kernel⟩
theorem fl_int {i : Int} (h : i.natAbs < 2 ^ 1000) : Fl (.int i) (.int i) "int" := ⟨fun _ _ => .int i, fun _ => .int i, (num_len h).1, rfl, rfl, Nat.le_trans (num_len h).2 (by decide)⟩
theorem fl_str {x : Str} {n : Nat} (h : Sh n x) (l : n ≤ 1930) : Fl (.str x) (.str x) "str" := by
  refine ⟨fun _ _ => .str x, fun _ => .str x, rfl, rfl, rfl, ?_⟩
  show (reprText x).length ≤ 20000
  have := StrLaws.reprText_len x (fun c hc => Nat.lt_trans (h.ok c hc) (by decide))
  have e := lenL x
  have := h.len
  omega
theorem sh_string (s : String) : ∀ c ∈ (PySem.Str.ofString s).cps.toList, c < 1114112 := by
  intro c hc
  rw [Str.ofString_eq_toList] at hc
  have hc : c ∈ s.toList.map Char.toNat := by simpa using hc
  obtain ⟨ch, _, rfl⟩ := List.mem_map.mp hc
  have := ch.valid
  rcases this with h | ⟨_, h⟩
  · exact Nat.lt_trans h (by decide)
  · exact h
theorem sh_num {i : Int} (h : i.natAbs < 2 ^ 1000) : Sh 1921 (PySem.Str.ofString (toString i)) := ⟨by rw [← lenL]; exact (num_len h).2, sh_string _⟩
/-! ## Things: is it a number within the limit, how is it shown -/
def lim : Int := 10000000000000000000000000000000000000000
def limB : V → V → Bool
  | .int n, .int d => decide ((if n < 0 then -n else n) ≤ lim) && decide (d ≤ lim)
  | _, _ => false
def numB (x y : V) : Bool := ratB x y && limB x y
inductive Thing (H : Hp) : V → Bool → Prop
  | other {v : V} {t : String} (h : TyN H v t) (n : t ≠ "tuple") (l : ∀ x, v = .str x → x.length ≤ sizeLine) : Thing H v false
  | len {a : Addr} {xs : List V} (e : H a = some (.tup xs)) (n : xs.length ≠ 2) : Thing H (.ref a) false
  | pair {a : Addr} {x y : V} {tx ty : String} (e : H a = some (.tup [x, y])) (hx : TyN H x tx) (hy : TyN H y ty) : Thing H (.ref a) (numB x y)
theorem Thing.same {H H' : Hp} {v : V} {b : Bool} (h : Thing H v b) (s : Same H H') : Thing H' v b := by
  cases h with
  | other h n l => exact .other (h.same s) n l
  | len e n => exact .len (s _ _ e) n
  | pair e hx hy => exact .pair (s _ _ e) (hx.same s) (hy.same s)
theorem Thing.ty {H : Hp} {v : V} {b : Bool} (h : Thing H v b) : ∃ t, TyN H v t ∧ ∀ x, v = .str x → x.length ≤ sizeLine := by
  cases h with
  | other h n l => exact ⟨_, h, l⟩
  | len e n => exact ⟨_, .tup e, fun x z => nomatch z⟩
  | pair e hx hy => exact ⟨_, .tup e, fun x z => nomatch z⟩
/-- whatever is done to the tape at t -/
def Thg (K : PySem.W.Frag) (t : Addr) (H : Hp) (v : V) : Prop := ∃ (b : Bool) (z : Str), ∀ H', SameB t H H' → Thing H' v b ∧ Shw K H' v z
theorem thg_flat {K : PySem.W.Frag} {t : Addr} {H : Hp} {v : V} {d : PyData} {s : String} (h : Fl v d s) (n : s ≠ "tuple") (l : ∀ x, v = .str x → x.length ≤ sizeLine) : Thg K t H v :=
  ⟨false, d.shown, fun H' _ => ⟨.other (h.ty H') n l, .data (h.dp K H') h.sh h.nd (by rw [h.dz]; decide) (Nat.le_trans h.ln (by decide))⟩⟩
/-- the items of a display -/
inductive Fls : List V → List PyData → Prop
  | nil : Fls [] []
  | cons {v : V} {d : PyData} {s : String} {vs : List V} {ds : List PyData} (h : Fl v d s) (r : Fls vs ds) : Fls (v :: vs) (d :: ds)
theorem Fls.dps {K : PySem.W.Frag} {H : Hp} : ∀ {vs : List V} {ds : List PyData}, Fls vs ds → DpAll K H vs ds
  | _, _, .nil => .nil
  | _, _, .cons h r => .cons (h.dp K H) r.dps
theorem Fls.facts : ∀ {vs : List V} {ds : List PyData}, Fls vs ds → PyData.showableAll ds = true ∧ PyData.hasDictAll ds = false ∧ PyData.depthAll ds = 0 ∧ ((PyData.shownAll ds).map (·.length)).sum ≤ 20000 * ds.length ∧ (PyData.shownAll ds).length = ds.length ∧ ds.length = vs.length
  | _, _, .nil => ⟨rfl, rfl, rfl, by simp [PyData.shownAll], rfl, rfl⟩
  | _, _, .cons (d := d) (ds := ds) h r => by
    obtain ⟨h1, h2, h3, h4, h5, h6⟩ := r.facts
    refine ⟨?_, ?_, ?_, ?_, ?_, ?_⟩
    · simp [PyData.showableAll, h.sh, h1]
    · simp [PyData.hasDictAll, h.nd, h2]
    · simp [PyData.depthAll, h.dz, h3]
    · simp only [PyData.shownAll, List.map_cons, List.sum_cons, List.length_cons]
      have := h.ln
      omega
    · simp [PyData.shownAll, h5]
    · simp [h6]
theorem shw_tup {K : PySem.W.Frag} {H : Hp} {a : Addr} {vs : List V} {ds : List PyData} (e : H a = some (.tup vs)) (h : Fls vs ds) (l : vs.length ≤ 100) : Shw K H (.ref a) (PyData.tuple ds).shown := by
  obtain ⟨h1, h2, h3, h4, h5, h6⟩ := h.facts
  refine .data (.tup (SqT.of e) h.dps) (by simpa [PyData.showable] using h1) (by simpa [PyData.hasDict] using h2) (by simp [PyData.depth, h3]) ?_
  have := tupleText_len_le (PyData.shownAll ds)
  have s : (3000000 : Nat) ≤ sizeLine := by decide
  simp only [PyData.shown]
  omega
theorem shw_lst {K : PySem.W.Frag} {H : Hp} {a : Addr} {vs : List V} {ds : List PyData} (e : H a = some (.lst vs)) (h : Fls vs ds) (l : vs.length ≤ 100) : Shw K H (.ref a) (PyData.list ds).shown := by
  obtain ⟨h1, h2, h3, h4, h5, h6⟩ := h.facts
  refine .data (.lst (SqL.of e) h.dps) (by simpa [PyData.showable] using h1) (by simpa [PyData.hasDict] using h2) (by simp [PyData.depth, h3]) ?_
  have := listText_len_le (PyData.shownAll ds)
  have s : (3000000 : Nat) ≤ sizeLine := by decide
  simp only [PyData.shown]
  omega
theorem thg_tup {K : PySem.W.Frag} {t a : Addr} {H : Hp} {vs : List V} {ds : List PyData} (n : a ≠ t) (e : H a = some (.tup vs)) (h : Fls vs ds) (l : vs.length ≤ 100) : Thg K t H (.ref a) := by
  by_cases z : vs.length = 2
  · match vs, h, z with
    | [x, y], .cons h1 (.cons h2 .nil), _ => exact ⟨numB x y, _, fun H' s => ⟨.pair (s _ _ n e) (h1.ty H') (h2.ty H'), shw_tup (s _ _ n e) (.cons h1 (.cons h2 .nil)) (by show 2 ≤ 100; decide)⟩⟩
  · exact ⟨false, _, fun H' s => ⟨.len (s _ _ n e) z, shw_tup (s _ _ n e) h l⟩⟩
theorem thg_lst {K : PySem.W.Frag} {t a : Addr} {H : Hp} {vs : List V} {ds : List PyData} (n : a ≠ t) (e : H a = some (.lst vs)) (h : Fls vs ds) (l : vs.length ≤ 100) : Thg K t H (.ref a) :=
  ⟨false, _, fun H' s => ⟨.other (.lst (s _ _ n e)) (by decide) (fun x z => nomatch z), shw_lst (s _ _ n e) h l⟩⟩
theorem thg_dct {K : PySem.W.Frag} {t a : Addr} {H : Hp} (n : a ≠ t) (e : H a = some (.dK [])) : Thg K t H (.ref a) :=
  ⟨false, _, fun H' s => ⟨.other (.dct (s _ _ n e)) (by decide) (fun x z => nomatch z), .empty (s _ _ n e)⟩⟩
theorem Thg.sameB {K : PySem.W.Frag} {t : Addr} {H H' : Hp} {v : V} (h : Thg K t H v) (s : SameB t H H') : Thg K t H' v := by
  obtain ⟨b, z, k⟩ := h
  exact ⟨b, z, fun H2 s2 => k H2 (s.trans s2)⟩
theorem thg_str {K : PySem.W.Frag} {t : Addr} {H : Hp} {n : Nat} {x : Str} (h : Sh n x) (l : n ≤ 1930) : Thg K t H (.str x) :=
  thg_flat (fl_str h l) (by decide) fun y e => by
    injection e with e
    subst e
    rw [lenL]
    exact Nat.le_trans h.len (Nat.le_trans l (by decide))
end Lc
namespace Lc
open PySem PySem.Spec PyProof.Rows L2
theorem ratB_ints {x y : V} (h : ratB x y = true) : ∃ n d : Int, x = .int n ∧ y = .int d ∧ 0 < d ∧ gd n d = 1 := by
  cases x with
  | int n =>
    cases y with
    | int d =>
      have h' : (decide (0 < d) && decide (gd n d = 1)) = true := h
      obtain ⟨h1, h2⟩ := Bool.and_eq_true_iff.mp h'
      exact ⟨n, d, rfl, rfl, of_decide_eq_true h1, of_decide_eq_true h2⟩
    | _ => cases h
  | _ => cases y <;> cases h
end Lc
namespace Lc
open PySem PySem.Spec PyProof.Rows L2
/-! ## A word behind an expression: what follows is shown once -/
def tMid (te : TE) : TE := fun σ H Q => ∃ M : V → Hp → Prop, te σ H M ∧ ∀ v H', M v H' → Q v H'
theorem pe_mid {X : Cx} {e : Expr} {te : TE} (h : PE X e te) : PE X e (tMid te) := by
  refine ⟨fun pins s σ H Q I hq => ?_⟩
  obtain ⟨M, h1, h2⟩ := hq
  exact thn (h.run pins s σ H M I h1) fun u s1 ⟨v, H1, I1, r, q⟩ => ⟨v, H1, I1, r, h2 v H1 q⟩
end Lc
set_option Elab.async false
set_option linter.all false
set_option maxRecDepth 100000
set_option maxHeartbeats 4000000
namespace Lc
open PySem PySem.Spec PyProof.Rows L2
/-! ## enumerate(v), v whatever begins; for .., .. in enumerate(tuple) -/
def itB (h : Heap) (o : Obj) : Heap := (h.push o).push { cls := .type "enumerate", data := .fields #[.none, .bool false, .ref h.objs.size, rawInt 0, .none, .none] }
theorem meets_enum1 {v : Value} {o : Obj} {H : Heap → Prop} (B : Begins v o H) :
    Meets (Builtin.«enumerate.__new__» ⟨[.type "enumerate", v], []⟩) (fun _ R s => H s.heap ∧ R (.ok (.ret (.ref (s.heap.push o).objs.size))) { s with heap := itB s.heap o }) :=
  .of_wp fun prog w A R s h => by
    obtain ⟨hp, g, d, tk, os⟩ := s
    obtain ⟨h1, h⟩ := h
    have hsub := sub_enumerate
    have it1 : ∀ {A' : Around} {E : Value → Shared → Prop} {Q : Value → Shared → Prop}, Q (.ref hp.objs.size) ⟨hp.push o, g, d, tk, os⟩ → wpAny (model prog w) A' (pyIter v) Q E ⟨hp, g, d, tk, os⟩ := fun q => B.iter prog w _ _ ⟨hp, g, d, tk, os⟩ _ h1 q
    wp_walk using it1
    refine wpAny_stack_any fun st => wpAny_pure ?_
    split
    · rename_i c _ _ _ _ _
      cases (c == Value.type "enumerate") <;> (wp_walk using it1; exact ⟨_, rfl, h⟩)
    · wp_walk using it1
      exact ⟨_, rfl, h⟩
theorem call_enum1 {prog : Program} {w : World} {A : Around} {E : Value → Shared → Prop} {s : Shared} {v : Value} {o : Obj} {H : Heap → Prop} {Q : Value → Shared → Prop} (B : Begins v o H) (h1 : H s.heap)
    (h : IsEnum (itB s.heap o) (s.heap.objs.size + 1) s.heap.objs.size 0 .none → (itB s.heap o).get? s.heap.objs.size = some o → (∀ b u, s.heap.get? b = some u → (itB s.heap o).get? b = some u) → Q (.ref (s.heap.objs.size + 1)) { s with heap := itB s.heap o }) :
    wpAny (model prog w) A (call (.type "enumerate") [v]) Q E s := by
  have sz : (s.heap.push o).objs.size = s.heap.objs.size + 1 := Heap.size_push ..
  have en : IsEnum (itB s.heap o) (s.heap.objs.size + 1) s.heap.objs.size 0 .none := by
    have z := Heap.get?_push_size (s.heap.push o) (o := { cls := .type "enumerate", data := .fields #[.none, .bool false, .ref s.heap.objs.size, rawInt 0, .none, .none] }) rfl
    rw [sz] at z
    exact z
  refine callType_new F.called_enumerate (by decide) (F.typeCall_enumerate_1 _) (F.newCall_enumerate_1 _) (fun obj => F.args_object_init_2 obj _) F.entry_enumerate_new (meets_enum1 B) ⟨h1, ?_⟩
  show _ ∧ _
  rw [sz]
  exact ⟨⟨_, en, rfl⟩, h en (Heap.get?_push_of_some _ (Heap.get?_push_size _ B.free)) fun b u e => Heap.get?_push_of_some _ (Heap.get?_push_of_some _ e)⟩
/-- the tuple at a, each item in a new pair with its number -/
def IteT (K : PySem.W.Frag) (a : Addr) : It where
  go := fun i H => ∃ (xs : List V) (x : V), SqT K H a xs ∧ xs[i]? = some x
  yld := fun i H v H' => ∃ (q : Addr) (x : V), v = .ref q ∧ H q = none ∧ H' = upd H q (.tup [.int (i : Nat), x]) ∧ ∀ xs, SqT K H a xs → xs[i]? = some x
  stop := fun i H => ∃ xs : List V, SqT K H a xs ∧ xs.length = i
structure EnT (e it a : Addr) (i : Nat) (h : Heap) : Prop where
  en : ∃ old, IsEnum h e it ((i : Nat) : Int) old
  ti : h.IsTupleIter it a i
  n1 : e ≠ it
  n2 : a ≠ it
  n3 : a ≠ e
theorem turn_enT {P : Program} {w : World} {K : PySem.W.Frag} {elts : List Expr} {kk : Nat} {tpos : Pos} (a e it : Addr) : Turn P w K (.Tuple elts kk tpos) (IteT K a) [e, it] e (EnT e it a) where
  mem := List.mem_cons_self
  obj := fun i h st b hb => by
    rcases List.mem_cons.mp hb with rfl | hb
    · obtain ⟨old, he⟩ := st.en
      exact ⟨_, he, fun v q => nomatch q⟩
    · obtain rfl := List.mem_singleton.mp hb
      obtain ⟨o, ho, _, hd⟩ := st.ti
      exact ⟨o, ho, fun v q => by rw [hd] at q; cases q⟩
  keep := fun i h h' st k => by
    obtain ⟨old, he⟩ := st.en
    obtain ⟨o, ho, r⟩ := st.ti
    exact ⟨⟨old, k e List.mem_cons_self _ he⟩, ⟨o, k it (by simp) o ho, r⟩, st.n1, st.n2, st.n3⟩
  item := by
    intro X hP hw hK hc i pins s σ H E I hf st hg
    subst hP hw hK
    obtain ⟨xs, x, hq, hx⟩ := hg
    obtain ⟨its, rv, tp, _⟩ := I.tuple hq
    obtain ⟨u, hu, ru⟩ := rv.get hx
    obtain ⟨old, he⟩ := st.en
    have hu' : its.toArray[i]? = some u := by simpa using hu
    have li : i < its.toArray.size := (Array.getElem?_eq_some_iff.mp hu').1
    refine wpAny_pyNext_enum_itemD (Draws.tuple (A := X.A.in1) (I.ok.hd hc) it a st.n2 its.toArray) he ⟨st.ti, tp⟩ li st.n1 (by simp [st.n1, Ne.symm st.n3]) fun y h' tk hy ho hs hT hz hk => ?_
    obtain rfl : u = y := Option.some.inj (hu'.symm.trans hy)
    have le : e < s.heap.objs.size := Heap.lt_size he
    have lt : it < s.heap.objs.size := by obtain ⟨_, q, _⟩ := st.ti; exact Heap.lt_size q
    refine ⟨_, rfl, wpAny_letOwnedTupleGo_enum (s := { s with heap := h', toks := tk + 1 }) ho fun h2 he2 sb => ?_⟩
    have pair : h2.get? s.heap.objs.size = some { cls := .type "tuple", data := .seq #[.int i tk, u] } := (sb.2 _ (Nat.ne_of_gt le)).trans hT
    have I2 : Inv X pins σ (upd H s.heap.objs.size (.tup [.int (i : Nat), x])) { s with heap := h2, toks := tk + 1 } := by
      refine I.turnedNew (ch := [e, it]) (fun b ob hb q => ?_) hf (Nat.le_refl _) ⟨by show 2 ≤ sizeLine; decide, [.int i tk, u], .cons ⟨_, rfl⟩ (.cons ru .nil), ⟨_, pair, rfl, _, rfl⟩⟩
      have nb : b ≠ e ∧ b ≠ it := by simpa using hb
      exact (sb.2 b nb.1).trans (hk b ob nb.1 nb.2 q)
    refine ⟨.ref s.heap.objs.size, _, I2, rfl, ⟨_, x, rfl, I.hok.fresh (Nat.le_refl _), rfl, fun ys hy => by rw [I.tuple_inj hy hq]; exact hx⟩, ⟨⟨u, ?_⟩, ?_, st.n1, st.n2, st.n3⟩, fun b hb => ?_⟩
    · rw [show ((i + 1 : Nat) : Int) = (i : Int) + 1 by omega]
      exact he2
    · obtain ⟨o, q, r⟩ := hs.1
      exact ⟨o, (sb.2 it (Ne.symm st.n1)).trans q, r⟩
    · have lb : b < s.heap.objs.size := by
        rcases List.mem_cons.mp hb with rfl | hb
        · exact le
        · rw [List.mem_singleton.mp hb]; exact lt
      rw [upd_ne (Nat.ne_of_lt lb)]
      exact (hf b hb).1
  done := by
    intro X hP hw hK hc i pins s σ H E I hf st hg
    subst hP hw hK
    obtain ⟨xs, hq, hx⟩ := hg
    obtain ⟨its, rv, tp, _⟩ := I.tuple hq
    obtain ⟨old, he⟩ := st.en
    have hl : i = its.toArray.size := by rw [List.size_toArray, ← rv.length]; exact hx.symm
    obtain ⟨f0, f1, _, f3, f4, f5⟩ := hf it (by simp)
    subst hl
    exact wpAny_pyNext_enum_endD (Draws.tuple (A := X.A.in1) (I.ok.hd hc) it a st.n2 its.toArray) he ⟨st.ti, tp⟩ fun h' eb => ⟨rfl, I.turned (t' := s.toks) (fun b o hb q => eb b o hb q) f0 f1 f3 f4 f5⟩
  self := fun A i s Q E st h => by
    obtain ⟨old, he⟩ := st.en
    exact wpAny_pyIter_enum he h
def iEnT (K : PySem.W.Frag) (ta : TA) : TI := fun σ H R => ta σ H fun vs H1 => ∃ a xs, vs = [.ref a] ∧ SqT K H1 a xs ∧ R (IteT K a) H1
theorem pi_enT {X : Cx} {e : Expr} {ta : TA} {p pos tpos : Pos} {elts : List Expr} {kk : Nat} (hg : Gl X "enumerate") (hm : X.mg "enumerate" = none) (ha : PA X [e] ta) (hs : starEach [e] X.env = [(false, eval e X.env)] := by rfl) :
    PI X (.Tuple elts kk tpos) (.Call (.Name "enumerate" p) [e] [] pos) (iEnT X.K ta) := by
  refine ⟨fun pins s σ H R I h => Call_ (ld_blt I hg hm boot_enumerate (PyProof.Rows.callWith_type1 (thn (ha.run pos pins s σ H _ I h) fun us s1 ⟨vs, H1, I1, r1, q1⟩ => ?_) hs rfl))⟩
  obtain ⟨a, xs, rfl, hq, q⟩ := q1
  obtain ⟨u, rfl, ru⟩ := vals1 r1
  cases ru
  obtain ⟨its, rv, tp, _⟩ := I1.tuple hq
  have la : a < s1.heap.objs.size := by obtain ⟨_, z, _⟩ := tp; exact Heap.lt_size z
  refine call_enum1 (begins_tuple a its.toArray) tp fun en ito kp => wpAny_pyIter_enum en ?_
  refine ⟨_, [s1.heap.objs.size + 1, s1.heap.objs.size], _, _, H1, rfl, I1.kept (t' := s1.toks) kp, turn_enT a (s1.heap.objs.size + 1) s1.heap.objs.size, ⟨⟨.none, en⟩, ⟨_, ito, rfl, rfl⟩, Nat.succ_ne_self _, Nat.ne_of_lt la, Nat.ne_of_lt (Nat.lt_succ_of_lt la)⟩, fun b hb => ?_, q⟩
  have le : s1.heap.objs.size ≤ b := by
    rcases List.mem_cons.mp hb with rfl | hb
    · exact Nat.le_add_right _ _
    · rw [List.mem_singleton.mp hb]; exact Nat.le_refl _
  exact I1.fpOk le (I1.hok.fresh le)
theorem walk_enT {K : PySem.W.Frag} {a : Addr} {xs : List V} : Walk (IteT K a) xs.length (fun H => SqT K H a xs) (YPair (fun i => some (.int (i : Nat))) (fun i => xs[i]?)) := by
  refine ⟨fun i _ hi q => ⟨xs, xs[i], q, by simp [hi]⟩, fun _ q => ⟨xs, q, rfl⟩, fun i H v H' _ q y => ?_⟩
  obtain ⟨c, x, h1, h2, h3, h4⟩ := y
  exact ⟨c, .int (i : Nat), x, h1, h2, h3, rfl, h4 xs q⟩
end Lc
set_option Elab.async false
set_option linter.all false
set_option maxRecDepth 100000
set_option maxHeartbeats 4000000
namespace Lc
open PySem PySem.Spec PyProof.Rows L2
/-! ## Deep data that stands in the abstract heap -/
mutual
inductive Dh (H : Hp) : V → PyData → Prop
  | non : Dh H .non .none
  | bl (b : Bool) : Dh H (.bl b) (.bool b)
  | int (i : Int) : Dh H (.int i) (.int i)
  | str (x : Str) : Dh H (.str x) (.str x)
  | tup {a : Addr} {xs : List V} {ds : List PyData} (e : H a = some (.tup xs)) (h : DhAll H xs ds) : Dh H (.ref a) (.tuple ds)
  | lst {a : Addr} {xs : List V} {ds : List PyData} (e : H a = some (.lst xs)) (h : DhAll H xs ds) : Dh H (.ref a) (.list ds)
  | dct {a : Addr} (e : H a = some (.dK [])) : Dh H (.ref a) (.dict [])
inductive DhAll (H : Hp) : List V → List PyData → Prop
  | nil : DhAll H [] []
  | cons {v : V} {vs : List V} {d : PyData} {ds : List PyData} (h : Dh H v d) (r : DhAll H vs ds) : DhAll H (v :: vs) (d :: ds)
end
mutual
theorem Dh.same {H H' : Hp} (s : Same H H') : ∀ {v : V} {d : PyData}, Dh H v d → Dh H' v d
  | _, _, .non => .non
  | _, _, .bl b => .bl b
  | _, _, .int i => .int i
  | _, _, .str x => .str x
  | _, _, .tup e h => .tup (s _ _ e) (DhAll.same s h)
  | _, _, .lst e h => .lst (s _ _ e) (DhAll.same s h)
  | _, _, .dct e => .dct (s _ _ e)
theorem DhAll.same {H H' : Hp} (s : Same H H') : ∀ {vs : List V} {ds : List PyData}, DhAll H vs ds → DhAll H' vs ds
  | _, _, .nil => .nil
  | _, _, .cons h r => .cons (Dh.same s h) (DhAll.same s r)
end
def tyD : PyData → String
  | .none => "NoneType"
  | .bool _ => "bool"
  | .int _ => "int"
  | .str _ => "str"
  | .tuple _ => "tuple"
  | .list _ => "list"
  | .dict _ => "dict"
theorem Dh.ty {H : Hp} {v : V} {d : PyData} (h : Dh H v d) : TyN H v (tyD d) := by
  cases h with
  | non => exact .non
  | bl b => exact .bl b
  | int i => exact .int i
  | str x => exact .str x
  | tup e _ => exact .tup e
  | lst e _ => exact .lst e
  | dct e => exact .dct e
theorem DhAll.len {H : Hp} {vs : List V} {ds : List PyData} (h : DhAll H vs ds) : vs.length = ds.length := by
  match h with
  | .nil => rfl
  | .cons _ r => rw [List.length_cons, List.length_cons, DhAll.len r]
theorem DhAll.get {H : Hp} : ∀ {vs : List V} {ds : List PyData}, DhAll H vs ds → ∀ (i : Nat) (v : V), vs[i]? = some v → ∃ d, ds[i]? = some d ∧ Dh H v d
  | _, _, .nil, i, v, e => by simp at e
  | _, _, .cons h r, 0, v, e => by
    obtain rfl := Option.some.inj e
    exact ⟨_, rfl, h⟩
  | _, _, .cons h r, i + 1, v, e => by
    obtain ⟨d, e1, e2⟩ := DhAll.get r i v (by simpa using e)
    exact ⟨d, by simpa using e1, e2⟩
theorem DhAll.append {H : Hp} : ∀ {vs : List V} {ds : List PyData} {us : List V} {es : List PyData}, DhAll H vs ds → DhAll H us es → DhAll H (vs ++ us) (ds ++ es)
  | _, _, _, _, .nil, r => r
  | _, _, _, _, .cons h t, r => .cons h (DhAll.append t r)
mutual
theorem Dh.dp {K : PySem.W.Frag} {H : Hp} : ∀ {v : V} {d : PyData}, Dh H v d → d.hasDict = false → Dp K H v d
  | _, _, .non, _ => .non
  | _, _, .bl b, _ => .bl b
  | _, _, .int i, _ => .int i
  | _, _, .str x, _ => .str x
  | _, _, .tup e h, n => .tup (SqT.of e) (DhAll.dp h (by simpa [PyData.hasDict] using n))
  | _, _, .lst e h, n => .lst (SqL.of e) (DhAll.dp h (by simpa [PyData.hasDict] using n))
  | _, _, .dct e, n => by simp [PyData.hasDict] at n
theorem DhAll.dp {K : PySem.W.Frag} {H : Hp} : ∀ {vs : List V} {ds : List PyData}, DhAll H vs ds → PyData.hasDictAll ds = false → DpAll K H vs ds
  | _, _, .nil, _ => .nil
  | _, _, .cons h r, n => by
    rw [PyData.hasDictAll, Bool.or_eq_false_iff] at n
    exact .cons (Dh.dp h n.1) (DhAll.dp r n.2)
end
theorem Dh.shw {K : PySem.W.Frag} {H : Hp} {v : V} {d : PyData} (h : Dh H v d) (h1 : d.showable = true) (h2 : d.hasDict = false) (h3 : d.depth ≤ 60) (h4 : d.shown.length ≤ sizeLine) : Shw K H v d.shown := .data (h.dp h2) h1 h2 h3 h4
/-! ## How large it is when it is shown -/
structure Tm (k n : Nat) (d : PyData) : Prop where
  sh : d.showable = true
  nd : d.hasDict = false
  dz : d.depth ≤ k
  ln : d.shown.length ≤ n
theorem Tm.mono {k n k' n' : Nat} {d : PyData} (h : Tm k n d) (a : k ≤ k') (b : n ≤ n') : Tm k' n' d := ⟨h.sh, h.nd, Nat.le_trans h.dz a, Nat.le_trans h.ln b⟩
theorem tm_fl {v : V} {d : PyData} {s : String} (h : Fl v d s) : Tm 0 20000 d := ⟨h.sh, h.nd, Nat.le_of_eq h.dz, h.ln⟩
theorem tm_all {k n : Nat} : ∀ {ds : List PyData}, (∀ d ∈ ds, Tm k n d) → PyData.showableAll ds = true ∧ PyData.hasDictAll ds = false ∧ PyData.depthAll ds ≤ k ∧ ((PyData.shownAll ds).map (·.length)).sum ≤ n * ds.length ∧ (PyData.shownAll ds).length = ds.length
  | [], _ => ⟨rfl, rfl, Nat.zero_le _, by simp [PyData.shownAll], rfl⟩
  | d :: ds, h => by
    obtain ⟨h1, h2, h3, h4, h5⟩ := tm_all (ds := ds) fun x hx => h x (List.mem_cons_of_mem _ hx)
    have hd := h d List.mem_cons_self
    refine ⟨?_, ?_, ?_, ?_, ?_⟩
    · simp [PyData.showableAll, hd.sh, h1]
    · simp [PyData.hasDictAll, hd.nd, h2]
    · simp only [PyData.depthAll]
      have := hd.dz
      omega
    · simp only [PyData.shownAll, List.map_cons, List.sum_cons, List.length_cons]
      have := hd.ln
      rw [Nat.mul_succ]
      omega
    · simp [PyData.shownAll, h5]
theorem tm_tup {k n : Nat} {ds : List PyData} (h : ∀ d ∈ ds, Tm k n d) : Tm (k + 1) (n * ds.length + 2 * ds.length + 4) (.tuple ds) := by
  obtain ⟨h1, h2, h3, h4, h5⟩ := tm_all h
  refine ⟨by simpa [PyData.showable] using h1, by simpa [PyData.hasDict] using h2, ?_, ?_⟩
  · simp only [PyData.depth]
    omega
  · have := tupleText_len_le (PyData.shownAll ds)
    simp only [PyData.shown]
    omega
theorem tm_lst {k n : Nat} {ds : List PyData} (h : ∀ d ∈ ds, Tm k n d) : Tm (k + 1) (n * ds.length + 2 * ds.length + 4) (.list ds) := by
  obtain ⟨h1, h2, h3, h4, h5⟩ := tm_all h
  refine ⟨by simpa [PyData.showable] using h1, by simpa [PyData.hasDict] using h2, ?_, ?_⟩
  · simp only [PyData.depth]
    omega
  · have := listText_len_le (PyData.shownAll ds)
    simp only [PyData.shown]
    omega
theorem Dh.shwT {K : PySem.W.Frag} {H : Hp} {v : V} {d : PyData} {k n : Nat} (h : Dh H v d) (t : Tm k n d) (a : k ≤ 60) (b : n ≤ 3000000) : Shw K H v d.shown := h.shw t.sh t.nd (Nat.le_trans t.dz a) (Nat.le_trans t.ln (Nat.le_trans b (by decide)))
end Lc
set_option Elab.async false
set_option linter.all false
set_option maxRecDepth 100000
set_option maxHeartbeats 4000000
namespace Lc
open PySem PySem.Spec PyProof.Rows L2
/-! ## (x, y) * 0, (x, y) * 1 -/
theorem tuple_mul1 (l : Addr) (items : Array Value) (n : Nat) (dd : Option Addr) (sl : Array (Option Value)) (u : Tok) :
    Meets (Builtin.«tuple.__mul__» ⟨[.ref l, .int 1 u], []⟩) (fun _ R s => s.heap.get? l = some { cls := .type "tuple", dict := dd, data := .seq items n, slots := sl } ∧ R (.ok (.ret (Value.ref l))) s) :=
  .of_wp fun prog w A R s h => by
    obtain ⟨hp, g, d, tk, os⟩ := s
    obtain ⟨hl, h⟩ := h
    have f1 := AutoSeq1.idx_int
    have c0 : (decide ((1 : Int) < -(2 ^ 63)) || decide ((1 : Int) ≥ 2 ^ 63)) = false := by decide
    have c1 : (items.isEmpty || (1 : Int) == 1) = true := by simp
    wp_walk using wpAny_loadPart' hl
    repeat (first
      | (refine wpAny_ite_false (decide_eq_false (by rw [c0]; exact Bool.false_ne_true)) ?_; wp_walk using wpAny_loadPart' hl)
      | (refine wpAny_ite_true (decide_eq_true c1) ?_; wp_walk using wpAny_loadPart' hl))
    exact ⟨_, rfl, h⟩
theorem tuple_mul0 (l : Addr) (items : Array Value) (n : Nat) (dd : Option Addr) (sl : Array (Option Value)) (u : Tok) (hne : items.isEmpty = false) :
    Meets (Builtin.«tuple.__mul__» ⟨[.ref l, .int 0 u], []⟩) (fun _ R s => s.heap.get? l = some { cls := .type "tuple", dict := dd, data := .seq items n, slots := sl } ∧
      R (.ok (.ret (Value.ref s.heap.objs.size))) { s with heap := s.heap.push { cls := Value.type "tuple", data := Data.seq #[] } }) :=
  .of_wp fun prog w A R s h => by
    obtain ⟨hp, g, d, tk, os⟩ := s
    obtain ⟨hl, h⟩ := h
    have f1 := AutoSeq1.idx_int
    have c0 : (decide ((0 : Int) < -(2 ^ 63)) || decide ((0 : Int) ≥ 2 ^ 63)) = false := by decide
    have c1 : (items.isEmpty || (0 : Int) == 1) = false := by rw [hne]; rfl
    have c2 : (decide ((0 : Int) ≤ 0) || items.isEmpty) = true := by simp
    wp_walk using wpAny_loadPart' hl
    repeat (first
      | (refine wpAny_ite_false (decide_eq_false (by rw [c0]; exact Bool.false_ne_true)) ?_; wp_walk using wpAny_loadPart' hl)
      | (refine wpAny_ite_false (decide_eq_false (by rw [c1]; exact Bool.false_ne_true)) ?_; wp_walk using wpAny_loadPart' hl)
      | (refine wpAny_ite_true (decide_eq_true c2) ?_; wp_walk using wpAny_loadPart' hl))
    exact ⟨_, rfl, h⟩
def rRep01 (K : PySem.W.Frag) : R2 := fun x y H Q => ∃ l k xs, x = .ref l ∧ y = .int k ∧ SqT K H l xs ∧ xs ≠ [] ∧ ((k = 1 ∧ Q (.ref l) H) ∨ (k = 0 ∧ ∀ p, H p = none → Q (.ref p) (upd H p (.tup []))))
section
variable {X : Cx}
theorem op_rep01 : OpR X (binaryOp .Mult) (rRep01 X.K) := by
  intro pins s σ H x y v u Q I rx ry h
  obtain ⟨l, k, xs, rfl, rfl, hT, hne, h⟩ := h
  cases rx
  obtain ⟨t, rfl⟩ := ry
  obtain ⟨its, r, ⟨⟨cls, dd, data, sl⟩, ho, hc, n, hd⟩, hs⟩ := I.tuple hT
  simp only at hc hd
  subst hc hd
  have hle : its.length = xs.length := r.length.symm
  have hn : its ≠ [] := fun e => hne (by
    rw [e] at hle
    exact List.eq_nil_of_length_eq_zero hle.symm)
  have hi : its.toArray.isEmpty = false := by
    cases its with
    | nil => exact absurd rfl hn
    | cons a b => rfl
  rcases h with ⟨rfl, q⟩ | ⟨rfl, q⟩
  · exact wpAny_binaryOp_repeat_ref (T := "tuple") (U := "int") (by decide) ⟨_, ho, rfl⟩ (fun s' => typeIs_int s' 1 t) noFill_tuple_mul F.fills_int_mul F.slot_int_rmul repeat_tuple F.slot_int_index.lookup
      (call_meets F.slot_int_rmul (typeIs_int s 1 t) F.entry_int_rmul (F.args_int_rmul_2 _ _) (int_rmul_tuple 1 t l its.toArray n dd sl)
        ⟨ho, rfl, ⟨_, ho, rfl⟩, call_meets F.slot_tuple_mul ⟨_, ho, rfl⟩ F.entry_tuple_mul (F.args_tuple_mul_2 _ _) (tuple_mul1 l its.toArray n dd sl t) ⟨ho, .ref l, H, I, rfl, q⟩⟩)
  · refine wpAny_binaryOp_repeat_ref (T := "tuple") (U := "int") (by decide) ⟨_, ho, rfl⟩ (fun s' => typeIs_int s' 0 t) noFill_tuple_mul F.fills_int_mul F.slot_int_rmul repeat_tuple F.slot_int_index.lookup
      (call_meets F.slot_int_rmul (typeIs_int s 0 t) F.entry_int_rmul (F.args_int_rmul_2 _ _) (int_rmul_tuple 0 t l its.toArray n dd sl)
        ⟨ho, rfl, ⟨_, ho, rfl⟩, call_meets F.slot_tuple_mul ⟨_, ho, rfl⟩ F.entry_tuple_mul (F.args_tuple_mul_2 _ _) (tuple_mul0 l its.toArray n dd sl t hi) ⟨ho, ?_⟩⟩)
    refine ⟨.ref s.heap.objs.size, _, I.laid (t' := s.toks) (o := .tup []) (fun b ob q => Heap.get?_push_of_some _ q) (Nat.le_refl _) ?_, rfl, q _ (I.hok.fresh (Nat.le_refl _))⟩
    exact ⟨Nat.zero_le _, [], .nil, IsTup.new _ _⟩
/-! ## What is never reached -/
theorem pss_dead {b : List Stmt} : PSs X b (fun _ _ _ => False) := ⟨fun _ _ _ _ _ _ h => h.elim⟩
theorem pg_dead {e : Expr} : PG X e (fun _ _ _ _ => False) := ⟨fun _ _ _ _ _ _ _ _ _ h => h.elim⟩
/-! ## C(e, ..) in a try -/
def tMakeS (C : Addr) (sp : Sp) (E : L2.St → XK) (t : TA) : TE := fun σ H Q => t σ H fun vs H1 => ∀ x dx, H1 x = none → H1 dx = none → dx ≠ x →
  sp (.ref x :: vs) (upd (upd H1 dx (.own x)) x (.ins C dx [])) (fun v H2 => v = .non ∧ Q (.ref x) H2) (E σ)
theorem pe_makeS {CX : CXT} {k : Nat} {C f : Addr} {fd : FuncData} {ps : List Str} {sp : Sp} {E : L2.St → XK} {x : Str} {p pos : Pos} {e : Expr} {es : List Expr} {t : TA}
    (M : Mk X.K C f) (F : FnOk X.prog X.w X.K X.mg X.base CX k f fd ps sp) (hr : Room (k + 1) X.A) (hg : Gl X x) (hm : X.mg x = some (.ref C)) (hb : Binds X.K fd ps []) (hx : ∀ σ, PassesAt CX X σ (E σ))
    (ha : PA X (e :: es) t) (hdb : (x == ("__debug__" : Str)) = false := by decide) (he : starEach (e :: es) X.env = (false, eval e X.env) :: starEach es X.env := by rfl) (hpl : (backTo pos (starEach es X.env)).any (·.1) = false := by rfl) :
    PE X (.Call (.Name x p) (e :: es) [] pos) (tMakeS C sp E t) := by
  refine ⟨fun pins s0 σ H0 Q I0 h0 => ?_⟩
  refine wpAny_Call_Name_kw (ld_glob I0 hg hm ?_ hdb)
  refine PySem.W.callWith_K (h₀ := X.base) I0.ok.mod.kin M.kp (thn (ha.run pos pins s0 σ H0 _ I0 h0) fun us s ⟨vs, H, I, r, h⟩ => ⟨I.kIn, ?_⟩) he hpl
  have hq := h (s.heap.objs.size + 1) s.heap.objs.size (I.hok.fresh (Nat.le_succ _)) (I.hok.fresh (Nat.le_refl _)) (Nat.ne_of_lt (Nat.lt_succ_self _))
  have I2 := Inv.made (C := C) I
  have r2 : Vals (V.ref (s.heap.objs.size + 1) :: vs) (Value.ref (s.heap.objs.size + 1) :: us) := .cons rfl r
  have hl : (Value.ref (s.heap.objs.size + 1) :: us).length = ps.length := by
    have e := r2.length
    rw [F.len _ _ _ _ hq] at e
    exact e.symm
  refine wpAny_call (make_map (f := f) I.kIn M.makes M.init (beq_iff_eq.mp M.fn) (codeAny_mono (F.run _ X.stack _ _ ⟨Value.ref (s.heap.objs.size + 1) :: us, []⟩ (Value.ref (s.heap.objs.size + 1) :: us) _ _ (E σ) (hr.make C us [])
    (I2.env0.make C us []) (by
      have z := hb _ (Value.ref (s.heap.objs.size + 1) :: us) I2.kIn (by rw [List.append_nil]; exact hl)
      rw [List.append_nil] at z
      exact z) r2 hq) fun r s' hq' => ?_))
  cases r with
  | error e => exact hx σ pins _ _ e s' I2 hq'
  | ok fl =>
    cases fl with
    | ret u =>
      obtain ⟨v, H', I3, rv, ev, q3⟩ := I2.after hq'
      subst ev
      exact ⟨rv, ⟨V.ref (s.heap.objs.size + 1), H', I3, rfl, q3⟩⟩
    | next => exact False.elim hq'
    | brk => exact False.elim hq'
    | cont => exact False.elim hq'
/-! ## len(o), o of an own class -/
structure LenC (K : PySem.W.Frag) (C f : Addr) : Prop where
  at_ : PySem.W.findIn K (.ref C) "__len__" = some (some (.ref f))
  fn : PySem.W.isFn K (.ref f) = true
def rLenI (C : Addr) (sp : Sp) : List V → Hp → VK → Prop := fun xs H Q => ∃ a dx fs, xs = [.ref a] ∧ H a = some (.ins C dx fs) ∧ sp [.ref a] H (fun v H' => ∃ n : Int, v = .int n ∧ 0 ≤ n ∧ n < 2 ^ 63 ∧ Q (.int n) H') E0
theorem call_lenI {k : Nat} {C f : Addr} {fd : FuncData} {ps : List Str} {sp : Sp} (c : LenC X.K C f) (F : FnOk X.prog X.w X.K X.mg X.base CX0 k f fd ps sp) (hr : Room (k + 1) X.A) (hb : Binds X.K fd ps []) : CallR X (.builtin "len") (rLenI C sp) := by
  intro pins s σ H xs us Q I rv h
  obtain ⟨a, dx, fs, rfl, ha, hsp⟩ := h
  obtain ⟨u, rfl, ru⟩ := vals1 rv
  cases ru
  obtain ⟨mA, J, _⟩ := ins_get I.hok ha
  obtain ⟨od, J, _⟩ := J.look
  refine Calls.call_function_entry kind_len plain_len entry_len (args_len1 _) ?_
  unfold Builtin.«len»
  refine wpAny_bind (m := oneArg "len" _) (wpAny_pure ?_)
  refine wpAny_bind (m := callSpecial? (.ref a) (Str.ofString "__len__")) (PySem.W.special_fn I.kIn J c.at_ (beq_iff_eq.mp c.fn) ?_)
  have e0 : Env0 X.prog X.w X.K X.mg X.base X.A.in1 X.stack s H := by
    have e := I.env0
    exact ⟨e.frames, e.mod, e.bs, e.bsz, e.funs, e.frf, e.hok, e.bare⟩
  have hl := F.len _ _ _ _ hsp
  have r2 : Vals [V.ref a] [Value.ref a] := .cons rfl .nil
  refine wpAny_call (codeAny_mono (F.run X.A.in1 X.stack s H ⟨[.ref a], []⟩ [.ref a] [.ref a] _ _ hr.in1 e0 (by
    have := hb s [.ref a] I.kIn (by simpa using hl)
    simpa using this) r2 hsp) fun r s' hq => ?_)
  cases r with
  | error e => exact hq.elim
  | ok fl =>
    cases fl with
    | ret u =>
      obtain ⟨v, H', I3, rv, n, rfl, h0, h1, q3⟩ := I.after hq
      obtain ⟨t, rfl⟩ := rv
      refine wpAny_bind (wpAny_holding (wpAny_pure ?_))
      refine wpAny_bind (wpAny_letGo ?_)
      show wpAny _ _ (if n < 0 then _ else _) _ _ _
      rw [if_neg (by omega)]
      show wpAny _ _ (if n ≥ 2 ^ 63 then _ else _) _ _ _
      rw [if_neg (by omega)]
      exact wpAny_bind (wpAny_mkInt (wpAny_pure ⟨_, rfl, .int n, H', I3.tok _, ⟨_, rfl⟩, q3⟩))
    | next => exact False.elim hq
    | brk => exact False.elim hq
    | cont => exact False.elim hq
end
end Lc
set_option Elab.async false
set_option linter.all false
set_option maxRecDepth 100000
set_option maxHeartbeats 4000000
namespace Lc
open PySem PySem.Spec PyProof.Rows L2
/-! ## Names that are drawn are names -/
theorem name_of {l : List Nat} {x : Str} (e : x.cps.toList = l) (ne : l ≠ []) (ln : l.length ≤ 12) (h1 : ∀ c r, l = c :: r → inL c = true) (h2 : ∀ c ∈ l, inS c = true) : nameB (.str x) = true := by
  show nameL x.cps.toList = true
  rw [e]
  cases l with
  | nil => exact absurd rfl ne
  | cons c r =>
    show (decide ((c :: r).length ≤ 12) && (inL c && (c :: r).all inS)) = true
    rw [decide_eq_true ln, h1 c r rfl, List.all_eq_true.mpr h2]
    rfl
theorem name_has {x : Str} (h : nameB (.str x) = true) : x.cps.toList ≠ [] ∧ x.cps.toList.length ≤ 12 ∧ (∀ c r, x.cps.toList = c :: r → inL c = true) ∧ ∀ c ∈ x.cps.toList, inS c = true := by
  have h : nameL x.cps.toList = true := h
  generalize x.cps.toList = l at h
  cases l with
  | nil => cases h
  | cons c r =>
    have h : (decide ((c :: r).length ≤ 12) && (inL c && (c :: r).all inS)) = true := h
    obtain ⟨a, h⟩ := Bool.and_eq_true_iff.mp h
    obtain ⟨b, h⟩ := Bool.and_eq_true_iff.mp h
    exact ⟨List.cons_ne_nil _ _, of_decide_eq_true a, fun c' r' e => by cases e; exact b, List.all_eq_true.mp h⟩
theorem app_list (x y : Str) : (x ++ y).cps.toList = x.cps.toList ++ y.cps.toList := by
  show (x.cps ++ y.cps).toList = _
  simp
theorem mul_list (i : Int) : (Txt.mul (PySem.Str.ofString "a") i).cps.toList = List.replicate i.toNat 97 := by
  have ea : (PySem.Str.ofString "a").cps.toList = [97] := by decide +kernel
  have el : ((PySem.Str.ofString "a").length == 0) = false := by decide +kernel
  unfold Txt.mul
  by_cases h1 : i < 1
  · rw [if_pos h1, show i.toNat = 0 by omega]
    rfl
  · rw [if_neg h1, el, Bool.or_false]
    by_cases h2 : (i == 1) = true
    · rw [if_pos h2, ea, show i.toNat = 1 by have := beq_iff_eq.mp h2; omega]
      rfl
    · rw [if_neg h2]
      show ((List.replicate i.toNat (PySem.Str.ofString "a").cps).foldl (· ++ ·) #[]).toList = _
      rw [foldl_app]
      simp only [List.map_replicate, ea]
      generalize i.toNat = n
      induction n with
      | zero => rfl
      | succ n ih =>
        rw [List.replicate_succ, List.replicate_succ]
        simpa using ih
theorem sgn_at {i : Int} (h0 : 0 ≤ i) (h1 : i < 36) : ∃ c, atI signs.cps.toList i = some c ∧ c ∈ signs.cps.toList ∧ inS c = true ∧ (i < 26 → inL c = true) := by
  obtain ⟨n, rfl⟩ : ∃ n : Nat, i = (n : Int) := ⟨i.toNat, by omega⟩
  have h : n < signs.cps.toList.length := by rw [signs_len]; omega
  have m := List.getElem_mem h
  refine ⟨signs.cps.toList[n], atI_nat (List.getElem?_eq_getElem h), m, decide_eq_true m, fun l => ?_⟩
  have all : ∀ k : Fin 26, (signs.cps.toList[k.1]?).all inL = true := by decide +kernel
  have z := all ⟨n, by omega⟩
  rw [List.getElem?_eq_getElem h] at z
  exact z
theorem in97 : inL 97 = true ∧ inS 97 = true := by decide +kernel
theorem name_one {k m : Int} {c : Nat} (h0 : 0 ≤ k) (hm : 0 ≤ m) (l : k + m ≤ 11) (hs : inS c = true) (hl : k = 0 → inL c = true) : nameB (.str (Txt.mul (PySem.Str.ofString "a") k ++ ⟨#[c]⟩ ++ Txt.mul (PySem.Str.ofString "a") m)) = true := by
  have e : (Txt.mul (PySem.Str.ofString "a") k ++ (⟨#[c]⟩ : Str) ++ Txt.mul (PySem.Str.ofString "a") m).cps.toList = List.replicate k.toNat 97 ++ [c] ++ List.replicate m.toNat 97 := by
    rw [app_list, app_list, mul_list, mul_list]
  refine name_of e (by simp) (by simp; omega) (fun c' r' q => ?_) (fun c' q => ?_)
  · by_cases z : k = 0
    · subst z
      have q : c :: List.replicate m.toNat 97 = c' :: r' := q
      cases q
      exact hl rfl
    · obtain ⟨n, hn⟩ : ∃ n, k.toNat = n + 1 := ⟨k.toNat - 1, by omega⟩
      rw [hn, List.replicate_succ] at q
      cases q
      exact in97.1
  · rcases List.mem_append.mp q with q | q
    · rcases List.mem_append.mp q with q | q
      · rw [List.eq_of_mem_replicate q]; exact in97.2
      · rw [List.mem_singleton.mp q]; exact hs
    · rw [List.eq_of_mem_replicate q]; exact in97.2
theorem glued_list : ∀ (cs : List Nat), (Str.join Str.empty (cs.map fun c => (⟨#[c]⟩ : Str))).cps.toList = cs
  | [] => rfl
  | [c] => rfl
  | c :: d :: r => by
    have ih := glued_list (d :: r)
    have e : Str.join Str.empty ((c :: d :: r).map fun c => (⟨#[c]⟩ : Str)) = (⟨#[c]⟩ : Str) ++ Str.empty ++ Str.join Str.empty ((d :: r).map fun c => (⟨#[c]⟩ : Str)) := rfl
    rw [e, app_list, app_list, ih]
    rfl
theorem name_join {cs : List Nat} (ne : cs ≠ []) (ln : cs.length ≤ 12) (h1 : ∀ c r, cs = c :: r → inL c = true) (h2 : ∀ c ∈ cs, inS c = true) : nameB (.str (Txt.join (PySem.Str.ofString "") (cs.map fun c => (⟨#[c]⟩ : Str)))) = true := by
  have e : Txt.join (PySem.Str.ofString "") (cs.map fun c => (⟨#[c]⟩ : Str)) = Str.join Str.empty (cs.map fun c => (⟨#[c]⟩ : Str)) := (StrLaws.glued_eq_join (PySem.Str.ofString "") _).trans rfl
  rw [e]
  exact name_of (glued_list cs) ne ln h1 h2
theorem cut_list (x : Str) : (cutS x none (some 11)).cps.toList = x.cps.toList.take 11 := by
  unfold cutS
  rw [lenL]
  simp [HT.sIx]
theorem name_cut {x : Str} {c : Nat} (h : nameB (.str x) = true) (hc : inS c = true) : nameB (.str (cutS x none (some 11) ++ ⟨#[c]⟩)) = true := by
  obtain ⟨a1, a2, a3, a4⟩ := name_has h
  have e : (cutS x none (some 11) ++ (⟨#[c]⟩ : Str)).cps.toList = x.cps.toList.take 11 ++ [c] := by rw [app_list, cut_list]
  refine name_of e (by simp) (by simp; omega) (fun c' r' q => ?_) (fun c' q => ?_)
  · cases z : x.cps.toList with
    | nil => exact absurd z a1
    | cons d r =>
      rw [z] at q
      have q : d :: (r.take 10 ++ [c]) = c' :: r' := q
      injection q with q1 _
      rw [← q1]
      exact a3 d r z
  · rcases List.mem_append.mp q with q | q
    · exact a4 c' (List.mem_of_mem_take q)
    · rw [List.mem_singleton.mp q]; exact hc
/-! ## Some letter is free -/
theorem pigeon {α : Type} [DecidableEq α] : ∀ {l m : List α}, l.Nodup → (∀ x ∈ l, x ∈ m) → l.length ≤ m.length
  | [], _, _, _ => Nat.zero_le _
  | x :: l, m, n, h => by
    obtain ⟨n1, n2⟩ := List.nodup_cons.mp n
    have hx := h x List.mem_cons_self
    have := pigeon (l := l) (m := m.erase x) n2 fun y hy => (List.mem_erase_of_ne (fun e => n1 (by rw [← e]; exact hy))).mpr (h y (List.mem_cons_of_mem _ hy))
    rw [List.length_erase_of_mem hx] at this
    have := List.length_pos_of_mem hx
    rw [List.length_cons]
    omega
theorem in_strs {z : Str} {ss : List Str} : inV (.str z) (ss.map V.str) = decide (z ∈ ss) := by
  rw [Bool.eq_iff_iff, decide_eq_true_iff]
  unfold inV
  rw [List.any_eq_true]
  constructor
  · rintro ⟨y, hy, e⟩
    obtain ⟨s, hs, rfl⟩ := List.mem_map.mp hy
    have : s = z := by simpa [eqV] using e
    rw [← this]; exact hs
  · intro h
    exact ⟨.str z, List.mem_map.mpr ⟨z, h, rfl⟩, by simp [eqV]⟩
theorem free_letter {x : Str} {ss : List Str} (l : ss.length < 36) (h : ∀ c ∈ signs.cps.toList, cutS x none (some 11) ++ (⟨#[c]⟩ : Str) ∈ ss) : False := by
  have inj : ∀ c d : Nat, cutS x none (some 11) ++ (⟨#[c]⟩ : Str) = cutS x none (some 11) ++ (⟨#[d]⟩ : Str) → c = d := fun c d e => by
    have e := congrArg (fun s : Str => s.cps.toList) e
    simp only [app_list] at e
    have := List.append_cancel_left e
    simpa using this
  have nd : signs.cps.toList.Nodup := by decide +kernel
  have := pigeon (l := signs.cps.toList.map fun c => cutS x none (some 11) ++ (⟨#[c]⟩ : Str)) (m := ss) (List.Pairwise.map _ (fun a b n e => n (inj a b e)) nd) fun y hy => by
    obtain ⟨c, hc, rfl⟩ := List.mem_map.mp hy
    exact h c hc
  rw [List.length_map, signs_len] at this
  omega
end Lc
set_option Elab.async false
set_option linter.all false
set_option maxRecDepth 100000
set_option maxHeartbeats 4000000
namespace Lc
open PySem PySem.Spec PyProof.Rows L2
/-! ## o.m(e, .., k = v, ..) -/
def tMethK (C : Addr) (m : Str) (n l : Nat) (sp : Sp) (gV : List V → List V → List V) (E : XK) (ta : TE) (t tk : TA) : TE := fun σ H Q => ta σ H fun x H1 => ∃ a dx fs, x = .ref a ∧ H1 a = some (.ins C dx fs) ∧ fs.lookup m = none ∧
  t σ H1 fun vs H2 => tk σ H2 fun zs H3 => vs.length = n ∧ zs.length = l ∧ sp (gV (x :: vs) zs) H3 Q E
section
variable {X : Cx} {CX : CXT} {k n : Nat} {f C : Addr} {fd : FuncData} {ps ks : List Str} {sp : Sp} {E : XK} {m : Str} {pos apos : Pos} {e o : Expr} {es : List Expr} {kws : List Keyword} {ta : TE} {t tk : TA} {g : List Value → List Value → List Value} {gV : List V → List V → List V}
theorem pe_methK {pl : Sem Bool} (he : PE X o ta) (c : Cls X.K C) (hm : Meth X.K C m f) (F : FnOk X.prog X.w X.K X.mg X.base CX k f fd ps sp) (hr : Room k X.A) (hb : KBn X.K fd ps (n + 1) ks g gV) (hx : Passes CX X E) (ha : PA X (e :: es) t) (hkw : PK X kws tk)
    (hall : (backToKw pos (keywordEach kws X.env)).all (·.1.isSome) = true := by rfl) (hks : (backToKw pos (keywordEach kws X.env)).filterMap (·.1) = ks := by rfl) (hst : starEach (e :: es) X.env = (false, eval e X.env) :: starEach es X.env := by rfl)
    (hpl : ((backTo pos (starEach (e :: es) X.env)).any (·.1) || (backToKw pos (keywordEach kws X.env)).any (·.1.isNone)) = false := by rfl)
    (ht : eval (.Call (.Attribute o m apos) (e :: es) kws pos) X.env = (do
      let ov ← eval o X.env
      standAt apos.atName
      let (f, first) ← holding [ov] (getMethod ov m pl)
      callWith pos f first (backTo pos (starEach (e :: es) X.env)) (backToKw pos (keywordEach kws X.env))) := by rfl) :
    PE X (.Call (.Attribute o m apos) (e :: es) kws pos) (tMethK C m n ks.length sp gV E ta t tk) := by
  refine ⟨fun pins s σ H Q I h => ?_⟩
  refine PySem.W.methodCall_KW (pl := pl) (thn (he.run pins s σ H _ I h) fun u s1 ⟨x, H1, I1, rx, a, dx, fs, ex, ea, l, q⟩ => ?_) ht
  subst ex
  obtain rfl : u = Value.ref a := rx
  refine getmeth_ok I1 ea c hm l ?_
  refine PySem.W.callWith_KW (first := [.ref a]) (h₀ := X.base) I.ok.mod.kin hm.kp hall (thn (ha.run pos pins s1 σ H1 _ I1 q) fun us s2 ⟨vs, H2, I2, r, q2⟩ => ?_) hpl hst
  refine thn (hkw.run pos pins s2 σ H2 _ I2 q2) fun ws s3 ⟨zs, H3, I3, rz, l1, l2, q3⟩ => ⟨I3.kIn, ?_⟩
  rw [hks]
  exact run_fnN (us := .ref a :: us) (vs := .ref a :: vs) F hr hb hx I3 (.cons rfl r) rz (by rw [List.length_cons, l1]) l2 q3
end
theorem kbN {K : PySem.W.Frag} {x qual : Str} {params : Arguments} {body : List Stmt} {scope : Scope} {kws : List (Str × V)} {f : Addr} {fd : FuncData} {ps ks : List Str} {n : Nat} (F : FunD K x qual params body scope [] kws f fd)
    (h : ∀ (kV doc pm : Value) (an : Option Addr) (cdv ct : Value) (us ws : List Value), us.length = n → ws.length = ks.length → bindArgs (PySem.W.fnOf x qual params body scope .none kV doc pm an cdv ct) ⟨us, ks.zip ws⟩ = pure (ps.zip (us ++ ws))) : KBn K fd ps n ks (fun us ws => us ++ ws) (fun vs zs => vs ++ zs) := by
  obtain ⟨oc, od, dV, kV, doc, pm, an, cdv, ct, osl, rfl, lk, hcd, hD, hK⟩ := F.ex
  rcases hD with ⟨_, rfl⟩ | ⟨e, _⟩
  · exact ⟨fun s us ws X l1 l2 => .of_eq (h kV doc pm an cdv ct us ws l1 l2), fun r1 r2 => r1.append r2⟩
  · exact absurd rfl e
/-! ## Data without lists: it stands as long as the tuples stand -/
def SameT (H H' : Hp) : Prop := ∀ b xs, H b = some (.tup xs) → H' b = some (.tup xs)
theorem SameT.refl (H : Hp) : SameT H H := fun _ _ e => e
theorem SameT.trans {H H1 H2 : Hp} (a : SameT H H1) (b : SameT H1 H2) : SameT H H2 := fun c xs e => b c xs (a c xs e)
theorem SameT.of {H H' : Hp} (s : Same H H') : SameT H H' := fun b xs e => s _ _ e
theorem SameT.b {t : Addr} {H H' : Hp} (T : Tape H t) (s : SameB t H H') : SameT H H' := fun b xs e => s _ _ (T.neT e) e
theorem SameT.at {a : Addr} {H H' : Hp} {o : HO} (h : H a = some o) (n : ∀ xs, o ≠ .tup xs) (s : SameB a H H') : SameT H H' := fun b xs e => s _ _ (fun z => by rw [z, h] at e; exact n xs (Option.some.inj e)) e
theorem SameT.lst {H : Hp} {a : Addr} {ys : List V} {o : HO} (h : H a = some (.lst ys)) : SameT H (upd H a o) := fun b xs e => by rw [upd_ne (ne_of e h nofun)]; exact e
mutual
def noL : PyData → Bool
  | .list _ => false
  | .dict _ => false
  | .tuple ds => noLs ds
  | _ => true
def noLs : List PyData → Bool
  | [] => true
  | d :: ds => noL d && noLs ds
end
mutual
theorem Dh.t {H H' : Hp} (s : SameT H H') : ∀ {v : V} {d : PyData}, Dh H v d → noL d = true → Dh H' v d
  | _, _, .non, _ => .non
  | _, _, .bl b, _ => .bl b
  | _, _, .int i, _ => .int i
  | _, _, .str x, _ => .str x
  | _, _, .tup e h, n => .tup (s _ _ e) (DhAll.t s h (by simpa [noL] using n))
  | _, _, .lst e h, n => by simp [noL] at n
  | _, _, .dct e, n => by simp [noL] at n
theorem DhAll.t {H H' : Hp} (s : SameT H H') : ∀ {vs : List V} {ds : List PyData}, DhAll H vs ds → noLs ds = true → DhAll H' vs ds
  | _, _, .nil, _ => .nil
  | _, _, .cons h r, n => by
    rw [noLs, Bool.and_eq_true_iff] at n
    exact .cons (Dh.t s h n.1) (DhAll.t s r n.2)
end
theorem noLs_app {a b : List PyData} : noLs (a ++ b) = (noLs a && noLs b) := by
  induction a with
  | nil => rfl
  | cons x a ih => rw [List.cons_append, noLs, noLs, ih, Bool.and_assoc]
theorem noLs_all {a : List PyData} : noLs a = true ↔ ∀ d ∈ a, noL d = true := by
  induction a with
  | nil => exact ⟨fun _ => nofun, fun _ => rfl⟩
  | cons x a ih =>
    rw [noLs, Bool.and_eq_true_iff, ih]
    constructor
    · rintro ⟨h1, h2⟩ d hd
      rcases List.mem_cons.mp hd with rfl | hd
      · exact h1
      · exact h2 d hd
    · exact fun h => ⟨h x List.mem_cons_self, fun d hd => h d (List.mem_cons_of_mem _ hd)⟩
end Lc
set_option Elab.async false
set_option linter.all false
set_option maxRecDepth 100000
set_option maxHeartbeats 4000000
namespace K12
open PySem PySem.Spec PyProof.Rows L2 Lc
def top (i : Nat) : Stmt := PySem.Challenge.pw_liveclaims_k12_tables_and_their_lineage.main.body.getD i (.Pass ⟨0, 0, 0, 0⟩)
/-! ## is_whole, common_divisor, is_rational -/
abbrev sWhole : Stmt := top 15
abbrev sCd : Stmt := top 16
abbrev sIsR : Stmt := top 17
def spWhole : Sp := fun vs H Q _ => ∃ (v : V) (t : String), vs = [v] ∧ TyN H v t ∧ Q (.bl (t == "int")) H
def spCd : Sp := fun vs H Q _ => ∃ a b : Int, vs = [.int a, .int b] ∧ 0 ≤ a ∧ 0 ≤ b ∧ Q (.int (gd a b)) H
def spIsR : Sp := fun vs H Q _ => ∃ (v : V) (b : Bool), vs = [v] ∧ Rk H v b ∧ Q (.bl b) H
section
variable {P : Program} {w : World} {K : PySem.W.Frag} {mg : Str → Option Value} {base : Heap} {f C : Addr} {fd : FuncData}
theorem scWhole : FnScope ["value"] ["value"] (defScope sWhole) := ⟨rfl, rfl, rfl, by decide +kernel, rfl, by decide +kernel, by decide +kernel⟩
theorem ok_whole (F : Fun K "is_whole" "is_whole" sWhole f fd) (T : Bt mg) : FnOk P w K mg base CX0 1 f fd ["value"] spWhole := by
  refine F.ok scWhole (fun vs H Q E h => ?_) (fun cdv A outer s H vs Q E hr h => ?_)
  · obtain ⟨v, t, rfl, _⟩ := h
    rfl
  · obtain ⟨v, t, rfl, ty, k⟩ := h
    refine ⟨_, pss_one (ps_ret (pe_and (pe_callB call_isi (by rfl) T.isi boot_isinstance (pa_cons (pv 0) (pa_cons (pe_bltn (v := .ty "int") (by rfl) T.int boot_int rfl) pa_nil)))
      (pe_one (pe_not (pe_callB call_isi (by rfl) T.isi boot_isinstance (pa_cons (pv 0) (pa_cons (pe_bltn (v := .ty "bool") (by rfl) T.bool boot_bool rfl) pa_nil))))))), ?_⟩
    refine ⟨_, rfl, v, .ty "int", _, _, _, rfl, .ty "int", ty.x, kit_int ty.mem, _, rfl, ?_⟩
    refine ite2 (fun hi => ?_) (fun hi => ?_)
    · refine ⟨_, rfl, v, .ty "bool", _, _, _, rfl, .ty "bool", ty.x, kit_bool ty.mem, _, rfl, ?_⟩
      have e : (!(t == "bool")) = (t == "int") := by cases ty <;> first | rfl | exact absurd hi (by decide)
      show Q (.bl (!(t == "bool"))) H
      rw [e]
      exact k
    · have e : false = (t == "int") := by cases ty <;> first | rfl | exact absurd rfl hi
      show Q (.bl false) H
      rw [e]
      exact k
theorem scCd : FnScope ["a", "b"] ["a", "b"] (defScope sCd) := ⟨rfl, rfl, rfl, by decide +kernel, rfl, by decide +kernel, by decide +kernel⟩
theorem ok_cd (F : Fun K "common_divisor" "common_divisor" sCd f fd) : FnOk P w K mg base CX0 1 f fd ["a", "b"] spCd := by
  refine F.ok scCd (fun vs H Q E h => ?_) (fun cdv A outer s H vs Q E hr h => ?_)
  · obtain ⟨a, b, rfl, _⟩ := h
    rfl
  · obtain ⟨a, b, rfl, ha, hb, k⟩ := h
    refine ⟨_, pss_cons (ps_while PassesOwn.never (pt_cmpR op_ne (pv 1) pe_int (nomark _)) (pss_one (ps_par (i := 0) (j := 1) (by rfl) scCd.nd rfl rfl (by decide) rfl rfl (pa_cons (pv 1) (pa_cons (pe_op op_mod (pv 0) (pv 1)) pa_nil)) (by rfl))))
      (pss_one (ps_ret (pv 0))), ?_⟩
    refine ⟨fun m σ H' => ∃ a' b' : Int, σ = [some (.int a'), some (.int b')] ∧ 0 ≤ a' ∧ 0 ≤ b' ∧ b'.toNat = m ∧ gd a' b' = gd a b ∧ H' = H, ⟨_, a, b, rfl, ha, hb, rfl, rfl, rfl⟩, ?_⟩
    rintro m σ H' ⟨a', b', rfl, ha', hb', rfl, e, rfl⟩
    refine ⟨_, rfl, rfl, _, rfl, ?_⟩
    rw [show (decide (V.int b' = V.int 0)) = decide (b' = 0) from dec_int.trans (by rw [Bool.eq_iff_iff]; simp)]
    by_cases z : b' = 0
    · rw [decide_eq_true z]
      refine iteF ⟨_, rfl, ?_⟩
      rw [← e, z, gd_zero ha'] at k
      exact k
    · rw [decide_eq_false z]
      have pb : 0 < b' := by omega
      refine iteT ⟨fun σ' H'' => ∃ a2 b2 : Int, σ' = [some (.int a2), some (.int b2)] ∧ 0 ≤ a2 ∧ 0 ≤ b2 ∧ b2.toNat < b'.toNat ∧ gd a2 b2 = gd a b ∧ H'' = H', ?_, ?_⟩
      · rintro σ' H'' ⟨a2, b2, h1, h2, h3, h4, h5, h6⟩
        exact ⟨_, h4, a2, b2, h1, h2, h3, rfl, h5, h6⟩
      · refine ⟨_, rfl, _, rfl, _, rfl, _, _, rfl, rfl, pb, _, _, rfl, b', a' % b', rfl, hb', Int.emod_nonneg _ (by omega), ?_, ?_, rfl⟩
        · have := Int.emod_lt_of_pos a' pb
          have := Int.emod_nonneg a' (by omega : b' ≠ 0)
          omega
        · rw [gd_step ha' pb]
          exact e
theorem scIsR : FnScope ["value", "n", "d"] ["value"] (defScope sIsR) := ⟨rfl, rfl, rfl, by decide +kernel, rfl, by decide +kernel, by decide +kernel⟩
theorem ok_isr {fW fC : Addr} {fdW fdC : FuncData} (F : Fun K "is_rational" "is_rational" sIsR f fd) (T : Bt mg) (GW : FnOk P w K mg base CX0 1 fW fdW ["value"] spWhole) (mW : mg "is_whole" = some (.ref fW)) (kW : PySem.W.keepIn K (.ref fW) = true) (bW : Binds K fdW ["value"] [])
    (GC : FnOk P w K mg base CX0 1 fC fdC ["a", "b"] spCd) (mC : mg "common_divisor" = some (.ref fC)) (kC : PySem.W.keepIn K (.ref fC) = true) (bC : Binds K fdC ["a", "b"] []) : FnOk P w K mg base CX0 2 f fd ["value"] spIsR := by
  refine F.ok scIsR (fun vs H Q E h => ?_) (fun cdv A outer s H vs Q E hr h => ?_)
  · obtain ⟨v, b, rfl, _⟩ := h
    rfl
  · obtain ⟨v, b, rfl, hk, k⟩ := h
    refine ⟨_, pss_cons (ps_if (PW.pt (pw_or (pt_not (pt_val (pe_callB call_isi (by rfl) T.isi boot_isinstance (pa_cons (pv 0) (pa_cons (pe_bltn (v := .ty "tuple") (by rfl) T.tuple boot_tuple rfl) pa_nil)))))
        (pw_or1 (pt_cmpR op_ne (pe_callB call_len_seq (by rfl) T.len PySem.boot_len (pa_cons (pv 0) pa_nil)) pe_int (nomark _))))) (pss_one (ps_ret pe_bl)) pss_nil)
      (pss_cons (ps_asg (pv 0) (pg_tup rfl (pgs_cons (pg_name (i := 1) scIsR.nd rfl (.inl rfl)) (pgs_cons (pg_name (i := 2) scIsR.nd rfl (.inl rfl)) pgs_nil))))
      (pss_cons (ps_if (PW.pt (pw_or (pt_not (pt_val (pe_call GW hr (by rfl) mW kW bW .nil pass0 (pa_cons (pv 1) pa_nil)))) (pw_or (pt_not (pt_val (pe_call GW hr (by rfl) mW kW bW .nil pass0 (pa_cons (pv 2) pa_nil))))
        (pw_or1 (pt_cmpR op_lt (pv 2) pe_int (nomark _)))))) (pss_one (ps_ret pe_bl)) pss_nil)
      (pss_one (ps_ret (pe_cmpR op_eq (pe_call GC hr (by rfl) mC kC bC .nil pass0 (pa_cons (pe_callB call_abs (by rfl) T.abs boot_abs (pa_cons (pv 1) pa_nil)) (pa_cons (pv 2) pa_nil))) pe_int (nomark _)))))), ?_⟩
    cases hk with
    | @other _ t ty n =>
      refine ⟨_, rfl, v, .ty "tuple", _, _, _, rfl, .ty "tuple", ty.x, kit_tuple ty.mem, _, rfl, ?_⟩
      have e : (t == "tuple") = false := by simpa using n
      rw [e]
      exact iteT (iteT k)
    | @len a xs e n =>
      refine ⟨_, rfl, .ref a, .ty "tuple", _, _, _, rfl, .ty "tuple", (TyN.tup e).x, kit_tuple (by decide), _, rfl, ?_⟩
      refine iteF ⟨_, rfl, a, xs, rfl, .inr (SqT.of e), rfl, _, rfl, ?_⟩
      have z : decide (V.int (xs.length : Int) = V.int 2) = false := decide_eq_false (fun q => n (by injection q with q; omega))
      rw [z]
      exact iteT k
    | @pair a x y tx ty e hx hy =>
      refine ⟨_, rfl, .ref a, .ty "tuple", _, _, _, rfl, .ty "tuple", (TyN.tup e).x, kit_tuple (by decide), _, rfl, ?_⟩
      refine iteF ⟨_, rfl, a, _, rfl, .inr (SqT.of e), rfl, _, rfl, ?_⟩
      refine iteF ?_
      refine ⟨_, rfl, a, _, rfl, SqT.of e, rfl, _, _, rfl, _, _, rfl, rfl, ?_⟩
      refine ⟨_, rfl, x, tx, rfl, hx, _, rfl, ?_⟩
      by_cases ix : tx = "int"
      · obtain ⟨n, rfl⟩ := hx.isInt ix
        subst ix
        · refine iteF ⟨_, rfl, y, ty, rfl, hy, _, rfl, ?_⟩
          by_cases iy : ty = "int"
          · obtain ⟨d, rfl⟩ := hy.isInt iy
            subst iy
            · refine iteF ⟨_, rfl, _, _, rfl, rfl, _, rfl, ?_⟩
              by_cases hd : d < 1
              · rw [decide_eq_true hd]
                have z : ratB (.int n) (.int d) = false := by
                  show (decide (0 < d) && _) = false
                  rw [decide_eq_false (by omega : ¬ 0 < d)]
                  rfl
                rw [z] at k
                exact iteT k
              · rw [decide_eq_false hd]
                refine iteF ?_
                refine ⟨_, rfl, n, rfl, _, rfl, _, d, rfl, by split <;> omega, by omega, rfl, ?_⟩
                have z : ratB (.int n) (.int d) = decide (V.int (gd (if n < 0 then -n else n) d) = V.int 1) := by
                  show (decide (0 < d) && decide (gd n d = 1)) = _
                  rw [decide_eq_true (by omega : 0 < d), gd_abs]
                  rw [Bool.eq_iff_iff]
                  simp
                rw [z] at k
                exact k
          · have z : (ty == "int") = false := by simpa using iy
            have z2 : ratB (.int n) y = false := by
              cases hy <;> first | rfl | exact absurd rfl iy
            rw [z2] at k
            rw [z]
            exact iteT (iteT k)
      · have z : (tx == "int") = false := by simpa using ix
        have z2 : ratB x y = false := by
          cases hx <;> first | rfl | exact absurd rfl ix
        rw [z2] at k
        rw [z]
        exact iteT (iteT k)
end
abbrev sTape : Stmt := top 37
section
variable {P : Program} {w : World} {K : PySem.W.Frag} {mg : Str → Option Value} {base : Heap} {f : Addr} {fd : FuncData}
theorem scTape : FnScope ["_law_script"] ["_law_script"] (defScope sTape) := ⟨rfl, rfl, rfl, by decide +kernel, rfl, by decide +kernel, by decide +kernel⟩
theorem ok_tape (F : Fun K "_law_tape" "_law_tape" sTape f fd) (T : Bt mg) : FnOk P w K mg base CX0 1 f fd ["_law_script"] (spTape K) := by
  refine F.ok scTape (fun vs H Q E h => ?_) (fun cdv A outer s H vs Q E hr h => ?_)
  · obtain ⟨a, ns, rfl, _⟩ := h
    rfl
  · obtain ⟨a, ns, rfl, hS, k⟩ := h
    refine ⟨_, pss_one (ps_ret (pe_lst (pa_cons (pe_callTy call_list_of (by rfl) T.list boot_list (pa_cons (pe_slice sl_list (pv 0) po_none (po_some pe_int)) pa_nil)) (pa_cons pe_int (pa_cons pe_int (pa_cons pe_int pa_nil)))))), ?_⟩
    obtain ⟨ms, e⟩ := cut_ints ns none (some 63)
    refine ⟨_, rfl, _, rfl, a, _, rfl, hS, fun p hp => ⟨p, _, rfl, .inl (SqL.of upd_same), fun l hl => ⟨by show 4 ≤ sizeLine; decide, fun t ht => ?_⟩⟩⟩
    have s1 : Same H (upd H p (.lst (cutV (ns.map V.int) none (some 63)))) := Same.upd hp
    have s2 := Same.upd (o := .lst (cutV (ns.map V.int) none (some 63))) hl
    have s3 := Same.upd (o := .lst [.ref l, .int 0, .int 0, .int 17]) ht
    refine k t _ ((s1.trans s2).trans s3) ((s1.trans s2).free ht) ⟨l, ms, 0, 0, 17, upd_same, ?_, by decide, by decide, by decide, by decide⟩
    rw [← e]
    exact s3 _ _ upd_same
end
abbrev sDraw : Stmt := top 38
section
variable {P : Program} {w : World} {K : PySem.W.Frag} {mg : Str → Option Value} {base : Heap} {f : Addr} {fd : FuncData}
theorem scDraw : FnScope ["_law_tape_here", "_law_many", "_law_digit", "_law_cell", "_law_near"] ["_law_tape_here", "_law_many"] (defScope sDraw) := ⟨rfl, rfl, rfl, by decide +kernel, rfl, by decide +kernel, by decide +kernel⟩
theorem ok_draw (F : Fun K "_law_draw" "_law_draw" sDraw f fd) (T : Bt mg) : FnOk P w K mg base CX0 1 f fd ["_law_tape_here", "_law_many"] spDrawL := by
  refine F.ok scDraw (fun vs H Q E h => ?_) (fun cdv A outer s H vs Q E hr h => ?_)
  · obtain ⟨t, l, m, rfl, _⟩ := h
    rfl
  · obtain ⟨t, l, m, rfl, ⟨ns, pos, rest, mix, ht, hl, p0, r0, m0, m1⟩, hm, hm2, k⟩ := h
    refine ⟨_, pss_cons (ps_if (pt_cmpR op_gt (pe_ix ix_list (pv 0) pe_int (fun _ _ => rfl)) pe_int (nomark _))
        (pss_cons (ps_set (i := 2) scDraw.nd rfl (Or.inl rfl) (pe_op op_mod (pe_ix ix_list (pv 0) pe_int (fun _ _ => rfl)) (pv 1)))
        (pss_cons (ps_asg (pe_op op_fdivW (pe_ix ix_list (pv 0) pe_int (fun _ _ => rfl)) (pv 1)) (pg_sub (pv 0) pe_int set_list)) (pss_one (ps_ret (pv 2))))) pss_nil)
      (pss_cons (ps_set (i := 3) scDraw.nd rfl (Or.inl rfl) pe_int)
      (Evl.pss_cut (ps_if (pt_cmpR op_lt (pe_ix ix_list (pv 0) pe_int (fun _ _ => rfl)) (pe_callB call_len_seq (by rfl) T.len PySem.boot_len (pa_cons (pe_ix ix_list (pv 0) pe_int (fun _ _ => rfl)) pa_nil)) (nomark _))
        (pss_one (ps_set (i := 3) scDraw.nd rfl (Or.inl rfl) (pe_ix ix_list (pe_ix ix_list (pv 0) pe_int (fun _ _ => rfl)) (pe_ix ix_list (pv 0) pe_int (fun _ _ => rfl)) (fun _ _ => rfl)))) pss_nil)
      (pss_cons (ps_asg (pe_op op_add (pe_ix ix_list (pv 0) pe_int (fun _ _ => rfl)) pe_int) (pg_sub (pv 0) pe_int set_list))
      (pss_cons (ps_if (pt_cmpR op_ge (pv 3) (pe_op op_pow pe_int pe_int) (nomark _))
        (pss_cons (ps_asg (pe_op op_fdivW (pv 3) (pv 1)) (pg_sub (pv 0) pe_int set_list)) (pss_one (ps_ret (pe_op op_mod (pv 3) (pv 1))))) pss_nil)
      (pss_cons (ps_set (i := 4) scDraw.nd rfl (Or.inl rfl) (pe_op op_add (pe_op op_add (pe_op op_mod (pv 3) pe_int) (pe_op op_mul pe_int (pe_ix ix_list (pv 0) pe_int (fun _ _ => rfl)))) pe_int))
      (pss_cons (ps_asg (pe_op op_mod (pe_op op_add (pe_op op_mul (pe_ix ix_list (pv 0) pe_int (fun _ _ => rfl)) pe_int) (pv 4)) pe_int) (pg_sub (pv 0) pe_int set_list))
      (pss_one (ps_ret (pe_op op_mod (pe_op op_mod (pe_op op_pow (pe_ix ix_list (pv 0) pe_int (fun _ _ => rfl)) pe_int) pe_int) (pv 1)))))))))), ?_⟩
    have nl := tape_ne ht hl
    have dv : ∀ c : Int, CDivW c m := fun c => ⟨hm, log_lt' hm2⟩
    have M0 : (0 : Int) < 2147483647 := by decide
    refine ⟨_, rfl, t, _, _, _, rfl, rfl, SqL.of ht, rfl, _, _, rfl, rfl, _, rfl, ?_⟩
    refine ite2 (fun z => ?_) (fun z => ?_)
    · have z' : 0 < rest := of_decide_eq_true z
      refine ⟨_, rfl, t, _, _, _, rfl, rfl, SqL.of ht, rfl, _, rfl, _, _, rfl, rfl, hm, ?_⟩
      refine ⟨_, rfl, t, _, _, _, rfl, rfl, SqL.of ht, rfl, _, rfl, _, _, rfl, rfl, dv _, _, rfl, t, _, _, 2, rfl, rfl, ht, rfl, ?_⟩
      refine ⟨_, rfl, ?_⟩
      refine k _ _ (Int.emod_nonneg _ (by omega)) (Int.emod_lt_of_pos _ hm) ⟨ns, pos, rest / m, mix, upd_same, by rw [upd_ne nl]; exact hl, p0, Int.ediv_nonneg r0 (by omega), m0, m1⟩ SameB.upd
    · refine ⟨fun σ' H' => ∃ c : Int, σ' = [some (.ref t), some (.int m), none, some (.int c), none] ∧ H' = H, ?_, ?_⟩
      · refine ⟨_, rfl, t, _, _, _, rfl, rfl, SqL.of ht, rfl, _, rfl, t, _, _, _, rfl, rfl, SqL.of ht, rfl, l, _, rfl, .inl (SqL.of hl), _, _, rfl, rfl, _, rfl, ?_⟩
        refine ite2 (fun y => ?_) (fun y => ?_)
        · have y' : pos < ((ns.map V.int).length : Int) := of_decide_eq_true y
          rw [List.length_map] at y'
          have g : (ns.map V.int)[pos.toNat]? = some (.int (ns[pos.toNat]'(by omega))) := by
            rw [List.getElem?_map, List.getElem?_eq_getElem (by omega : pos.toNat < ns.length)]
            rfl
          exact ⟨_, rfl, t, _, _, _, rfl, rfl, SqL.of ht, rfl, _, rfl, t, _, _, _, rfl, rfl, SqL.of ht, rfl, l, _, _, _, rfl, rfl, SqL.of hl, at_of (by omega) g, _, rfl, rfl⟩
        · exact ⟨0, rfl, rfl⟩
      · rintro σ' H' ⟨c, rfl, rfl⟩
        refine ⟨_, rfl, t, _, _, _, rfl, rfl, SqL.of ht, rfl, _, _, rfl, rfl, _, rfl, t, _, _, 1, rfl, rfl, ht, rfl, ?_⟩
        refine ⟨_, rfl, _, _, rfl, rfl, ⟨by decide, by decide, by decide⟩, _, _, rfl, rfl, _, rfl, ?_⟩
        refine ite2 (fun y => ?_) (fun y => ?_)
        · have y' : (10 : Int) ^ (18 : Int).toNat ≤ c := of_decide_eq_true y
          have c0 : 0 ≤ c := Int.le_trans (by decide) y'
          refine ⟨_, rfl, _, rfl, _, _, rfl, rfl, dv _, _, rfl, t, _, _, 2, rfl, rfl, upd_same, rfl, ?_⟩
          refine ⟨_, rfl, _, rfl, _, _, rfl, rfl, hm, ?_⟩
          exact k _ _ (Int.emod_nonneg _ (by omega)) (Int.emod_lt_of_pos _ hm) ⟨ns, pos + 1, c / m, mix, upd_same, by rw [upd_ne nl, upd_ne nl]; exact hl, by omega, Int.ediv_nonneg c0 (by omega), m0, m1⟩ (SameB.upd.trans SameB.upd)
        · refine ⟨_, rfl, _, _, rfl, rfl, M0, _, rfl, t, _, _, _, rfl, rfl, SqL.of upd_same, rfl, _, _, rfl, rfl, .inl ⟨by decide, by decide⟩, _, _, rfl, rfl, _, _, rfl, rfl, ?_⟩
          refine ⟨_, rfl, t, _, _, _, rfl, rfl, SqL.of upd_same, rfl, _, _, rfl, rfl, .inl ⟨by omega, by omega⟩, _, rfl, _, _, rfl, rfl, _, _, rfl, rfl, M0, _, rfl, t, _, _, 3, rfl, rfl, upd_same, rfl, ?_⟩
          have q0 := Int.emod_nonneg (mix * 48271 + (c % 2147483647 + 7919 * (pos + 1) + 11)) (by decide : (2147483647 : Int) ≠ 0)
          have q1 := Int.emod_lt_of_pos (mix * 48271 + (c % 2147483647 + 7919 * (pos + 1) + 11)) M0
          refine ⟨_, rfl, t, _, _, _, rfl, rfl, SqL.of upd_same, rfl, _, _, rfl, rfl, ⟨by decide, by decide, ?_⟩, _, _, rfl, rfl, M0, _, rfl, _, _, rfl, rfl, hm, ?_⟩
          · omega
          · exact k _ _ (Int.emod_nonneg _ (by omega)) (Int.emod_lt_of_pos _ hm) ⟨ns, pos + 1, rest, _, upd_same, by rw [upd_ne nl, upd_ne nl]; exact hl, by omega, r0, q0, q1⟩ (SameB.upd.trans SameB.upd)
end
abbrev sLst : Stmt := top 39
section
variable {P : Program} {w : World} {K : PySem.W.Frag} {mg : Str → Option Value} {base : Heap} {f : Addr} {fd : FuncData}
theorem scLst : FnScope ["_law_n", "_law_d", "_law_a", "_law_b", "_law_rest"] ["_law_n", "_law_d"] (defScope sLst) := ⟨rfl, rfl, rfl, by decide +kernel, rfl, by decide +kernel, by decide +kernel⟩
theorem ok_lst (F : Fun K "_law_lowest" "_law_lowest" sLst f fd) (T : Bt mg) : FnOk P w K mg base CX0 1 f fd ["_law_n", "_law_d"] spLowest := by
  refine F.ok scLst (fun vs H Q E h => ?_) (fun cdv A outer s H vs Q E hr h => ?_)
  · obtain ⟨n, d, rfl, _⟩ := h
    rfl
  · obtain ⟨n, d, rfl, hd, hd2, k⟩ := h
    refine ⟨_, pss_cons (ps_set (i := 2) scLst.nd rfl (Or.inl rfl) (pe_callB call_abs (by rfl) T.abs boot_abs (pa_cons (pv 0) pa_nil)))
      (pss_cons (ps_set (i := 3) scLst.nd rfl (Or.inl rfl) (pv 1))
      (pss_cons (ps_while PassesOwn.never (pt_cmpR op_gt (pv 3) pe_int (nomark _))
        (pss_cons (ps_set (i := 4) scLst.nd rfl (Or.inl rfl) (pe_op op_mod (pv 2) (pv 3))) (pss_cons (ps_set (i := 2) scLst.nd rfl (Or.inl rfl) (pv 3)) (pss_one (ps_set (i := 3) scLst.nd rfl (Or.inl rfl) (pv 4))))))
      (pss_one (ps_ret (pe_tup (pa_cons (pe_op op_fdivW (pv 0) (pv 2)) (pa_cons (pe_op op_fdivW (pv 1) (pv 2)) pa_nil))))))), ?_⟩
    refine ⟨_, rfl, n, rfl, _, rfl, ?_⟩
    refine ⟨fun m σ H' => ∃ (a' b' : Int) (r : Option V), σ = [some (.int n), some (.int d), some (.int a'), some (.int b'), r] ∧ 0 ≤ a' ∧ 0 ≤ b' ∧ b'.toNat = m ∧ gd a' b' = gd n d ∧ H' = H, ⟨_, _, d, none, rfl, by split <;> omega, by omega, rfl, gd_abs n d, rfl⟩, ?_⟩
    rintro m σ H' ⟨a', b', r, rfl, ha', hb', rfl, e, rfl⟩
    refine ⟨_, rfl, _, _, rfl, rfl, _, rfl, ?_⟩
    refine ite2 (fun z => ?_) (fun z => ?_)
    · have pb : 0 < b' := of_decide_eq_true z
      refine ⟨fun σ' H'' => ∃ (a2 b2 : Int) (r : Option V), σ' = [some (.int n), some (.int d), some (.int a2), some (.int b2), r] ∧ 0 ≤ a2 ∧ 0 ≤ b2 ∧ b2.toNat < b'.toNat ∧ gd a2 b2 = gd n d ∧ H'' = H', ?_, ?_⟩
      · rintro σ' H'' ⟨a2, b2, r2, h1, h2, h3, h4, h5, h6⟩
        exact ⟨_, h4, a2, b2, r2, h1, h2, h3, rfl, h5, h6⟩
      · refine ⟨_, rfl, _, rfl, _, _, rfl, rfl, pb, _, rfl, _, rfl, b', a' % b', _, rfl, hb', Int.emod_nonneg _ (by omega), ?_, ?_, rfl⟩
        · have := Int.emod_lt_of_pos a' pb
          have := Int.emod_nonneg a' (by omega : b' ≠ 0)
          omega
        · rw [gd_step ha' pb]
          exact e
    · have zb : ¬ 0 < b' := fun q => z (decide_eq_true q)
      have z0 : b' = 0 := by omega
      rw [z0, gd_zero ha'] at e
      subst e
      have g0 : 0 < gd n d := gd_pos (by omega)
      have gl : (gd n d).natAbs < 2 ^ 4000 := Nat.lt_of_le_of_lt (gd_natAbs_le (by omega)) hd2
      exact ⟨_, rfl, _, rfl, _, _, rfl, rfl, ⟨g0, log_lt' gl⟩, _, rfl, _, rfl, _, _, rfl, rfl, ⟨g0, log_lt' gl⟩, by show 2 ≤ sizeLine; decide, k⟩
end
abbrev sName : Stmt := top 26
section
variable {P : Program} {w : World} {K : PySem.W.Frag} {mg : Str → Option Value} {base : Heap} {f : Addr} {fd : FuncData} {u1 u2 : Tok} {u3 : Tok}
theorem scName : FnScope ["value", "sign"] ["value"] (defScope sName) := ⟨rfl, rfl, rfl, by decide +kernel, rfl, by decide +kernel, by decide +kernel⟩
theorem ok_name (F : Fun K "is_name" "is_name" sName f fd) (T : Bt mg) (m1 : mg "LETTERS" = some (.str letters u1)) (m2 : mg "NAME_SIGNS" = some (.str signs u2)) (m3 : mg "LONGEST_NAME" = some (.int 12 u3)) : FnOk P w K mg base CX0 1 f fd ["value"] spName := by
  refine F.ok scName (fun vs H Q E h => ?_) (fun cdv A outer s H vs Q E hr h => ?_)
  · obtain ⟨v, t, rfl, _⟩ := h
    rfl
  · obtain ⟨v, t, rfl, ty, hl, k⟩ := h
    refine ⟨_, pss_cons (ps_if (PW.pt (pw_or (pt_not (pt_val (pe_callB call_isi (by rfl) T.isi boot_isinstance (pa_cons (pv 0) (pa_cons (pe_bltn (v := .ty "str") (by rfl) T.str boot_str rfl) pa_nil))))) (pw_or (pt_cmpR op_eq (pv 0) pe_str (nomark _))
        (pw_or1 (pt_cmpR op_gt (pe_callB call_len_str (by rfl) T.len PySem.boot_len (pa_cons (pv 0) pa_nil)) (pe_glob (v := .int 12) (by rfl) m3 ⟨_, rfl⟩) (nomark _)))))) (pss_one (ps_ret pe_bl)) pss_nil)
      (pss_one (ps_ret (pe_and (pe_cmpR op_in_sign (pe_ix ix_str (pv 0) pe_int (fun _ _ => rfl)) (pe_glob (v := .str letters) (by rfl) m1 ⟨_, rfl⟩) (by rfl))
        (pe_one (pe_callB (cr_all rfl) (by rfl) T.all (by decide +kernel) (pa_cons (pe_lc (own := [("sign", 1)]) (g := gName 1) (tt := tYes) (te := tOp Lc.rInS (tVar 1) (tC (.str signs))) (by rfl) scName.nd (pi_str (pv 0)) (blkOk_by (own := [("sign", 1)]) (N := ["value", "sign"]) (sc := defScope sName) (by decide +kernel))
          (fun _ _ _ _ _ => pg_name (i := 1) scName.nd rfl (Or.inl rfl)) (fun _ _ _ _ _ => pts_nil) (fun _ _ _ _ _ => pe_cmpR op_in_sign (pv 1) (pe_glob (v := .str signs) (by rfl) m2 ⟨_, rfl⟩) (by rfl))) pa_nil)))))), ?_⟩
    refine ⟨_, rfl, v, .ty "str", _, _, _, rfl, .ty "str", ty.x, kit_str ty.mem, _, rfl, ?_⟩
    by_cases ts : t = "str"
    · obtain ⟨x, rfl⟩ := ty.isStr ts
      subst ts
      have hx := hl x rfl
      refine iteF ⟨_, rfl, rfl, _, rfl, ?_⟩
      rw [dec_empty]
      cases e : x.cps.toList with
      | nil =>
        rw [decide_eq_true rfl]
        have k0 := k H (Same.refl H)
        rw [name_nil e] at k0
        exact iteT (iteT k0)
      | cons c r =>
        rw [decide_eq_false (by simp)]
        refine iteF ⟨_, rfl, x, rfl, hx, _, _, rfl, rfl, _, rfl, ?_⟩
        rw [lenL x]
        by_cases l12 : x.cps.toList.length ≤ 12
        · rw [decide_eq_false (by omega)]
          refine iteF ?_
          have ni := name_is e l12
          refine ⟨_, rfl, x, 0, c, rfl, rfl, hx, (show atI x.cps.toList ((0 : Nat) : Int) = some c from atI_nat (by rw [e]; rfl)), c, letters, rfl, rfl, _, rfl, ?_⟩
          show if inL c = true then _ else _
          refine ite2 (fun z => ?_) (fun z => ?_)
          · refine ⟨_, rfl, x, rfl, fun D hD => lc_it walk_str (fun i H' => H' = upd H D (.lst ((x.cps.toList.take i).map fun c => .bl (inS c)))) rfl (fun _ _ _ _ => True.intro) ?_ ?_⟩
            · rintro i y H' H'' hi rfl ⟨rfl, c', hc', rfl⟩
              refine ⟨rfl, ?_⟩
              change tOp Lc.rInS (tVar 1) (tC (.str signs)) _ _ _
              refine ⟨_, rfl, c', signs, rfl, rfl, _, upd_same, ?_, ?_⟩
              · rw [List.length_map, List.length_take]
                exact Nat.lt_of_le_of_lt (Nat.min_le_right _ _) (Nat.lt_of_le_of_lt l12 (by decide))
              · rw [upd_upd]
                exact congrArg (fun z => upd H D (.lst z)) (grow hc' inS)
            · rintro H' rfl
              have ez : x.cps.size = x.cps.toList.length := by simp
              refine ⟨D, x.cps.toList.map inS, rfl, SqL.of (by rw [upd_same, ez, List.take_length, List.map_map]; rfl), ?_⟩
              have k1 := k _ (Same.upd (o := .lst ((x.cps.toList.take x.cps.size).map fun c => .bl (inS c))) hD)
              rw [ni, z, ← e] at k1
              rw [List.all_map]
              exact k1
          · have k0 := k H (Same.refl H)
            rw [ni, show inL c = false by simpa using z] at k0
            exact k0
        · rw [decide_eq_true (by omega)]
          have k0 := k H (Same.refl H)
          rw [name_long l12] at k0
          exact iteT k0
    · have z : (t == "str") = false := by simpa using ts
      rw [z]
      have k0 := k H (Same.refl H)
      have nb : nameB v = false := by cases ty <;> first | rfl | exact absurd rfl ts
      rw [nb] at k0
      exact iteT (iteT k0)
end
end K12
set_option Elab.async false
set_option linter.all false
set_option maxRecDepth 100000
set_option maxHeartbeats 4000000
namespace Lc
open PySem PySem.Spec PyProof.Rows L2 He
/-! ## The head's facts, with one more Bool -/
abbrev AlE : Type := AlD × Bool
def obsE (n : Nat) (fa : List Fa) (fn : List DefD) (ex : PySem.W.Frag → Bool) (g : Addr → Option Obj) : AlE := (obsD fa fn (frG g (asD g n)), ex (frG g (asD g n)))
def hookE (n : Nat) (fa : List Fa) (fn : List DefD) (ex : PySem.W.Frag → Bool) : PySem.W.Hook where
  α := AlE
  obs := fun s => obsE n fa fn ex s.heap.get?
  val := fun _ => (valD fn, true)
  says := fun _ h => ∃ K : PySem.W.Frag, K.In h ∧ SaysD fa fn K ∧ ex K = true
  of := fun _ _ e => ⟨_, frG_in, congrArg (fun z : AlE => z.1) e, congrArg (fun z : AlE => z.2) e⟩
  keeps := fun _ _ _ ⟨K, hK, c⟩ k => ⟨K, PySem.W.Frag.In.keeps hK k, c⟩
theorem obsE_eq {n : Nat} {fa : List Fa} {fn : List DefD} {ex : PySem.W.Frag → Bool} {g : Addr → Option Obj} {s : Shared} (h : ∀ a, g a = s.heap.get? a) : obsE n fa fn ex g = (hookE n fa fn ex).obs s := by
  have e : g = s.heap.get? := funext h
  rw [e] <;> rfl
/-! ## What is asked of the error classes -/
def optB (a b : Option Bool) : Bool := decide (a = b)
def optV (a b : Option Value) : Bool := decide (a = b)
def oexB (K : PySem.W.Frag) (C : Addr) : Bool := (match K.lookup C with
  | some ⟨.type "type", _, .cls cd, sl⟩ => (match cd.mro, sl.toList with
    | .ref C' :: bm, [_, _, _, _, some (.builtin n), _] => C' == C && n == "ValueError.__new__" && !cd.hasDel && cd.hasDict && PySem.HandSPX.refsVE bm
    | _, _ => false)
  | _ => false) && (eqO (PySem.W.findIn K (.ref C) "__setattr__") (some (some (.builtin "object.__setattr__"))) && (optB (PySem.W.subIn K (.ref C) (.type "BaseException")) (some true) && (optV (PySem.W.typeIn K (.ref C)) (some (.type "type")) && PySem.W.keepIn K (.ref C))))
theorem oexB_ok {K : PySem.W.Frag} {C : Addr} (h : oexB K C = true) : OexC K C := by
  obtain ⟨q, h⟩ := ba h
  obtain ⟨h1, h⟩ := ba h
  obtain ⟨h2, h⟩ := ba h
  obtain ⟨h3, h4⟩ := ba h
  refine ⟨?_, eqO_ok h1, of_decide_eq_true h2, of_decide_eq_true h3, h4⟩
  split at q
  · rename_i dd cd sl ho
    split at q
    · rename_i C' bm k0 k1 k2 k3 n k5 hm hs
      simp only [Bool.and_eq_true, beq_iff_eq, Bool.not_eq_true'] at q
      obtain ⟨⟨⟨⟨rfl, rfl⟩, hdel⟩, hdi⟩, ht⟩ := q
      obtain ⟨nm, bs, mro, ns, qn, hd, sn, sub, ab, col, del⟩ := cd
      dsimp only at hm hdel hdi
      subst hm hdel hdi
      have hsl : sl = #[k0, k1, k2, k3, some (.builtin "ValueError.__new__"), k5] := by
        obtain ⟨l⟩ := sl
        simp only at hs
        rw [hs]
      subst hsl
      exact ⟨nm, qn, ns, bs, bm, sn, sub, ab, col, dd, k0, k1, k2, k3, k5, ho, ht⟩
    · cases q
  · cases q
def xisB (K : PySem.W.Frag) (C : Addr) : Bool := (PySem.W.clsIn K C).isSome && (eqO (PySem.W.findIn K (.ref C) "__getattribute__") (some (some (.builtin "BaseException.__getattribute__"))) && (eqO (PySem.W.findIn K (.ref C) "__getattr__") (some none) &&
  (optB (PySem.W.subIn K (.ref C) (.type "BaseException")) (some true) && (eqO (PySem.W.findIn K (.ref C) "__class__") (some (some (.builtin "object.__class__"))) && (eqO (PySem.W.specialIn K (.builtin "object.__class__") "__get__") (some (some (.builtin "getset_descriptor.__get__"))) &&
  (optB (PySem.W.takesIn K (.builtin "object.__class__")) (some true) && optB (PySem.W.mroIn K C (.type "object")) (some true)))))))
theorem xisB_ok {K : PySem.W.Frag} {C : Addr} (h : xisB K C = true) : XisC K C := by
  obtain ⟨h1, h⟩ := ba h
  obtain ⟨h2, h⟩ := ba h
  obtain ⟨h3, h⟩ := ba h
  obtain ⟨h4, h⟩ := ba h
  obtain ⟨h5, h⟩ := ba h
  obtain ⟨h6, h⟩ := ba h
  obtain ⟨h7, h8⟩ := ba h
  exact ⟨h1, eqO_ok h2, eqO_ok h3, of_decide_eq_true h4, eqO_ok h5, eqO_ok h6, of_decide_eq_true h7, of_decide_eq_true h8⟩
/-- a def without defaults -/
theorem fun_of {K : PySem.W.Frag} {x qual : Str} {st : Stmt} {f : Addr} {fd : FuncData} (F : FunD K x qual (defArgs st) (defBody st) (defScope st) [] [] f fd) : Fun K x qual st f fd := by
  obtain ⟨oc, od, dV, kV, doc, pm, an, cdv, ct, osl, rfl, lk, hcd, hD, hK⟩ := F.ex
  rcases hD with ⟨_, rfl⟩ | ⟨e, _⟩
  · exact ⟨⟨oc, od, kV, doc, pm, an, cdv, ct, osl, rfl, lk, hcd⟩, F.kp⟩
  · exact absurd rfl e
/-! ## The end of a law whose defs are promised where no repr is under way -/
theorem walk_GE {l : PySem.W.OpenLaw} {n k : Nat} {q : Program} {loose : List Str} {XP : (Str → Option Value) → Heap → Prop} {YP : World → Heap → Prop} {d : DefRec} {x : Str}
    (hn : l.most = some n) (hn2 : n ≤ sizeLine) (hdf : d.params.defaults = []) (hr : Room k callerA)
    (F : ∀ (w : World) (mg : Str → Option Value) (fa : Addr) (h : Heap), YP w h → h.Ns mainGlobals mg → mg d.name = some (.ref fa) →
      ∃ (K : PySem.W.Frag) (fd : FuncData) (sp : Sp), K.In h ∧ (∀ (s : Shared) (u : Value), BindsTo s fd ⟨[u], []⟩ [(x, u)]) ∧
        (∀ (H : Hp) (a : Addr) (ns : List Int), ns.length ≤ n → SqL K H a (ns.map V.int) → sp [.ref a] H (fun v _ => v = .bl true) fun _ _ _ => False) ∧
        ∀ base : Heap, K.In base → base.Ns mainGlobals mg → FnG l.prog w K mg base k fa fd [x] sp) :
    PySem.W.WalkO q loose XP YP l.row.toRowW d [] (fun f vs => PySem.call f vs) := by
  refine Att.attach_call hn hdf fun w _ s mg mb fa _ _ _ _ a vs ns G Y _ _ _ hmg hobj hints hlen hg => ?_
  obtain ⟨K, fd, sp, KX, hb, hsp, hF⟩ := F w mg fa _ Y G.T.g hmg
  exact law_callG KX G.T.g G.T.b G.T.builtins G.T.nolimit hg hobj hints (Nat.le_trans hlen hn2) hr hF hb fun H hS => hsp H a ns hlen hS
end Lc
namespace Lc
theorem all_at {l : List Bool} (h : l.all id = true) (i : Nat) {b : Bool} (e : l[i]? = some b := by rfl) : b = true := List.all_eq_true.mp h b (List.mem_of_getElem? e)
end Lc
set_option Elab.async false
set_option linter.all false
set_option maxRecDepth 100000
set_option maxHeartbeats 4000000
namespace Lc
open PySem PySem.Spec PyProof.Rows L2 He
/-! ## The head's facts, with dicts of the module that have text keys -/
abbrev AlF : Type := AlE × List (Option (List (Option (Str × Int))))
def obsF (n : Nat) (fa : List Fa) (fn : List DefD) (ex : PySem.W.Frag → Bool) (ts : List Tab) (g : Addr → Option Obj) : AlF := (obsE n fa fn ex g, ts.map fun t => dicW (frG g (asD g n)) (t.1 (frG g (asD g n))))
def TabsOk (ts : List Tab) (w : World) (K : PySem.W.Frag) : Prop := ∀ (i : Nat) (t : Tab), ts[i]? = some t → ∃ es n, KDict K w (t.1 K) es n
theorem tabs_of {ts : List Tab} {w : World} {K : PySem.W.Frag} (e : ts.map (fun t => dicW K (t.1 K)) = ts.map fun t => some (keysIn w.params t.2)) : TabsOk ts w K := by
  intro i t h
  have e2 : (ts.map fun t => dicW K (t.1 K))[i]? = (ts.map fun t => some (keysIn w.params t.2))[i]? := congrArg (fun l => l[i]?) e
  rw [List.getElem?_map, h, List.getElem?_map, h] at e2
  exact dicW_ok (Option.some.inj e2)
def hookF (n : Nat) (fa : List Fa) (fn : List DefD) (ex : PySem.W.Frag → Bool) (ts : List Tab) : PySem.W.Hook where
  α := AlF
  obs := fun s => obsF n fa fn ex ts s.heap.get?
  val := fun w => ((valD fn, true), ts.map fun t : Tab => some (keysIn w.params t.2))
  says := fun w h => ∃ K : PySem.W.Frag, K.In h ∧ SaysD fa fn K ∧ ex K = true ∧ TabsOk ts w K
  of := fun _ _ e => ⟨_, frG_in, congrArg (fun z : AlF => z.1.1) e, congrArg (fun z : AlF => z.1.2) e, tabs_of (show _ = _ from congrArg (fun z : AlF => z.2) e)⟩
  keeps := fun _ _ _ ⟨K, hK, c⟩ k => ⟨K, PySem.W.Frag.In.keeps hK k, c⟩
theorem obsF_eq {n : Nat} {fa : List Fa} {fn : List DefD} {ex : PySem.W.Frag → Bool} {ts : List Tab} {g : Addr → Option Obj} {s : Shared} (h : ∀ a, g a = s.heap.get? a) : obsF n fa fn ex ts g = (hookF n fa fn ex ts).obs s := by
  have e : g = s.heap.get? := funext h
  rw [e] <;> rfl
/-! ## what stands in such a dict -/
def atD (K : PySem.W.Frag) (d : Addr) (x : Str) : Addr := match PySem.W.nsIn K d x with
  | some (some (.ref a)) => a
  | _ => 0
def tupA (K : PySem.W.Frag) (a : Addr) (vs : List Dv) : Bool := match K.lookup a with
  | some ⟨.type c, _, .seq its _, _⟩ => decide (c = "tuple") && (decide (its.size ≤ sizeLine) && relAll (vs.map (Dv.v K)) its.toList)
  | _ => false
theorem tupA_ok {K : PySem.W.Frag} {a : Addr} {vs : List Dv} (h : tupA K a vs = true) (H : Hp) : SqT K H a (vs.map (Dv.v K)) := by
  unfold tupA at h
  split at h
  · rename_i c od its n osl q
    obtain ⟨h1, h2⟩ := ba h
    obtain ⟨h3, h4⟩ := ba h2
    exact .inr ⟨_, its, n, q, congrArg Value.type (of_decide_eq_true h1), rfl, of_decide_eq_true h3, relAll_ok h4⟩
  · cases h
/-- at the key x a tuple of these -/
def dtB (K : PySem.W.Frag) (d : Addr) (x : Str) (vs : List Dv) : Bool := eqO (PySem.W.nsIn K d x) (some (some (.ref (atD K d x)))) && tupA K (atD K d x) vs
theorem kdct_of {K : PySem.W.Frag} {w : World} {d a : Addr} {x : Str} (D : ∃ es n, KDict K w d es n) (h : PySem.W.nsIn K d x = some (some (.ref a))) : KDct K w d x (.ref a) := by
  obtain ⟨es, n, D⟩ := D
  exact ⟨es, n, _, D.at_, D.lit, h, rfl⟩
theorem dt_ok {K : PySem.W.Frag} {w : World} {d : Addr} {x : Str} {vs : List Dv} (D : ∃ es n, KDict K w d es n) (h : dtB K d x vs = true) : ∃ a, KDct K w d x (.ref a) ∧ PySem.W.nsIn K d x = some (some (.ref a)) ∧ ∀ H, SqT K H a (vs.map (Dv.v K)) := by
  obtain ⟨h1, h2⟩ := ba h
  exact ⟨_, kdct_of D (eqO_ok h1), eqO_ok h1, fun H => tupA_ok h2 H⟩
/-- at the key x the def y -/
def dfB (K : PySem.W.Frag) (d : Addr) (x y : Str) : Bool := eqO (PySem.W.nsIn K d x) (some (some (.ref (ga K y))))
def dnB (K : PySem.W.Frag) (d : Addr) (x : Str) : Bool := eqO (PySem.W.nsIn K d x) (some none)
end Lc
set_option Elab.async false
set_option linter.all false
set_option maxRecDepth 100000
set_option maxHeartbeats 4000000
namespace Lc
open PySem PySem.Spec PyProof.Rows L2 He
/-! ## The head's facts from a few globals alone: what is reached from the named ones, but not through the globals' own dict -/
def growN (g : Addr → Option Obj) (as : List Addr) : List Addr := ((as ++ as.flatMap fun a => match g a with
  | some o => refsD o
  | none => []).filter fun a => !Nat.beq a mainGlobals).eraseDups
def asN (names : List Str) (g : Addr → Option Obj) : Nat → List Addr
  | 0 => (names.map fun x => ga (frG g [mainGlobals]) x).eraseDups
  | n + 1 => growN g (asN names g n)
def asM (sm : Bool) (names : List Str) (g : Addr → Option Obj) (n : Nat) : List Addr := mainGlobals :: (if sm = true then [sysModules] else []) ++ asN names g n
def obsK (fa : List Fa) (fn : List DefD) (ex : PySem.W.Frag → Bool) (ts : List Tab) (K : PySem.W.Frag) : AlF := ((obsD fa fn K, ex K), ts.map fun t => dicW K (t.1 K))
def obsN (sm : Bool) (names : List Str) (n : Nat) (fa : List Fa) (fn : List DefD) (ex : PySem.W.Frag → Bool) (ts : List Tab) (g : Addr → Option Obj) : AlF := obsK fa fn ex ts (frG g (asM sm names g n))
def hookN (sm : Bool) (names : List Str) (n : Nat) (fa : List Fa) (fn : List DefD) (ex : PySem.W.Frag → Bool) (ts : List Tab) : PySem.W.Hook where
  α := AlF
  obs := fun s => obsN sm names n fa fn ex ts s.heap.get?
  val := fun w => ((valD fn, true), ts.map fun t : Tab => some (keysIn w.params t.2))
  says := fun w h => ∃ K : PySem.W.Frag, K.In h ∧ SaysD fa fn K ∧ ex K = true ∧ TabsOk ts w K
  of := fun _ _ e => ⟨_, frG_in, congrArg (fun z : AlF => z.1.1) e, congrArg (fun z : AlF => z.1.2) e, tabs_of (show _ = _ from congrArg (fun z : AlF => z.2) e)⟩
  keeps := fun _ _ _ ⟨K, hK, c⟩ k => ⟨K, PySem.W.Frag.In.keeps hK k, c⟩
theorem obsN_eq {sm : Bool} {names : List Str} {n : Nat} {fa : List Fa} {fn : List DefD} {ex : PySem.W.Frag → Bool} {ts : List Tab} {g : Addr → Option Obj} {s : Shared} (h : ∀ a, g a = s.heap.get? a) : obsN sm names n fa fn ex ts g = (hookN sm names n fa fn ex ts).obs s := by
  have e : g = s.heap.get? := funext h
  rw [e] <;> rfl
theorem smN_of {K : PySem.W.Frag} (h : (K.lookup sysModules).isSome = true) : ∃ o, K.lookup sysModules = some o := Option.isSome_iff_exists.mp h
end Lc
set_option Elab.async false
set_option linter.all false
set_option maxRecDepth 100000
set_option maxHeartbeats 4000000
namespace Lc
open PySem PySem.Spec PyProof.Rows L2 He
/-! ## The head's facts from a written list of addresses -/
def obsA (as : List Addr) (fa : List Fa) (fn : List DefD) (ex : PySem.W.Frag → Bool) (ts : List Tab) (g : Addr → Option Obj) : AlF := obsK fa fn ex ts (frG g (mainGlobals :: as))
def hookA (as : List Addr) (fa : List Fa) (fn : List DefD) (ex : PySem.W.Frag → Bool) (ts : List Tab) : PySem.W.Hook where
  α := AlF
  obs := fun s => obsA as fa fn ex ts s.heap.get?
  val := fun w => ((valD fn, true), ts.map fun t : Tab => some (keysIn w.params t.2))
  says := fun w h => ∃ K : PySem.W.Frag, K.In h ∧ SaysD fa fn K ∧ ex K = true ∧ TabsOk ts w K
  of := fun _ _ e => ⟨_, frG_in, congrArg (fun z : AlF => z.1.1) e, congrArg (fun z : AlF => z.1.2) e, tabs_of (show _ = _ from congrArg (fun z : AlF => z.2) e)⟩
  keeps := fun _ _ _ ⟨K, hK, c⟩ k => ⟨K, PySem.W.Frag.In.keeps hK k, c⟩
theorem obsA_eq {as : List Addr} {fa : List Fa} {fn : List DefD} {ex : PySem.W.Frag → Bool} {ts : List Tab} {g : Addr → Option Obj} {s : Shared} (h : ∀ a, g a = s.heap.get? a) : obsA as fa fn ex ts g = (hookA as fa fn ex ts).obs s := by
  have e : g = s.heap.get? := funext h
  rw [e] <;> rfl
/-! ## the run, in parts -/
theorem opt_pair {α β γ : Type} {o : Option α} {f : α → β} {g : α → γ} {x : β} {y : γ} (h1 : o.map f = some x) (h2 : o.map g = some y) : o.map (fun s => (f s, g s)) = some (x, y) := by
  cases o with
  | none => cases h1
  | some s =>
    rw [Option.map_some, Option.some.injEq] at h1 h2
    rw [Option.map_some, h1, h2]
theorem opt_and {α : Type} {o : Option α} {f g : α → Bool} (h1 : o.map f = some true) (h2 : o.map g = some true) : o.map (fun s => f s && g s) = some true := by
  cases o with
  | none => cases h1
  | some s =>
    rw [Option.map_some, Option.some.injEq] at h1 h2
    rw [Option.map_some, h1, h2]
    rfl
theorem opt_run {α A B C D E : Type} {o : Option α} {f : α → A} {g : α → B} {h : α → (C × D) × E} {x : A} {y : B} {z : (C × D) × E} (hf : o.map f = some x) (hg : o.map (fun s => (g s, (h s).2)) = some (y, z.2))
    (ha : o.map (fun s => (h s).1.1) = some z.1.1) (he : o.map (fun s => (h s).1.2) = some z.1.2) : o.map (fun s => (f s, g s, h s)) = some (x, y, z) := by
  cases o with
  | none => cases hf
  | some s =>
    rw [Option.map_some, Option.some.injEq] at hf hg ha he
    rw [Prod.mk.injEq] at hg
    rw [Option.map_some, hf, hg.1]
    obtain ⟨⟨z1, z2⟩, z3⟩ := z
    have e1 : (h s).1.1 = z1 := ha
    have e2 : (h s).1.2 = z2 := he
    have e3 : (h s).2 = z3 := hg.2
    rw [← e1, ← e2, ← e3]
end Lc
set_option Elab.async false
set_option linter.all false
set_option maxRecDepth 100000
set_option maxHeartbeats 4000000
namespace Lc
open PySem PySem.Spec PyProof.Rows L2 He LamX
/-! ## The head of a law that makes lambdas: the empty tables of code objects are left out -/
def noTab (o : Obj) : Bool := match o.data with
  | .fields vs => decide (0 < vs.size)
  | _ => true
def asT (g : Addr → Option Obj) (n : Nat) : List Addr := (asD g n).filter fun a => match g a with
  | some o => noTab o
  | none => true
def obsT (n : Nat) (fa : List Fa) (fn : List DefD) (ex : PySem.W.Frag → Bool) (g : Addr → Option Obj) : AlE := (obsD fa fn (frG g (asT g n)), ex (frG g (asT g n)))
def hookT (n : Nat) (fa : List Fa) (fn : List DefD) (ex : PySem.W.Frag → Bool) : PySem.W.Hook where
  α := AlE
  obs := fun s => obsT n fa fn ex s.heap.get?
  val := fun _ => (valD fn, true)
  says := fun _ h => ∃ K : PySem.W.Frag, K.In h ∧ SaysD fa fn K ∧ ex K = true
  of := fun _ _ e => ⟨_, frG_in, congrArg (fun z : AlE => z.1) e, congrArg (fun z : AlE => z.2) e⟩
  keeps := fun _ _ _ ⟨K, hK, c⟩ k => ⟨K, PySem.W.Frag.In.keeps hK k, c⟩
theorem obsT_eq {n : Nat} {fa : List Fa} {fn : List DefD} {ex : PySem.W.Frag → Bool} {g : Addr → Option Obj} {s : Shared} (h : ∀ a, g a = s.heap.get? a) : obsT n fa fn ex g = (hookT n fa fn ex).obs s := by
  have e : g = s.heap.get? := funext h
  rw [e] <;> rfl
theorem look_mem {α β : Type} [BEq α] [LawfulBEq α] {p : α} {o : β} : ∀ {K : List (α × β)}, K.lookup p = some o → (p, o) ∈ K
  | [], e => nomatch e
  | (b, u) :: r, e => by
    rw [List.lookup_cons] at e
    by_cases z : p = b
    · subst z
      rw [beq_self_eq_true] at e
      cases e
      exact List.mem_cons_self
    · rw [show (p == b) = false by simpa using z] at e
      exact List.mem_cons_of_mem _ (look_mem e)
def tabB (K : PySem.W.Frag) : Bool := K.all fun p => noTab p.2
def EmptyTab (h : Heap) (p : Addr) : Prop := h.get? p = some { cls := .none, data := .fields #[] }
theorem tabB_ok {K : PySem.W.Frag} (h : tabB K = true) {hp : Heap} {p : Addr} (X : K.In hp) (e : EmptyTab hp p) : K.lookup p = none := by
  cases q : K.lookup p with
  | none => rfl
  | some o =>
    have z : hp.get? p = some { cls := .none, data := .fields #[] } := e
    rw [X p o q] at z
    have m := List.all_eq_true.mp h _ (look_mem q)
    rw [Option.some.inj z] at m
    exact nomatch (show decide (0 < (#[] : Array Value).size) = true from m)
/-! ## The law is called -/
section
variable {P : Program} {w : World} {K : PySem.W.Frag} {mg mb : Str → Option Value} {k : Nat} {fa a c p : Addr} {fd : FuncData} {x : Str} {sp : Sp} {s : Shared} {vs : List Value} {ns : List Int}
/-- what may stand in the abstract heap: the script and the table -/
structure Only (K : PySem.W.Frag) (a p : Addr) (H : Hp) : Prop where
  tab : H p = some (.tbl #[])
  oth : ∀ b, b ≠ a → b ≠ p → H b = none
  frz : ∀ o, H a = some o → K.lookup a = none ∧ ∃ ob xs, o = .frz ob (.lst xs)
theorem call_ofT {H : Hp} (KX : K.In s.heap) (hns : s.heap.Ns mainGlobals mg) (hb : s.heap.Ns builtinsNs mb) (hbb : ∀ x : Str, x ≠ "__name__" → mb x = bootBuiltins x) (hlim : s.heap.NoLimit) (hg : s.gens = #[])
    (ha : s.heap.get? a = some { cls := .type "list", data := .seq vs.toArray }) (ht : EmptyTab s.heap p) (np : K.lookup p = none) (C : PySem.W.CodeHd s.heap c p)
    (hbm : ∃ (bm : Addr) (ob : Obj), mg "__builtins__" = some (.ref bm) ∧ bm ≠ builtinsNs ∧ s.heap.get? bm = some ob ∧ ob.cls = .type "module" ∧ ob.dict = some builtinsNs ∧ ob.data = .plain)
    (hok : HOk P w H s.heap) (O : Only K a p H) : K.In (hidT s.heap H) ∧ (hidT s.heap H).Ns mainGlobals mg ∧ Env0 P w K mg (hidT s.heap H) callerA [] s H ∧ TabB (hidT s.heap H) mg c p := by
  -- what is neither the script nor the table is seen
  have see : ∀ {b : Addr} {o : Obj}, s.heap.get? b = some o → o.data ≠ .seq vs.toArray → o.data ≠ .fields #[] → (hidT s.heap H).get? b = some o := fun {b o} e n1 n2 => by
    refine hidT_get e (O.oth b (fun z => ?_) fun z => ?_)
    · rw [z, ha] at e
      cases e
      exact n1 rfl
    · rw [z, show s.heap.get? p = _ from ht] at e
      cases e
      exact n2 rfl
  have ns_ : ∀ {b : Addr} {m : Str → Option Value}, s.heap.Ns b m → (hidT s.heap H).Ns b m := by
    rintro b m ⟨o, es, ep, e, d, r⟩
    exact ⟨o, es, ep, see e (by rw [d]; nofun) (by rw [d]; nofun), d, r⟩
  have kin : K.In (hidT s.heap H) := fun b o e => hidT_get (KX b o e) (by
    by_cases zp : b = p
    · rw [zp, np] at e
      cases e
    · by_cases za : b = a
      · cases q : H b with
        | none => rfl
        | some u =>
          rw [za] at q e
          rw [(O.frz u q).1] at e
          cases e
      · exact O.oth b za zp)
  obtain ⟨mc, l1, l2⟩ := hlim
  refine ⟨kin, ns_ hns, ⟨rfl, ⟨kin, ns_ hns, ⟨mb, ns_ hb, hbb⟩, ⟨mc, ns_ l1, l2⟩⟩, fun b o e => of_hidT e, Nat.le_of_eq (hidT_size _ _), trivial, fun b z => absurd (show b ∈ ([] : List Addr) from z) (by simp), hok, .of_eq hg⟩, ?_, ?_, ?_⟩
  · obtain ⟨o, us, file, tf, flags, tg, inF, text, tt, e1, r1, r2, r3, rest⟩ := C
    refine ⟨o, us, file, tf, flags, tg, inF, text, tt, see e1 (by rw [r2]; nofun) (fun z => ?_), r1, r2, r3, rest⟩
    rw [r2] at z
    have z' : us = #[] := by injection z
    rw [z'] at r3
    exact nomatch r3
  · obtain ⟨bm, ob, b1, b2, b3, b4, b5, b6⟩ := hbm
    refine ⟨bm, ob, b1, b2, fun z => ?_, fun z => ?_, see b3 (by rw [b6]; nofun) (by rw [b6]; nofun), b4, b5, b6⟩
    · obtain ⟨o, es, ep, e, d, _⟩ := hns
      rw [← z, b3] at e
      cases e
      rw [b6] at d
      cases d
    · rw [z, show s.heap.get? p = _ from ht] at b3
      cases b3
      cases b6
  · intro z
    obtain ⟨o, es, ep, e, d, _⟩ := hns
    rw [z, show s.heap.get? p = _ from ht] at e
    cases e
    cases d
theorem law_callT (KX : K.In s.heap) (hns : s.heap.Ns mainGlobals mg) (hb : s.heap.Ns builtinsNs mb) (hbb : ∀ x : Str, x ≠ "__name__" → mb x = bootBuiltins x) (hlim : s.heap.NoLimit) (hg : s.gens = #[])
    (ha : s.heap.get? a = some { cls := .type "list", data := .seq vs.toArray }) (ht : EmptyTab s.heap p) (np : K.lookup p = none) (C : PySem.W.CodeHd s.heap c p) (TA : s.heap.TableAt c p #[])
    (hbm : ∃ (bm : Addr) (ob : Obj), mg "__builtins__" = some (.ref bm) ∧ bm ≠ builtinsNs ∧ s.heap.get? bm = some ob ∧ ob.cls = .type "module" ∧ ob.dict = some builtinsNs ∧ ob.data = .plain)
    (hi : IntsAre vs ns) (hl : ns.length ≤ sizeLine) (hr : Room k callerA)
    (F : ∀ base : Heap, K.In base → base.Ns mainGlobals mg → TabB base mg c p → FnG P w K mg base k fa fd [x] sp) (hbind : ∀ (s : Shared) (u : Value), BindsTo s fd ⟨[u], []⟩ [(x, u)])
    (hsp : ∀ H : Hp, H p = some (.tbl #[]) → SqL K H a (ns.map V.int) → sp [.ref a] H (fun v _ => v = .bl true) fun _ _ _ => False) :
    codeAny (model P w) callerA (.call (.ref fa) ⟨[.ref a], []⟩) (fun r s' => r = .ok (.ret (.bool true)) ∧ OldK s.heap s'.heap ∧ s'.os = s.os ∧ AllBare s'.gens) s := by
  have rv := vals_ints hi
  have pa : p ≠ a := fun z => by
    have e : s.heap.get? p = some { cls := .none, data := .fields #[] } := ht
    rw [z, ha] at e
    cases e
  have go : ∀ H : Hp, SqL K H a (ns.map V.int) → HOk P w H s.heap → Only K a p H →
      codeAny (model P w) callerA (.call (.ref fa) ⟨[.ref a], []⟩) (fun r s' => r = .ok (.ret (.bool true)) ∧ OldK s.heap s'.heap ∧ s'.os = s.os ∧ AllBare s'.gens) s := by
    intro H hS hok O
    obtain ⟨k1, k2, e0, tb⟩ := call_ofT KX hns hb hbb hlim hg ha ht np C hbm hok O
    refine codeAny_mono ((F _ k1 k2 tb).run callerA [] s H ⟨[.ref a], []⟩ [.ref a] [.ref a] _ _ rfl hr e0 (hbind s (.ref a)) (.cons rfl .nil) (hsp H O.tab hS)) fun r s' h => ?_
    cases r with
    | error _ => exact False.elim h
    | ok fl =>
      cases fl with
      | next => exact False.elim h
      | brk => exact False.elim h
      | cont => exact False.elim h
      | ret u =>
        obtain ⟨v, H', os, bare, un, hok', ru, ev⟩ := h
        subst ev
        obtain rfl : u = Value.bool true := ru
        obtain ⟨more, zt⟩ := un.tbls p #[] O.tab
        have now := hok' p _ zt
        have kept : ∀ b o, b ≠ p → s.heap.get? b = some o → s'.heap.get? b = some o := fun b o nb e => by
          cases q : H b with
          | none => exact un.keep b o e q (fun z => absurd (show b ∈ ([] : List Addr) from z) (by simp)) (by simp)
          | some oo =>
            have zb : b = a := Classical.byContradiction fun z => by rw [O.oth b z nb] at q; cases q
            subst zb
            obtain ⟨_, ob, xs, rfl⟩ := O.frz oo q
            obtain ⟨e1, _⟩ := hok b _ q
            obtain ⟨e2, _⟩ := hok' b _ (un.frzs b ob _ q)
            rw [e] at e1
            cases e1
            exact e2
        refine ⟨rfl, ⟨fun b o e => ?_, fun b o e => ?_⟩, os, bare⟩
        · by_cases zb : b = p
          · subst zb
            rw [show s.heap.get? b = _ from ht] at e
            cases e
            exact .inr (.inl ⟨TA.isCodeTable, rfl, #[], more, rfl, by rw [Array.empty_append] at now ⊢; exact now⟩)
          · exact .inl (kept b o zb e)
        · by_cases zb : b = p
          · exact ⟨_, by rw [zb]; exact now⟩
          · exact ⟨o, kept b o zb e⟩
  cases hk : K.lookup a with
  | some o =>
    have e := KX a o hk
    rw [ha] at e
    cases e
    refine go (upd (fun _ => none) p (.tbl #[])) (.inr ⟨_, vs.toArray, _, hk, rfl, rfl, rfl, by rw [List.size_toArray, hi.length]; exact hl, by simpa using rv⟩) (fun b u z => ?_) ⟨upd_same, fun b _ n => upd_ne n, fun o z => ?_⟩
    · by_cases q : b = p
      · subst q
        rw [upd_same] at z
        cases z
        exact ht
      · rw [upd_ne q] at z
        cases z
    · rw [upd_ne pa.symm] at z
      cases z
  | none =>
    let ob : Obj := { cls := .type "list", data := .seq vs.toArray }
    refine go (upd (upd (fun _ => none) p (.tbl #[])) a (.frz ob (.lst (ns.map V.int)))) (.inl (.inr ⟨ob, upd_same⟩)) (fun b u z => ?_) ⟨by rw [upd_ne pa, upd_same], fun b n1 n2 => by rw [upd_ne n1, upd_ne n2], fun o z => ?_⟩
    · by_cases q : b = a
      · subst q
        rw [upd_same] at z
        cases z
        exact ⟨ha, by rw [List.length_map]; exact hl, vs, _, rv, ha⟩
      · rw [upd_ne q] at z
        by_cases q2 : b = p
        · subst q2
          rw [upd_same] at z
          cases z
          exact ht
        · rw [upd_ne q2] at z
          cases z
    · rw [upd_same] at z
      cases z
      exact ⟨hk, ob, _, rfl⟩
end
/-- the end of a law that makes lambdas; p: its table -/
theorem walk_TE {l : PySem.W.OpenLaw} {n k : Nat} {q : Program} {loose : List Str} {XP : (Str → Option Value) → Heap → Prop} {YP : World → Heap → Prop} {d : DefRec} {x : Str}
    (hn : l.most = some n) (hn2 : n ≤ sizeLine) (hdf : d.params.defaults = []) (hr : Room k callerA) (hrec : ((recsOf q).any fun e => e.name == d.name) = true)
    (F : ∀ (w : World) (mg : Str → Option Value) (fa : Addr) (h : Heap), YP w h → h.Ns mainGlobals mg → mg d.name = some (.ref fa) →
      ∃ (K : PySem.W.Frag) (fd : FuncData) (c : Addr) (sp : Addr → Sp), K.In h ∧ tabB K = true ∧ (∃ o, K.lookup fa = some o ∧ o.data = .func fd ∧ fd.code = .ref c) ∧ (∀ (s : Shared) (u : Value), BindsTo s fd ⟨[u], []⟩ [(x, u)]) ∧
        (∀ (p : Addr) (H : Hp) (a : Addr) (ns : List Int), ns.length ≤ n → H p = some (.tbl #[]) → SqL K H a (ns.map V.int) → sp p [.ref a] H (fun v _ => v = .bl true) fun _ _ _ => False) ∧
        ∀ (p : Addr) (base : Heap), K.In base → base.Ns mainGlobals mg → TabB base mg c p → FnG l.prog w K mg base k fa fd [x] (sp p)) :
    PySem.W.WalkO q loose XP YP l.row.toRowW d [] (fun f vs => PySem.call f vs) := by
  refine Att.attach_call hn hdf fun w _ s mg mb fa _ _ _ _ a vs ns G Y _ _ _ hmg hobj hints hlen hg => ?_
  obtain ⟨K, fd, c, sp, KX, tb, ⟨o, lo, od, oc⟩, hb, hsp, hF⟩ := F w mg fa _ Y G.T.g hmg
  obtain ⟨dL, hm, hn1⟩ := List.any_eq_true.mp hrec
  obtain ⟨a', o', fd', c', p, h1, h2, h3, h4, h5, h6⟩ := G.T.tab dL hm
  rw [beq_iff_eq.mp hn1, hmg] at h1
  cases h1
  rw [KX _ _ lo] at h2
  cases h2
  rw [od] at h3
  cases h3
  rw [oc] at h4
  cases h4
  have ht : EmptyTab s.heap p := h6.2
  exact law_callT KX G.T.g G.T.b G.T.builtins G.T.nolimit hg hobj ht (tabB_ok tb KX ht) (PySem.W.CodeHd.of h5 h6) h6 G.T.bmain hints (Nat.le_trans hlen hn2) hr (hF p) hb fun H h1 h2 => hsp p H a ns hlen h1 h2
/-! ## A def whose code object is known -/
section
variable {P : Program} {w : World} {K : PySem.W.Frag} {mg : Str → Option Value} {base : Heap}
theorem Fun.okGc {x qual : Str} {st : Stmt} {f c : Addr} {fd : FuncData} {N ps : List Str} {k : Nat} {sp : Sp} (F : Fun K x qual st f fd) (hc : fd.code = .ref c) (S : FnScope N ps (defScope st)) (len : ∀ vs H Q E, sp vs H Q E → vs.length = ps.length)
    (go : ∀ (A : Around) (outer : List Env) (s : Shared) (H : Hp) (vs : List V) (Q : VK) (E : XK), A.guards = some [] → Room k (A.deeper (envOfC qual (defScope st) s.heap.objs.size f (.ref c))) → sp vs H Q E →
      ∃ t, PSs (cxOf CX0 P w K mg base N qual (defScope st) f (.ref c) A outer s H E).nox (defBody st) t ∧ t { nx := fun _ H' => Q .non H', rt := Q } (start N vs) H) : FnG P w K mg base (k + 1) f fd ps sp := by
  obtain ⟨oc, od, kV, doc, pm, an, cdv, ct, osl, rfl, lk, hcd⟩ := F.ex
  obtain rfl : cdv = .ref c := hc
  refine ⟨len, fun A outer s H args us vs Q E hg hr e0 hb r hsp => ?_⟩
  have up : ∀ b o, base.get? b = some o → s.heap.get? b = some o := fun b o z => (e0.bs b o z).1
  have KX := e0.mod.kin.keeps up
  refine codeAny_call_function hr.depth (KX _ _ lk) rfl S.co S.gen rfl (PySem.W.codeRec_of KX hcd) (hb _ _ _ _ ?_)
  refine wpAny_newFunctionEnv_cells S.kind (fun y hy => ?_) fun env he s1 x => ?_
  · rcases S.par y.1 (List.of_mem_zip (a := y.1) (b := y.2) hy).1 with z | z
    · exact .inl z
    · exact .inr ⟨z, PySem.W.cellsFrom_some _ _ _ (.inl z)⟩
  subst he
  obtain ⟨t, ht, hq⟩ := go A outer s H vs Q E hg (hr.deeper _) hsp
  have I : Inv (cxOf CX0 P w K mg base N qual (defScope st) f (.ref c) A outer s H E) [] (start N vs) H s1 := inv_start S hr.hd e0 (len _ _ _ _ hsp) r x
  refine ⟨(e0.mod.nolimit.keeps up).keeps x.toInCall.keep, codeAny_func (wpAny_mono (ht.nox.run [] s1 (start N vs) H _ I hq) (fun fl s' hs => ?_) fun _ _ z => z)⟩
  cases fl with
  | ret u => obtain ⟨v, _, H', J, rv, q⟩ := hs; exact ⟨v, H', J.os, J.bare, J.base, J.hok, rv, q⟩
  | next => obtain ⟨_, H', J, q⟩ := hs; exact ⟨V.non, H', J.os, J.bare, J.base, J.hok, rfl, q⟩
  | brk => obtain ⟨_, _, _, q⟩ := hs; exact q.elim
  | cont => obtain ⟨_, _, _, q⟩ := hs; exact q.elim
end
/-! ## What stays: all but the tape and the tables -/
def Stp (t : Addr) (H H' : Hp) : Prop := ∀ b o, b ≠ t → (∀ ps, o ≠ .tbl ps) → H b = some o → H' b = some o
theorem Stp.refl (t : Addr) (H : Hp) : Stp t H H := fun _ _ _ _ e => e
theorem Stp.trans {t : Addr} {H H1 H2 : Hp} (a : Stp t H H1) (b : Stp t H1 H2) : Stp t H H2 := fun c o n m e => b c o n m (a c o n m e)
theorem Stp.of {t : Addr} {H H' : Hp} (s : Same H H') : Stp t H H' := fun b o _ _ e => s b o e
theorem Stp.b {t : Addr} {H H' : Hp} (s : SameB t H H') : Stp t H H' := fun b o n _ e => s b o n e
theorem Stp.n {t : Addr} {H H' : Hp} (s : ExtN H H') : Stp t H H' := fun b o _ m e => s b o e m
/-- the tape and the tables stand -/
structure Stands (T : List (Addr × Str)) (t : Addr) (H : Hp) : Prop where
  tp : Tape H t
  tb : Tabs T H
theorem Stands.same {T : List (Addr × Str)} {t : Addr} {H H' : Hp} (J : Stands T t H) (s : Same H H') : Stands T t H' := ⟨J.tp.same s, J.tb.ext s⟩
theorem Stands.b {T : List (Addr × Str)} {t : Addr} {H H' : Hp} (J : Stands T t H) (s : SameB t H H') (z : Tape H' t) : Stands T t H' := by
  refine ⟨z, fun p hp => ?_⟩
  obtain ⟨l, _, _, _, _, ht, _⟩ := J.tp
  obtain ⟨ps, h1, h2, h3⟩ := J.tb p hp
  have ne : ∀ {b : Addr} {o : HO}, H b = some o → (∀ xs, o ≠ .lst xs) → b ≠ t := fun {b o} e n z => by
    rw [z, ht] at e
    exact n _ (Option.some.inj e).symm
  refine ⟨ps, s _ _ (ne h1 nofun) h1, h2, fun pos cv hc => ?_⟩
  obtain ⟨c, e1, e2⟩ := h3 pos cv hc
  exact ⟨c, e1, s _ _ (ne e2 fun xs z => by unfold CodeO at z; cases z) e2⟩
theorem Stands.n {T : List (Addr × Str)} {t : Addr} {H H' : Hp} (J : Stands T t H) (s : ExtN H H') (z : Tabs T H') : Stands T t H' := by
  obtain ⟨l, ns, p, r, m, h1, h2, h3⟩ := J.tp
  exact ⟨⟨l, ns, p, r, m, s _ _ h1 nofun, s _ _ h2 nofun, h3⟩, z⟩
theorem code_of {K : PySem.W.Frag} {x qual : Str} {params : Arguments} {body : List Stmt} {scope : Scope} {dvs : List V} {kws : List (Str × V)} {f : Addr} {fd : FuncData} (F : FunD K x qual params body scope dvs kws f fd) : ∃ c, ∃ o, K.lookup f = some o ∧ o.data = .func fd ∧ fd.code = .ref c := by
  obtain ⟨oc, od, dV, kV, doc, pm, an, cdv, ct, osl, rfl, lk, hcd, _, _⟩ := F.ex
  cases cdv with
  | ref c => exact ⟨c, _, lk, rfl, rfl⟩
  | _ => cases hcd
end Lc
set_option Elab.async false
set_option linter.all false
set_option maxRecDepth 100000
set_option maxHeartbeats 4000000
namespace Lc
open PySem PySem.Spec PyProof.Rows L2 He LamX
/-! ## The head's facts from a few globals alone, the empty tables of code objects left out -/
def asU (sm : Bool) (names : List Str) (g : Addr → Option Obj) (n : Nat) : List Addr := (asM sm names g n).filter fun a => match g a with
  | some o => noTab o
  | none => true
def obsU (sm : Bool) (names : List Str) (n : Nat) (fa : List Fa) (fn : List DefD) (ex : PySem.W.Frag → Bool) (ts : List Tab) (g : Addr → Option Obj) : AlF := obsK fa fn ex ts (frG g (asU sm names g n))
def hookU (sm : Bool) (names : List Str) (n : Nat) (fa : List Fa) (fn : List DefD) (ex : PySem.W.Frag → Bool) (ts : List Tab) : PySem.W.Hook where
  α := AlF
  obs := fun s => obsU sm names n fa fn ex ts s.heap.get?
  val := fun w => ((valD fn, true), ts.map fun t : Tab => some (keysIn w.params t.2))
  says := fun w h => ∃ K : PySem.W.Frag, K.In h ∧ SaysD fa fn K ∧ ex K = true ∧ TabsOk ts w K
  of := fun _ _ e => ⟨_, frG_in, congrArg (fun z : AlF => z.1.1) e, congrArg (fun z : AlF => z.1.2) e, tabs_of (show _ = _ from congrArg (fun z : AlF => z.2) e)⟩
  keeps := fun _ _ _ ⟨K, hK, c⟩ k => ⟨K, PySem.W.Frag.In.keeps hK k, c⟩
theorem obsU_eq {sm : Bool} {names : List Str} {n : Nat} {fa : List Fa} {fn : List DefD} {ex : PySem.W.Frag → Bool} {ts : List Tab} {g : Addr → Option Obj} {s : Shared} (h : ∀ a, g a = s.heap.get? a) : obsU sm names n fa fn ex ts g = (hookU sm names n fa fn ex ts).obs s := by
  have e : g = s.heap.get? := funext h
  rw [e] <;> rfl
/-- the end of a law behind a def that makes lambdas; p: the def's table -/
theorem walk_TE2 {l : PySem.W.OpenLaw} {n k : Nat} {q : Program} {loose : List Str} {XP : (Str → Option Value) → Heap → Prop} {YP : World → Heap → Prop} {d : DefRec} {x x2 : Str}
    (hn : l.most = some n) (hn2 : n ≤ sizeLine) (hdf : d.params.defaults = []) (hr : Room k callerA) (hrec : ((recsOf q).any fun e => e.name == x2) = true)
    (F : ∀ (w : World) (mg : Str → Option Value) (fa : Addr) (h : Heap), YP w h → h.Ns mainGlobals mg → mg d.name = some (.ref fa) →
      ∃ (K : PySem.W.Frag) (fd fd2 : FuncData) (c f2 : Addr) (sp : Addr → Sp), K.In h ∧ tabB K = true ∧ mg x2 = some (.ref f2) ∧ (∃ o, K.lookup f2 = some o ∧ o.data = .func fd2 ∧ fd2.code = .ref c) ∧ (∀ (s : Shared) (u : Value), BindsTo s fd ⟨[u], []⟩ [(x, u)]) ∧
        (∀ (p : Addr) (H : Hp) (a : Addr) (ns : List Int), ns.length ≤ n → H p = some (.tbl #[]) → SqL K H a (ns.map V.int) → sp p [.ref a] H (fun v _ => v = .bl true) fun _ _ _ => False) ∧
        ∀ (p : Addr) (base : Heap), K.In base → base.Ns mainGlobals mg → TabB base mg c p → FnG l.prog w K mg base k fa fd [x] (sp p)) :
    PySem.W.WalkO q loose XP YP l.row.toRowW d [] (fun f vs => PySem.call f vs) := by
  refine Att.attach_call hn hdf fun w _ s mg mb fa _ _ _ _ a vs ns G Y _ _ _ hmg hobj hints hlen hg => ?_
  obtain ⟨K, fd, fd2, c, f2, sp, KX, tb, m2, ⟨o, lo, od, oc⟩, hb, hsp, hF⟩ := F w mg fa _ Y G.T.g hmg
  obtain ⟨dL, hm, hn1⟩ := List.any_eq_true.mp hrec
  obtain ⟨a', o', fd', c', p, h1, h2, h3, h4, h5, h6⟩ := G.T.tab dL hm
  rw [beq_iff_eq.mp hn1, m2] at h1
  cases h1
  rw [KX _ _ lo] at h2
  cases h2
  rw [od] at h3
  cases h3
  rw [oc] at h4
  cases h4
  have ht : EmptyTab s.heap p := h6.2
  exact law_callT KX G.T.g G.T.b G.T.builtins G.T.nolimit hg hobj ht (tabB_ok tb KX ht) (PySem.W.CodeHd.of h5 h6) h6 G.T.bmain hints (Nat.le_trans hlen hn2) hr (hF p) hb fun H h1 h2 => hsp p H a ns hlen h1 h2
end Lc
set_option Elab.async false
set_option linter.all false
set_option maxRecDepth 100000
set_option maxHeartbeats 4000000
namespace Lc
open PySem PySem.Spec PyProof.Rows L2
/-! ## o.m(e, ..) and o.m(e, .., k = v, ..), where m may raise -/
def tMethS (C : Addr) (m : Str) (sp : Sp) (E : L2.St → XK) (ta : TE) (t : TA) : TE := fun σ H Q => ta σ H fun x H1 => ∃ a dx fs, x = .ref a ∧ H1 a = some (.ins C dx fs) ∧ fs.lookup m = none ∧
  t σ H1 fun vs H2 => sp (x :: vs) H2 Q (E σ)
def tMethKS (C : Addr) (m : Str) (n l : Nat) (sp : Sp) (gV : List V → List V → List V) (E : L2.St → XK) (ta : TE) (t tk : TA) : TE := fun σ H Q => ta σ H fun x H1 => ∃ a dx fs, x = .ref a ∧ H1 a = some (.ins C dx fs) ∧ fs.lookup m = none ∧
  t σ H1 fun vs H2 => tk σ H2 fun zs H3 => vs.length = n ∧ zs.length = l ∧ sp (gV (x :: vs) zs) H3 Q (E σ)
section
variable {X : Cx} {CX : CXT} {k n : Nat} {f C : Addr} {fd : FuncData} {ps ks : List Str} {sp : Sp} {E : L2.St → XK} {m : Str} {pos apos : Pos} {e o : Expr} {es : List Expr} {kws : List Keyword} {ta : TE} {t tk : TA} {g : List Value → List Value → List Value} {gV : List V → List V → List V}
theorem pe_methS {pl : Sem Bool} (he : PE X o ta) (c : Cls X.K C) (hm : Meth X.K C m f) (F : FnOk X.prog X.w X.K X.mg X.base CX k f fd ps sp) (hr : Room k X.A) (hb : Binds X.K fd ps []) (hx : ∀ σ, PassesAt CX X σ (E σ)) (ha : PA X (e :: es) t)
    (hst : starEach (e :: es) X.env = (false, eval e X.env) :: starEach es X.env := by rfl) (hpl : (backTo pos (starEach es X.env)).any (·.1) = false := by rfl)
    (ht : eval (.Call (.Attribute o m apos) (e :: es) [] pos) X.env = (do
      let ov ← eval o X.env
      standAt apos.atName
      let (f, first) ← holding [ov] (getMethod ov m pl)
      callWith pos f first (backTo pos (starEach (e :: es) X.env)) (backToKw pos (keywordEach [] X.env))) := by rfl) :
    PE X (.Call (.Attribute o m apos) (e :: es) [] pos) (tMethS C m sp E ta t) := by
  refine ⟨fun pins s σ H Q I h => ?_⟩
  refine PySem.W.methodCall_KW (pl := pl) (thn (he.run pins s σ H _ I h) fun u s1 ⟨x, H1, I1, rx, a, dx, fs, ex, ea, l, q⟩ => ?_) ht
  subst ex
  obtain rfl : u = Value.ref a := rx
  refine getmeth_ok I1 ea c hm l ?_
  refine PySem.W.callWith_K (first := [.ref a]) (h₀ := X.base) I.ok.mod.kin hm.kp (thn (ha.run pos pins s1 σ H1 _ I1 q) fun us s2 ⟨vs, H2, I2, r, q2⟩ => ⟨I2.kIn, ?_⟩) hst hpl
  exact run_fnS (us := .ref a :: us) (vs := .ref a :: vs) F hr hb (hx σ) I2 (.cons rfl r) q2
theorem pe_methKS {pl : Sem Bool} (he : PE X o ta) (c : Cls X.K C) (hm : Meth X.K C m f) (F : FnOk X.prog X.w X.K X.mg X.base CX k f fd ps sp) (hr : Room k X.A) (hb : KBn X.K fd ps (n + 1) ks g gV) (hx : ∀ σ, PassesAt CX X σ (E σ)) (ha : PA X (e :: es) t) (hkw : PK X kws tk)
    (hall : (backToKw pos (keywordEach kws X.env)).all (·.1.isSome) = true := by rfl) (hks : (backToKw pos (keywordEach kws X.env)).filterMap (·.1) = ks := by rfl) (hst : starEach (e :: es) X.env = (false, eval e X.env) :: starEach es X.env := by rfl)
    (hpl : ((backTo pos (starEach (e :: es) X.env)).any (·.1) || (backToKw pos (keywordEach kws X.env)).any (·.1.isNone)) = false := by rfl)
    (ht : eval (.Call (.Attribute o m apos) (e :: es) kws pos) X.env = (do
      let ov ← eval o X.env
      standAt apos.atName
      let (f, first) ← holding [ov] (getMethod ov m pl)
      callWith pos f first (backTo pos (starEach (e :: es) X.env)) (backToKw pos (keywordEach kws X.env))) := by rfl) :
    PE X (.Call (.Attribute o m apos) (e :: es) kws pos) (tMethKS C m n ks.length sp gV E ta t tk) := by
  refine ⟨fun pins s σ H Q I h => ?_⟩
  refine PySem.W.methodCall_KW (pl := pl) (thn (he.run pins s σ H _ I h) fun u s1 ⟨x, H1, I1, rx, a, dx, fs, ex, ea, l, q⟩ => ?_) ht
  subst ex
  obtain rfl : u = Value.ref a := rx
  refine getmeth_ok I1 ea c hm l ?_
  refine PySem.W.callWith_KW (first := [.ref a]) (h₀ := X.base) I.ok.mod.kin hm.kp hall (thn (ha.run pos pins s1 σ H1 _ I1 q) fun us s2 ⟨vs, H2, I2, r, q2⟩ => ?_) hpl hst
  refine thn (hkw.run pos pins s2 σ H2 _ I2 q2) fun ws s3 ⟨zs, H3, I3, rz, l1, l2, q3⟩ => ⟨I3.kIn, ?_⟩
  rw [hks]
  have r1 : Vals (V.ref a :: vs) (Value.ref a :: us) := .cons rfl r
  have done := F.run X.A X.stack s3 H3 ⟨.ref a :: us, ks.zip ws⟩ (g (.ref a :: us) ws) (gV (.ref a :: vs) zs) Q (E σ) hr I3.env0 (hb.to s3 (.ref a :: us) ws I3.kIn (by rw [List.length_cons, ← r.length, l1]) (rz.length.symm.trans l2)) (hb.rel r1 rz) q3
  refine wpAny_call (codeAny_mono done fun rr s' hq => ?_)
  match rr, hq with
  | .error er, hq => exact hx σ pins H3 s3 er s' I3 hq
  | .ok (.ret u), hq => exact I3.after hq
  | .ok .next, hq => exact False.elim hq
  | .ok .brk, hq => exact False.elim hq
  | .ok .cont, hq => exact False.elim hq
end
end Lc
set_option Elab.async false
set_option linter.all false
set_option maxRecDepth 100000
set_option maxHeartbeats 4000000
/-! An own error class right over any built-in one (not only ValueError), with an __init__ of its own that keeps a field. -/
namespace PySem
namespace LcOex
open PySem.W PySem.Calls PyProof.Rows PySem.HandSPX
section
open Builtin Builtin.ObjectAttr
variable {pr : Program} {wd : World} {Ar : Around} {Rr : Result → Shared → Prop} {hh : Heap} {gn : Array GenState} {dn : Drawn} {tn : Nat} {on : OsState}
theorem first_field {K : W.Frag} {fld : Str} {tok : Tok} {val : Value} {me C : Addr} {parts : Array Value} {cl : ClassData} {B : String} {tail : List Value} (SB : StoreFacts B tail "object.__setattr__" "object")
    (kin : K.In hh) (obj : hh.get? me = some { cls := .ref C, data := .fields parts }) (hcl : W.clsIn K C = some cl) (line : cl.mro = .ref C :: tail) (dct : cl.hasDict = true) (no : W.findIn K (.ref C) fld = some none)
    (go : ∀ h2 tok2 box, (∀ b ob, b ≠ me → hh.get? b = some ob → h2.get? b = some ob) → hh.objs.size ≤ box → box ≠ me → h2.get? me = some { cls := .ref C, dict := some box, data := .fields parts } → h2.Ns1 box (fun z => if z = fld then some val else none) → Rr (.ok (.ret .none)) ⟨h2, gn, dn, tok2, on⟩) :
    codeAny (model pr wd) Ar (.call (.builtin "object.__setattr__") ⟨[.ref me, .str fld tok, val], []⟩) Rr ⟨hh, gn, dn, tn, on⟩ := by
  have at1 : W.InstAt hh me { cls := .ref C, data := .fields parts } C none := ⟨obj, rfl, rfl, trivial⟩
  have so := F.store_object
  have full : cl.mro.isEmpty = false := by rw [line]; rfl
  have top : cl.mro.contains (.type "object") = true := by rw [line, List.contains_cons, SB.hasOwner, Bool.or_true]
  have apart : me ≠ hh.objs.size := Nat.ne_of_lt (Heap.lt_size obj)
  have isi : W.Looks (model pr wd) hh (isInstance (.ref me) (.type "object")) true := at1.type.andThen (W.looks_mroIn kin (by unfold W.mroIn; rw [hcl, Option.bind_some, if_neg (by rw [full]; decide), top]))
  refine codeAny_call_builtin so.slot.plain so.entry (@W.check_slot (model pr wd) _ _ ⟨hh, gn, dn, tn, on⟩ "object.__setattr__" "object" "__setattr__" (.ref me) [.str fld tok, val] [] _ so.kind so.split isi (so.args (.ref me) (.str fld tok) val) ?_)
  have walk : W.Looks (model pr wd) hh (mroOf (.ref C)) cl.mro := (W.looks_clsIn kin hcl).andThen .now
  have nobody : W.Looks (model pr wd) hh (storeTaker? none) none := .now
  have dataC : W.Looks (model pr wd) hh (classData C) cl := W.looks_clsIn kin hcl
  have pass : refuseLoop (.ref me) "__setattr__" cl.mro = pure () := by rw [line, refuseLoop_ref]; exact SB.passes _
  rw [W.osa_eq, refuse_eq]
  refine wpAny_bind (wpAny_bind (at1.type.at (wpAny_bind (walk.at ?_))))
  rw [pass]
  refine wpAny_pure (wpAny_bind (at1.type.at (wpAny_bind ((W.looks_findIn kin no).at (wpAny_bind (nobody.at ?_))))))
  show wpAny _ _ (storeInOwnDict (.ref me) (.ref C) (.str fld tok) fld val false) _ _ _
  obtain ⟨c1, c2, c3, c4, c5, c6, c7, c8, c9, c10, c11⟩ := cl
  dsimp only at dct
  subst dct
  unfold storeInOwnDict ownDictForStores
  repeat (first | with_reducible refine store_in_new ?_ ?_ | with_reducible refine wpAny_loadPart_at obj ?_ | with_reducible refine dataC.at ?_ | wp_step)
  · refine ⟨_, #[], _, (Heap.get?_update_ne _ _ _ _ apart.symm).trans (Heap.get?_push_at rfl rfl), rfl, fun e he => ?_, fun _ => rfl⟩
    exact absurd he (by simp)
  · intro h2 tok2 hn hs
    have obj2 : (hh.push { cls := .type "dict", data := .dict #[] }).get? me = some { cls := .ref C, data := .fields parts } := Heap.get?_push_of_some _ obj
    refine go h2 tok2 hh.objs.size (fun b ob nb eb => ?_) (Nat.le_refl _) apart.symm ?_ hn
    · refine (hs.2 b (Nat.ne_of_lt (Heap.lt_size eb))).trans ?_
      exact (Heap.get?_update_ne _ _ _ _ nb).trans (Heap.get?_push_of_some _ eb)
    · exact (hs.2 me apart).trans (Heap.get?_update_self _ obj2 rfl)
end
end LcOex
end PySem
namespace Lc
open PySem PySem.Spec PyProof.Rows L2
/-- an own error class right over a built-in one -/
structure OexG (K : PySem.W.Frag) (C : Addr) (new : String) (tail : List Value) : Prop where
  at_ : ∃ c1 c2 c3 c4 c5 c6 c7 c8 c9 c10 c11 c12 c13 c14, K.lookup C = some (excClassObj c1 c2 C c3 c4 tail true c5 c6 c7 c8 c9 c10 c11 c12 c13 c14 new)
  put : PySem.W.findIn K (.ref C) "__setattr__" = some (some (.builtin "object.__setattr__"))
  exc : PySem.W.subIn K (.ref C) (.type "BaseException") = some true
  typ : PySem.W.typeIn K (.ref C) = some (.type "type")
  kept : PySem.W.keepIn K (.ref C) = true
section
variable {X : Cx} {pins : List (Addr × Obj)} {σ : L2.St} {H : Hp} {sh : Shared} {a C : Addr} {fld new B : String} {tail : List Value} {y : V} {u : Value} {Qu : Unit → Shared → Prop} {Eu : Value → Shared → Prop} {Au : Around}
theorem put_new {fld : Str} (SB : StoreFacts B tail "object.__setattr__" "object") (T : OexG X.K C new tail) (I : Inv X pins σ H sh) (ea : H a = some (exo a C none)) (no : PySem.W.findIn X.K (.ref C) fld = some none) (ry : RelV y u)
    (go : ∀ box s2, H box = none → box ≠ a → Inv X pins σ (upd (upd H box (exd box [(fld, y)])) a (exo a C (some box))) s2 → Qu () s2) : wpAny (model X.prog X.w) Au (setAttr (.ref a) fld u) Qu Eu sh := by
  obtain ⟨c1, c2, c3, c4, c5, c6, c7, c8, c9, c10, c11, c12, c13, c14, lk⟩ := T.at_
  have data : PySem.W.clsIn X.K C = some { name := c1, bases := c4, mro := .ref C :: tail, ns := c3, qualname := c2, hasDict := true, slotNames := c5, subclasses := c6, abstract := c7, collection := c8, hasDel := false } := by
    unfold PySem.W.clsIn
    rw [lk] <;> rfl
  obtain ⟨args, there⟩ := exo_at I.hok ea
  obtain ⟨hp, g, d, t, os⟩ := sh
  refine PySem.W.set_plain I.kIn (ox := { cls := .ref C, dict := none, data := .fields #[.ref args, .none, .none, .none, .bool false, .none] }) (od := none) ⟨there, rfl, rfl, trivial⟩ T.put ?_
  refine PySem.LcOex.first_field SB I.kIn there data rfl rfl no fun h2 tok2 box keep1 big apart self2 names => ?_
  have nbox : H box = none := I.hok.fresh big
  have old : ∀ {b : Addr} {ob : Obj}, hp.get? b = some ob → b ≠ box := fun {b ob} e => Nat.ne_of_lt (Nat.lt_of_lt_of_le (Heap.lt_size e) big)
  have nota : ∀ {b : Addr}, H b = none → b ≠ a := fun {b} n z => by rw [z, ea] at n; cases n
  have un : Un X.fs [] H (upd (upd H box (exd box [(fld, y)])) a (exo a C (some box))) hp h2 := by
    refine { keep := ?k1, slot := ?k2, free := ?k3, there := ?k4, tups := ?k5, frzs := ?k6, tbls := ?k7 }
    case k1 => exact fun b ob e n _ _ => keep1 b ob (nota n) e
    case k2 => exact fun b ob e n _ _ => ⟨ob.slots, keep1 b ob (nota n) e⟩
    case k3 =>
      intro b ob e n _
      rw [upd_ne (nota n), upd_ne (old e)]
      exact n
    case k4 =>
      intro b ob e _
      by_cases z : b = a
      · rw [z]
        exact ⟨_, self2⟩
      · exact ⟨ob, keep1 b ob z e⟩
    case k5 =>
      intro b zs e
      rw [upd_ne (at_ne ea e exo_tup), upd_ne (ne_of_none e nbox)]
      exact e
    case k6 =>
      intro b ob z e
      rw [upd_ne (at_ne ea e exo_frz), upd_ne (ne_of_none e nbox)]
      exact e
    case k7 =>
      intro b zs e
      refine ⟨#[], ?_⟩
      rw [upd_ne (at_ne ea e exo_tbl), upd_ne (ne_of_none e nbox), e]
      simp
  refine go box _ nbox apart (I.un (t' := tok2) un fun b ob e => ?_)
  by_cases z : b = a
  · subst z
    rw [upd_same] at e
    cases e
    exact exo_ok self2
  · rw [upd_ne z] at e
    by_cases z2 : b = box
    · subst z2
      rw [upd_same] at e
      cases e
      exact exd_ok names (relO_put (fs := []) ry fun _ => True.intro)
    · rw [upd_ne z2] at e
      have off : ∀ {c : Addr}, H c = some (.own b) → c ≠ a := fun {c} ec => at_ne ea ec exo_own
      refine (I.hok b ob e).stay (fun c w hc ec => keep1 c w ?_ ec) (fun c ec => ?_) (fun c zs ec => ?_)
      · rcases hc with hc | hc
        · rw [hc]; exact z
        · exact off hc
      · rw [upd_ne (off ec), upd_ne (ne_of_none ec nbox)]
        exact ec
      · rw [upd_ne (at_ne ea ec exo_tup), upd_ne (ne_of_none ec nbox)]
        exact ec
end
/-- self.f = e in the __init__ of such a class, the first field -/
def tPut (C : Addr) (f : Str) (to te : TE) : TS := fun D σ H => te σ H fun y H1 => to σ H1 fun x H2 => ∃ a : Addr, x = .ref a ∧ H2 a = some (exo a C none) ∧ ∀ box, H2 box = none → box ≠ a → D.nx σ (upd (upd H2 box (exd box [(f, y)])) a (exo a C (some box)))
section
variable {X : Cx} {B new : String} {tail : List Value} {C : Addr} {f : Str} {o e : Expr} {to te : TE} {p' pos : Pos}
theorem ps_put (SB : StoreFacts B tail "object.__setattr__" "object") (T : OexG X.K C new tail) (no : PySem.W.findIn X.K (.ref C) f = some none) (ho : PE X o to) (he : PE X e te) (hs : swapsWith e (some (.Attribute o f p')) pos.line X.env = pure false := by rfl) :
    PS X (.Assign [.Attribute o f p'] e pos) (tPut C f to te) := by
  refine ⟨fun pins s σ H D I h => ?_⟩
  refine plainObj_wpAny_Assign_Attribute (thn (he.run pins s σ H _ I h) fun v s1 ⟨y, H1, I1, ry, q1⟩ => thn (ho.run pins s1 σ H1 _ I1 q1) fun u s2 ⟨x, H2, I2, rx, a, ex, ea, q⟩ => ?_) hs
  subst ex
  obtain rfl : u = Value.ref a := rx
  exact put_new SB T I2 ea no ry fun box s' n ne J => ⟨σ, _, J, q box n ne⟩
end
section
variable {X : Cx} {B new ini : String} {tail : List Value} {CX : CXT} {x : Str} {C fI : Addr} {k : Nat} {fd : FuncData} {ps : List Str} {sp : Sp} {e : Expr} {es : List Expr} {ta : TA} {p pos : Pos}
theorem pmk_oexG {more : List Value} {moreV : List V} (FB : ExcBaseFacts B new ini tail) (T : OexG X.K C new tail) (iC : PySem.W.findIn X.K (.ref C) "__init__" = some (some (.ref fI))) (tI : PySem.W.typeIn X.K (.ref fI) = some (.type "function"))
    (FI : FnOk X.prog X.w X.K X.mg X.base CX k fI fd ps sp) (hr : Room (k + 1) X.A) (hb : Binds X.K fd ps more) (hmore : Vals moreV more) (hx : Passes CX X (fun _ _ _ => False)) (hg : Gl X x) (hm : X.mg x = some (.ref C)) (ha : PA X (e :: es) ta)
    (hdb : (x == ("__debug__" : Str)) = false := by decide) (he : starEach (e :: es) X.env = (false, eval e X.env) :: starEach es X.env := by rfl) (hpl : (backTo pos (starEach es X.env)).any (·.1) = false := by rfl) :
    PMk X (.Call (.Name x p) (e :: es) [] pos) (tMkO C sp moreV ta) := by
  intro pins s σ H Q I h
  obtain ⟨c1, c2, c3, c4, c5, c6, c7, c8, c9, c10, c11, c12, c13, c14, lk⟩ := T.at_
  refine wpAny_Call_Name_kw (ld_glob I hg hm ?_ hdb)
  refine PySem.W.callWith_K (h₀ := X.base) I.ok.mod.kin T.kept (thn (ha.run pos pins s σ H _ I h) fun us s1 ⟨vs, H1, I1, rv1, short, q1⟩ => ⟨I1.kIn, ?_⟩) he hpl
  show wpAny _ _ (call (.ref C) us) _ _ _
  obtain ⟨hp, g, dr, tk, os⟩ := s1
  have nme : H1 (hp.objs.size + 1) = none := I1.hok.fresh (Nat.le_succ _)
  have sp1 := q1 (hp.objs.size + 1) nme
  have grow : ∀ b ob, hp.get? b = some ob → ((hp.push (PySem.W.kdv_tup us)).push (PySem.HandSPX.excO C hp.objs.size)).get? b = some ob := fun b ob eb => Heap.get?_push_of_some _ (Heap.get?_push_of_some _ eb)
  have here : ((hp.push (PySem.W.kdv_tup us)).push (PySem.HandSPX.excO C hp.objs.size)).get? (hp.objs.size + 1) = some (PySem.HandSPX.excO C hp.objs.size) := by heap_get
  have I2 := I1.laid (t' := tk) (a := hp.objs.size + 1) (o := exo (hp.objs.size + 1) C none) grow (Nat.le_succ _) (exo_ok here)
  have rv2 : Vals (V.ref (hp.objs.size + 1) :: (vs ++ moreV)) (Value.ref (hp.objs.size + 1) :: (us ++ more)) := .cons rfl (rv1.append hmore)
  have len : (Value.ref (hp.objs.size + 1) :: us ++ more).length = ps.length := by
    have z := rv2.length
    rw [FI.len _ _ _ _ sp1] at z
    exact z.symm
  have few : us.length ≤ sizeLine := by rw [← Paired.length rv1, sizeLine_eq]; omega
  refine wpAny_call (PySem.HandSPX.call_own FB (fun _ => rfl) (I1.kIn _ _ lk) (PySem.W.looks_findIn I1.kIn iC) (fun self => PySem.W.bind_fn I1.kIn self tI) few ?_)
  refine codeAny_mono (FI.run _ X.stack _ _ ⟨Value.ref (hp.objs.size + 1) :: us, []⟩ (Value.ref (hp.objs.size + 1) :: (us ++ more)) _ _ (fun _ _ _ => False) (hr.make C us []) (I2.env0.make C us []) (hb _ (Value.ref (hp.objs.size + 1) :: us) I2.kIn len) rv2 sp1) fun res s' hq => ?_
  match res, hq with
  | .error er, hq => exact hx pins σ _ _ er s' I2 hq
  | .ok (.ret u), hq =>
    obtain ⟨v, H2, os2, bare2, un2, ok2, rv, ev, dd, fs, ea, ed, nd, q2⟩ := hq
    subst ev
    obtain ⟨h2, g2, d2, t2, os'⟩ := s'
    exact ⟨rv, mk_end (raises_own T.exc T.typ) I1 (Nat.le_succ _) grow un2 ok2 os2 bare2 ea ed nd q2⟩
  | .ok .next, hq => exact False.elim hq
  | .ok .brk, hq => exact False.elim hq
  | .ok .cont, hq => exact False.elim hq
end
end Lc
set_option Elab.async false
set_option linter.all false
set_option maxRecDepth 100000
set_option maxHeartbeats 4000000
namespace Lc
open PySem PySem.Spec PyProof.Rows L2 He
def oexGB (K : PySem.W.Frag) (C : Addr) (new : String) (tail : List Value) : Bool := (match K.lookup C with
  | some ⟨.type "type", _, .cls cd, sl⟩ => (match cd.mro, sl.toList with
    | .ref C' :: bm, [_, _, _, _, some (.builtin n), _] => C' == C && (n == new && (!cd.hasDel && (cd.hasDict && decide (bm = tail))))
    | _, _ => false)
  | _ => false) && (eqO (PySem.W.findIn K (.ref C) "__setattr__") (some (some (.builtin "object.__setattr__"))) && (optB (PySem.W.subIn K (.ref C) (.type "BaseException")) (some true) && (optV (PySem.W.typeIn K (.ref C)) (some (.type "type")) && PySem.W.keepIn K (.ref C))))
theorem oexGB_ok {K : PySem.W.Frag} {C : Addr} {new : String} {tail : List Value} (h : oexGB K C new tail = true) : OexG K C new tail := by
  unfold oexGB at h
  obtain ⟨q, h⟩ := ba h
  obtain ⟨h1, h⟩ := ba h
  obtain ⟨h2, h⟩ := ba h
  obtain ⟨h3, h4⟩ := ba h
  refine ⟨?_, eqO_ok h1, of_decide_eq_true h2, of_decide_eq_true h3, h4⟩
  split at q
  · rename_i dd cd sl lk
    split at q
    · rename_i C' bm k0 k1 k2 k3 n k5 hm hs
      simp only [Bool.and_eq_true, beq_iff_eq, Bool.not_eq_true', decide_eq_true_eq] at q
      obtain ⟨rfl, rfl, q3, q4, rfl⟩ := q
      obtain ⟨z1, z2, z3, z4, z5, z6, z7, z8, z9, z10, z11⟩ := cd
      dsimp only at hm q3 q4
      subst hm q3 q4
      have es : sl = #[k0, k1, k2, k3, some (.builtin n), k5] := by
        obtain ⟨l⟩ := sl
        have hs : l = _ := hs
        rw [hs]
      subst es
      exact ⟨_, _, _, _, _, _, _, _, _, _, _, _, _, _, lk⟩
    · cases q
  · cases q
end Lc
set_option Elab.async false
set_option linter.all false
set_option maxRecDepth 100000
set_option maxHeartbeats 4000000
namespace Lc
open PySem PySem.Spec PyProof.Rows L2
/-! ## f(k = v, ..), keywords only -/
section
variable {X : Cx} {CX : CXT} {k : Nat} {f : Addr} {fd : FuncData} {ps ks : List Str} {sp : Sp} {E : XK} {x : Str} {p pos : Pos} {kws : List Keyword} {tk : TA} {g : List Value → List Value → List Value} {gV : List V → List V → List V}
theorem pe_callKO (F : FnOk X.prog X.w X.K X.mg X.base CX k f fd ps sp) (hr : Room k X.A) (hg : Gl X x) (hm : X.mg x = some (.ref f)) (hk : PySem.W.keepIn X.K (.ref f) = true) (hb : KBinds X.K fd ps ks g gV) (hx : Passes CX X E)
    (hkw : PK X kws tk) (hall : (backToKw pos (keywordEach kws X.env)).all (·.1.isSome) = true := by rfl) (hks : (backToKw pos (keywordEach kws X.env)).filterMap (·.1) = ks := by rfl)
    (hdb : (x == ("__debug__" : Str)) = false := by decide) (hpl : ((backTo pos (starEach [] X.env)).any (·.1) || (backToKw pos (keywordEach kws X.env)).any (·.1.isNone)) = false := by rfl) : PE X (.Call (.Name x p) [] kws pos) (tCallK sp gV E tNil tk) := by
  refine ⟨fun pins s σ H Q I h => ?_⟩
  refine wpAny_Call_Name_kw (ld_glob I hg hm ?_ hdb)
  refine PySem.W.callWith_KW0 (h₀ := X.base) I.ok.mod.kin hk hall (thn (hkw.run pos pins s σ H _ I h) fun ws s2 ⟨zs, H2, I2, rz, q2⟩ => ⟨I2.kIn, ?_⟩) hpl
  rw [hks]
  exact run_fnk F hr hb hx I2 .nil rz q2
end
end Lc
set_option Elab.async false
set_option linter.all false
set_option maxRecDepth 100000
set_option maxHeartbeats 4000000
namespace Lc
open PySem PySem.Spec PyProof.Rows L2
/-! ## f(e, .., k = v, ..), f a def of the module that may raise -/
def tCallKS (sp : Sp) (gV : List V → List V → List V) (E : L2.St → XK) (t tk : TA) : TE := fun σ H Q => t σ H fun vs H1 => tk σ H1 fun zs H2 => sp (gV vs zs) H2 Q (E σ)
section
variable {X : Cx} {CX : CXT} {k : Nat} {f : Addr} {fd : FuncData} {ps ks : List Str} {sp : Sp} {E : L2.St → XK} {x : Str} {p pos : Pos} {e : Expr} {es : List Expr} {kws : List Keyword} {t tk : TA} {g : List Value → List Value → List Value} {gV : List V → List V → List V}
theorem pe_callKS (F : FnOk X.prog X.w X.K X.mg X.base CX k f fd ps sp) (hr : Room k X.A) (hg : Gl X x) (hm : X.mg x = some (.ref f)) (hk : PySem.W.keepIn X.K (.ref f) = true) (hb : KBinds X.K fd ps ks g gV) (hx : ∀ σ, PassesAt CX X σ (E σ))
    (ha : PA X (e :: es) t) (hkw : PK X kws tk) (hall : (backToKw pos (keywordEach kws X.env)).all (·.1.isSome) = true := by rfl) (hks : (backToKw pos (keywordEach kws X.env)).filterMap (·.1) = ks := by rfl)
    (hdb : (x == ("__debug__" : Str)) = false := by decide) (he : starEach (e :: es) X.env = (false, eval e X.env) :: starEach es X.env := by rfl)
    (hpl : ((backTo pos (starEach (e :: es) X.env)).any (·.1) || (backToKw pos (keywordEach kws X.env)).any (·.1.isNone)) = false := by rfl) :
    PE X (.Call (.Name x p) (e :: es) kws pos) (tCallKS sp gV E t tk) := by
  refine ⟨fun pins s σ H Q I h => ?_⟩
  refine wpAny_Call_Name_kw (ld_glob I hg hm ?_ hdb)
  refine PySem.W.callWith_KW (h₀ := X.base) I.ok.mod.kin hk hall (thn (ha.run pos pins s σ H _ I h) fun us s1 ⟨vs, H1, I1, r, q⟩ => ?_) hpl he
  refine thn (hkw.run pos pins s1 σ H1 _ I1 q) fun ws s2 ⟨zs, H2, I2, rz, q2⟩ => ⟨I2.kIn, ?_⟩
  rw [hks]
  have r2 := hb.rel r rz
  have hl : (g us ws).length = ps.length := by rw [← r2.length]; exact F.len _ _ _ _ q2
  refine wpAny_call (codeAny_mono (F.run X.A X.stack s2 H2 ⟨us, ks.zip ws⟩ (g us ws) (gV vs zs) Q (E σ) hr I2.env0 (hb.to s2 us ws I2.kIn hl) r2 q2) fun r s' hq => ?_)
  match r, hq with
  | .error er, hq => exact hx σ pins H2 s2 er s' I2 hq
  | .ok (.ret u), hq => exact I2.after hq
  | .ok .next, hq => exact False.elim hq
  | .ok .brk, hq => exact False.elim hq
  | .ok .cont, hq => exact False.elim hq
end
/-- a call that leaves the defaults -/
theorem kb_of {K : PySem.W.Frag} {fd : FuncData} {ps : List Str} {ds : List Value} {dvs : List V} (b : Binds K fd ps ds) (v : Vals dvs ds) : KBinds K fd ps [] (fun us _ => us ++ ds) (fun vs _ => vs ++ dvs) :=
  ⟨fun s us ws hk hl => b s us hk (by simpa [List.length_append] using hl), fun r _ => r.append v⟩
def gKw : {α : Type} → List α → List α → List α → List α := fun a _ c => a ++ c
/-- all keywords given, behind n values -/
def gAt {α : Type} (n m : Nat) (us ws : List α) : List α := if us.length = n ∧ ws.length = m then us ++ ws else []
theorem kb_at {K : PySem.W.Frag} {fd : FuncData} {ps ks : List Str} {n : Nat} (h : KBn K fd ps n ks (fun us ws => us ++ ws) (fun vs zs => vs ++ zs)) (hp : ps.length ≠ 0) : KBinds K fd ps ks (gAt n ks.length) (gAt n ks.length) := by
  refine ⟨fun s us ws X l => ?_, fun {vs us zs ws} r rz => ?_⟩
  · unfold gAt at l ⊢
    by_cases q : us.length = n ∧ ws.length = ks.length
    · rw [if_pos q]
      exact h.to s us ws X q.1 q.2
    · rw [if_neg q] at l
      exact absurd l.symm hp
  · unfold gAt
    by_cases q : us.length = n ∧ ws.length = ks.length
    · rw [if_pos q, if_pos (by rw [r.length, rz.length]; exact q)]
      exact r.append rz
    · rw [if_neg q, if_neg (by rw [r.length, rz.length]; exact q)]
      exact .nil
end Lc
set_option Elab.async false
set_option linter.all false
set_option maxRecDepth 100000
set_option maxHeartbeats 8000000
namespace K12
open PySem PySem.Spec PyProof.Rows L2 Lc He
/-! ## the head -/
def dOf (x : Str) (st : Stmt) : DefD := ⟨(x, none), x, x, defArgs st, defBody st, defScope st, [], []⟩
def dMt (c m q : Str) (st : Stmt) : DefD := ⟨(c, some m), m, q, defArgs st, defBody st, defScope st, [], []⟩
def dKw (x : Str) (st : Stmt) (kw : List (Str × Dv)) : DefD := ⟨(x, none), x, x, defArgs st, defBody st, defScope st, [], kw⟩
def dDf (x : Str) (st : Stmt) (df : List Dv) : DefD := ⟨(x, none), x, x, defArgs st, defBody st, defScope st, df, []⟩
def dMd (c m q : Str) (st : Stmt) (df : List Dv) : DefD := ⟨(c, some m), m, q, defArgs st, defBody st, defScope st, df, []⟩
def fn : List DefD := [dMt "UnknownName" "__init__" "UnknownName.__init__" (inClass (top 5) 0), dMt "NoVersion" "__init__" "NoVersion.__init__" (inClass (top 7) 0), dOf "union_of" (top 10), dOf "names_of" (top 11), dMt "Table" "__init__" "Table.__init__" (inClass (top 12) 0), dMt "Table" "columns" "Table.columns" (inClass (top 12) 1), dMt "Table" "rows" "Table.rows" (inClass (top 12) 2), dMt "Table" "column" "Table.column" (inClass (top 12) 3), dMt "Table" "lineage" "Table.lineage" (inClass (top 12) 4), dMt "Table" "__eq__" "Table.__eq__" (inClass (top 12) 5), dMt "Table" "__len__" "Table.__len__" (inClass (top 12) 6), dMt "Table" "__repr__" "Table.__repr__" (inClass (top 12) 7), dDf "register_table" (top 13) [.non], dOf "is_whole" (top 15), dOf "common_divisor" (top 16), dOf "is_rational" (top 17), dOf "is_name" (top 26), dOf "within_limit" (top 27), dOf "is_value" (top 28), dOf "is_column" (top 29), dOf "check_columns" (top 30), dOf "check_name" (top 31), dOf "check_row" (top 32), dOf "rows_after" (top 33), dOf "numbers_used" (top 34), dMt "Register" "__init__" "Register.__init__" (inClass (top 35) 0), dMt "Register" "check_standing" "Register.check_standing" (inClass (top 35) 1), dMt "Register" "check_entry" "Register.check_entry" (inClass (top 35) 2), dMt "Register" "add" "Register.add" (inClass (top 35) 3), dMt "Register" "correct" "Register.correct" (inClass (top 35) 4), dMt "Register" "strike" "Register.strike" (inClass (top 35) 5), dMt "Register" "name" "Register.name" (inClass (top 35) 6), dMt "Register" "columns" "Register.columns" (inClass (top 35) 7), dMd "Register" "rows" "Register.rows" (inClass (top 35) 9) [.non], dOf "_law_tape" (top 37), dOf "_law_draw" (top 38), dOf "_law_lowest" (top 39), dOf "_law_rational" (top 40), dOf "_law_name" (top 41), dOf "_law_fresh" (top 42), dOf "_law_columns" (top 43), dOf "_law_value" (top 44), dOf "_law_values" (top 45), dOf "_law_deeds" (top 46), dOf "_law_do" (top 47), dOf "_law_states" (top 48), dOf "_law_lineage" (top 49), dOf "_law_union" (top 50), dOf "_law_column" (top 51), dOf "_law_is" (top 52), dOf "_law_equals" (top 53), dOf "_law_at_version" (top 54), dOf "_law_others" (top 55), dOf "law" (top 56)]
def gl : List Str := (["UnknownName", "NoVersion", "Table", "Register", "KINDS", "union_of", "names_of", "register_table", "is_whole", "common_divisor", "is_rational", "is_name", "within_limit", "is_value", "is_column", "check_columns", "check_name", "check_row", "rows_after", "numbers_used"] : List Str) ++ (["_law_tape", "_law_draw", "_law_lowest", "_law_rational", "_law_name", "_law_fresh", "_law_columns", "_law_value", "_law_values", "_law_deeds", "_law_do", "_law_states", "_law_lineage", "_law_union", "_law_column", "_law_is", "_law_equals", "_law_at_version", "_law_others"] : List Str)
def loose : List Str := gl ++ (["_wall", "BadName", "BadColumns", "BadRow", "NoRow", "TooLarge", "LETTERS", "NAME_SIGNS", "LONGEST_NAME", "LIMIT", "MOST_COLUMNS", "MOST_ENTRIES"] : List Str)
def fa : List Fa := (.glo "law") :: gl.map Fa.glo ++ (btNames ++ (["sorted", "KeyError"] : List Str)).map Fa.free ++ [.str "LETTERS" letters, .str "NAME_SIGNS" signs, .int "LONGEST_NAME" 12, .int "LIMIT" lim, .int "MOST_COLUMNS" 8, .int "MOST_ENTRIES" 400]
def exL (K : PySem.W.Frag) : List Bool := [tupB K "KINDS" [.str "number", .str "word", .str "flag"], oexGB K (ga K "UnknownName") "LookupError.__new__" [.type "KeyError", .type "LookupError", .type "Exception", .type "BaseException", .type "object"], eqO (PySem.W.findIn K (.ref (ga K "UnknownName")) "__init__") (some (some (.ref (ma K (ga K "UnknownName") "__init__")))), Lc.optV (PySem.W.typeIn K (.ref (ma K (ga K "UnknownName") "__init__"))) (some (.type "function")), eqO (PySem.W.findIn K (.ref (ga K "UnknownName")) "key") (some none), xfB K (ga K "UnknownName"), xisB K (ga K "UnknownName"), optB (PySem.W.exmOne K (.ref (ga K "UnknownName")) (.ref (ga K "UnknownName"))) (some true), optB (PySem.W.kitOne K (.ref (ga K "UnknownName")) (.type "KeyError")) (some true), oexGB K (ga K "NoVersion") "IndexError.__new__" [.type "IndexError", .type "LookupError", .type "Exception", .type "BaseException", .type "object"], eqO (PySem.W.findIn K (.ref (ga K "NoVersion")) "__init__") (some (some (.ref (ma K (ga K "NoVersion") "__init__")))), Lc.optV (PySem.W.typeIn K (.ref (ma K (ga K "NoVersion") "__init__"))) (some (.type "function")), eqO (PySem.W.findIn K (.ref (ga K "NoVersion")) "given") (some none), xfB K (ga K "NoVersion"), xisB K (ga K "NoVersion"), optB (PySem.W.exmOne K (.ref (ga K "NoVersion")) (.ref (ga K "NoVersion"))) (some true), optB (PySem.W.kitOne K (.ref (ga K "NoVersion")) (.type "IndexError")) (some true), Fa.ok K (.mkr "Table"), Fa.ok K (.cls "Table"), Fa.ok K (.noat "Table" "shape"), Fa.ok K (.noat "Table" "body"), Fa.ok K (.meth "Table" "columns"), Fa.ok K (.meth "Table" "rows"), Fa.ok K (.meth "Table" "column"), Fa.ok K (.meth "Table" "lineage"), eqO (PySem.W.findIn K (.ref (ga K "Table")) "__len__") (some (some (.ref (ma K (ga K "Table") "__len__")))), PySem.W.isFn K (.ref (ma K (ga K "Table") "__len__")), eqO (PySem.W.findIn K (.ref (ga K "Table")) "__repr__") (some (some (.ref (ma K (ga K "Table") "__repr__")))), PySem.W.isFn K (.ref (ma K (ga K "Table") "__repr__")), eqO (PySem.W.findIn K (.ref (ga K "Table")) "__ne__") (some (some (.builtin "object.__ne__"))), optB (PySem.W.subIn K (.ref (ga K "Table")) (.type "object")) (some true), eqO (PySem.W.findIn K (.ref (ga K "Table")) "__eq__") (some (some (.ref (ma K (ga K "Table") "__eq__")))), PySem.W.isFn K (.ref (ma K (ga K "Table") "__eq__")), eqO (PySem.W.findIn K (.ref (ga K "Table")) "__class__") (some (some (.builtin "object.__class__"))), eqO (PySem.W.specialIn K (.builtin "object.__class__") "__get__") (some (some (.builtin "getset_descriptor.__get__"))), optB (PySem.W.takesIn K (.builtin "object.__class__")) (some true), optB (PySem.W.mroIn K (ga K "Table") (.type "object")) (some true), optB (PySem.W.kitOne K (.ref (ga K "Table")) (.ref (ga K "Table"))) (some true), optB (PySem.W.kitOne K (.type "NoneType") (.ref (ga K "Table"))) (some false), optB (PySem.W.kitOne K (.type "tuple") (.ref (ga K "Table"))) (some false), PySem.W.notFirst K (ga K "Table") (.ref (ga K "Table")), PySem.W.notFirst K (ga K "Table") (.type "NoneType"), PySem.W.notFirst K (ga K "Table") (.type "tuple"), optB (PySem.W.subIn K (.ref (ga K "Table")) (.type "tuple")) (some false), optB (PySem.W.subIn K (.ref (ga K "Table")) (.type "NoneType")) (some false), Fa.ok K (.mkr "Register"), Fa.ok K (.cls "Register"), Fa.ok K (.noat "Register" "called"), Fa.ok K (.noat "Register" "shape"), Fa.ok K (.noat "Register" "log"), Fa.ok K (.meth "Register" "check_standing"), Fa.ok K (.meth "Register" "check_entry"), Fa.ok K (.meth "Register" "add"), Fa.ok K (.meth "Register" "correct"), Fa.ok K (.meth "Register" "strike"), Fa.ok K (.meth "Register" "name"), Fa.ok K (.meth "Register" "columns"), Fa.ok K (.meth "Register" "rows")]
def ex (K : PySem.W.Frag) : Bool := (exL K).all id
def ts : List Tab := []
def ads : List Addr := ([3, 570, 98, 138, 233, 440, 265, 166, 171, 243, 250, 257, 264, 270, 277, 284, 291, 298, 305, 312, 319, 324, 451, 458, 465, 472, 477, 484, 491, 498, 503, 510, 517, 522, 529, 534, 541, 546, 553, 560] : List Addr) ++ ([565, 569, 97, 137, 232, 439, 165, 170, 242, 238, 249, 256, 263, 269, 276, 283, 290, 297, 304, 311, 318, 323, 450, 457, 464, 471, 476, 483, 490, 497, 502, 509, 516, 521, 528, 533, 540, 545, 552, 559] : List Addr) ++ ([564, 566, 567, 568, 95, 96, 99, 135, 136, 139, 185, 192, 199, 204, 209, 216, 223, 230, 231, 234, 235, 338, 345, 352, 359, 366, 373, 380, 387, 394, 402, 409, 416, 423, 430, 437, 438, 441, 442, 162] : List Addr) ++ ([163, 164, 167, 168, 169, 239, 240, 241, 244, 245, 246, 247, 248, 251, 252, 253, 254, 255, 258, 259, 260, 261, 262, 266, 267, 268, 271, 272, 273, 274, 275, 278, 279, 280, 281, 282, 285, 286, 287, 288] : List Addr) ++ ([289, 292, 293, 294, 295, 296, 299, 300, 301, 302, 303, 306, 307, 308, 309, 310, 313, 314, 315, 316, 317, 320, 321, 322, 445, 446, 447, 448, 449, 452, 453, 454, 455, 456, 459, 460, 461, 462, 463, 466] : List Addr) ++ ([467, 468, 469, 470, 473, 474, 475, 478, 479, 480, 481, 482, 485, 486, 487, 488, 489, 492, 493, 494, 495, 496, 499, 500, 501, 504, 505, 506, 507, 508, 511, 512, 513, 514, 515, 518, 519, 520, 523, 524] : List Addr) ++ ([525, 526, 527, 530, 531, 532, 535, 536, 537, 538, 539, 542, 543, 544, 547, 548, 549, 550, 551, 554, 555, 556, 557, 558, 561, 562, 563, 94, 134, 184, 191, 198, 203, 208, 215, 222, 229, 337, 344, 351] : List Addr) ++ ([358, 365, 372, 379, 386, 393, 401, 395, 408, 415, 422, 429, 436, 89, 90, 91, 92, 93, 129, 130, 131, 132, 133, 179, 180, 181, 182, 183, 186, 187, 188, 189, 190, 193, 194, 195, 196, 197, 200, 201] : List Addr) ++ ([202, 205, 206, 207, 210, 211, 212, 213, 214, 217, 218, 219, 220, 221, 224, 225, 226, 227, 228, 332, 333, 334, 335, 336, 339, 340, 341, 342, 343, 346, 347, 348, 349, 350, 353, 354, 355, 356, 357, 360] : List Addr) ++ ([361, 362, 363, 364, 367, 368, 369, 370, 371, 374, 375, 376, 377, 378, 381, 382, 383, 384, 385, 388, 389, 390, 391, 392, 396, 397, 398, 399, 400, 403, 404, 405, 406, 407, 410, 411, 412, 413, 414, 417] : List Addr) ++ ([418, 419, 420, 421, 424, 425, 426, 427, 428, 431, 432, 433, 434, 435] : List Addr)
abbrev R : PySem.W.OpenRow := PySem.W.OpenLaw.row PySem.Challenge.rw_liveclaims_k12_tables_and_their_lineage
abbrev hk : PySem.W.Hook := hookA ads fa fn ex ts
def ob (s : PySem.W.SharedT) : AlF := obsA ads fa fn ex ts (HandSHeadRun.getT s)
theorem ob_eq (s : PySem.W.SharedT) : ob s = hk.obs s.abs := obsA_eq (HandSHeadRun.getT_eq s)
theorem run (w : World) : HandSHeadRun.RunEq R (PySem.W.view R.prog [56]) hk ob 20000 loose w := by
  intro os
  kernel_rfl
end K12
set_option Elab.async false
set_option linter.all false
set_option maxRecDepth 100000
set_option maxHeartbeats 4000000
namespace K12
open PySem PySem.Spec PyProof.Rows L2 Lc
def spLNm : Sp := fun vs H Q _ => ∃ (t l : Addr), vs = [.ref t] ∧ TapeL l H t ∧ ∀ (x : Str) (H' : Hp), Sh 12 x → nameB (.str x) = true → TapeL l H' t → SameB t H H' → Q (.str x) H'
abbrev sLnm : Stmt := top 41
section
variable {P : Program} {w : World} {K : PySem.W.Frag} {mg : Str → Option Value} {base : Heap} {f fD : Addr} {fd fdD : FuncData}
theorem scLnm : FnScope ["_law_tape_here", "_law_letters", "_law_size", "_law_place", "_law_sign", "_law_k"] ["_law_tape_here"] (defScope sLnm) := ⟨rfl, rfl, rfl, by decide +kernel, rfl, by decide +kernel, by decide +kernel⟩
theorem ok_lnm (F : Fun K "_law_name" "_law_name" sLnm f fd) (T : Bt mg) (GD : FnOk P w K mg base CX0 1 fD fdD ["_law_tape_here", "_law_many"] spDrawL) (mD : mg "_law_draw" = some (.ref fD)) (kD : PySem.W.keepIn K (.ref fD) = true) (bD : Binds K fdD ["_law_tape_here", "_law_many"] []) :
    FnOk P w K mg base CX0 2 f fd ["_law_tape_here"] spLNm := by
  refine F.ok scLnm (fun vs H Q E h => ?_) (fun cdv A outer s H vs Q E hr h => ?_)
  · obtain ⟨t, l, rfl, _⟩ := h
    rfl
  · obtain ⟨t, l, rfl, hT, k⟩ := h
    replace hT : TapeL l H t := hT
    refine ⟨_, pss_cons (ps_set (i := 1) scLnm.nd rfl (Or.inr rfl) pe_str)
      (pss_cons (ps_set (i := 2) scLnm.nd rfl (Or.inl rfl) (pe_op op_add pe_int (pe_call GD hr (by rfl) mD kD bD .nil pass0 (pa_cons (pv 0) (pa_cons pe_int pa_nil)))))
      (pss_cons (ps_if (pt_cmpR op_eq (pe_call GD hr (by rfl) mD kD bD .nil pass0 (pa_cons (pv 0) (pa_cons pe_int pa_nil))) pe_int (nomark _))
        (pss_cons (ps_set (i := 3) scLnm.nd rfl (Or.inl rfl) (pe_call GD hr (by rfl) mD kD bD .nil pass0 (pa_cons (pv 0) (pa_cons (pv 2) pa_nil))))
        (pss_cons (ps_set (i := 4) scLnm.nd rfl (Or.inl rfl) (pe_ix ix_str (pv 1) (pe_call GD hr (by rfl) mD kD bD .nil pass0 (pa_cons (pv 0) (pa_cons (pe_op op_add pe_int (pe_op op_mul pe_int (pe_callTy call_int1 (by rfl) T.int boot_int (pa_cons (pe_cmpR op_gt (pv 3) pe_int (nomark _)) pa_nil)))) pa_nil))) (fun _ _ => rfl)))
        (pss_one (ps_ret (pe_op op_add_str (pe_op op_add_str (pe_op op_mulS pe_str (pv 3)) (pv 4)) (pe_op op_mulS pe_str (pe_op op_sub (pe_op op_sub (pv 2) pe_int) (pv 3)))))))) pss_nil)
      (pss_one (ps_ret (pe_join pe_str (pe_lc (own := [("_law_k", 5)]) (g := gName 5) (tt := tYes) (te := tOp rIxS (tVar 1) (tCall spDrawL [] E0 (tCons (tVar 0) (tCons (tOp (rI0 fun i j => .int (i + j)) (tC (.int 26)) (tOp (rI CMul fun i j => .int (i * j)) (tC (.int 10)) (tCB (fun xs H Q => (∃ i, xs = [.int i] ∧ Q (.int i) H) ∨ ∃ k, xs = [.bl k] ∧ Q (.int (if k then 1 else 0)) H) (tCons (tOp (rI0 fun i j => .bl (decide (j < i))) (tVar 5) (tC (.int 0))) tNil)))) tNil)))) (by rfl) scLnm.nd (pi_range1 (by rfl) T.range (pa_cons (pv 2) pa_nil))
        (blkOk_by (own := [("_law_k", 5)]) (N := ["_law_tape_here", "_law_letters", "_law_size", "_law_place", "_law_sign", "_law_k"]) (sc := defScope sLnm) (by decide +kernel)) (fun _ _ _ _ _ => pg_name (i := 5) scLnm.nd rfl (Or.inl rfl)) (fun _ _ _ _ _ => pts_nil)
        (fun _ _ _ _ _ => pe_ix ix_str (pv 1) (pe_call GD hr (by rfl) mD kD bD .nil pass0 (pa_cons (pv 0) (pa_cons (pe_op op_add pe_int (pe_op op_mul pe_int (pe_callTy call_int1 (by rfl) T.int boot_int (pa_cons (pe_cmpR op_gt (pv 5) pe_int (nomark _)) pa_nil)))) pa_nil))) (fun _ _ => rfl)))))))), ?_⟩
    have big : ∀ z : Int, 0 ≤ z → z ≤ 1000 → z.natAbs < 2 ^ 4000 := fun z h1 h2 => big1000 h1 h2
    have sl : (signs.cps.toList.length : Int) = 36 := by rw [signs_len]; rfl
    have sz : signs.length ≤ sizeLine := by rw [lenL, signs_len]; decide
    refine ⟨_, rfl, t, l, _, rfl, hT, by decide, big _ (by decide) (by decide), fun k1 H1 u1 v1 T1 S1 => ⟨_, _, rfl, rfl, ?_⟩⟩
    refine ⟨_, rfl, t, l, _, rfl, T1, by decide, big _ (by decide) (by decide), fun k2 H2 u2 v2 T2 S2 => ⟨rfl, _, rfl, ?_⟩⟩
    refine ite2 (fun _ => ?_) (fun _ => ?_)
    · refine ⟨_, rfl, _, rfl, t, l, _, rfl, T2, by omega, big _ (by omega) (by omega), fun k3 H3 u3 v3 T3 S3 => ?_⟩
      refine ⟨_, rfl, _, rfl, _, rfl, _, _, rfl, rfl, .inr ⟨_, rfl, _, _, rfl, rfl, .inl ⟨by decide, by decide⟩, _, _, rfl, rfl, t, l, _, rfl, T3, by split <;> decide, big _ (by split <;> decide) (by split <;> decide), fun k4 H4 u4 v4 T4 S4 => ?_⟩⟩
      obtain ⟨c, hc, mc, isc, ilc⟩ := sgn_at (i := k4) u4 (by split at v4 <;> omega)
      refine ⟨signs, k4, c, rfl, rfl, sz, hc, ?_⟩
      have m1 : Sh k3.toNat (Txt.mul (PySem.Str.ofString "a") k3) := sh_mul sh_a (Nat.le_refl _) (Nat.le_refl _)
      have m2 : Sh 1 (⟨#[c]⟩ : Str) := sh_one (signs_ok c mc)
      have m3 : Sh (1 + k1 - 1 - k3).toNat (Txt.mul (PySem.Str.ofString "a") (1 + k1 - 1 - k3)) := sh_mul sh_a (Nat.le_refl _) (Nat.le_refl _)
      have ss : (100 : Nat) ≤ sizeLine := by decide
      refine ⟨_, rfl, _, _, rfl, rfl, mul_ok a_size (by omega) (by omega), _, rfl, _, _, rfl, rfl, ?_, _, rfl, _, _, rfl, rfl, _, rfl, _, _, rfl, rfl, _, _, rfl, rfl, mul_ok a_size (by omega) (by omega), _, _, rfl, rfl, ?_, ?_⟩
      · have := sh_len m1
        have := sh_len m2
        omega
      · have := sh_len (sh_app m1 m2)
        have := sh_len m3
        omega
      · exact k _ _ ((sh_app (sh_app m1 m2) m3).mono (by omega)) (name_one u3 (by omega) (by omega) isc (fun z => ilc (by rw [z] at v4; simpa using v4))) T4 (((S1.trans S2).trans S3).trans S4)
    · refine ⟨⟨_, rfl⟩, _, rfl, _, rfl, by omega, by omega, fun D hD => ?_⟩
      have nD : D ≠ t := T2.tape.ne hD
      have nL : D ≠ l := by
        obtain ⟨xs, z⟩ := T2.list
        exact Ne.symm (ne_of_none z hD)
      let one : Nat → Str := fun c => ⟨#[c]⟩
      refine lc_it walk_range (fun i H' => ∃ cs : List Nat, H' D = some (.lst ((cs.map one).map V.str)) ∧ cs.length = i ∧ (∀ c ∈ cs, c ∈ signs.cps.toList ∧ inS c = true) ∧ (∀ c r, cs = c :: r → inL c = true) ∧ TapeL l H' t ∧ SameB t H2 H') ⟨[], upd_same, rfl, by simp, nofun, T2.same (Same.upd hD), Same.b t (Same.upd hD)⟩ (fun _ _ _ _ => True.intro) ?_ ?_
      · rintro i y H' H'' hi ⟨cs, h1, h2, h3, h3b, h4, h5⟩ ⟨rfl, rfl⟩
        refine ⟨rfl, ?_⟩
        change tOp rIxS (tVar 1) _ _ _ _
        refine ⟨_, rfl, _, rfl, _, rfl, _, _, rfl, rfl, .inr ⟨_, rfl, _, _, rfl, rfl, .inl ⟨by decide, by decide⟩, _, _, rfl, rfl, t, l, _, rfl, h4, by split <;> decide, big _ (by split <;> decide) (by split <;> decide), fun k4 H4 u4 v4 T4 S4 => ?_⟩⟩
        obtain ⟨c, hc, mc, isc, ilc⟩ := sgn_at (i := k4) u4 (by split at v4 <;> omega)
        refine ⟨signs, k4, c, rfl, rfl, sz, hc, _, S4 _ _ nD h1, by rw [List.length_map, List.length_map, h2]; exact Nat.lt_trans hi (Nat.lt_of_le_of_lt (show (1 + k1).toNat ≤ 12 by omega) (by decide)), ?_⟩
        refine ⟨cs ++ [c], by rw [upd_same, List.map_append, List.map_append]; rfl, by rw [List.length_append, h2]; rfl, fun y hy => ?_, fun c' r' e => ?_, T4.upd nD nL, fun b o n e => ?_⟩
        · rcases List.mem_append.mp hy with hy | hy
          · exact h3 y hy
          · rw [List.mem_singleton.mp hy]
            exact ⟨mc, isc⟩
        · cases cs with
          | nil =>
            have e : c = c' := by injection e
            rw [← e]
            have i0 : i = 0 := by rw [← h2]; rfl
            subst i0
            exact ilc (by simpa using v4)
          | cons d r =>
            injection e with e _
            rw [← e]
            exact h3b d r rfl
        · rw [upd_ne (ne_of_none e hD)]
          exact (h5.trans S4) b o n e
      · rintro H' ⟨cs, h1, h2, h3, h3b, h4, h5⟩
        have e12 : cs.length ≤ 12 := by omega
        have s1 : ∀ y ∈ cs.map one, Sh 1 y := fun y hy => by
          obtain ⟨c, hc, rfl⟩ := List.mem_map.mp hy
          exact sh_one (signs_ok c (h3 c hc).1)
        have sum : ∀ l : List Str, (∀ y ∈ l, Sh 1 y) → (l.map (·.length)).sum ≤ l.length := by
          intro l
          induction l with
          | nil => intro _; simp
          | cons y l ih =>
            intro h
            have := ih fun z hz => h z (List.mem_cons_of_mem _ hz)
            have := sh_len (h y List.mem_cons_self)
            simp only [List.map_cons, List.sum_cons, List.length_cons]
            omega
        have lm : (cs.map one).length = cs.length := List.length_map ..
        refine ⟨_, D, cs.map one, rfl, rfl, .inl (SqL.of h1), by have := sum _ s1; show _ + (cs.map one).length * 0 ≤ _; omega, ?_⟩
        exact k _ _ ((join_sh _ s1).mono (by omega)) (name_join (fun z => by rw [z] at h2; have : (0 : Nat) = (1 + k1).toNat := h2; omega) e12 h3b (fun c hc => (h3 c hc).2)) h4 ((S1.trans S2).trans h5)
end
end K12
set_option Elab.async false
set_option linter.all false
set_option maxRecDepth 100000
set_option maxHeartbeats 4000000
namespace K12
open PySem PySem.Spec PyProof.Rows L2 Lc
abbrev sFr : Stmt := top 42
def spFr : Sp := fun vs H Q _ => ∃ (t c l : Addr) (ss : List Str), vs = [.ref t, .ref l] ∧ TapeL c H t ∧ H l = some (.lst (ss.map V.str)) ∧ ss.length < 36 ∧ ∀ (x : Str) (H' : Hp), Sh 12 x → nameB (.str x) = true → x ∉ ss → TapeL c H' t → SameB t H H' → Q (.str x) H'
theorem ne_tape {H : Hp} {t l : Addr} {ss : List Str} (T : Tape H t) (h : H l = some (.lst (ss.map V.str))) : l ≠ t := fun z => by
  obtain ⟨a, _, _, _, _, ht, _⟩ := T
  rw [z, ht] at h
  cases ss with
  | nil => cases h
  | cons x r =>
    injection h with h
    injection h with h
    injection h with h1 _
    cases h1
section
variable {P : Program} {w : World} {K : PySem.W.Frag} {mg : Str → Option Value} {base : Heap} {f fN : Addr} {fd fdN : FuncData}
theorem scFr : FnScope ["_law_tape_here", "_law_taken", "_law_name_here", "_law_letter"] ["_law_tape_here", "_law_taken"] (defScope sFr) := ⟨rfl, rfl, rfl, by decide +kernel, rfl, by decide +kernel, by decide +kernel⟩
theorem ok_fr (F : Fun K "_law_fresh" "_law_fresh" sFr f fd) (GN : FnOk P w K mg base CX0 2 fN fdN ["_law_tape_here"] spLNm) (mN : mg "_law_name" = some (.ref fN)) (kN : PySem.W.keepIn K (.ref fN) = true) (bN : Binds K fdN ["_law_tape_here"] []) :
    FnOk P w K mg base CX0 3 f fd ["_law_tape_here", "_law_taken"] spFr := by
  refine F.ok scFr (fun vs H Q E h => ?_) (fun cdv A outer s H vs Q E hr h => ?_)
  · obtain ⟨t, c, l, ss, rfl, _⟩ := h
    rfl
  · obtain ⟨t, tl, l, ss, rfl, hT, hl, l36, k⟩ := h
    refine ⟨_, pss_cons (ps_set (i := 2) scFr.nd rfl (Or.inl rfl) (pe_call GN hr (by rfl) mN kN bN .nil pass0 (pa_cons (pv 0) pa_nil)))
      (pss_cons (ps_if (pt_cmpR op_notIn_seq (pv 2) (pv 1) (by rfl)) (pss_one (ps_ret (pv 2))) pss_nil)
      (pss_cons (ps_for PassesOwn.never rfl (pi_str pe_str) (pg_name (i := 3) scFr.nd rfl (Or.inl rfl))
        (pss_one (ps_if (pt_cmpR op_notIn_seq (pe_op op_add_str (pe_slice sl_str (pv 2) po_none (po_some pe_int)) (pv 3)) (pv 1) (by rfl)) (pss_one (ps_ret (pe_op op_add_str (pe_slice sl_str (pv 2) po_none (po_some pe_int)) (pv 3)))) pss_nil)))
      (pss_one (ps_ret (pv 2))))), ?_⟩
    refine ⟨_, rfl, t, tl, rfl, hT, fun x H1 hx nx T1 S1 => ?_⟩
    have hl1 := S1 _ _ (ne_tape hT.tape hl) hl
    have fl : (ss.map V.str).all flatV = true := by simp [flatV]
    have ln := hx.line (by decide)
    refine ⟨_, rfl, _, rfl, l, _, rfl, .inl (SqL.of hl1), rfl, fl, _, rfl, ite2 (fun y => ?_) (fun y => ?_)⟩
    · refine ⟨_, rfl, k x H1 hx nx (fun m => ?_) T1 S1⟩
      rw [if_pos rfl, in_strs, decide_eq_true m] at y
      cases y
    · refine ⟨_, rfl, for_it walk_str (fun i σ H' => (∃ x3 : Option V, σ = [some (.ref t), some (.ref l), some (.str x), x3]) ∧ H' = H1 ∧ ∀ (j : Nat) (c : Nat), j < i → signs.cps[j]? = some c → cutS x none (some 11) ++ (⟨#[c]⟩ : Str) ∈ ss) ⟨⟨_, rfl⟩, rfl, fun j c h => absurd h (Nat.not_lt_zero _)⟩ (fun _ _ _ _ _ => trivial) ?_ ?_⟩
      · rintro i v σ Ha Hb hi ⟨⟨x3, rfl⟩, rfl, all⟩ ⟨rfl, c, hc, rfl⟩
        have hc : signs.cps[i]? = some c := hc
        have mc : c ∈ signs.cps.toList := Array.mem_toList_iff.mpr (Array.mem_of_getElem? hc)
        have isc : inS c = true := decide_eq_true mc
        have cs : c < 1114112 := signs_ok c mc
        have sc : Sh 11 (cutS x none (some 11)) := ⟨by rw [cut_list, List.length_take]; omega, (sh_cut none (some 11) hx).ok⟩
        have so : Sh 1 (⟨#[c]⟩ : Str) := sh_one cs
        have lt : (cutS x none (some 11)).length + (⟨#[c]⟩ : Str).length ≤ sizeLine := Nat.le_trans (Nat.add_le_add (sh_len sc) (sh_len so)) (by decide)
        refine ⟨_, rfl, 11, rfl, x, rfl, ln, _, rfl, _, _, rfl, rfl, lt, _, rfl, l, _, rfl, .inl (SqL.of hl1), rfl, fl, _, rfl, ite2 (fun y => ?_) (fun y => ?_)⟩
        · refine ⟨_, rfl, 11, rfl, x, rfl, ln, _, rfl, _, _, rfl, rfl, lt, k _ _ (sh_app sc so) (name_cut nx isc) (fun m => ?_) T1 S1⟩
          rw [if_pos rfl, in_strs, decide_eq_true m] at y
          cases y
        · refine ⟨⟨_, rfl⟩, rfl, fun j c' hj hc' => ?_⟩
          by_cases e : j = i
          · subst e
            rw [hc] at hc'
            cases hc'
            rw [if_pos rfl, in_strs] at y
            exact of_decide_eq_true (by simpa using y)
          · exact all j c' (by omega) hc'
      · rintro σ H' ⟨⟨x3, rfl⟩, rfl, all⟩
        refine (free_letter (x := x) l36 fun c mc => ?_).elim
        obtain ⟨j, hj⟩ := List.mem_iff_getElem?.mp mc
        rw [Array.getElem?_toList] at hj
        exact all j c (Array.getElem?_eq_some_iff.mp hj).1 hj
end
theorem Same.gone {H H' : Hp} {p : Addr} (s : Same H H') (e : H' p = none) : H p = none := by
  cases q : H p with
  | none => rfl
  | some o => rw [s p o q] at e; cases e
abbrev sCls : Stmt := top 43
/-! ## columns: pairs of texts -/
inductive Cols (H : Hp) : List V → List (Str × Str) → Prop
  | nil : Cols H [] []
  | cons {a : Addr} {z k : Str} {xs : List V} {ps : List (Str × Str)} (e : H a = some (.tup [.str z, .str k])) (r : Cols H xs ps) : Cols H (.ref a :: xs) ((z, k) :: ps)
theorem Cols.t {H H' : Hp} (s : SameT H H') : ∀ {xs : List V} {ps : List (Str × Str)}, Cols H xs ps → Cols H' xs ps
  | _, _, .nil => .nil
  | _, _, .cons e r => .cons (s _ _ e) (Cols.t s r)
theorem Cols.app {H : Hp} : ∀ {xs ys : List V} {ps qs : List (Str × Str)}, Cols H xs ps → Cols H ys qs → Cols H (xs ++ ys) (ps ++ qs)
  | _, _, _, _, .nil, r => r
  | _, _, _, _, .cons e h, r => .cons e (Cols.app h r)
theorem Cols.len {H : Hp} : ∀ {xs : List V} {ps : List (Str × Str)}, Cols H xs ps → xs.length = ps.length
  | _, _, .nil => rfl
  | _, _, .cons _ r => by rw [List.length_cons, List.length_cons, Cols.len r]
def colP (p : Str × Str) : PyData := .tuple [.str p.1, .str p.2]
theorem Cols.dh {H : Hp} : ∀ {xs : List V} {ps : List (Str × Str)}, Cols H xs ps → DhAll H xs (ps.map colP)
  | _, _, .nil => .nil
  | _, _, .cons e r => .cons (.tup e (.cons (.str _) (.cons (.str _) .nil))) (Cols.dh r)
def KindS (k : Str) : Prop := k = "number" ∨ k = "word" ∨ k = "flag"
theorem KindS.sh {k : Str} (h : KindS k) : Sh 100 k := by
  rcases h with rfl | rfl | rfl <;> exact ⟨by decide +kernel, by decide +kernel⟩
def spCls : Sp := fun vs H Q _ => ∃ (t c l n : Addr) (m : Int) (lead : List Str), vs = [.ref t, .ref l, .int m, .ref n] ∧ TapeL c H t ∧ H l = some (.lst (lead.map V.str)) ∧ H n = some (.lst []) ∧ 0 ≤ m ∧ m ≤ 7 ∧ 1 ≤ lead.length ∧ lead.length + m.toNat ≤ 8 ∧ (∀ k ∈ lead, KindS k) ∧
  ∀ (r : Addr) (xs : List V) (ps : List (Str × Str)) (H' : Hp), H' r = some (.tup xs) → Cols H' xs ps → (∀ p ∈ ps, Sh 12 p.1 ∧ nameB (.str p.1) = true ∧ KindS p.2) → (ps.map (·.1)).Nodup → lead.length ≤ ps.length → (ps.map (·.2)).take lead.length = lead → ps.length ≤ lead.length + m.toNat → TapeL c H' t → SameB t H H' → Q (.ref r) H'
section
variable {P : Program} {w : World} {K : PySem.W.Frag} {mg : Str → Option Value} {base : Heap} {f fD fF : Addr} {fd fdD fdF : FuncData}
theorem scCls : FnScope ["_law_tape_here", "_law_lead", "_law_many", "_law_taken", "_law_names", "_law_columns_here", "_law_kinds", "_law_k", "_law_kind"] ["_law_tape_here", "_law_lead", "_law_many", "_law_taken"] (defScope sCls) := ⟨rfl, rfl, rfl, by decide +kernel, rfl, by decide +kernel, by decide +kernel⟩
theorem ok_cls (F : Fun K "_law_columns" "_law_columns" sCls f fd) (T : Bt mg) (GD : FnOk P w K mg base CX0 1 fD fdD ["_law_tape_here", "_law_many"] spDrawL) (mD : mg "_law_draw" = some (.ref fD)) (kD : PySem.W.keepIn K (.ref fD) = true) (bD : Binds K fdD ["_law_tape_here", "_law_many"] [])
    (GF : FnOk P w K mg base CX0 3 fF fdF ["_law_tape_here", "_law_taken"] spFr) (mF : mg "_law_fresh" = some (.ref fF)) (kF : PySem.W.keepIn K (.ref fF) = true) (bF : Binds K fdF ["_law_tape_here", "_law_taken"] []) :
    FnOk P w K mg base CX0 4 f fd ["_law_tape_here", "_law_lead", "_law_many", "_law_taken"] spCls := by
  refine F.ok scCls (fun vs H Q E h => ?_) (fun cdv A outer s H vs Q E hr h => ?_)
  · obtain ⟨t, c, l, n, m, lead, rfl, _⟩ := h
    rfl
  · obtain ⟨t, c, l, n, m, lead, rfl, hT, hl, hn, m0, m7, ld1, ld8, hkl, k⟩ := h
    have hr1 : Room 1 _ := hr.mono (by decide)
    refine ⟨_, pss_cons (ps_set (i := 4) scCls.nd rfl (Or.inl rfl) (pe_callTy call_list_of (by rfl) T.list boot_list (pa_cons (pv 3) pa_nil)))
      (pss_cons (ps_set (i := 5) scCls.nd rfl (Or.inl rfl) (pe_lst pa_nil))
      (pss_cons (ps_set (i := 6) scCls.nd rfl (Or.inl rfl) (pe_callTy call_list_of (by rfl) T.list boot_list (pa_cons (pv 1) pa_nil)))
      (Evl.pss_cut (ps_for PassesOwn.never rfl (pi_range1 (by rfl) T.range (pa_cons (pe_call GD hr1 (by rfl) mD kD bD .nil pass0 (pa_cons (pv 0) (pa_cons (pe_op op_add (pv 2) pe_int) pa_nil))) pa_nil)) (pg_name (i := 7) scCls.nd rfl (Or.inl rfl))
        (pss_one (ps_expr (pe_bm PySem.F.plainAttrs_list PySem.F.slot_list_append PySem.F.type_list_append mt_append (pv 6) (pa_cons (pe_ix ix_list (pe_lst (pa_cons pe_str (pa_cons pe_str (pa_cons pe_str pa_nil)))) (pe_call GD hr1 (by rfl) mD kD bD .nil pass0 (pa_cons (pv 0) (pa_cons pe_int pa_nil))) (fun _ _ => rfl)) pa_nil)))))
      (pss_cons (ps_for PassesOwn.never rfl (pi_list (pv 6)) (pg_name (i := 8) scCls.nd rfl (Or.inl rfl))
        (pss_cons (ps_expr (pe_bm PySem.F.plainAttrs_list PySem.F.slot_list_append PySem.F.type_list_append mt_append (pv 4) (pa_cons (pe_call GF hr (by rfl) mF kF bF .nil pass0 (pa_cons (pv 0) (pa_cons (pv 4) pa_nil))) pa_nil)))
        (pss_one (ps_expr (pe_bm PySem.F.plainAttrs_list PySem.F.slot_list_append PySem.F.type_list_append mt_append (pv 5) (pa_cons (pe_tup (pa_cons (pe_ix ix_list (pv 4) (pe_un un_neg pe_int) (fun _ _ => rfl)) (pa_cons (pv 8) pa_nil))) pa_nil))))))
      (pss_one (ps_ret (pe_callTy call_tuple_of (by rfl) T.tuple boot_tuple (pa_cons (pv 5) pa_nil)))))))), ?_⟩
    refine ⟨_, rfl, n, _, rfl, .inl (SqL.of hn), fun L hL => ⟨by show 0 ≤ sizeLine; decide, fun M hM => ?_⟩⟩
    have yL := Same.upd (o := .lst []) hL
    have yM := Same.upd (o := .lst []) hM
    refine ⟨_, rfl, l, _, rfl, .inl (SqL.of ((yL.trans yM) _ _ hl)), fun N hN => ?_⟩
    have yN := Same.upd (o := .lst (lead.map V.str)) hN
    have nLt := hT.tape.ne hL
    have nMt := (hT.same yL).tape.ne hM
    have nNt := (hT.same (yL.trans yM)).tape.ne hN
    obtain ⟨ys, hc⟩ := hT.list
    have nLc : L ≠ c := Ne.symm (ne_of_none hc hL)
    have nMc : M ≠ c := Ne.symm (ne_of_none (yL _ _ hc) hM)
    have nNc : N ≠ c := Ne.symm (ne_of_none ((yL.trans yM) _ _ hc) hN)
    have eL : upd H L (.lst []) L = some (.lst []) := upd_same
    have nML : L ≠ M := ne_of_none eL hM
    have nNL : L ≠ N := ne_of_none (yM _ _ eL) hN
    have nNM : M ≠ N := ne_of_none (show upd (upd H L (.lst [])) M (.lst []) M = some (.lst []) from upd_same) hN
    have hL3 := (yM.trans yN) _ _ eL
    have hM3 := yN _ _ (show upd (upd H L (.lst [])) M (.lst []) M = some (.lst []) from upd_same)
    have hN3 : upd (upd (upd H L (.lst [])) M (.lst [])) N (.lst (lead.map V.str)) N = some (.lst (lead.map V.str)) := upd_same
    have s3 := yL.trans (yM.trans yN)
    have gM := Same.gone yL hM
    have gN := Same.gone (yL.trans yM) hN
    have hT3 := hT.same s3
    generalize upd (upd (upd H L (.lst [])) M (.lst [])) N (.lst (lead.map V.str)) = H3 at hL3 hM3 hN3 s3 hT3 yN ⊢
    clear yN yM yL eL
    have o3 : 3 ≤ sizeLine := by decide
    let Md : Option V → Option V → List Str → L2.St → Hp → Prop := fun x7 x8 ks σ H' => σ = [some (.ref t), some (.ref l), some (.int m), some (.ref n), some (.ref L), some (.ref M), some (.ref N), x7, x8] ∧ H' N = some (.lst (ks.map V.str)) ∧ (∀ k ∈ ks, KindS k) ∧ TapeL c H' t ∧ SameB t H H'
    refine ⟨fun σ H' => ∃ x7 ks, Md x7 none ks σ H' ∧ H' L = some (.lst []) ∧ H' M = some (.lst []) ∧ (lead.length ≤ ks.length ∧ ks.take lead.length = lead) ∧ ks.length ≤ lead.length + m.toNat, ?_, ?_⟩
    · refine ⟨_, rfl, _, rfl, _, _, rfl, rfl, t, c, _, rfl, hT3, by omega, big1000 (by omega) (by omega), fun k2 H4 u2 w2 T4 S4 => ⟨k2, rfl, by omega, by omega, for_range (n := k2.toNat) (fun i σ H' => ∃ x7 ks, Md x7 none ks σ H' ∧ H' L = some (.lst []) ∧ H' M = some (.lst []) ∧ (ks.length = i + lead.length ∧ ks.take lead.length = lead))
        ⟨_, lead, ⟨rfl, S4 _ _ nNt hN3, hkl, T4, (Same.b t s3).trans S4⟩, S4 _ _ nLt hL3, S4 _ _ nMt hM3, (Nat.zero_add _).symm, List.take_length⟩ ?_ ?_⟩⟩
      · rintro i σ H5 hi ⟨x7, ks, ⟨rfl, hN5, hk5, T5, S5⟩, hL5, hM5, e5, ep⟩
        refine ⟨_, rfl, .inl ⟨rfl, _, SqL.of hN5⟩, o3, fun q hq => ?_⟩
        have zq := Same.upd (o := .lst [.str "number", .str "word", .str "flag"]) hq
        have nq := T5.tape.ne hq
        refine ⟨_, rfl, t, c, _, rfl, T5.same zq, by decide, big1000 (by decide) (by decide), fun k3 H6 u3 w3 T6 S6 => ?_⟩
        obtain ⟨kk, hkk, skk⟩ : ∃ kk : Str, ([.str "number", .str "word", .str "flag"] : List V)[k3.toNat]? = some (.str kk) ∧ KindS kk := by
          have : k3.toNat = 0 ∨ k3.toNat = 1 ∨ k3.toNat = 2 := by omega
          rcases this with e | e | e <;> rw [e]
          · exact ⟨_, rfl, .inl rfl⟩
          · exact ⟨_, rfl, .inr (.inl rfl)⟩
          · exact ⟨_, rfl, .inr (.inr rfl)⟩
        have S7 : SameB t H5 H6 := (Same.b t zq).trans S6
        have hN6 := S7 _ _ nNt hN5
        refine ⟨q, _, _, _, rfl, rfl, SqL.of (S6 _ _ nq upd_same), at_of (j := k3.toNat) (by omega) hkk, N, _, _, rfl, rfl, hN6, ?_, ?_⟩
        · rw [List.length_map, e5]
          exact Nat.lt_of_le_of_lt (show i + lead.length ≤ 8 by omega) (by decide)
        · refine ⟨_, ks ++ [kk], ⟨rfl, by rw [upd_same, List.map_append]; rfl, fun k hk => ?_, T6.upd nNt nNc, fun b o n e => ?_⟩, by rw [upd_ne nNL]; exact S7 _ _ nLt hL5, by rw [upd_ne nNM]; exact S7 _ _ nMt hM5, by rw [List.length_append, e5, List.length_singleton]; omega, by rw [List.take_append_of_le_length (by omega)]; exact ep⟩
          · rcases List.mem_append.mp hk with hk | hk
            · exact hk5 k hk
            · rw [List.mem_singleton.mp hk]; exact skk
          · rw [upd_ne (fun z => by rw [z, gN] at e; cases e)]
            exact (S5.trans S7) b o n e
      · rintro σ H5 ⟨x7, ks, h5, hL5, hM5, e5, ep⟩
        exact ⟨x7, ks, h5, hL5, hM5, ⟨by omega, ep⟩, by omega⟩
    · rintro σ H5 ⟨x7, ks, ⟨rfl, hN5, hk5, T5, S5⟩, hL5, hM5, ⟨e5, ep⟩, e6⟩
      refine ⟨_, rfl, N, rfl, ⟨_, SqL.of hN5⟩, for_list (K := K) (a := N) (xs := ks.map V.str) (fun i σ H' => ∃ (x8 : Option V) (ns : List Str) (xs : List V) (ps : List (Str × Str)), Md x7 x8 ks σ H' ∧ H' L = some (.lst (ns.map V.str)) ∧ H' M = some (.lst xs) ∧ Cols H' xs ps ∧ (∀ p ∈ ps, Sh 12 p.1 ∧ nameB (.str p.1) = true ∧ KindS p.2) ∧ ns.length = i ∧ (ps.length = i ∧ ps.map (·.2) = ks.take i) ∧ ps.map (·.1) = ns ∧ ns.Nodup)
        ⟨_, [], [], [], ⟨rfl, hN5, hk5, T5, S5⟩, hL5, hM5, .nil, nofun, rfl, ⟨rfl, rfl⟩, rfl, List.nodup_nil⟩ (fun i σ H' _ p => by obtain ⟨_, _, _, _, ⟨_, z, _⟩, _⟩ := p; exact SqL.of z) ?_ ?_⟩
      · rintro i x σ H6 hx ⟨x8, ns, xs, ps, ⟨rfl, hN6, _, T6, S6⟩, hL6, hM6, hc6, hp6, e7, ⟨e8, ek⟩, en, nd⟩
        obtain ⟨kk, hkk, rfl⟩ : ∃ kk, ks[i]? = some kk ∧ V.str kk = x := by
          rw [List.getElem?_map] at hx
          cases q : ks[i]? with
          | none => rw [q] at hx; cases hx
          | some kk => rw [q] at hx; exact ⟨kk, rfl, Option.some.inj hx⟩
        have hi8 : i < 8 := Nat.lt_of_lt_of_le (List.getElem?_eq_some_iff.mp hkk).1 (show ks.length ≤ 8 by omega)
        have skk := hk5 kk (List.mem_of_getElem? hkk)
        have lim : ∀ {m : Nat}, m ≤ 8 → m < sizeLine := fun h => Nat.lt_of_le_of_lt h (by decide)
        refine ⟨_, rfl, .inl ⟨rfl, _, SqL.of hL6⟩, _, rfl, _, rfl, t, c, L, ns, rfl, T6, hL6, by omega, fun z H7 hz nz fz T7 S7 => ?_⟩
        have hL7 := S7 _ _ nLt hL6
        have hM7 := S7 _ _ nMt hM6
        have hN7 := S7 _ _ nNt hN6
        have hc7 := hc6.t (SameT.b T6.tape S7)
        refine ⟨L, _, _, rfl, rfl, hL7, by rw [List.length_map, e7]; exact lim (by omega), ?_⟩
        have hc8 := hc7.t (SameT.lst (o := .lst (ns.map V.str ++ [.str z])) hL7)
        have T8 := T7.upd (o := .lst (ns.map V.str ++ [.str z])) nLt nLc
        have hL8 : upd H7 L (.lst (ns.map V.str ++ [.str z])) L = some (.lst (ns.map V.str ++ [.str z])) := upd_same
        have hM8 : upd H7 L (.lst (ns.map V.str ++ [.str z])) M = some (.lst xs) := by rw [upd_ne (Ne.symm nML)]; exact hM7
        have hN8 : upd H7 L (.lst (ns.map V.str ++ [.str z])) N = some (.lst (ks.map V.str)) := by rw [upd_ne (Ne.symm nNL)]; exact hN7
        have S8 : SameB t H (upd H7 L (.lst (ns.map V.str ++ [.str z]))) := fun b o n e => by
          rw [upd_ne (fun z => by rw [z, hL] at e; cases e)]
          exact (S6.trans S7) b o n e
        generalize upd H7 L (.lst (ns.map V.str ++ [.str z])) = H8 at hc8 T8 hL8 hM8 hN8 S8 ⊢
        refine ⟨_, rfl, .inl ⟨rfl, _, SqL.of hM8⟩, _, rfl, _, rfl, L, _, _, _, rfl, rfl, SqL.of hL8, (show atI (ns.map V.str ++ [.str z]) (-1) = some (.str z) from ?_), _, rfl, by show 2 ≤ sizeLine; decide, fun q hq => ?_⟩
        · unfold atI
          rw [show ixN (ns.map V.str ++ [V.str z]).length (-1) = some ns.length from ?_]
          · simp
          · have hl : (ns.map V.str ++ [V.str z]).length = ns.length + 1 := by rw [List.length_append, List.length_map]; rfl
            unfold ixN
            rw [hl, if_neg (by decide), if_pos (by omega)]
            exact congrArg some (by omega)
        have zq := Same.upd (o := .tup [.str z, .str kk]) hq
        have hM9 := zq _ _ hM8
        have lx := hc6.len
        refine ⟨M, _, _, rfl, rfl, hM9, lim (by omega), ?_⟩
        refine ⟨_, ns ++ [z], xs ++ [.ref q], ps ++ [(z, kk)], ⟨rfl, by rw [upd_ne (Ne.symm nNM)]; exact zq _ _ hN8, hk5, (T8.same zq).upd nMt nMc, fun b o n e => ?_⟩, by rw [upd_ne nML, zq _ _ hL8, List.map_append]; rfl, upd_same, ?_, ?_, by rw [List.length_append, e7]; rfl, ⟨by rw [List.length_append, e8]; rfl, by rw [List.map_append, ek, List.take_add_one, hkk]; rfl⟩, by rw [List.map_append, en]; rfl, List.nodup_append.mpr ⟨nd, List.nodup_cons.mpr ⟨nofun, List.nodup_nil⟩, fun a ha b hb => by rw [List.mem_singleton.mp hb]; exact fun e => fz (by rw [← e]; exact ha)⟩⟩
        · rw [upd_ne (fun z => by rw [z, gM] at e; cases e)]
          exact (S8.trans (Same.b t zq)) b o n e
        · have eq : upd H8 q (.tup [.str z, .str kk]) q = some (.tup [.str z, .str kk]) := upd_same
          have hc9 := (hc8.t (SameT.of zq)).app (.cons eq .nil)
          exact hc9.t (SameT.lst hM9)
        · intro p hp
          rcases List.mem_append.mp hp with hp | hp
          · exact hp6 p hp
          · rw [List.mem_singleton.mp hp]; exact ⟨hz, nz, skk⟩
      · rintro σ H6 ⟨x8, ns, xs, ps, ⟨rfl, hN6, _, T6, S6⟩, hL6, hM6, hc6, hp6, e7, ⟨e8, ek⟩, en, nd⟩
        rw [List.length_map] at e8
        refine ⟨_, rfl, M, xs, rfl, .inl ⟨SqL.of hM6, fun r hr => ?_⟩⟩
        have zr := Same.upd (o := .tup xs) hr
        exact k r xs ps _ upd_same (hc6.t (SameT.of zr)) hp6 (by rw [en]; exact nd) (by omega) (by rw [ek, List.length_map, List.take_length]; exact ep) (by omega) (T6.same zr) (S6.trans (Same.b t zr))
end
end K12
set_option Elab.async false
set_option linter.all false
set_option maxRecDepth 100000
set_option maxHeartbeats 4000000
namespace K12
open PySem PySem.Spec PyProof.Rows L2 Lc
def spRatL : Sp := fun vs H Q _ => ∃ (t c : Addr) (b : Bool), vs = [.ref t, .bl b] ∧ TapeL c H t ∧ ∀ (p : Addr) (n d : Int) (H' : Hp), Rt n d → n.natAbs ≤ 10000000000000000000000000000000000000000 → d.natAbs ≤ 10000000000000000000000000000000000000000 → H' p = some (.tup [.int n, .int d]) → H p = none → TapeL c H' t → SameB t H H' → Q (.ref p) H'
abbrev sRat : Stmt := top 40
section
variable {P : Program} {w : World} {K : PySem.W.Frag} {mg : Str → Option Value} {base : Heap} {f : Addr} {fd : FuncData}
theorem scRat : FnScope ["_law_tape_here", "_law_wide", "_law_size", "_law_number", "_law_edge"] ["_law_tape_here", "_law_wide"] (defScope sRat) := ⟨rfl, rfl, rfl, by decide +kernel, rfl, by decide +kernel, by decide +kernel⟩
theorem ok_rat {fD fL : Addr} {fdD fdL : FuncData} (F : Fun K "_law_rational" "_law_rational" sRat f fd) (T : Bt mg) (GD : FnOk P w K mg base CX0 1 fD fdD ["_law_tape_here", "_law_many"] spDrawL) (mD : mg "_law_draw" = some (.ref fD)) (kD : PySem.W.keepIn K (.ref fD) = true) (bD : Binds K fdD ["_law_tape_here", "_law_many"] [])
    (GL : FnOk P w K mg base CX0 1 fL fdL ["_law_n", "_law_d"] spLowest) (mL : mg "_law_lowest" = some (.ref fL)) (kL : PySem.W.keepIn K (.ref fL) = true) (bL : Binds K fdL ["_law_n", "_law_d"] []) : FnOk P w K mg base CX0 2 f fd ["_law_tape_here", "_law_wide"] spRatL := by
  refine F.ok scRat (fun vs H Q E h => ?_) (fun cdv A outer s H vs Q E hr h => ?_)
  · obtain ⟨t, c, b, rfl, _⟩ := h
    rfl
  · obtain ⟨t, c, b, rfl, hT, k⟩ := h
    refine ⟨_, pss_cons (ps_set (i := 2) scRat.nd rfl (Or.inl rfl) (pe_call GD hr (by rfl) mD kD bD .nil pass0 (pa_cons (pv 0) (pa_cons (pe_op op_add pe_int (pe_op op_mul pe_int (pe_callTy call_int1 (by rfl) T.int boot_int (pa_cons (pv 1) pa_nil)))) pa_nil))))
      (pss_cons (ps_if (pt_cmpR op_lt (pv 2) pe_int (nomark _)) (pss_one (ps_ret (pe_tup (pa_cons (pe_op op_sub (pe_call GD hr (by rfl) mD kD bD .nil pass0 (pa_cons (pv 0) (pa_cons pe_int pa_nil))) pe_int) (pa_cons pe_int pa_nil))))) pss_nil)
      (pss_cons (ps_if (pt_cmpR op_lt (pv 2) pe_int (nomark _)) (pss_one (ps_ret (pe_call GL hr (by rfl) mL kL bL .nil pass0 (pa_cons (pe_op op_sub (pe_call GD hr (by rfl) mD kD bD .nil pass0 (pa_cons (pv 0) (pa_cons pe_int pa_nil))) pe_int) (pa_cons (pe_op op_add pe_int (pe_call GD hr (by rfl) mD kD bD .nil pass0 (pa_cons (pv 0) (pa_cons pe_int pa_nil)))) pa_nil))))) pss_nil)
      (pss_cons (ps_if (pt_cmpR op_eq (pv 2) pe_int (nomark _)) (pss_cons (ps_set (i := 3) scRat.nd rfl (Or.inl rfl) (pe_op op_sub (pe_call GD hr (by rfl) mD kD bD .nil pass0 (pa_cons (pv 0) (pa_cons (pe_op op_add (pe_op op_mul pe_int (pe_op op_pow pe_int pe_int)) pe_int) pa_nil))) (pe_op op_pow pe_int pe_int)))
          (pss_one (ps_ret (pe_call GL hr (by rfl) mL kL bL .nil pass0 (pa_cons (pv 3) (pa_cons (pe_op op_add pe_int (pe_call GD hr (by rfl) mD kD bD .nil pass0 (pa_cons (pv 0) (pa_cons (pe_op op_pow pe_int pe_int) pa_nil)))) pa_nil)))))) pss_nil)
      (pss_cons (ps_set (i := 4) scRat.nd rfl (Or.inl rfl) (pe_op op_sub (pe_op op_pow pe_int pe_int) (pe_call GD hr (by rfl) mD kD bD .nil pass0 (pa_cons (pv 0) (pa_cons pe_int pa_nil)))))
      (pss_one (ps_ret (pe_ix ix_list (pe_lst (pa_cons (pe_tup (pa_cons (pv 4) (pa_cons pe_int pa_nil))) (pa_cons (pe_tup (pa_cons (pe_op op_sub pe_int (pv 4)) (pa_cons pe_int pa_nil))) (pa_cons (pe_tup (pa_cons pe_int (pa_cons (pv 4) pa_nil))) (pa_cons (pe_tup (pa_cons (pe_un un_neg pe_int) (pa_cons (pv 4) pa_nil))) pa_nil)))))
        (pe_call GD hr (by rfl) mD kD bD .nil pass0 (pa_cons (pv 0) (pa_cons pe_int pa_nil))) (fun _ _ => rfl)))))))), ?_⟩
    have two : 2 ≤ sizeLine := by decide
    have pw18 : CPow 10 18 := ⟨by decide, by decide, by decide⟩
    have pw40 : CPow 10 40 := ⟨by decide, by decide, by decide⟩
    have b140 : ∀ z : Int, -100000000000000000000000000000000000000000 ≤ z → z ≤ 100000000000000000000000000000000000000000 → z.natAbs < 2 ^ 140 := by
      intro z h1 h2
      have : (2 : Nat) ^ 140 = 1393796574908163946345982392040522594123776 := by decide
      omega
    have big : ∀ z : Int, -100000000000000000000000000000000000000000 ≤ z → z ≤ 100000000000000000000000000000000000000000 → z.natAbs < 2 ^ 4000 := fun z h1 h2 => Nat.lt_of_lt_of_le (b140 z h1 h2) (Nat.pow_le_pow_right (by decide) (by decide))
    have b40 : ∀ z : Int, -10000000000000000000000000000000000000000 ≤ z → z ≤ 10000000000000000000000000000000000000000 → z.natAbs ≤ 10000000000000000000000000000000000000000 := by
      intro z h1 h2
      omega
    refine ⟨_, rfl, _, rfl, .inr ⟨b, rfl, _, _, rfl, rfl, .inl ⟨by decide, by decide⟩, _, _, rfl, rfl, t, c, _, rfl, hT, by cases b <;> decide, by cases b <;> exact big _ (by decide) (by decide), fun k1 H1 u1 v1 T1 S1 => ?_⟩⟩
    refine ⟨_, rfl, _, _, rfl, rfl, _, rfl, ?_⟩
    refine ite2 (fun _ => ?_) (fun _ => ?_)
    · refine ⟨_, rfl, t, c, _, rfl, T1, by decide, big _ (by decide) (by decide), fun k2 H2 u2 v2 T2 S2 => ?_⟩
      refine ⟨_, _, rfl, rfl, two, fun p hp => ?_⟩
      exact k p (k2 - 7) 1 _ (rt_one _) (b40 _ (by omega) (by omega)) (b40 _ (by decide) (by decide)) upd_same ((S1.trans S2).free T2.tape hp) (T2.same (Same.upd hp)) ((S1.trans S2).trans (Same.b t (Same.upd hp)))
    · refine ⟨_, rfl, _, _, rfl, rfl, _, rfl, ?_⟩
      refine ite2 (fun _ => ?_) (fun _ => ?_)
      · refine ⟨_, rfl, t, c, _, rfl, T1, by decide, big _ (by decide) (by decide), fun k2 H2 u2 v2 T2 S2 => ?_⟩
        refine ⟨_, _, rfl, rfl, _, rfl, t, c, _, rfl, T2, by decide, big _ (by decide) (by decide), fun k3 H3 u3 v3 T3 S3 => ?_⟩
        refine ⟨_, _, rfl, rfl, _, _, rfl, by omega, big _ (by omega) (by omega), fun p hp => ?_⟩
        have le := low_le (n := k2 - 200) (d := 1 + k3) (by omega)
        exact k p _ _ _ (low_rt (by omega)) (Nat.le_trans le.1 (b40 _ (by omega) (by omega))) (Nat.le_trans le.2 (b40 _ (by omega) (by omega))) upd_same (((S1.trans S2).trans S3).free T3.tape hp) (T3.same (Same.upd hp)) (((S1.trans S2).trans S3).trans (Same.b t (Same.upd hp)))
      · refine ⟨_, rfl, rfl, _, rfl, ?_⟩
        refine ite2 (fun _ => ?_) (fun _ => ?_)
        · refine ⟨_, rfl, _, _, rfl, rfl, pw18, _, _, rfl, rfl, .inl ⟨by decide, by decide⟩, _, _, rfl, rfl, t, c, _, rfl, T1, ?_, ?_, fun k2 H2 u2 v2 T2 S2 => ?_⟩
          · rw [p18]
            decide
          · rw [p18]
            exact big _ (by decide) (by decide)
          rw [p18] at v2
          refine ⟨_, _, rfl, rfl, pw18, _, _, rfl, rfl, _, rfl, _, rfl, _, _, rfl, rfl, pw18, t, c, _, rfl, T2, ?_, ?_, fun k3 H3 u3 v3 T3 S3 => ?_⟩
          · rw [p18]
            decide
          · rw [p18]
            exact big _ (by decide) (by decide)
          rw [p18] at v3
          refine ⟨_, _, rfl, rfl, _, _, rfl, by omega, big _ (by omega) (by omega), fun p hp => ?_⟩
          have le := low_le (n := k2 - 10 ^ (18 : Int).toNat) (d := 1 + k3) (by omega)
          rw [p18] at le
          refine k p _ _ _ (low_rt (by omega)) ?_ (Nat.le_trans le.2 (b40 _ (by omega) (by omega))) upd_same (((S1.trans S2).trans S3).free T3.tape hp) (T3.same (Same.upd hp)) (((S1.trans S2).trans S3).trans (Same.b t (Same.upd hp)))
          exact Nat.le_trans le.1 (b40 _ (by omega) (by omega))
        · refine ⟨_, _, rfl, rfl, pw40, _, rfl, t, c, _, rfl, T1, by decide, big _ (by decide) (by decide), fun k2 H2 u2 v2 T2 S2 => ?_⟩
          refine ⟨_, _, rfl, rfl, ?_⟩
          rw [p40]
          obtain ⟨ed, he⟩ : ∃ ed : Int, ed = 10000000000000000000000000000000000000000 - k2 := ⟨_, rfl⟩
          rw [show (fun i j : Int => V.int (i - j)) 10000000000000000000000000000000000000000 k2 = V.int ed by rw [he]]
          refine ⟨_, rfl, two, fun a1 ha1 => ⟨_, rfl, _, _, rfl, rfl, two, fun a2 ha2 => ⟨_, rfl, two, fun a3 ha3 => ⟨_, rfl, _, rfl, two, fun a4 ha4 => ⟨by show 4 ≤ sizeLine; decide, fun a5 ha5 => ?_⟩⟩⟩⟩⟩
          have z1 := Same.upd (o := .tup [.int ed, .int 1]) ha1
          have z2 := Same.upd (o := .tup [.int (0 - ed), .int 1]) ha2
          have z3 := Same.upd (o := .tup [.int 1, .int ed]) ha3
          have z4 := Same.upd (o := .tup [.int (-1), .int ed]) ha4
          have z5 := Same.upd (o := .lst [.ref a1, .ref a2, .ref a3, .ref a4]) ha5
          have zz := z1.trans (z2.trans (z3.trans (z4.trans z5)))
          have T5 := T2.same zz
          refine ⟨_, rfl, t, c, _, rfl, T5, by decide, big _ (by decide) (by decide), fun k3 H3 u3 v3 T3 S3 => ?_⟩
          have n5 : a5 ≠ t := (T2.same (z1.trans (z2.trans (z3.trans z4)))).tape.ne ha5
          have n1 : a1 ≠ t := T2.tape.ne ha1
          have n2 : a2 ≠ t := (T2.same z1).tape.ne ha2
          have n3 : a3 ≠ t := (T2.same (z1.trans z2)).tape.ne ha3
          have n4 : a4 ≠ t := (T2.same (z1.trans (z2.trans z3))).tape.ne ha4
          have f0 := S1.trans S2
          have g1 : H a1 = none := f0.free T2.tape ha1
          have g2 : H a2 = none := f0.free T2.tape (z1.free ha2)
          have g3 : H a3 = none := f0.free T2.tape ((z1.trans z2).free ha3)
          have g4 : H a4 = none := f0.free T2.tape ((z1.trans (z2.trans z3)).free ha4)
          have sb := (f0.trans (Same.b t zz)).trans S3
          have e1 := S3 _ _ n1 ((z2.trans (z3.trans (z4.trans z5))) _ _ upd_same)
          have e2 := S3 _ _ n2 ((z3.trans (z4.trans z5)) _ _ upd_same)
          have e3 := S3 _ _ n3 ((z4.trans z5) _ _ upd_same)
          have e4 := S3 _ _ n4 (z5 _ _ upd_same)
          have hL := S3 _ _ n5 (upd_same)
          rcases (by omega : k3 = 0 ∨ k3 = 1 ∨ k3 = 2 ∨ k3 = 3) with rfl | rfl | rfl | rfl
          · exact ⟨a5, _, _, _, rfl, rfl, SqL.of hL, rfl, k a1 _ _ _ (rt_one _) (b40 _ (by omega) (by omega)) (b40 _ (by omega) (by omega)) e1 g1 T3 sb⟩
          · exact ⟨a5, _, _, _, rfl, rfl, SqL.of hL, rfl, k a2 _ _ _ (rt_one _) (b40 _ (by omega) (by omega)) (b40 _ (by omega) (by omega)) e2 g2 T3 sb⟩
          · exact ⟨a5, _, _, _, rfl, rfl, SqL.of hL, rfl, k a3 _ _ _ (rt_inv (by omega)) (b40 _ (by omega) (by omega)) (b40 _ (by omega) (by omega)) e3 g3 T3 sb⟩
          · exact ⟨a5, _, _, _, rfl, rfl, SqL.of hL, rfl, k a4 _ _ _ (rt_ninv (by omega)) (b40 _ (by omega) (by omega)) (b40 _ (by omega) (by omega)) e4 g4 T3 sb⟩
end
end K12
set_option Elab.async false
set_option linter.all false
set_option maxRecDepth 100000
set_option maxHeartbeats 4000000
namespace K12
open PySem PySem.Spec PyProof.Rows L2 Lc
abbrev sLv : Stmt := top 44
abbrev sLvs : Stmt := top 45
/-! ## values -/
inductive Vk : Str → PyData → Prop
  | non (k : Str) : Vk k .none
  | num {n d : Int} (h : Rt n d) (h1 : n.natAbs ≤ 10000000000000000000000000000000000000000) (h2 : d.natAbs ≤ 10000000000000000000000000000000000000000) : Vk "number" (.tuple [.int n, .int d])
  | flag (b : Bool) : Vk "flag" (.bool b)
  | word {x : Str} (h : Sh 12 x) (hn : nameB (.str x) = true) : Vk "word" (.str x)
inductive Vks : List Str → List PyData → Prop
  | nil : Vks [] []
  | cons {k : Str} {d : PyData} {ks : List Str} {ds : List PyData} (h : Vk k d) (r : Vks ks ds) : Vks (k :: ks) (d :: ds)
theorem Vks.app {k : Str} {d : PyData} (h : Vk k d) : ∀ {ks : List Str} {ds : List PyData}, Vks ks ds → Vks (ks ++ [k]) (ds ++ [d])
  | _, _, .nil => .cons h .nil
  | _, _, .cons a r => .cons a (Vks.app h r)
theorem Vks.len : ∀ {ks : List Str} {ds : List PyData}, Vks ks ds → ks.length = ds.length
  | _, _, .nil => rfl
  | _, _, .cons _ r => by rw [List.length_cons, List.length_cons, Vks.len r]
/-- v is d, all its parts are new since H -/
def DhF (H H' : Hp) (v : V) (d : PyData) : Prop := ∀ H2 : Hp, (∀ b o, H b = none → H' b = some o → H2 b = some o) → Dh H2 v d
theorem DhF.now {H H' : Hp} {v : V} {d : PyData} (h : DhF H H' v d) : Dh H' v d := h H' fun _ _ _ e => e
def spVal : Sp := fun vs H Q _ => ∃ (t c : Addr) (kind : Str) (b : Bool), vs = [.ref t, .str kind, .bl b] ∧ TapeL c H t ∧ KindS kind ∧ ∀ (v : V) (d : PyData) (H' : Hp), DhF H H' v d → Vk kind d → TapeL c H' t → SameB t H H' → Q v H'
def spVals : Sp := fun vs H Q _ => ∃ (t c L : Addr) (b : Bool) (xs : List V) (ps : List (Str × Str)), vs = [.ref t, .ref L, .bl b] ∧ TapeL c H t ∧ H L = some (.tup xs) ∧ Cols H xs ps ∧ (∀ p ∈ ps, KindS p.2) ∧ ps.length ≤ 8 ∧
  ∀ (r : Addr) (ds : List PyData) (H' : Hp), DhF H H' (.ref r) (.tuple ds) → Vks (ps.map (·.2)) ds → TapeL c H' t → SameB t H H' → Q (.ref r) H'
abbrev teVs : TE := tCall spVal [] E0 (tCons (tVar 0) (tCons (tVar 4) (tCons (tVar 2) tNil)))
theorem Cols.get {H : Hp} : ∀ {xs : List V} {ps : List (Str × Str)}, Cols H xs ps → ∀ (i : Nat) (x : V), xs[i]? = some x → ∃ a z kk, x = .ref a ∧ H a = some (.tup [.str z, .str kk]) ∧ ps[i]? = some (z, kk)
  | _, _, .nil, i, x, e => by simp at e
  | _, _, .cons h r, 0, x, e => by
    obtain rfl := Option.some.inj e
    exact ⟨_, _, _, rfl, h, rfl⟩
  | _, _, .cons h r, i + 1, x, e => by
    obtain ⟨a, z, kk, h1, h2, h3⟩ := Cols.get r i x (by simpa using e)
    exact ⟨a, z, kk, h1, h2, by simpa using h3⟩
section
variable {P : Program} {w : World} {K : PySem.W.Frag} {mg : Str → Option Value} {base : Heap} {f fD fR fN fV : Addr} {fd fdD fdR fdN fdV : FuncData}
theorem scLv : FnScope ["_law_tape_here", "_law_kind", "_law_wide"] ["_law_tape_here", "_law_kind", "_law_wide"] (defScope sLv) := ⟨rfl, rfl, rfl, by decide +kernel, rfl, by decide +kernel, by decide +kernel⟩
theorem ok_lv (F : Fun K "_law_value" "_law_value" sLv f fd) (GD : FnOk P w K mg base CX0 1 fD fdD ["_law_tape_here", "_law_many"] spDrawL) (mD : mg "_law_draw" = some (.ref fD)) (kD : PySem.W.keepIn K (.ref fD) = true) (bD : Binds K fdD ["_law_tape_here", "_law_many"] [])
    (GR : FnOk P w K mg base CX0 2 fR fdR ["_law_tape_here", "_law_wide"] spRatL) (mR : mg "_law_rational" = some (.ref fR)) (kR : PySem.W.keepIn K (.ref fR) = true) (bR : Binds K fdR ["_law_tape_here", "_law_wide"] [])
    (GN : FnOk P w K mg base CX0 2 fN fdN ["_law_tape_here"] spLNm) (mN : mg "_law_name" = some (.ref fN)) (kN : PySem.W.keepIn K (.ref fN) = true) (bN : Binds K fdN ["_law_tape_here"] []) : FnOk P w K mg base CX0 3 f fd ["_law_tape_here", "_law_kind", "_law_wide"] spVal := by
  refine F.ok scLv (fun vs H Q E h => ?_) (fun cdv A outer s H vs Q E hr h => ?_)
  · obtain ⟨t, c, kind, b, rfl, _⟩ := h
    rfl
  · obtain ⟨t, c, kind, b, rfl, hT, hk, k⟩ := h
    have hr1 : Room 1 _ := hr.mono (by decide)
    refine ⟨_, pss_cons (ps_if (pt_cmpR op_eq (pe_call GD hr1 (by rfl) mD kD bD .nil pass0 (pa_cons (pv 0) (pa_cons pe_int pa_nil))) pe_int (nomark _)) (pss_one (ps_ret pe_non)) pss_nil)
      (pss_cons (ps_if (pt_cmpR op_eq (pv 1) pe_str (nomark _)) (pss_one (ps_ret (pe_call GR hr (by rfl) mR kR bR .nil pass0 (pa_cons (pv 0) (pa_cons (pv 2) pa_nil))))) pss_nil)
      (pss_cons (ps_if (pt_cmpR op_eq (pv 1) pe_str (nomark _)) (pss_one (ps_ret (pe_cmpR op_eq (pe_call GD hr1 (by rfl) mD kD bD .nil pass0 (pa_cons (pv 0) (pa_cons pe_int pa_nil))) pe_int (nomark _)))) pss_nil)
      (pss_cons (ps_if (pt_cmpR op_gt (pe_call GD hr1 (by rfl) mD kD bD .nil pass0 (pa_cons (pv 0) (pa_cons pe_int pa_nil))) pe_int (nomark _)) (pss_one (ps_ret (pe_ix ix_list (pe_lst (pa_cons pe_str (pa_cons pe_str (pa_cons pe_str (pa_cons pe_str pa_nil))))) (pe_call GD hr1 (by rfl) mD kD bD .nil pass0 (pa_cons (pv 0) (pa_cons pe_int pa_nil))) (fun _ _ => rfl)))) pss_nil)
      (pss_one (ps_ret (pe_call GN hr (by rfl) mN kN bN .nil pass0 (pa_cons (pv 0) pa_nil))))))), ?_⟩
    have sh : ∀ {x : Str}, kind ≠ "number" → kind ≠ "flag" → Sh 12 x → nameB (.str x) = true → Vk kind (.str x) := fun n1 n2 h1 h2 => by
      rcases hk with rfl | rfl | rfl
      · exact absurd rfl n1
      · exact .word h1 h2
      · exact absurd rfl n2
    refine ⟨_, rfl, t, c, _, rfl, hT, by decide, big1000 (by decide) (by decide), fun k1 H1 u1 w1 T1 S1 => ⟨rfl, _, rfl, ite2 (fun _ => ?_) (fun _ => ?_)⟩⟩
    · exact k .non .none H1 (fun _ _ => .non) (.non _) T1 S1
    refine ⟨_, rfl, rfl, _, rfl, ite2 (fun y => ?_) (fun y => ?_)⟩
    · have ek : kind = "number" := by have := of_decide_eq_true y; injection this
      refine ⟨_, rfl, _, rfl, t, c, b, rfl, T1, fun p n d H2 rt h1 h2 hp gp T2 S2 => k (.ref p) _ H2 (fun H3 s3 => ?_) (by rw [ek]; exact .num rt h1 h2) T2 (S1.trans S2)⟩
      have gH : H p = none := by
        cases q : H p with
        | none => rfl
        | some o =>
          by_cases z : p = t
          · obtain ⟨_, _, _, _, ht, _⟩ := T1
            rw [z, ht] at gp
            cases gp
          · rw [S1 p o z q] at gp
            cases gp
      exact .tup (s3 _ _ gH hp) (.cons (.int n) (.cons (.int d) .nil))
    have n1 : kind ≠ "number" := fun e => y (decide_eq_true (by rw [e]))
    refine ⟨_, rfl, rfl, _, rfl, ite2 (fun y => ?_) (fun y => ?_)⟩
    · have ek : kind = "flag" := by have := of_decide_eq_true y; injection this
      exact ⟨_, rfl, t, c, _, rfl, T1, by decide, big1000 (by decide) (by decide), fun k2 H2 u2 w2 T2 S2 => ⟨rfl, k _ (.bool _) H2 (fun _ _ => .bl _) (by rw [ek]; exact .flag _) T2 (S1.trans S2)⟩⟩
    have n2 : kind ≠ "flag" := fun e => y (decide_eq_true (by rw [e]))
    refine ⟨_, rfl, t, c, _, rfl, T1, by decide, big1000 (by decide) (by decide), fun k2 H2 u2 w2 T2 S2 => ⟨_, _, rfl, rfl, _, rfl, ite2 (fun _ => ?_) (fun _ => ?_)⟩⟩
    · refine ⟨by show 4 ≤ sizeLine; decide, fun q hq => ?_⟩
      have zq := Same.upd (o := .lst [.str "a", .str "b", .str "ab", .str "b0"]) hq
      have nq := T2.tape.ne hq
      refine ⟨_, rfl, t, c, _, rfl, T2.same zq, by decide, big1000 (by decide) (by decide), fun k3 H3 u3 w3 T3 S3 => ?_⟩
      obtain ⟨x, hx, sx, nx⟩ : ∃ x : Str, ([.str "a", .str "b", .str "ab", .str "b0"] : List V)[k3.toNat]? = some (.str x) ∧ Sh 12 x ∧ nameB (.str x) = true := by
        have : k3.toNat = 0 ∨ k3.toNat = 1 ∨ k3.toNat = 2 ∨ k3.toNat = 3 := by omega
        rcases this with e | e | e | e <;> rw [e]
        · exact ⟨_, rfl, ⟨by decide +kernel, by decide +kernel⟩, by decide +kernel⟩
        · exact ⟨_, rfl, ⟨by decide +kernel, by decide +kernel⟩, by decide +kernel⟩
        · exact ⟨_, rfl, ⟨by decide +kernel, by decide +kernel⟩, by decide +kernel⟩
        · exact ⟨_, rfl, ⟨by decide +kernel, by decide +kernel⟩, by decide +kernel⟩
      exact ⟨q, _, _, _, rfl, rfl, SqL.of (S3 _ _ nq upd_same), at_of (j := k3.toNat) (by omega) hx, k _ (.str x) H3 (fun _ _ => .str x) (sh n1 n2 sx nx) T3 (((S1.trans S2).trans (Same.b t zq)).trans S3)⟩
    · exact ⟨_, rfl, t, c, rfl, T2, fun x H3 hx nx T3 S3 => k _ (.str x) H3 (fun _ _ => .str x) (sh n1 n2 hx nx) T3 ((S1.trans S2).trans S3)⟩
theorem scLvs : FnScope ["_law_tape_here", "_law_columns_here", "_law_wide", "_law_name_here", "_law_kind"] ["_law_tape_here", "_law_columns_here", "_law_wide"] (defScope sLvs) := ⟨rfl, rfl, rfl, by decide +kernel, rfl, by decide +kernel, by decide +kernel⟩
theorem ok_lvs (F : Fun K "_law_values" "_law_values" sLvs f fd) (T : Bt mg) (GV : FnOk P w K mg base CX0 3 fV fdV ["_law_tape_here", "_law_kind", "_law_wide"] spVal) (mV : mg "_law_value" = some (.ref fV)) (kV : PySem.W.keepIn K (.ref fV) = true) (bV : Binds K fdV ["_law_tape_here", "_law_kind", "_law_wide"] []) : FnOk P w K mg base CX0 4 f fd ["_law_tape_here", "_law_columns_here", "_law_wide"] spVals := by
  refine F.ok scLvs (fun vs H Q E h => ?_) (fun cdv A outer s H vs Q E hr h => ?_)
  · obtain ⟨t, c, L, b, xs, ps, rfl, _⟩ := h
    rfl
  · obtain ⟨t, c, L, b, xs, ps, rfl, hT, hL, hc, hk, l8, k⟩ := h
    refine ⟨_, pss_one (ps_ret (pe_callTy call_tuple_of (by rfl) T.tuple boot_tuple (pa_cons (pe_lc (own := [("_law_name_here", 3), ("_law_kind", 4)]) (g := gTup K 2 (gCons (gName 3) (gCons (gName 4) gNil))) (tt := tYes) (te := teVs) (by rfl) scLvs.nd (pi_tup (pv 1)) (blkOk_by (own := [("_law_name_here", 3), ("_law_kind", 4)]) (N := ["_law_tape_here", "_law_columns_here", "_law_wide", "_law_name_here", "_law_kind"]) (sc := defScope sLvs) (by decide +kernel))
      (fun _ _ _ _ _ => pg_tup rfl (pgs_cons (pg_name (i := 3) scLvs.nd rfl (.inl rfl)) (pgs_cons (pg_name (i := 4) scLvs.nd rfl (.inl rfl)) pgs_nil))) (fun _ _ _ _ _ => pts_nil) (fun _ _ _ _ _ => pe_call GV hr (by rfl) mV kV bV .nil pass0 (pa_cons (pv 0) (pa_cons (pv 4) (pa_cons (pv 2) pa_nil))))) pa_nil))), ?_⟩
    refine ⟨_, rfl, L, rfl, ⟨_, SqT.of hL⟩, fun D hD => lc_tup (K := K) (a := L) (xs := xs) (fun i H' => ∃ (ys : List V) (ds : List PyData), H' D = some (.lst ys) ∧ ys.length = i ∧ (∀ H2 : Hp, (∀ b o, b ≠ D → H b = none → H' b = some o → H2 b = some o) → DhAll H2 ys ds) ∧ Vks ((ps.take i).map (·.2)) ds ∧ TapeL c H' t ∧ SameB t H H')
      ⟨[], [], upd_same, rfl, fun _ _ => .nil, .nil, hT.same (Same.upd hD), Same.b t (Same.upd hD)⟩ (fun i H' _ p => by obtain ⟨_, _, _, _, _, _, _, s'⟩ := p; exact SqT.of (s' _ _ (hT.tape.neT hL) hL)) ?_ ?_⟩
    · rintro i x H1 hx ⟨ys, ds, hD1, rfl, hds, hv, T1, S1⟩
      obtain ⟨a, z, kk, rfl, ea, ep⟩ := hc.get _ _ hx
      have ea1 := S1 _ _ (hT.tape.neT ea) ea
      have lx := hc.len
      have hi : ys.length < xs.length := (List.getElem?_eq_some_iff.mp hx).1
      have nD := hT.tape.ne hD
      refine ⟨a, _, rfl, SqT.of ea1, rfl, _, _, rfl, _, _, rfl, rfl, rfl, ?_⟩
      change teVs _ _ _
      refine ⟨_, rfl, _, rfl, _, rfl, t, c, kk, b, rfl, T1, hk _ (List.mem_of_getElem? ep), fun v d H2 hv2 vk T2 S2 => ?_⟩
      refine ⟨ys, S2 _ _ nD hD1, Nat.lt_of_lt_of_le hi (Nat.le_trans (show xs.length ≤ 8 by omega) (by decide)), ys ++ [v], ds ++ [d], upd_same, by rw [List.length_append]; rfl, fun H3 h3 => ?_, ?_, ?_, fun b' o n e => ?_⟩
      · refine DhAll.append (hds H3 fun b' o n1 n2 e => h3 b' o n1 n2 ?_) (.cons (hv2 H3 fun b' o n2 e => ?_) .nil)
        · rw [upd_ne n1]
          exact S2 b' o (hT.tape.ne n2) e
        · have nb : b' ≠ D := fun z => by rw [z, hD1] at n2; cases n2
          have nh : H b' = none := by
            cases q : H b' with
            | none => rfl
            | some o' =>
              by_cases z : b' = t
              · obtain ⟨_, _, _, _, ht, _⟩ := T1
                rw [z, ht] at n2
                cases n2
              · rw [S1 b' o' z q] at n2
                cases n2
          exact h3 b' o nb nh (by rw [upd_ne nb]; exact e)
      · rw [List.take_add_one, ep, List.map_append]
        exact Vks.app vk hv
      · have nc : D ≠ c := by
          obtain ⟨zs, hz⟩ := hT.list
          exact Ne.symm (ne_of_none hz hD)
        exact T2.upd nD nc
      · rw [upd_ne (ne_of_none e hD)]
        exact (S1.trans S2) b' o n e
    · rintro H1 ⟨ys, ds, hD1, _, hds, hv, T1, S1⟩
      refine ⟨D, ys, rfl, .inl ⟨SqL.of hD1, fun r hr => ?_⟩⟩
      have zr := Same.upd (o := .tup ys) hr
      have lx := hc.len
      rw [lx, List.take_length] at hv
      have nt := T1.tape.ne hr
      have gr : H r = none := S1.free T1.tape hr
      refine k r ds _ (fun H2 h2 => .tup (h2 _ _ gr upd_same) (hds H2 fun b' o n1 n2 e => h2 b' o n2 (zr _ _ e))) hv (T1.same zr) (S1.trans (Same.b t zr))
end
end K12
set_option Elab.async false
set_option linter.all false
set_option maxRecDepth 100000
set_option maxHeartbeats 4000000
namespace K12
open PySem PySem.Spec PyProof.Rows L2 Lc
/-! ## entries and the rows that they leave -/
structure En where
  w : Str
  n : Int
  vals : PyData
  au : Str
def En.d (e : En) : PyData := .tuple [.str e.w, .int e.n, e.vals, .str e.au]
abbrev St2 := List (Int × PyData)
def stepS (st : St2) (e : En) : St2 :=
  if e.w = "add" then st ++ [(e.n, e.vals)] else if e.w = "correct" then st.map (fun p => if p.1 = e.n then (p.1, e.vals) else p) else st.filter (fun p => decide (p.1 ≠ e.n))
def stD (es : List En) : St2 := es.foldl stepS []
theorem stD_snoc (es : List En) (e : En) : stD (es ++ [e]) = stepS (stD es) e := by unfold stD; rw [List.foldl_append]; rfl
def usedD (es : List En) : Nat := (es.filter (fun e : En => decide (e.w = ("add" : Str)))).length
theorem usedD_snoc (es : List En) (e : En) : usedD (es ++ [e]) = usedD es + (if e.w = "add" then 1 else 0) := by
  unfold usedD
  rw [List.filter_append, List.length_append]
  by_cases h : e.w = "add"
  · simp [h]
  · simp [h]
/-- what may follow these entries -/
structure OkEn (ks : List Str) (es : List En) (e : En) : Prop where
  au : Sh 12 e.au ∧ nameB (.str e.au) = true
  go : (e.w = "add" ∧ e.n = (usedD es : Int) ∧ ∃ ds, e.vals = .tuple ds ∧ Vks ks ds) ∨ (e.w = "correct" ∧ e.n ∈ (stD es).map (·.1) ∧ ∃ ds, e.vals = .tuple ds ∧ Vks ks ds) ∨ (e.w = "strike" ∧ e.n ∈ (stD es).map (·.1) ∧ e.vals = .none)
inductive OkEs (ks : List Str) : List En → Prop
  | nil : OkEs ks []
  | snoc {es : List En} {e : En} (h : OkEs ks es) (g : OkEn ks es e) : OkEs ks (es ++ [e])
theorem w_ac : ("correct" : Str) ≠ "add" := by decide +kernel
theorem w_as : ("strike" : Str) ≠ "add" := by decide +kernel
theorem w_cs : ("strike" : Str) ≠ "correct" := by decide +kernel
/-- numbers are given in order, and never again -/
theorem OkEs.keys {ks : List Str} {es : List En} (h : OkEs ks es) : ((stD es).map (·.1)).Nodup ∧ (∀ n ∈ (stD es).map (·.1), 0 ≤ n ∧ n < (usedD es : Int)) ∧ (stD es).length ≤ es.length := by
  induction h with
  | nil => exact ⟨List.nodup_nil, nofun, Nat.le_refl _⟩
  | @snoc es e h g ih =>
    obtain ⟨i1, i2, i3⟩ := ih
    rw [stD_snoc, usedD_snoc, List.length_append]
    unfold stepS
    rcases g.go with ⟨hw, hn, _⟩ | ⟨hw, hn, _⟩ | ⟨hw, hn, _⟩
    · rw [if_pos hw, if_pos hw]
      refine ⟨?_, ?_, ?_⟩
      · rw [List.map_append]
        refine List.nodup_append.mpr ⟨i1, List.nodup_cons.mpr ⟨nofun, List.nodup_nil⟩, fun a ha b hb => ?_⟩
        have hb : b = e.n := List.mem_singleton.mp hb
        rw [hb, hn]
        have := (i2 a ha).2
        omega
      · intro n hn'
        rw [List.map_append] at hn'
        rcases List.mem_append.mp hn' with q | q
        · have := i2 n q
          omega
        · have q : n = e.n := List.mem_singleton.mp q
          rw [q, hn]
          omega
      · rw [List.length_append, List.length_singleton]
        simp
        exact i3
    · have na : e.w ≠ "add" := by rw [hw]; exact w_ac
      rw [if_neg na, if_neg na, if_pos hw]
      have em : ((stD es).map (fun p => if p.1 = e.n then (p.1, e.vals) else p)).map (·.1) = (stD es).map (·.1) := by
        rw [List.map_map]
        refine List.map_congr_left fun p _ => ?_
        show (if p.1 = e.n then (p.1, e.vals) else p).1 = p.1
        split <;> rfl
      rw [em, List.length_map]
      exact ⟨i1, fun n hn' => by have := i2 n hn'; omega, by simp; omega⟩
    · have na : e.w ≠ "add" := by rw [hw]; exact w_as
      have nc : e.w ≠ "correct" := by rw [hw]; exact w_cs
      rw [if_neg na, if_neg na, if_neg nc]
      have sub : ((stD es).filter (fun p => decide (p.1 ≠ e.n))).Sublist (stD es) := List.filter_sublist
      refine ⟨(sub.map (·.1)).nodup i1, fun n hn' => ?_, ?_⟩
      · have := i2 n ((sub.map (·.1)).subset hn')
        omega
      · have := sub.length_le
        rw [List.length_singleton]
        omega
theorem OkEs.inv {ks : List Str} {es : List En} {e : En} (h : OkEs ks (es ++ [e])) : OkEs ks es ∧ OkEn ks es e := by
  generalize q : es ++ [e] = l at h
  cases h with
  | nil => simp at q
  | @snoc es' e' h g =>
    obtain ⟨rfl, q2⟩ := List.append_inj' q rfl
    cases q2
    exact ⟨h, g⟩
theorem OkEs.take {ks : List Str} : ∀ {es : List En} (i : Nat), OkEs ks es → OkEs ks (es.take i) := by
  intro es i h
  induction h generalizing i with
  | nil => rw [List.take_nil]; exact .nil
  | @snoc es e h g ih =>
    by_cases l : i ≤ es.length
    · rw [List.take_append_of_le_length l]
      exact ih i
    · rw [List.take_of_length_le (by rw [List.length_append, List.length_singleton]; omega)]
      exact .snoc h g
theorem OkEs.at {ks : List Str} {es : List En} (h : OkEs ks es) {i : Nat} {e : En} (q : es[i]? = some e) : OkEn ks (es.take i) e := by
  have z := OkEs.take (i + 1) h
  rw [List.take_add_one, q] at z
  exact z.inv.2
/-! ## the rows as a dict -/
inductive Rw (H : Hp) : List (Key × V) → St2 → Prop
  | nil : Rw H [] []
  | cons {n : Int} {v : V} {d : PyData} {kvs : List (Key × V)} {st : St2} (h : Dh H v d) (r : Rw H kvs st) : Rw H ((.inl n, v) :: kvs) ((n, d) :: st)
theorem Rw.t {H H' : Hp} (s : SameT H H') : ∀ {kvs : List (Key × V)} {st : St2}, Rw H kvs st → (∀ p ∈ st, noL p.2 = true) → Rw H' kvs st
  | _, _, .nil, _ => .nil
  | _, _, .cons h r, n => .cons (h.t s (n _ List.mem_cons_self)) (Rw.t s r fun p hp => n p (List.mem_cons_of_mem _ hp))
theorem Rw.len {H : Hp} : ∀ {kvs : List (Key × V)} {st : St2}, Rw H kvs st → kvs.length = st.length
  | _, _, .nil => rfl
  | _, _, .cons _ r => by rw [List.length_cons, List.length_cons, Rw.len r]
theorem Rw.app {H : Hp} {n : Int} {v : V} {d : PyData} (hd : Dh H v d) : ∀ {kvs : List (Key × V)} {st : St2}, Rw H kvs st → Rw H (kvs ++ [(.inl n, v)]) (st ++ [(n, d)])
  | _, _, .nil => .cons hd .nil
  | _, _, .cons h r => .cons h (Rw.app hd r)
theorem Rw.val {H : Hp} (n : Int) : ∀ {kvs : List (Key × V)} {st : St2}, Rw H kvs st → (valV kvs (.inl n : Key)).isSome = decide (n ∈ st.map (·.1))
  | _, _, .nil => rfl
  | _, _, .cons (n := m) (v := v) (d := d) (kvs := kvs) (st := st) h r => by
    have ih := Rw.val n r
    by_cases e : m = n
    · rw [valV_pos (p := ((.inl m : Key), v)) (by rw [e]), e]
      simp
    · rw [valV_neg (p := ((.inl m : Key), v)) (by intro z; injection z with z; exact e z), ih]
      have : (n ∈ ((m, d) :: st : St2).map (·.1)) ↔ n ∈ st.map (·.1) := by
        rw [List.map_cons, List.mem_cons]
        exact ⟨fun q => q.resolve_left (fun z => e z.symm), .inr⟩
      simp only [this]
theorem Rw.put {H : Hp} {n : Int} {v : V} {d : PyData} (hd : Dh H v d) : ∀ {kvs : List (Key × V)} {st : St2}, Rw H kvs st → Rw H (kvs.map (fun kv => if kv.1 = (.inl n : Key) then (kv.1, v) else kv)) (st.map fun p => if p.1 = n then (p.1, d) else p)
  | _, _, .nil => .nil
  | _, _, .cons (n := m) h r => by
    rw [List.map_cons, List.map_cons]
    by_cases e : m = n
    · rw [if_pos (by rw [e]), if_pos e]
      exact .cons hd (Rw.put hd r)
    · rw [if_neg (by intro z; injection z with z; exact e z), if_neg e]
      exact .cons h (Rw.put hd r)
theorem Rw.drop {H : Hp} (n : Int) : ∀ {kvs : List (Key × V)} {st : St2}, Rw H kvs st → Rw H (dropK kvs (.inl n : Key)) (st.filter fun p => decide (p.1 ≠ n))
  | _, _, .nil => .nil
  | _, _, .cons (n := m) (v := v) (d := d) h r => by
    unfold dropK
    by_cases e : m = n
    · rw [List.filter_cons_of_neg (by simp [e]), List.filter_cons_of_neg (by simp [e])]
      exact Rw.drop n r
    · rw [List.filter_cons_of_pos (by simp [e]), List.filter_cons_of_pos (by simp [e])]
      exact .cons h (Rw.drop n r)
/-- one entry more, in the dict -/
theorem Rw.entry {H : Hp} {ks : List Str} {es : List En} {e : En} {kvs : List (Key × V)} {v : V} (h : Rw H kvs (stD es)) (o : OkEs ks es) (g : OkEn ks es e) (hd : Dh H v e.vals) :
    (e.w = "strike" → (valV kvs (.inl e.n : Key)).isSome = true ∧ Rw H (dropK kvs (.inl e.n : Key)) (stD (es ++ [e]))) ∧ (e.w ≠ "strike" → Rw H (putK kvs (.inl e.n : Key) v) (stD (es ++ [e]))) := by
  have hv := h.val e.n
  rw [stD_snoc]
  unfold stepS
  rcases g.go with ⟨hw, hn, _⟩ | ⟨hw, hn, _⟩ | ⟨hw, hn, _⟩
  · refine ⟨fun z => absurd (hw.symm.trans z) (Ne.symm w_as), fun _ => ?_⟩
    rw [if_pos hw]
    have ni : e.n ∉ (stD es).map (·.1) := fun m => by have := (o.keys.2.1 _ m).2; omega
    rw [decide_eq_false ni] at hv
    unfold putK
    rw [valV_any, hv, if_neg Bool.false_ne_true]
    exact h.app hd
  · refine ⟨fun z => absurd (z.symm.trans hw) w_cs, fun _ => ?_⟩
    rw [if_neg (by rw [hw]; exact w_ac), if_pos hw]
    rw [decide_eq_true hn] at hv
    unfold putK
    rw [valV_any, hv, if_pos rfl]
    exact h.put hd
  · refine ⟨fun _ => ?_, fun z => absurd hw z⟩
    rw [if_neg (by rw [hw]; exact w_as), if_neg (by rw [hw]; exact w_cs)]
    rw [decide_eq_true hn] at hv
    exact ⟨hv, h.drop e.n⟩
/-! ## entries hold no lists -/
theorem Vk.noL {k : Str} {d : PyData} (h : Vk k d) : noL d = true := by cases h <;> rfl
theorem Vks.noL : ∀ {ks : List Str} {ds : List PyData}, Vks ks ds → noLs ds = true
  | _, _, .nil => rfl
  | _, _, .cons h r => by rw [noLs, h.noL, Vks.noL r]; rfl
theorem OkEn.noL {ks : List Str} {es : List En} {e : En} (g : OkEn ks es e) : Lc.noL e.vals = true := by
  rcases g.go with ⟨_, _, ds, h, v⟩ | ⟨_, _, ds, h, v⟩ | ⟨_, _, h⟩
  · rw [h]; exact v.noL
  · rw [h]; exact v.noL
  · rw [h]; rfl
theorem OkEn.noLd {ks : List Str} {es : List En} {e : En} (g : OkEn ks es e) : Lc.noL e.d = true := by
  show noLs [.str e.w, .int e.n, e.vals, .str e.au] = true
  simp [noLs, Lc.noL, g.noL]
theorem OkEs.noLd {ks : List Str} {es : List En} (h : OkEs ks es) : noLs (es.map En.d) = true := by
  induction h with
  | nil => rfl
  | snoc h g ih => rw [List.map_append, noLs_app, ih]; simp [noLs, g.noLd]
theorem OkEs.noLs {ks : List Str} {es : List En} (h : OkEs ks es) : ∀ p ∈ stD es, Lc.noL p.2 = true := by
  induction h with
  | nil => exact nofun
  | @snoc es e h g ih =>
    intro p hp
    rw [stD_snoc] at hp
    unfold stepS at hp
    rcases g.go with ⟨hw, _⟩ | ⟨hw, _⟩ | ⟨hw, _⟩
    · rw [if_pos hw] at hp
      rcases List.mem_append.mp hp with q | q
      · exact ih p q
      · rw [List.mem_singleton.mp q]; exact g.noL
    · rw [if_neg (by rw [hw]; exact w_ac), if_pos hw] at hp
      obtain ⟨q, hq, rfl⟩ := List.mem_map.mp hp
      by_cases z : q.1 = e.n
      · rw [if_pos z]; exact g.noL
      · rw [if_neg z]; exact ih q hq
    · rw [if_neg (by rw [hw]; exact w_as), if_neg (by rw [hw]; exact w_cs)] at hp
      exact ih p (List.mem_filter.mp hp).1
end K12
set_option Elab.async false
set_option linter.all false
set_option maxRecDepth 100000
set_option maxHeartbeats 4000000
namespace K12
open PySem PySem.Spec PyProof.Rows L2 Lc
abbrev sWithin : Stmt := top 27
abbrev sValue : Stmt := top 28
def isB : V → Bool
  | .bl _ => true
  | _ => false
def valB (kind : Str) (v : V) (b : Bool) : Bool := decide (v = .non) || (if kind = "number" then b else if kind = "word" then nameB v else isB v)
def spWithin : Sp := fun vs H Q _ => ∃ (a : Addr) (n d : Int), vs = [.ref a] ∧ H a = some (.tup [.int n, .int d]) ∧ Q (.bl (limB (.int n) (.int d))) H
def spValue : Sp := fun vs H Q _ => ∃ (v : V) (kind : Str) (b : Bool), vs = [v, .str kind] ∧ Thing H v b ∧ ∀ H', Same H H' → Q (.bl (valB kind v b)) H'
section
variable {P : Program} {w : World} {K : PySem.W.Frag} {mg : Str → Option Value} {base : Heap} {f : Addr} {fd : FuncData} {u1 : Tok} {fR fW fN fD fL fA fQ fX fY : Addr} {fdR fdW fdN fdD fdL fdA fdQ fdX fdY : FuncData}
theorem scWithin : FnScope ["number"] ["number"] (defScope sWithin) := ⟨rfl, rfl, rfl, by decide +kernel, rfl, by decide +kernel, by decide +kernel⟩
theorem ok_within (F : Fun K "within_limit" "within_limit" sWithin f fd) (T : Bt mg) (m1 : mg "LIMIT" = some (.int lim u1)) : FnOk P w K mg base CX0 1 f fd ["number"] spWithin := by
  refine F.ok scWithin (fun vs H Q E h => ?_) (fun cdv A outer s H vs Q E hr h => ?_)
  · obtain ⟨a, n, d, rfl, _⟩ := h
    rfl
  · obtain ⟨a, n, d, rfl, ha, k⟩ := h
    refine ⟨_, pss_one (ps_ret (pe_and (pe_cmpR op_le (pe_callB call_abs (by rfl) T.abs boot_abs (pa_cons (pe_ix ix_tup (pv 0) pe_int (fun _ _ => rfl)) pa_nil)) (pe_glob (v := .int lim) (by rfl) m1 ⟨_, rfl⟩) (nomark _))
      (pe_one (pe_cmpR op_le (pe_ix ix_tup (pv 0) pe_int (fun _ _ => rfl)) (pe_glob (v := .int lim) (by rfl) m1 ⟨_, rfl⟩) (nomark _))))), ?_⟩
    refine ⟨_, rfl, a, _, _, _, rfl, rfl, SqT.of ha, rfl, n, rfl, _, _, rfl, rfl, _, rfl, ?_⟩
    have e : limB (.int n) (.int d) = (decide ((if n < 0 then -n else n) ≤ lim) && decide (d ≤ lim)) := rfl
    rw [e] at k
    by_cases z : (if n < 0 then -n else n) ≤ lim
    · rw [decide_eq_true z] at k ⊢
      exact iteT ⟨_, rfl, a, _, _, _, rfl, rfl, SqT.of ha, rfl, _, _, rfl, rfl, k⟩
    · rw [decide_eq_false z] at k ⊢
      exact iteF k
theorem scValue : FnScope ["value", "kind"] ["value", "kind"] (defScope sValue) := ⟨rfl, rfl, rfl, by decide +kernel, rfl, by decide +kernel, by decide +kernel⟩
theorem dec_str (x y : Str) : decide (V.str x = V.str y) = decide (x = y) := by
  rw [Bool.eq_iff_iff, decide_eq_true_iff, decide_eq_true_iff]
  exact ⟨fun h => by injection h, fun h => by rw [h]⟩
theorem ok_value (F : Fun K "is_value" "is_value" sValue f fd) (GR : FnOk P w K mg base CX0 2 fR fdR ["value"] spIsR) (mR : mg "is_rational" = some (.ref fR)) (kR : PySem.W.keepIn K (.ref fR) = true) (bR : Binds K fdR ["value"] [])
    (GW : FnOk P w K mg base CX0 1 fW fdW ["number"] spWithin) (mW : mg "within_limit" = some (.ref fW)) (kW : PySem.W.keepIn K (.ref fW) = true) (bW : Binds K fdW ["number"] [])
    (GN : FnOk P w K mg base CX0 1 fN fdN ["value"] spName) (mN : mg "is_name" = some (.ref fN)) (kN : PySem.W.keepIn K (.ref fN) = true) (bN : Binds K fdN ["value"] []) : FnOk P w K mg base CX0 3 f fd ["value", "kind"] spValue := by
  refine F.ok scValue (fun vs H Q E h => ?_) (fun cdv A outer s H vs Q E hr h => ?_)
  · obtain ⟨v, kd, b, rfl, _⟩ := h
    rfl
  · obtain ⟨v, kd, b, rfl, th, k⟩ := h
    have hr1 : Room 1 _ := hr.mono (by decide)
    refine ⟨_, pss_cons (ps_if (pt_cmpR op_isN (pv 0) pe_non (nomark _)) (pss_one (ps_ret pe_bl)) pss_nil)
      (pss_cons (ps_if (pt_cmpR op_eq (pv 1) pe_str (nomark _)) (pss_one (ps_ret (pe_and (pe_call GR hr (by rfl) mR kR bR .nil pass0 (pa_cons (pv 0) pa_nil)) (pe_one (pe_call GW hr1 (by rfl) mW kW bW .nil pass0 (pa_cons (pv 0) pa_nil)))))) pss_nil)
      (pss_cons (ps_if (pt_cmpR op_eq (pv 1) pe_str (nomark _)) (pss_one (ps_ret (pe_call GN hr1 (by rfl) mN kN bN .nil pass0 (pa_cons (pv 0) pa_nil)))) pss_nil)
      (pss_one (ps_ret (pe_or (pe_cmpR op_isBA (pv 0) pe_bl (nomark _)) (pe_one (pe_cmpR op_isBA (pv 0) pe_bl (nomark _)))))))), ?_⟩
    refine ⟨_, rfl, rfl, _, rfl, ?_⟩
    have k0 := k H (Same.refl H)
    by_cases z : v = .non
    · rw [decide_eq_true z]
      have e : valB kd v b = true := by unfold valB; rw [decide_eq_true z]; rfl
      rw [e] at k0
      exact iteT k0
    · rw [decide_eq_false z]
      have e : valB kd v b = (if kd = "number" then b else if kd = "word" then nameB v else isB v) := by unfold valB; rw [decide_eq_false z]; rfl
      rw [e] at k0 k
      refine iteF ⟨_, rfl, rfl, _, rfl, ?_⟩
      rw [dec_str]
      by_cases n1 : kd = "number"
      · rw [decide_eq_true n1]
        rw [if_pos n1] at k0
        refine iteT ?_
        cases th with
        | other h n l => exact ⟨_, rfl, v, false, rfl, .other h n, _, rfl, iteF k0⟩
        | @len a xs ea n => exact ⟨_, rfl, _, false, rfl, .len ea n, _, rfl, iteF k0⟩
        | @pair a x y tx ty ea hx hy =>
          refine ⟨_, rfl, _, _, rfl, .pair ea hx hy, _, rfl, ?_⟩
          refine ite2 (fun r => ?_) (fun r => ?_)
          · obtain ⟨n, d, rfl, rfl, _, _⟩ := ratB_ints r
            have e2 : numB (.int n) (.int d) = limB (.int n) (.int d) := by unfold numB; rw [r]; rfl
            rw [e2] at k0
            exact ⟨_, rfl, a, n, d, rfl, ea, k0⟩
          · have e2 : numB x y = false := by unfold numB; rw [show ratB x y = false by simpa using r]; rfl
            rw [e2] at k0
            exact k0
      · rw [decide_eq_false n1]
        rw [if_neg n1] at k0 k
        refine iteF ⟨_, rfl, rfl, _, rfl, ?_⟩
        rw [dec_str]
        obtain ⟨t, ht, hl⟩ := th.ty
        by_cases n2 : kd = "word"
        · rw [decide_eq_true n2]
          rw [if_pos n2] at k
          exact iteT ⟨_, rfl, v, t, rfl, ht, hl, k⟩
        · rw [decide_eq_false n2]
          rw [if_neg n2] at k0
          refine iteF ⟨_, rfl, true, rfl, _, rfl, ?_⟩
          by_cases z1 : v = .bl true
          · rw [decide_eq_true z1]
            rw [z1] at k0
            exact iteT k0
          · rw [decide_eq_false z1]
            refine iteF ⟨_, rfl, false, rfl, ?_⟩
            have e3 : decide (v = .bl false) = isB v := by
              cases v with
              | bl b =>
                cases b with
                | true => exact absurd rfl z1
                | false => rfl
              | _ => rfl
            rw [e3]
            exact k0
end
abbrev sCol : Stmt := top 29
abbrev sCc : Stmt := top 30
abbrev sCn : Stmt := top 31
abbrev sCr : Stmt := top 32
abbrev sRa : Stmt := top 33
abbrev sNu : Stmt := top 34
def kindB : V → Bool
  | .str z => inV (.str z) [.str "number", .str "word", .str "flag"]
  | _ => false
/-- is v a column -/
inductive Ck (H : Hp) : V → Bool → Prop
  | other {v : V} {t : String} (h : TyN H v t) (n : t ≠ "tuple") : Ck H v false
  | len {a : Addr} {xs : List V} (e : H a = some (.tup xs)) (n : xs.length ≠ 2) : Ck H (.ref a) false
  | pair {a : Addr} {x y : V} {tx ty : String} (e : H a = some (.tup [x, y])) (hx : TyN H x tx) (hy : TyN H y ty) (lx : ∀ z, x = .str z → z.length ≤ sizeLine) : Ck H (.ref a) (nameB x && kindB y)
theorem Ck.same {H H' : Hp} {v : V} {b : Bool} (h : Ck H v b) (s : Same H H') : Ck H' v b := by
  cases h with
  | other h n => exact .other (h.same s) n
  | len e n => exact .len (s _ _ e) n
  | pair e hx hy lx => exact .pair (s _ _ e) (hx.same s) (hy.same s) lx
def spCol : Sp := fun vs H Q _ => ∃ (v : V) (b : Bool), vs = [v] ∧ Ck H v b ∧ ∀ H', Same H H' → Q (.bl b) H'
/-! ## what is in order is let through -/
structure ColsOk (ps : List (Str × Str)) : Prop where
  each : ∀ p ∈ ps, Sh 12 p.1 ∧ nameB (.str p.1) = true ∧ KindS p.2
  nd : (ps.map (·.1)).Nodup
  l1 : 1 ≤ ps.length
  l8 : ps.length ≤ 8
theorem KindS.b {k : Str} (h : KindS k) : kindB (.str k) = true := by
  rcases h with rfl | rfl | rfl <;> decide +kernel
def spCcV : Sp := fun vs H Q _ => ∃ (a : Addr) (xs : List V) (ps : List (Str × Str)), vs = [.ref a] ∧ H a = some (.tup xs) ∧ Cols H xs ps ∧ ColsOk ps ∧ ∀ H', Same H H' → Q .non H'
def spCnV : Sp := fun vs H Q _ => ∃ x : Str, vs = [.str x] ∧ Sh 12 x ∧ nameB (.str x) = true ∧ ∀ H', Same H H' → Q .non H'
def spCrV : Sp := fun vs H Q _ => ∃ (a b : Addr) (xs ys : List V) (ps : List (Str × Str)) (ds : List PyData), vs = [.ref a, .ref b] ∧ H a = some (.tup xs) ∧ Cols H xs ps ∧ ps.length ≤ 8 ∧ H b = some (.tup ys) ∧ DhAll H ys ds ∧ Vks (ps.map (·.2)) ds ∧ ∀ H', Same H H' → Q .non H'
def spRa : Sp := fun vs H Q _ => ∃ (l : Addr) (xs : List V) (ks : List Str) (es : List En), vs = [.ref l] ∧ H l = some (.lst xs) ∧ DhAll H xs (es.map En.d) ∧ OkEs ks es ∧ es.length ≤ 1000 ∧ ∀ (r : Addr) (kvs : List (Key × V)) (H' : Hp), Same H H' → H' r = some (.dK kvs) → Rw H' kvs (stD es) → Q (.ref r) H'
def spNu : Sp := fun vs H Q _ => ∃ (l : Addr) (xs : List V) (es : List En), vs = [.ref l] ∧ H l = some (.lst xs) ∧ DhAll H xs (es.map En.d) ∧ es.length ≤ 1000 ∧ ∀ H', Same H H' → Q (.int (usedD es)) H'
/-- a value of a kind is seen as one -/
theorem vk_thing {H : Hp} {k : Str} {v : V} {d : PyData} (h : Dh H v d) (g : Vk k d) : ∃ b, Thing H v b ∧ valB k v b = true := by
  cases g with
  | non k => cases h; exact ⟨false, .other .non (by decide) nofun, by simp [valB]⟩
  | flag b => cases h; exact ⟨false, .other (.bl b) (by decide) nofun, by simp [valB, isB, show ("flag" : Str) ≠ "number" by decide +kernel, show ("flag" : Str) ≠ "word" by decide +kernel]⟩
  | @word x hx hn =>
    cases h
    refine ⟨false, .other (.str x) (by decide) fun y e => ?_, ?_⟩
    · injection e with e
      rw [← e]
      exact Nat.le_trans (sh_len hx) (by decide)
    · unfold valB
      rw [if_neg (by decide +kernel), if_pos rfl, hn, Bool.or_true]
  | @num n d rt h1 h2 =>
    cases h with
    | tup e hs =>
      cases hs with
      | cons a r =>
        cases r with
        | cons b r =>
          cases r
          cases a
          cases b
          refine ⟨_, .pair e (.int n) (.int d), ?_⟩
          have e1 : ratB (.int n) (.int d) = true := by
            show (decide (0 < d) && decide (gd n d = 1)) = true
            rw [decide_eq_true rt.pos, decide_eq_true rt.cop]
            rfl
          have e2 : limB (.int n) (.int d) = true := by
            show (decide ((if n < 0 then -n else n) ≤ lim) && decide (d ≤ lim)) = true
            rw [decide_eq_true (by unfold lim; split <;> omega), decide_eq_true (by unfold lim; omega)]
            rfl
          unfold valB numB
          rw [if_pos rfl, e1, e2]
          rfl
/-- the parts of an entry -/
theorem en_of {H : Hp} {v : V} {e : En} (h : Dh H v e.d) : ∃ (a : Addr) (x : V), v = .ref a ∧ H a = some (.tup [.str e.w, .int e.n, x, .str e.au]) ∧ Dh H x e.vals := by
  cases h with
  | @tup a xs _ ea hs =>
    match xs, hs with
    | [p, q, r, s], .cons h1 (.cons h2 (.cons h3 (.cons h4 .nil))) =>
      cases h1
      cases h2
      cases h4
      exact ⟨a, r, rfl, ea, h3⟩
theorem en_get {H : Hp} {xs : List V} {es : List En} (h : DhAll H xs (es.map En.d)) {i : Nat} {x : V} (hx : xs[i]? = some x) : ∃ e, es[i]? = some e ∧ Dh H x e.d := by
  obtain ⟨d, hd, dh⟩ := h.get i x hx
  rw [List.getElem?_map] at hd
  cases q : es[i]? with
  | none => rw [q] at hd; cases hd
  | some e => rw [q] at hd; cases hd; exact ⟨e, rfl, dh⟩
section
variable {P : Program} {w : World} {K : PySem.W.Frag} {mg : Str → Option Value} {base : Heap} {f C fI fN fV k3 : Addr} {fd fdI fdN fdV : FuncData} {u1 : Tok}
theorem scCol : FnScope ["value", "name", "kind"] ["value"] (defScope sCol) := ⟨rfl, rfl, rfl, by decide +kernel, rfl, by decide +kernel, by decide +kernel⟩
theorem ok_col (F : Fun K "is_column" "is_column" sCol f fd) (T : Bt mg) (GN : FnOk P w K mg base CX0 1 fN fdN ["value"] spName) (mN : mg "is_name" = some (.ref fN)) (kN : PySem.W.keepIn K (.ref fN) = true) (bN : Binds K fdN ["value"] [])
    (mK : mg "KINDS" = some (.ref k3)) (hK : ∀ H, SqT K H k3 [.str "number", .str "word", .str "flag"]) : FnOk P w K mg base CX0 2 f fd ["value"] spCol := by
  refine F.ok scCol (fun vs H Q E h => ?_) (fun cdv A outer s H vs Q E hr h => ?_)
  · obtain ⟨v, b, rfl, _⟩ := h
    rfl
  · obtain ⟨v, b, rfl, ck, k⟩ := h
    refine ⟨_, pss_cons (ps_if (PW.pt (pw_or (pt_not (pt_val (pe_callB call_isi (by rfl) T.isi boot_isinstance (pa_cons (pv 0) (pa_cons (pe_bltn (v := .ty "tuple") (by rfl) T.tuple boot_tuple rfl) pa_nil)))))
        (pw_or1 (pt_cmpR op_ne (pe_callB call_len_seq (by rfl) T.len PySem.boot_len (pa_cons (pv 0) pa_nil)) pe_int (nomark _))))) (pss_one (ps_ret pe_bl)) pss_nil)
      (pss_cons (ps_asg (pv 0) (pg_tup rfl (pgs_cons (pg_name (i := 1) scCol.nd rfl (.inl rfl)) (pgs_cons (pg_name (i := 2) scCol.nd rfl (.inl rfl)) pgs_nil))))
      (pss_one (ps_ret (pe_and (pe_call GN hr (by rfl) mN kN bN .nil pass0 (pa_cons (pv 1) pa_nil)) (pe_and (pe_callB call_isi (by rfl) T.isi boot_isinstance (pa_cons (pv 2) (pa_cons (pe_bltn (v := .ty "str") (by rfl) T.str boot_str rfl) pa_nil)))
        (pe_one (pe_cmpR op_in_seq (pv 2) (pe_glob (v := .ref k3) (by rfl) mK rfl) (by rfl)))))))), ?_⟩
    have k0 := k H (Same.refl H)
    cases ck with
    | @other _ t ty n =>
      refine ⟨_, rfl, v, .ty "tuple", _, _, _, rfl, .ty "tuple", ty.x, kit_tuple ty.mem, _, rfl, ?_⟩
      rw [show (t == "tuple") = false by simpa using n]
      exact iteT (iteT k0)
    | @len a xs e n =>
      refine ⟨_, rfl, .ref a, .ty "tuple", _, _, _, rfl, .ty "tuple", (TyN.tup e).x, kit_tuple (by decide), _, rfl, ?_⟩
      refine iteF ⟨_, rfl, a, xs, rfl, .inr (SqT.of e), rfl, _, rfl, ?_⟩
      rw [show decide (V.int (xs.length : Int) = V.int 2) = false from decide_eq_false (fun q => n (by injection q with q; omega))]
      exact iteT k0
    | @pair a x y tx ty e hx hy lx =>
      refine ⟨_, rfl, .ref a, .ty "tuple", _, _, _, rfl, .ty "tuple", (TyN.tup e).x, kit_tuple (by decide), _, rfl, ?_⟩
      refine iteF ⟨_, rfl, a, _, rfl, .inr (SqT.of e), rfl, _, rfl, ?_⟩
      refine iteF ⟨_, rfl, a, _, rfl, SqT.of e, rfl, _, _, rfl, _, _, rfl, rfl, ?_⟩
      refine ⟨_, rfl, x, tx, rfl, hx, lx, fun H1 e1 => ⟨_, rfl, ?_⟩⟩
      have k1 := k H1 e1
      cases nb : nameB x with
      | false =>
        rw [nb] at k1
        exact iteF k1
      | true =>
        rw [nb, Bool.true_and] at k1
        refine iteT ⟨_, rfl, y, .ty "str", _, _, _, rfl, .ty "str", (hy.same e1).x, kit_str hy.mem, _, rfl, ?_⟩
        by_cases st : ty = "str"
        · obtain ⟨z, rfl⟩ := hy.isStr st
          subst st
          exact iteT ⟨_, rfl, k3, _, rfl, .inr (hK _), rfl, rfl, k1⟩
        · rw [show (ty == "str") = false by simpa using st]
          rw [show kindB y = false by cases hy <;> first | rfl | exact absurd rfl st] at k1
          exact iteF k1
theorem scCn : FnScope ["value"] ["value"] (defScope sCn) := ⟨rfl, rfl, rfl, by decide +kernel, rfl, by decide +kernel, by decide +kernel⟩
theorem ok_cnV (F : Fun K "check_name" "check_name" sCn f fd) (GN : FnOk P w K mg base CX0 1 fN fdN ["value"] spName) (mN : mg "is_name" = some (.ref fN)) (kN : PySem.W.keepIn K (.ref fN) = true) (bN : Binds K fdN ["value"] []) : FnOk P w K mg base CX0 2 f fd ["value"] spCnV := by
  refine F.ok scCn (fun vs H Q E h => ?_) (fun cdv A outer s H vs Q E hr h => ?_)
  · obtain ⟨x, rfl, _⟩ := h
    rfl
  · obtain ⟨x, rfl, sx, nx, k⟩ := h
    refine ⟨_, pss_one (ps_if (pt_not (pt_val (pe_call GN hr (by rfl) mN kN bN .nil pass0 (pa_cons (pv 0) pa_nil)))) pss_dead pss_nil), ?_⟩
    refine ⟨_, rfl, _, _, rfl, .str x, fun z e => ?_, fun H1 e1 => ⟨_, rfl, ?_⟩⟩
    · injection e with e
      rw [← e]
      exact Nat.le_trans (sh_len sx) (by decide)
    · rw [nx]
      exact iteF (k H1 e1)
theorem scCc : FnScope ["columns", "names", "index", "column"] ["columns"] (defScope sCc) := ⟨rfl, rfl, rfl, by decide +kernel, rfl, by decide +kernel, by decide +kernel⟩
theorem ok_ccV (F : Fun K "check_columns" "check_columns" sCc f fd) (T : Bt mg) (m1 : mg "MOST_COLUMNS" = some (.int 8 u1)) (GN : FnOk P w K mg base CX0 2 fN fdN ["value"] spCol) (mN : mg "is_column" = some (.ref fN)) (kN : PySem.W.keepIn K (.ref fN) = true) (bN : Binds K fdN ["value"] []) : FnOk P w K mg base CX0 3 f fd ["columns"] spCcV := by
  refine F.ok scCc (fun vs H Q E h => ?_) (fun cdv A outer s H vs Q E hr h => ?_)
  · obtain ⟨a, xs, ps, rfl, _⟩ := h
    rfl
  · obtain ⟨a, xs, ps, rfl, ha, hc, hp, k⟩ := h
    refine ⟨_, pss_cons (ps_if (PW.pt (pw_or (pt_not (pt_val (pe_callB call_isi (by rfl) T.isi boot_isinstance (pa_cons (pv 0) (pa_cons (pe_bltn (v := .ty "tuple") (by rfl) T.tuple boot_tuple rfl) pa_nil)))))
        (pw_or (pt_cmpR op_eq (pe_callB call_len_seq (by rfl) T.len PySem.boot_len (pa_cons (pv 0) pa_nil)) pe_int (nomark _))
        (pw_or1 (pt_cmpR op_gt (pe_callB call_len_seq (by rfl) T.len PySem.boot_len (pa_cons (pv 0) pa_nil)) (pe_glob (v := .int 8) (by rfl) m1 ⟨_, rfl⟩) (nomark _)))))) pss_dead pss_nil)
      (pss_cons (ps_set (i := 1) scCc.nd rfl (Or.inl rfl) (pe_lst pa_nil))
      (pss_one (ps_for PassesOwn.never rfl (pi_enT (by rfl) T.enum (pa_cons (pv 0) pa_nil)) (pg_tup rfl (pgs_cons (pg_name (i := 2) scCc.nd rfl (.inl rfl)) (pgs_cons (pg_name (i := 3) scCc.nd rfl (.inl rfl)) pgs_nil)))
        (pss_cons (ps_if (PW.pt (pw_or (pt_not (pt_val (pe_call GN hr (by rfl) mN kN bN .nil pass0 (pa_cons (pv 3) pa_nil)))) (pw_or1 (pt_cmpR op_in_seq (pe_ix ix_tup (pv 3) pe_int (fun _ _ => rfl)) (pv 1) (by rfl))))) pss_dead pss_nil)
        (pss_one (ps_expr (pe_bm PySem.F.plainAttrs_list PySem.F.slot_list_append PySem.F.type_list_append mt_append (pv 1) (pa_cons (pe_ix ix_tup (pv 3) pe_int (fun _ _ => rfl)) pa_nil)))))))), ?_⟩
    have lx := hc.len
    have l1 := hp.l1
    have l8 := hp.l8
    refine ⟨_, rfl, .ref a, .ty "tuple", _, _, _, rfl, .ty "tuple", (TyN.tup ha).x, kit_tuple (by decide), _, rfl, ?_⟩
    refine iteF ⟨_, rfl, a, xs, rfl, .inr (SqT.of ha), rfl, _, rfl, ?_⟩
    rw [show decide (V.int (xs.length : Int) = V.int 0) = false from decide_eq_false (fun q => by injection q with q; omega)]
    refine iteF ⟨_, rfl, a, xs, rfl, .inr (SqT.of ha), _, _, rfl, rfl, _, rfl, ?_⟩
    rw [decide_eq_false (show ¬ (8 : Int) < (xs.length : Int) by omega)]
    refine iteF ⟨by show 0 ≤ sizeLine; decide, fun L hL => ?_⟩
    have zL := Same.upd (o := .lst []) hL
    refine ⟨_, rfl, a, xs, rfl, SqT.of (zL _ _ ha), for_it (walk_enT (K := K) (a := a) (xs := xs)) (fun i σ H' => ∃ (x2 x3 : Option V), σ = [some (.ref a), some (.ref L), x2, x3] ∧ Same H H' ∧ H' L = some (.lst (((ps.take i).map (·.1)).map V.str)))
      ⟨_, _, rfl, zL, upd_same⟩ (fun i σ H' _ p => by obtain ⟨_, _, _, e, _⟩ := p; exact SqT.of (e _ _ ha)) ?_ ?_⟩
    · rintro i x σ Ha Hb hi ⟨x2, x3, rfl, sa, hLa⟩ ⟨q, i', y, rfl, hq, rfl, e1, e2⟩
      have zq := Same.upd (o := .tup [i', y]) hq
      refine ⟨q, _, rfl, SqT.of upd_same, rfl, _, _, rfl, _, _, rfl, rfl, ?_⟩
      obtain ⟨a', z, kk, rfl, ea, ep⟩ := hc.get _ _ e2
      obtain ⟨sz, nz, kz⟩ := hp.each _ (List.mem_of_getElem? ep)
      have ea2 := (sa.trans zq) _ _ ea
      have lz : ∀ z', V.str z = .str z' → z'.length ≤ sizeLine := fun z' e => by injection e with e; rw [← e]; exact Nat.le_trans (sh_len sz) (by decide)
      have ck := Ck.pair ea2 (.str z) (.str kk) lz
      rw [nz, kz.b] at ck
      refine ⟨_, rfl, _, true, rfl, ck, fun H2 s2 => ⟨_, rfl, iteF ?_⟩⟩
      have hL2 := (zq.trans s2) _ _ hLa
      refine ⟨_, rfl, a', _, _, _, rfl, rfl, SqT.of (s2 _ _ ea2), rfl, _, rfl, L, _, rfl, .inl (SqL.of hL2), rfl, List.all_eq_true.mpr (fun x hx => by obtain ⟨s, _, rfl⟩ := List.mem_map.mp hx; rfl), _, rfl, ?_⟩
      have fr : inV (.str z) (((ps.take i).map (·.1)).map V.str) = false := by
        rw [in_strs]
        refine decide_eq_false fun m => ?_
        have nd := hp.nd
        have sp : ps.map (·.1) = (ps.take i).map (·.1) ++ z :: (ps.drop (i + 1)).map (·.1) := by
          have li := (List.getElem?_eq_some_iff.mp ep)
          conv => lhs; rw [← List.take_append_drop i ps, List.drop_eq_getElem_cons li.1, li.2]
          rw [List.map_append, List.map_cons]
        rw [sp] at nd
        exact (List.nodup_append.mp nd).2.2 z m z List.mem_cons_self rfl
      rw [if_neg Bool.false_ne_true, fr]
      refine iteF ⟨_, rfl, .inl ⟨rfl, _, SqL.of hL2⟩, _, rfl, a', _, _, _, rfl, rfl, SqT.of (s2 _ _ ea2), rfl, L, _, _, rfl, rfl, hL2, ?_, ?_⟩
      · rw [List.length_map, List.length_map, List.length_take]
        exact Nat.lt_of_le_of_lt (show min i ps.length ≤ 8 by omega) (by decide)
      · refine ⟨_, _, rfl, fun b o eb => by rw [upd_ne (ne_of_none eb hL)]; exact ((sa.trans zq).trans s2) b o eb, ?_⟩
        rw [upd_same, List.take_add_one, ep]
        simp
    · rintro σ H' ⟨x2, x3, rfl, sa, _⟩
      exact k H' sa
theorem scCr : FnScope ["columns", "values", "index", "name", "kind"] ["columns", "values"] (defScope sCr) := ⟨rfl, rfl, rfl, by decide +kernel, rfl, by decide +kernel, by decide +kernel⟩
theorem ok_crV (F : Fun K "check_row" "check_row" sCr f fd) (T : Bt mg) (GV : FnOk P w K mg base CX0 3 fV fdV ["value", "kind"] spValue) (mV : mg "is_value" = some (.ref fV)) (kV : PySem.W.keepIn K (.ref fV) = true) (bV : Binds K fdV ["value", "kind"] []) : FnOk P w K mg base CX0 4 f fd ["columns", "values"] spCrV := by
  refine F.ok scCr (fun vs H Q E h => ?_) (fun cdv A outer s H vs Q E hr h => ?_)
  · obtain ⟨a, b, xs, ys, ps, ds, rfl, _⟩ := h
    rfl
  · obtain ⟨a, b, xs, ys, ps, ds, rfl, ha, hc, l8, hb, hd, hv, k⟩ := h
    refine ⟨_, pss_cons (ps_if (PW.pt (pw_or (pt_not (pt_val (pe_callB call_isi (by rfl) T.isi boot_isinstance (pa_cons (pv 1) (pa_cons (pe_bltn (v := .ty "tuple") (by rfl) T.tuple boot_tuple rfl) pa_nil)))))
        (pw_or1 (pt_cmpR op_ne (pe_callB call_len_seq (by rfl) T.len PySem.boot_len (pa_cons (pv 1) pa_nil)) (pe_callB call_len_seq (by rfl) T.len PySem.boot_len (pa_cons (pv 0) pa_nil)) (nomark _))))) pss_dead pss_nil)
      (pss_one (ps_for PassesOwn.never rfl (pi_enT (by rfl) T.enum (pa_cons (pv 0) pa_nil)) (pg_tup rfl (pgs_cons (pg_name (i := 2) scCr.nd rfl (.inl rfl)) (pgs_cons (pg_tup rfl (pgs_cons (pg_name (i := 3) scCr.nd rfl (.inl rfl)) (pgs_cons (pg_name (i := 4) scCr.nd rfl (.inl rfl)) pgs_nil))) pgs_nil)))
        (pss_one (ps_if (pt_not (pt_val (pe_call GV hr (by rfl) mV kV bV .nil pass0 (pa_cons (pe_ix ix_tup (pv 1) (pv 2) (fun _ _ => rfl)) (pa_cons (pv 4) pa_nil))))) pss_dead pss_nil)))), ?_⟩
    have lx := hc.len
    have ly := hd.len
    have lv := hv.len
    rw [List.length_map] at lv
    refine ⟨_, rfl, .ref b, .ty "tuple", _, _, _, rfl, .ty "tuple", (TyN.tup hb).x, kit_tuple (by decide), _, rfl, ?_⟩
    refine iteF ⟨_, rfl, b, ys, rfl, .inr (SqT.of hb), _, rfl, a, xs, rfl, .inr (SqT.of ha), rfl, _, rfl, ?_⟩
    rw [show decide (V.int (ys.length : Int) = V.int (xs.length : Int)) = true from decide_eq_true (by rw [ly, ← lv, ← lx])]
    refine iteF ?_
    refine ⟨_, rfl, a, xs, rfl, SqT.of ha, for_it (walk_enT (K := K) (a := a) (xs := xs)) (fun i σ H' => (∃ (x2 x3 x4 : Option V), σ = [some (.ref a), some (.ref b), x2, x3, x4]) ∧ Same H H') ⟨⟨_, _, _, rfl⟩, Same.refl H⟩ (fun i σ H' _ p => SqT.of (p.2 _ _ ha)) ?_ ?_⟩
    · rintro i x σ Ha Hb hi ⟨⟨x2, x3, x4, rfl⟩, sa⟩ ⟨q, i', y, rfl, hq, rfl, e1, e2⟩
      obtain rfl : V.int ((i : Nat) : Int) = i' := Option.some.inj e1
      have zq := Same.upd (o := .tup [.int ((i : Nat) : Int), y]) hq
      have s1 := sa.trans zq
      obtain ⟨a', z, kk, rfl, ea, ep⟩ := hc.get _ _ e2
      refine ⟨q, _, rfl, SqT.of upd_same, rfl, _, _, rfl, _, _, rfl, ⟨a', _, rfl, SqT.of (s1 _ _ ea), rfl, _, _, rfl, _, _, rfl, rfl, rfl, ?_⟩⟩
      have hyl : i < ys.length := by omega
      obtain ⟨d, hdi, dh⟩ := hd.get i _ (List.getElem?_eq_getElem hyl)
      have vk : Vk kk d := by
        have gen : ∀ {ks : List Str} {ds : List PyData}, Vks ks ds → ∀ (j : Nat) (k : Str) (d : PyData), ks[j]? = some k → ds[j]? = some d → Vk k d := by
          intro ks ds h
          induction h with
          | nil => intro j k d e; simp at e
          | cons h r ih =>
            intro j k d e1 e2
            cases j with
            | zero => cases e1; cases e2; exact h
            | succ j => exact ih j k d (by simpa using e1) (by simpa using e2)
        exact gen hv i kk d (by rw [List.getElem?_map, ep]; rfl) hdi
      obtain ⟨bb, th, vb⟩ := vk_thing (dh.same s1) vk
      refine ⟨_, rfl, _, rfl, b, _, _, _, rfl, rfl, SqT.of (s1 _ _ hb), at_of (j := i) rfl (List.getElem?_eq_getElem hyl), _, rfl, _, kk, bb, rfl, th, fun H2 s2 => ⟨_, rfl, ?_⟩⟩
      rw [vb]
      exact iteF ⟨⟨_, _, _, rfl⟩, s1.trans s2⟩
    · rintro σ H' ⟨⟨x2, x3, x4, rfl⟩, sa⟩
      exact k H' sa
theorem scRa : FnScope ["entries", "rows", "word", "number", "values", "author"] ["entries"] (defScope sRa) := ⟨rfl, rfl, rfl, by decide +kernel, rfl, by decide +kernel, by decide +kernel⟩
theorem ok_ra (F : Fun K "rows_after" "rows_after" sRa f fd) : FnOk P w K mg base CX0 1 f fd ["entries"] spRa := by
  refine F.ok scRa (fun vs H Q E h => ?_) (fun cdv A outer s H vs Q E hr h => ?_)
  · obtain ⟨l, xs, ks, es, rfl, _⟩ := h
    rfl
  · obtain ⟨l, xs, ks, es, rfl, hl, hd, ho, ln, k⟩ := h
    refine ⟨_, pss_cons (ps_set (i := 1) scRa.nd rfl (Or.inl rfl) pe_dnewK) (pss_cons (ps_for PassesOwn.never rfl (pi_list (pv 0)) (pg_tup rfl (pgs_cons (pg_name (i := 2) scRa.nd rfl (.inl rfl)) (pgs_cons (pg_name (i := 3) scRa.nd rfl (.inl rfl)) (pgs_cons (pg_name (i := 4) scRa.nd rfl (.inl rfl)) (pgs_cons (pg_name (i := 5) scRa.nd rfl (.inl rfl)) pgs_nil)))))
        (pss_one (ps_if (pt_cmpR op_eq (pv 2) pe_str (nomark _)) (pss_one (ps_ddel (pv 1) (pv 3))) (pss_one (ps_dput (Nat.lt_of_le_of_lt (Nat.add_le_add_left (show 1 ≤ 64 by decide) _) hr.units) (pv 1) (pv 3) (pv 4) (by rfl)))))) (pss_one (ps_ret (pv 1)))), fun r hr0 => ?_⟩
    have z := Same.upd (o := .dK []) hr0
    have lx : xs.length = es.length := by rw [hd.len, List.length_map]
    refine ⟨_, rfl, l, rfl, ⟨_, SqL.of (z _ _ hl)⟩, for_list (K := K) (a := l) (xs := xs) (fun i σ H' => ∃ (x2 x3 x4 x5 : Option V) (kvs : List (Key × V)), σ = [some (.ref l), some (.ref r), x2, x3, x4, x5] ∧ Same H H' ∧ H' r = some (.dK kvs) ∧ Rw H' kvs (stD (es.take i)))
      ⟨_, _, _, _, [], rfl, z, upd_same, .nil⟩ (fun i σ H' _ p => by obtain ⟨_, _, _, _, _, _, s', _⟩ := p; exact SqL.of (s' _ _ hl)) ?_ ?_⟩
    · rintro i x σ H1 hx ⟨x2, x3, x4, x5, kvs, rfl, s1, hr1, rw1⟩
      obtain ⟨e, he, de⟩ := en_get hd hx
      have og := ho.at he
      have op := OkEs.take i ho
      obtain ⟨a, v, rfl, ea, dv⟩ := en_of (de.same s1)
      have ei := og.noL
      obtain ⟨c1, c2⟩ := rw1.entry op og dv
      have ek : es.take (i + 1) = es.take i ++ [e] := by rw [List.take_add_one, he]; rfl
      have li : i < es.length := (List.getElem?_eq_some_iff.mp he).1
      have lk : kvs.length ≤ 1000 := by
        rw [rw1.len]
        have := op.keys.2.2
        rw [List.length_take] at this
        omega
      have st : ∀ o, SameT H1 (upd H1 r o) := fun o b xs eb => by rw [upd_ne (ne_of eb hr1 nofun)]; exact eb
      have sm : ∀ o, Same H (upd H1 r o) := fun o b o' eb => by rw [upd_ne (ne_of_none eb hr0)]; exact s1 b o' eb
      have nl : ∀ p ∈ stD (es.take i ++ [e]), Lc.noL p.2 = true := (OkEs.snoc op og).noLs
      refine ⟨a, _, rfl, SqT.of ea, rfl, _, _, rfl, _, _, rfl, _, _, rfl, _, _, rfl, rfl, ?_⟩
      refine ⟨_, rfl, rfl, _, rfl, ite2 (fun y => ?_) (fun y => ?_)⟩
      · have ew : e.w = "strike" := by have := of_decide_eq_true y; injection this
        obtain ⟨q1, q2⟩ := c1 ew
        refine ⟨_, rfl, _, rfl, r, kvs, .inl e.n, rfl, hr1, rfl, q1, _, _, _, _, _, rfl, sm _, upd_same, ?_⟩
        rw [ek]
        exact q2.t (st _) nl
      · have ew : e.w ≠ "strike" := fun q => y (decide_eq_true (by rw [q]))
        refine ⟨_, rfl, _, rfl, _, rfl, r, _, rfl, DPut.k (k := .inl e.n) hr1 (Nat.lt_of_le_of_lt lk (by decide)), _, _, _, _, _, rfl, sm _, upd_same, ?_⟩
        rw [ek]
        exact (c2 ew).t (st _) nl
    · rintro σ H1 ⟨x2, x3, x4, x5, kvs, rfl, s1, hr1, rw1⟩
      rw [lx, List.take_length] at rw1
      exact ⟨_, rfl, k r kvs H1 s1 hr1 rw1⟩
abbrev ttNu (K : PySem.W.Frag) : TT := tTest (tOp rEq (tOp (rIxT K) (tVar 1) (tC (.int 0))) (tC (.str "add")))
theorem scNu : FnScope ["entries", "entry"] ["entries"] (defScope sNu) := ⟨rfl, rfl, rfl, by decide +kernel, rfl, by decide +kernel, by decide +kernel⟩
theorem ok_nu (F : Fun K "numbers_used" "numbers_used" sNu f fd) (T : Bt mg) : FnOk P w K mg base CX0 1 f fd ["entries"] spNu := by
  refine F.ok scNu (fun vs H Q E h => ?_) (fun cdv A outer s H vs Q E hr h => ?_)
  · obtain ⟨l, xs, es, rfl, _⟩ := h
    rfl
  · obtain ⟨l, xs, es, rfl, hl, hd, ln, k⟩ := h
    refine ⟨_, pss_one (ps_ret (pe_callB call_len_seq (by rfl) T.len PySem.boot_len (pa_cons (pe_lc (own := [("entry", 1)]) (g := gName 1) (tt := ttNu K) (te := tVar 1) (by rfl) scNu.nd (pi_list (pv 0)) (blkOk_by (own := [("entry", 1)]) (N := ["entries", "entry"]) (sc := defScope sNu) (by decide +kernel))
      (fun _ _ _ _ _ => pg_name (i := 1) scNu.nd rfl (Or.inl rfl)) (fun _ _ _ _ _ => pts_one (pt_cmpR op_eq (pe_ix ix_tup (pv 1) pe_int (fun _ _ => rfl)) pe_str (nomark _))) (fun _ _ _ _ _ => pv 1)) pa_nil))), ?_⟩
    have lx : xs.length = es.length := by rw [hd.len, List.length_map]
    have ul : ∀ i, usedD (es.take i) ≤ 1000 := fun i => by
      unfold usedD
      have := List.length_filter_le (fun e : En => decide (e.w = ("add" : Str))) (es.take i)
      rw [List.length_take] at this
      omega
    refine ⟨_, rfl, l, rfl, ⟨_, SqL.of hl⟩, fun D hD => lc_list (K := K) (a := l) (xs := xs) (fun i H' => ∃ ys : List V, H' D = some (.lst ys) ∧ ys.length = usedD (es.take i) ∧ Same H H') ⟨[], upd_same, rfl, Same.upd hD⟩ (fun i H' _ p => by obtain ⟨_, _, _, s'⟩ := p; exact SqL.of (s' _ _ hl)) ?_ ?_⟩
    · rintro i x H1 hx ⟨ys, hD1, ly, s1⟩
      obtain ⟨e, he, de⟩ := en_get hd hx
      obtain ⟨a, v, rfl, ea, dv⟩ := en_of (de.same s1)
      have ek : es.take (i + 1) = es.take i ++ [e] := by rw [List.take_add_one, he]; rfl
      have eu := usedD_snoc (es.take i) e
      rw [← ek] at eu
      refine ⟨rfl, ?_⟩
      change ttNu K _ _ _
      refine ⟨_, rfl, a, _, _, _, rfl, rfl, SqT.of ea, rfl, rfl, _, rfl, ite2 (fun y => ?_) (fun y => ?_)⟩
      · have ew : e.w = "add" := by have := of_decide_eq_true y; injection this
        rw [if_pos ew] at eu
        refine ⟨_, rfl, ys, hD1, ?_, ys ++ [.ref a], upd_same, ?_, fun b o eb => by rw [upd_ne (ne_of_none eb hD)]; exact s1 b o eb⟩
        · rw [ly]
          exact Nat.lt_of_le_of_lt (ul i) (by decide)
        · rw [List.length_append, ly, eu]; rfl
      · have ew : e.w ≠ "add" := fun q => y (decide_eq_true (by rw [q]))
        rw [if_neg ew] at eu
        exact ⟨ys, hD1, by rw [ly, eu]; rfl, s1⟩
    · rintro H1 ⟨ys, hD1, ly, s1⟩
      rw [lx, List.take_length] at ly
      refine ⟨D, ys, rfl, .inl (SqL.of hD1), ?_⟩
      rw [ly]
      exact k H1 s1
end
end K12
set_option Elab.async false
set_option linter.all false
set_option maxRecDepth 100000
set_option maxHeartbeats 4000000
namespace K12
open PySem PySem.Spec PyProof.Rows L2 Lc
abbrev sRI : Stmt := inClass (top 35) 0
abbrev sCs : Stmt := inClass (top 35) 1
abbrev sCe : Stmt := inClass (top 35) 2
abbrev sAdd : Stmt := inClass (top 35) 3
abbrev sCor : Stmt := inClass (top 35) 4
abbrev sStr : Stmt := inClass (top 35) 5
abbrev sRN : Stmt := inClass (top 35) 6
abbrev sRC : Stmt := inClass (top 35) 7
abbrev sRV : Stmt := inClass (top 35) 8
abbrev sRR : Stmt := inClass (top 35) 9
abbrev sRE : Stmt := inClass (top 35) 10
abbrev sRA : Stmt := inClass (top 35) 11
abbrev sRL : Stmt := inClass (top 35) 14
/-! ## registers -/
structure RgF (K : PySem.W.Frag) (mg : Str → Option Value) (C fI : Addr) : Prop where
  mkC : Mk K C fI
  cls : Cls K C
  a1 : NoAttr K C "called"
  a2 : NoAttr K C "shape"
  a3 : NoAttr K C "log"
  gC : mg "Register" = some (.ref C)
def fsR (nm cv : V) (lg : Addr) : List (Str × V) := [("called", nm), ("shape", cv), ("log", .ref lg)]
structure RD where
  nm : Str
  ps : List (Str × Str)
  es : List En
def IsRg (C : Addr) (H : Hp) (a lg : Addr) (R : RD) : Prop := ∃ (dx cv : Addr) (xs ys : List V), H a = some (.ins C dx (fsR (.str R.nm) (.ref cv) lg)) ∧ H cv = some (.tup xs) ∧ Cols H xs R.ps ∧ H lg = some (.lst ys) ∧ DhAll H ys (R.es.map En.d)
structure OkR (R : RD) : Prop where
  nm : Sh 12 R.nm ∧ nameB (.str R.nm) = true
  cols : ColsOk R.ps
  es : OkEs (R.ps.map (·.2)) R.es
  ln : R.es.length ≤ 100
theorem Cols.same {H H' : Hp} {xs : List V} {ps : List (Str × Str)} (h : Cols H xs ps) (s : Same H H') : Cols H' xs ps := h.t (SameT.of s)
theorem IsRg.same {C : Addr} {H H' : Hp} {a lg : Addr} {R : RD} (h : IsRg C H a lg R) (s : Same H H') : IsRg C H' a lg R := by
  obtain ⟨dx, cv, xs, ys, h1, h2, h3, h4, h5⟩ := h
  exact ⟨dx, cv, xs, ys, s _ _ h1, s _ _ h2, h3.same s, s _ _ h4, DhAll.same s h5⟩
/-- another list is written -/
theorem IsRg.off {C : Addr} {H H' : Hp} {a lg l : Addr} {R : RD} {zs : List V} (h : IsRg C H a lg R) (o : OkR R) (hl : H l = some (.lst zs)) (n : lg ≠ l) (s : SameB l H H') : IsRg C H' a lg R := by
  obtain ⟨dx, cv, xs, ys, h1, h2, h3, h4, h5⟩ := h
  have st := SameT.at hl (fun xs => nofun) s
  exact ⟨dx, cv, xs, ys, s _ _ (ne_of h1 hl nofun) h1, st _ _ h2, h3.t st, s _ _ n h4, DhAll.t st h5 o.es.noLd⟩
theorem IsRg.list {C : Addr} {H : Hp} {a lg : Addr} {R : RD} (h : IsRg C H a lg R) : ∃ ys, H lg = some (.lst ys) := by
  obtain ⟨dx, cv, xs, ys, h1, h2, h3, h4, h5⟩ := h
  exact ⟨ys, h4⟩
def rowsD (st : St2) : List PyData := st.map fun p => .tuple [.int p.1, p.2]
def auD (es : List En) (n : Int) : List Str := (es.filter fun e => decide (e.n = n)).map (·.au)
/-- a new list of data -/
def NewL (H : Hp) (ds : List PyData) (Q : VK) : Prop := ∀ (r : Addr) (zs : List V) (H' : Hp), Same H H' → H r = none → H' r = some (.lst zs) → DhAll H' zs ds → Q (.ref r) H'
def spRI (C : Addr) : Sp := fun vs H Q _ => ∃ (a dx : Addr) (nm : Str) (cv : Addr) (xs : List V) (ps : List (Str × Str)), vs = [.ref a, .str nm, .ref cv] ∧ H a = some (.ins C dx []) ∧ Sh 12 nm ∧ nameB (.str nm) = true ∧ H cv = some (.tup xs) ∧ Cols H xs ps ∧ ColsOk ps ∧
  ∀ (lg : Addr) (H' : Hp), SameB a H H' → H lg = none → IsRg C H' a lg ⟨nm, ps, []⟩ → Q .non H'
def spCs (C : Addr) : Sp := fun vs H Q _ => ∃ (a lg : Addr) (R : RD) (n : Int), vs = [.ref a, .int n] ∧ IsRg C H a lg R ∧ OkR R ∧ n ∈ (stD R.es).map (·.1) ∧ ∀ H', Same H H' → Q .non H'
def spCe (C : Addr) : Sp := fun vs H Q _ => ∃ (a lg : Addr) (R : RD) (au : Str), vs = [.ref a, .str au] ∧ IsRg C H a lg R ∧ OkR R ∧ Sh 12 au ∧ nameB (.str au) = true ∧ ∀ H', Same H H' → Q .non H'
/-- an entry is made -/
def Makes (C : Addr) (H : Hp) (a lg : Addr) (R : RD) (e : En) (v : V) (Q : VK) : Prop := ∀ H', SameB lg H H' → IsRg C H' a lg { R with es := R.es ++ [e] } → Q v H'
def spAdd (C : Addr) : Sp := fun vs H Q _ => ∃ (a lg b : Addr) (R : RD) (au : Str) (ds : List PyData), vs = [.ref a, .ref b, .str au] ∧ IsRg C H a lg R ∧ OkR R ∧ Dh H (.ref b) (.tuple ds) ∧ Vks (R.ps.map (·.2)) ds ∧ Sh 12 au ∧ nameB (.str au) = true ∧ Makes C H a lg R ⟨"add", usedD R.es, .tuple ds, au⟩ (.int (usedD R.es)) Q
def spCor (C : Addr) : Sp := fun vs H Q _ => ∃ (a lg b : Addr) (R : RD) (n : Int) (au : Str) (ds : List PyData), vs = [.ref a, .int n, .ref b, .str au] ∧ IsRg C H a lg R ∧ OkR R ∧ n ∈ (stD R.es).map (·.1) ∧ Dh H (.ref b) (.tuple ds) ∧ Vks (R.ps.map (·.2)) ds ∧ Sh 12 au ∧ nameB (.str au) = true ∧ Makes C H a lg R ⟨"correct", n, .tuple ds, au⟩ .non Q
def spStr (C : Addr) : Sp := fun vs H Q _ => ∃ (a lg : Addr) (R : RD) (n : Int) (au : Str), vs = [.ref a, .int n, .str au] ∧ IsRg C H a lg R ∧ OkR R ∧ n ∈ (stD R.es).map (·.1) ∧ Sh 12 au ∧ nameB (.str au) = true ∧ Makes C H a lg R ⟨"strike", n, .none, au⟩ .non Q
def spNm (C : Addr) : Sp := fun vs H Q _ => ∃ (a lg : Addr) (R : RD), vs = [.ref a] ∧ IsRg C H a lg R ∧ Q (.str R.nm) H
def spCo (C : Addr) : Sp := fun vs H Q _ => ∃ (a lg : Addr) (R : RD), vs = [.ref a] ∧ IsRg C H a lg R ∧ ∀ (cv : Addr) (xs : List V), H cv = some (.tup xs) → Cols H xs R.ps → Q (.ref cv) H
def spVe (C : Addr) : Sp := fun vs H Q _ => ∃ (a lg : Addr) (R : RD), vs = [.ref a] ∧ IsRg C H a lg R ∧ Q (.int R.es.length) H
def spEn (C : Addr) : Sp := fun vs H Q _ => ∃ (a lg : Addr) (R : RD), vs = [.ref a] ∧ IsRg C H a lg R ∧ NewL H (R.es.map En.d) Q
def spRows (C : Addr) : Sp := fun vs H Q _ => ∃ (a lg : Addr) (R : RD) (y : V) (v : Nat), vs = [.ref a, y] ∧ IsRg C H a lg R ∧ OkR R ∧ v ≤ R.es.length ∧ (y = .int v ∨ (y = .non ∧ v = R.es.length)) ∧ NewL H (rowsD (stD (R.es.take v))) Q
def spLen (C : Addr) : Sp := fun vs H Q _ => ∃ (a lg : Addr) (R : RD), vs = [.ref a] ∧ IsRg C H a lg R ∧ OkR R ∧ ∀ H', Same H H' → Q (.int (stD R.es).length) H'
def spAu (C : Addr) : Sp := fun vs H Q _ => ∃ (a lg : Addr) (R : RD) (n : Int), vs = [.ref a, .int n] ∧ IsRg C H a lg R ∧ OkR R ∧ 0 ≤ n ∧ n < (usedD R.es : Int) ∧ NewL H ((auD R.es n).map PyData.str) Q
section
variable {P : Program} {w : World} {K : PySem.W.Frag} {mg : Str → Option Value} {base : Heap} {f C fI fN fC fW fA fR fU fE fS : Addr} {fd fdN fdC fdW fdA fdR fdU fdE fdS : FuncData} {u1 : Tok}
theorem scRI : FnScope ["self", "name", "columns"] ["self", "name", "columns"] (defScope sRI) := ⟨rfl, rfl, rfl, by decide +kernel, rfl, by decide +kernel, by decide +kernel⟩
theorem ok_ri (F : Fun K "__init__" "Register.__init__" sRI f fd) (G : RgF K mg C fI)
    (GN : FnOk P w K mg base CX0 2 fN fdN ["value"] spCnV) (mN : mg "check_name" = some (.ref fN)) (kN : PySem.W.keepIn K (.ref fN) = true) (bN : Binds K fdN ["value"] [])
    (GC : FnOk P w K mg base CX0 3 fC fdC ["columns"] spCcV) (mC : mg "check_columns" = some (.ref fC)) (kC : PySem.W.keepIn K (.ref fC) = true) (bC : Binds K fdC ["columns"] []) : FnOk P w K mg base CX0 4 f fd ["self", "name", "columns"] (spRI C) := by
  refine F.ok scRI (fun vs H Q E h => ?_) (fun cdv A outer s H vs Q E hr h => ?_)
  · obtain ⟨a, dx, nm, cv, xs, ps, rfl, _⟩ := h
    rfl
  · obtain ⟨a, dx, nm, cv, xs, ps, rfl, ha, sn, nn, hcv, hc, hp, k⟩ := h
    have hr2 : Room 2 _ := hr.mono (by decide)
    refine ⟨_, pss_cons (ps_expr (pe_call GN hr2 (by rfl) mN kN bN .nil pass0 (pa_cons (pv 1) pa_nil))) (pss_cons (ps_expr (pe_call GC hr (by rfl) mC kC bC .nil pass0 (pa_cons (pv 2) pa_nil)))
      (pss_cons (ps_fld (pv 0) (pv 1) (by rfl)) (pss_cons (ps_fld (pv 0) (pv 2) (by rfl)) (pss_one (ps_fld (pv 0) (pe_lst pa_nil) (by rfl)))))), ?_⟩
    refine ⟨_, rfl, nm, rfl, sn, nn, fun H1 s1 => ⟨_, rfl, cv, xs, ps, rfl, s1 _ _ hcv, hc.same s1, hp, fun H2 s2 => ?_⟩⟩
    have ha2 := (s1.trans s2) _ _ ha
    refine ⟨_, rfl, _, rfl, a, C, dx, _, rfl, ha2, G.cls, G.a1, by decide, ?_⟩
    refine ⟨_, rfl, _, rfl, a, C, dx, _, rfl, upd_same, G.cls, G.a2, by show 1 < 1000; decide, ?_⟩
    rw [upd_upd]
    refine ⟨by show 0 ≤ sizeLine; decide, fun lg hl => ⟨_, rfl, a, C, dx, [("called", .str nm), ("shape", .ref cv)], rfl, ?_, G.cls, G.a3, by show 2 < 1000; decide, ?_⟩⟩
    · rw [upd_ne (ne_of_none upd_same hl)]
      exact upd_same
    have nl : lg ≠ a := Ne.symm (ne_of_none upd_same hl)
    have gl : H lg = none := by
      rw [upd_ne nl] at hl
      cases q : H lg with
      | none => rfl
      | some o => rw [(s1.trans s2) _ _ q] at hl; cases hl
    have keep : SameB a H (upd (upd (upd H2 a (.ins C dx [("called", .str nm), ("shape", .ref cv)])) lg (.lst [])) a (.ins C dx (fsR (.str nm) (.ref cv) lg))) := fun b o n eb => by
      rw [upd_ne n, upd_ne (ne_of_none eb gl), upd_ne n]
      exact (s1.trans s2) _ _ eb
    refine k lg _ keep gl ⟨dx, cv, xs, [], upd_same, keep _ _ (ne_of hcv ha nofun) hcv, hc.t (SameT.at ha (fun xs => nofun) keep), by rw [upd_ne nl, upd_same], .nil⟩
theorem scCs : FnScope ["self", "number"] ["self", "number"] (defScope sCs) := ⟨rfl, rfl, rfl, by decide +kernel, rfl, by decide +kernel, by decide +kernel⟩
theorem ok_cs (F : Fun K "check_standing" "Register.check_standing" sCs f fd) (G : RgF K mg C fI)
    (GW : FnOk P w K mg base CX0 1 fW fdW ["value"] spWhole) (mW : mg "is_whole" = some (.ref fW)) (kW : PySem.W.keepIn K (.ref fW) = true) (bW : Binds K fdW ["value"] [])
    (GA : FnOk P w K mg base CX0 1 fA fdA ["entries"] spRa) (mA : mg "rows_after" = some (.ref fA)) (kA : PySem.W.keepIn K (.ref fA) = true) (bA : Binds K fdA ["entries"] []) : FnOk P w K mg base CX0 2 f fd ["self", "number"] (spCs C) := by
  refine F.ok scCs (fun vs H Q E h => ?_) (fun cdv A outer s H vs Q E hr h => ?_)
  · obtain ⟨a, lg, R, n, rfl, _⟩ := h
    rfl
  · obtain ⟨a, lg, R, n, rfl, ⟨dx, cv, xs, ys, h1, h2, h3, h4, h5⟩, o, hn, k⟩ := h
    refine ⟨_, pss_one (ps_if (PW.pt (pw_or (pt_not (pt_val (pe_call GW hr (by rfl) mW kW bW .nil pass0 (pa_cons (pv 1) pa_nil)))) (pw_or1 (pt_cmp (pc_dnotin (Nat.lt_of_le_of_lt (Nat.add_le_add_left (show 1 ≤ 64 by decide) _) hr.units) (pv 1) (pe_call GA hr (by rfl) mA kA bA .nil pass0 (pa_cons (pe_fld (pv 0) (by rfl)) pa_nil))) (by rfl))))) pss_dead pss_nil), ?_⟩
    refine ⟨_, rfl, _, _, rfl, .int n, _, rfl, iteF ⟨_, rfl, _, rfl, a, C, dx, _, _, rfl, h1, G.cls, G.a3, rfl, lg, ys, _, R.es, rfl, h4, h5, o.es, by have := o.ln; omega, fun r kvs H1 s1 hr1 rw1 => ?_⟩⟩
    refine ⟨r, _, rfl, DGet.k (k := .inl n) hr1, ?_⟩
    rw [rw1.val n, decide_eq_true hn]
    exact ⟨_, rfl, iteF (k H1 s1)⟩
theorem scCe : FnScope ["self", "author"] ["self", "author"] (defScope sCe) := ⟨rfl, rfl, rfl, by decide +kernel, rfl, by decide +kernel, by decide +kernel⟩
theorem ok_ce (F : Fun K "check_entry" "Register.check_entry" sCe f fd) (T : Bt mg) (G : RgF K mg C fI) (m1 : mg "MOST_ENTRIES" = some (.int 400 u1))
    (GN : FnOk P w K mg base CX0 2 fN fdN ["value"] spCnV) (mN : mg "check_name" = some (.ref fN)) (kN : PySem.W.keepIn K (.ref fN) = true) (bN : Binds K fdN ["value"] []) : FnOk P w K mg base CX0 3 f fd ["self", "author"] (spCe C) := by
  refine F.ok scCe (fun vs H Q E h => ?_) (fun cdv A outer s H vs Q E hr h => ?_)
  · obtain ⟨a, lg, R, au, rfl, _⟩ := h
    rfl
  · obtain ⟨a, lg, R, au, rfl, ⟨dx, cv, xs, ys, h1, h2, h3, h4, h5⟩, o, sa, na, k⟩ := h
    refine ⟨_, pss_cons (ps_expr (pe_call GN hr (by rfl) mN kN bN .nil pass0 (pa_cons (pv 1) pa_nil))) (pss_one (ps_if (pt_cmpR op_ge (pe_callB call_len_seq (by rfl) T.len PySem.boot_len (pa_cons (pe_fld (pv 0) (by rfl)) pa_nil)) (pe_glob (v := .int 400) (by rfl) m1 ⟨_, rfl⟩) (nomark _)) pss_dead pss_nil)), ?_⟩
    refine ⟨_, rfl, au, rfl, sa, na, fun H1 s1 => ⟨_, rfl, a, C, dx, _, _, rfl, s1 _ _ h1, G.cls, G.a3, rfl, lg, ys, rfl, .inl (SqL.of (s1 _ _ h4)), _, _, rfl, rfl, _, rfl, ?_⟩⟩
    have ly := h5.len
    rw [List.length_map] at ly
    have := o.ln
    rw [decide_eq_false (show ¬ (400 : Int) ≤ (ys.length : Int) by omega)]
    exact iteF (k H1 s1)
end
end K12
set_option Elab.async false
set_option linter.all false
set_option maxRecDepth 100000
set_option maxHeartbeats 4000000
namespace K12
open PySem PySem.Spec PyProof.Rows L2 Lc
abbrev ttAu (K : PySem.W.Frag) : TT := tTest (tOp rEq (tOp (rIxT K) (tVar 2) (tC (.int 1))) (tVar 1))
abbrev teAu (K : PySem.W.Frag) : TE := tOp (rIxT K) (tVar 2) (tC (.int 3))
/-- the log is longer by one -/
theorem IsRg.grow {C : Addr} {H : Hp} {a lg t dx cv : Addr} {xs ys : List V} {R : RD} {e : En} {x : V} {ks : List Str} (o : OkR R) (g : OkEn ks R.es e) (h1 : H a = some (.ins C dx (fsR (.str R.nm) (.ref cv) lg))) (h2 : H cv = some (.tup xs)) (h3 : Cols H xs R.ps) (h4 : H lg = some (.lst ys)) (h5 : DhAll H ys (R.es.map En.d))
    (ht : H t = some (.tup [.str e.w, .int e.n, x, .str e.au])) (hx : Dh H x e.vals) : IsRg C (upd H lg (.lst (ys ++ [.ref t]))) a lg { R with es := R.es ++ [e] } := by
  have st := SameT.lst (o := .lst (ys ++ [.ref t])) h4
  refine ⟨dx, cv, xs, _, by rw [upd_ne (ne_of h1 h4 nofun)]; exact h1, st _ _ h2, h3.t st, upd_same, ?_⟩
  have d : Dh H (.ref t) e.d := .tup ht (.cons (.str _) (.cons (.int _) (.cons hx (.cons (.str _) .nil))))
  show DhAll _ _ ((R.es ++ [e]).map En.d)
  rw [List.map_append]
  exact DhAll.append (DhAll.t st h5 o.es.noLd) (.cons (d.t st g.noLd) .nil)
section
variable {P : Program} {w : World} {K : PySem.W.Frag} {mg : Str → Option Value} {base : Heap} {f C fI fN fC fW fA fR fU fE fS : Addr} {fd fdN fdC fdW fdA fdR fdU fdE fdS : FuncData} {u1 : Tok}
theorem scAdd : FnScope ["self", "values", "author", "number"] ["self", "values", "author"] (defScope sAdd) := ⟨rfl, rfl, rfl, by decide +kernel, rfl, by decide +kernel, by decide +kernel⟩
theorem ok_add (F : Fun K "add" "Register.add" sAdd f fd) (G : RgF K mg C fI)
    (GC : FnOk P w K mg base CX0 4 fC fdC ["columns", "values"] spCrV) (mC : mg "check_row" = some (.ref fC)) (kC : PySem.W.keepIn K (.ref fC) = true) (bC : Binds K fdC ["columns", "values"] [])
    (hE : Meth K C "check_entry" fE) (GE : FnOk P w K mg base CX0 3 fE fdE ["self", "author"] (spCe C)) (bE : Binds K fdE ["self", "author"] [])
    (GU : FnOk P w K mg base CX0 1 fU fdU ["entries"] spNu) (mU : mg "numbers_used" = some (.ref fU)) (kU : PySem.W.keepIn K (.ref fU) = true) (bU : Binds K fdU ["entries"] []) : FnOk P w K mg base CX0 5 f fd ["self", "values", "author"] (spAdd C) := by
  refine F.ok scAdd (fun vs H Q E h => ?_) (fun cdv A outer s H vs Q E hr h => ?_)
  · obtain ⟨a, lg, b, R, au, ds, rfl, _⟩ := h
    rfl
  · obtain ⟨a, lg, b, R, au, ds, rfl, hI, o, hd, hv, sa, na, k⟩ := h
    have hr3 : Room 3 _ := hr.mono (by decide)
    have hr1 : Room 1 _ := hr.mono (by decide)
    refine ⟨_, pss_cons (ps_expr (pe_call GC hr (by rfl) mC kC bC .nil pass0 (pa_cons (pe_fld (pv 0) (by rfl)) (pa_cons (pv 1) pa_nil)))) (pss_cons (ps_expr (pe_meth (pv 0) G.cls hE GE hr3 bE .nil pass0 (pa_cons (pv 2) pa_nil)))
      (pss_cons (ps_set (i := 3) scAdd.nd rfl (Or.inl rfl) (pe_call GU hr1 (by rfl) mU kU bU .nil pass0 (pa_cons (pe_fld (pv 0) (by rfl)) pa_nil)))
      (pss_cons (ps_expr (pe_bm PySem.F.plainAttrs_list PySem.F.slot_list_append PySem.F.type_list_append mt_append (pe_fld (pv 0) (by rfl)) (pa_cons (pe_tup (pa_cons pe_str (pa_cons (pv 3) (pa_cons (pv 1) (pa_cons (pv 2) pa_nil))))) pa_nil))) (pss_one (ps_ret (pv 3)))))), ?_⟩
    obtain ⟨dx, cv, xs, ys, h1, h2, h3, h4, h5⟩ := id hI
    cases hd with
    | @tup _ zs _ hb hz =>
    refine ⟨_, rfl, a, C, dx, _, _, rfl, h1, G.cls, G.a2, rfl, _, rfl, cv, b, xs, zs, R.ps, ds, rfl, h2, h3, o.cols.l8, hb, hz, hv, fun H1 s1 => ?_⟩
    have hI1 := hI.same s1
    refine ⟨_, rfl, a, dx, _, rfl, s1 _ _ h1, rfl, _, rfl, a, lg, R, au, rfl, hI1, o, sa, na, fun H2 s2 => ?_⟩
    have s3 := s1.trans s2
    refine ⟨_, rfl, a, C, dx, _, _, rfl, s3 _ _ h1, G.cls, G.a3, rfl, lg, ys, R.es, rfl, s3 _ _ h4, DhAll.same s3 h5, by have := o.ln; omega, fun H3 s4 => ?_⟩
    have s5 := s3.trans s4
    refine ⟨_, rfl, a, C, dx, _, _, rfl, s5 _ _ h1, G.cls, G.a3, rfl, .inl ⟨rfl, _, SqL.of (s5 _ _ h4)⟩, _, rfl, _, rfl, _, rfl, by show 4 ≤ sizeLine; decide, fun t ht => ?_⟩
    have zt := Same.upd (o := .tup [.str "add", .int (usedD R.es), .ref b, .str au]) ht
    have s6 := s5.trans zt
    have ly := h5.len
    rw [List.length_map] at ly
    refine ⟨lg, ys, _, rfl, rfl, s6 _ _ h4, Nat.lt_of_le_of_lt (show ys.length ≤ 100 by have := o.ln; omega) (by decide), ?_⟩
    have og : OkEn (R.ps.map (·.2)) R.es ⟨"add", usedD R.es, .tuple ds, au⟩ := ⟨⟨sa, na⟩, .inl ⟨rfl, rfl, ds, rfl, hv⟩⟩
    exact ⟨_, rfl, k _ (fun b' o' n e => by rw [upd_ne n]; exact s6 _ _ e) (IsRg.grow o og (s6 _ _ h1) (s6 _ _ h2) (h3.same s6) (s6 _ _ h4) (DhAll.same s6 h5) upd_same (.tup (s6 _ _ hb) (DhAll.same s6 hz)))⟩
theorem scCor : FnScope ["self", "number", "values", "author"] ["self", "number", "values", "author"] (defScope sCor) := ⟨rfl, rfl, rfl, by decide +kernel, rfl, by decide +kernel, by decide +kernel⟩
theorem ok_cor (F : Fun K "correct" "Register.correct" sCor f fd) (G : RgF K mg C fI)
    (hS : Meth K C "check_standing" fS) (GS : FnOk P w K mg base CX0 2 fS fdS ["self", "number"] (spCs C)) (bS : Binds K fdS ["self", "number"] [])
    (GC : FnOk P w K mg base CX0 4 fC fdC ["columns", "values"] spCrV) (mC : mg "check_row" = some (.ref fC)) (kC : PySem.W.keepIn K (.ref fC) = true) (bC : Binds K fdC ["columns", "values"] [])
    (hE : Meth K C "check_entry" fE) (GE : FnOk P w K mg base CX0 3 fE fdE ["self", "author"] (spCe C)) (bE : Binds K fdE ["self", "author"] []) : FnOk P w K mg base CX0 5 f fd ["self", "number", "values", "author"] (spCor C) := by
  refine F.ok scCor (fun vs H Q E h => ?_) (fun cdv A outer s H vs Q E hr h => ?_)
  · obtain ⟨a, lg, b, R, n, au, ds, rfl, _⟩ := h
    rfl
  · obtain ⟨a, lg, b, R, n, au, ds, rfl, hI, o, hn, hd, hv, sa, na, k⟩ := h
    have hr3 : Room 3 _ := hr.mono (by decide)
    have hr2 : Room 2 _ := hr.mono (by decide)
    refine ⟨_, pss_cons (ps_expr (pe_meth (pv 0) G.cls hS GS hr2 bS .nil pass0 (pa_cons (pv 1) pa_nil))) (pss_cons (ps_expr (pe_call GC hr (by rfl) mC kC bC .nil pass0 (pa_cons (pe_fld (pv 0) (by rfl)) (pa_cons (pv 2) pa_nil)))) (pss_cons (ps_expr (pe_meth (pv 0) G.cls hE GE hr3 bE .nil pass0 (pa_cons (pv 3) pa_nil)))
      (pss_one (ps_expr (pe_bm PySem.F.plainAttrs_list PySem.F.slot_list_append PySem.F.type_list_append mt_append (pe_fld (pv 0) (by rfl)) (pa_cons (pe_tup (pa_cons pe_str (pa_cons (pv 1) (pa_cons (pv 2) (pa_cons (pv 3) pa_nil))))) pa_nil)))))), ?_⟩
    obtain ⟨dx, cv, xs, ys, h1, h2, h3, h4, h5⟩ := id hI
    cases hd with
    | @tup _ zs _ hb hz =>
    refine ⟨_, rfl, a, dx, _, rfl, h1, rfl, _, rfl, a, lg, R, n, rfl, hI, o, hn, fun H0 s0 => ?_⟩
    refine ⟨_, rfl, a, C, dx, _, _, rfl, s0 _ _ h1, G.cls, G.a2, rfl, _, rfl, cv, b, xs, zs, R.ps, ds, rfl, s0 _ _ h2, h3.same s0, o.cols.l8, s0 _ _ hb, DhAll.same s0 hz, hv, fun H1 s01 => ?_⟩
    have s1 := s0.trans s01
    have hI1 := hI.same s1
    refine ⟨_, rfl, a, dx, _, rfl, s1 _ _ h1, rfl, _, rfl, a, lg, R, au, rfl, hI1, o, sa, na, fun H2 s2 => ?_⟩
    have s5 := s1.trans s2
    refine ⟨_, rfl, a, C, dx, _, _, rfl, s5 _ _ h1, G.cls, G.a3, rfl, .inl ⟨rfl, _, SqL.of (s5 _ _ h4)⟩, _, rfl, _, rfl, _, rfl, by show 4 ≤ sizeLine; decide, fun t ht => ?_⟩
    have zt := Same.upd (o := .tup [.str "correct", .int n, .ref b, .str au]) ht
    have s6 := s5.trans zt
    have ly := h5.len
    rw [List.length_map] at ly
    refine ⟨lg, ys, _, rfl, rfl, s6 _ _ h4, Nat.lt_of_le_of_lt (show ys.length ≤ 100 by have := o.ln; omega) (by decide), ?_⟩
    have og : OkEn (R.ps.map (·.2)) R.es ⟨"correct", n, .tuple ds, au⟩ := ⟨⟨sa, na⟩, .inr (.inl ⟨rfl, hn, ds, rfl, hv⟩)⟩
    exact k _ (fun b' o' n e => by rw [upd_ne n]; exact s6 _ _ e) (IsRg.grow o og (s6 _ _ h1) (s6 _ _ h2) (h3.same s6) (s6 _ _ h4) (DhAll.same s6 h5) upd_same (.tup (s6 _ _ hb) (DhAll.same s6 hz)))
theorem scStr : FnScope ["self", "number", "author"] ["self", "number", "author"] (defScope sStr) := ⟨rfl, rfl, rfl, by decide +kernel, rfl, by decide +kernel, by decide +kernel⟩
theorem ok_str (F : Fun K "strike" "Register.strike" sStr f fd) (G : RgF K mg C fI)
    (hS : Meth K C "check_standing" fS) (GS : FnOk P w K mg base CX0 2 fS fdS ["self", "number"] (spCs C)) (bS : Binds K fdS ["self", "number"] [])
    (hE : Meth K C "check_entry" fE) (GE : FnOk P w K mg base CX0 3 fE fdE ["self", "author"] (spCe C)) (bE : Binds K fdE ["self", "author"] []) : FnOk P w K mg base CX0 5 f fd ["self", "number", "author"] (spStr C) := by
  refine F.ok scStr (fun vs H Q E h => ?_) (fun cdv A outer s H vs Q E hr h => ?_)
  · obtain ⟨a, lg, R, n, au, rfl, _⟩ := h
    rfl
  · obtain ⟨a, lg, R, n, au, rfl, hI, o, hn, sa, na, k⟩ := h
    have hr3 : Room 3 _ := hr.mono (by decide)
    have hr2 : Room 2 _ := hr.mono (by decide)
    refine ⟨_, pss_cons (ps_expr (pe_meth (pv 0) G.cls hS GS hr2 bS .nil pass0 (pa_cons (pv 1) pa_nil))) (pss_cons (ps_expr (pe_meth (pv 0) G.cls hE GE hr3 bE .nil pass0 (pa_cons (pv 2) pa_nil)))
      (pss_one (ps_expr (pe_bm PySem.F.plainAttrs_list PySem.F.slot_list_append PySem.F.type_list_append mt_append (pe_fld (pv 0) (by rfl)) (pa_cons (pe_tup (pa_cons pe_str (pa_cons (pv 1) (pa_cons pe_non (pa_cons (pv 2) pa_nil))))) pa_nil))))), ?_⟩
    obtain ⟨dx, cv, xs, ys, h1, h2, h3, h4, h5⟩ := id hI
    refine ⟨_, rfl, a, dx, _, rfl, h1, rfl, _, rfl, a, lg, R, n, rfl, hI, o, hn, fun H1 s1 => ?_⟩
    have hI1 := hI.same s1
    refine ⟨_, rfl, a, dx, _, rfl, s1 _ _ h1, rfl, _, rfl, a, lg, R, au, rfl, hI1, o, sa, na, fun H2 s2 => ?_⟩
    have s5 := s1.trans s2
    refine ⟨_, rfl, a, C, dx, _, _, rfl, s5 _ _ h1, G.cls, G.a3, rfl, .inl ⟨rfl, _, SqL.of (s5 _ _ h4)⟩, _, rfl, _, rfl, by show 4 ≤ sizeLine; decide, fun t ht => ?_⟩
    have zt := Same.upd (o := .tup [.str "strike", .int n, .non, .str au]) ht
    have s6 := s5.trans zt
    have ly := h5.len
    rw [List.length_map] at ly
    refine ⟨lg, ys, _, rfl, rfl, s6 _ _ h4, Nat.lt_of_le_of_lt (show ys.length ≤ 100 by have := o.ln; omega) (by decide), ?_⟩
    have og : OkEn (R.ps.map (·.2)) R.es ⟨"strike", n, .none, au⟩ := ⟨⟨sa, na⟩, .inr (.inr ⟨rfl, hn, rfl⟩)⟩
    exact k _ (fun b' o' n e => by rw [upd_ne n]; exact s6 _ _ e) (IsRg.grow o og (s6 _ _ h1) (s6 _ _ h2) (h3.same s6) (s6 _ _ h4) (DhAll.same s6 h5) upd_same .non)
theorem scRN : FnScope ["self"] ["self"] (defScope sRN) := ⟨rfl, rfl, rfl, by decide +kernel, rfl, by decide +kernel, by decide +kernel⟩
theorem scRC : FnScope ["self"] ["self"] (defScope sRC) := ⟨rfl, rfl, rfl, by decide +kernel, rfl, by decide +kernel, by decide +kernel⟩
theorem scRV : FnScope ["self"] ["self"] (defScope sRV) := ⟨rfl, rfl, rfl, by decide +kernel, rfl, by decide +kernel, by decide +kernel⟩
theorem scRE : FnScope ["self"] ["self"] (defScope sRE) := ⟨rfl, rfl, rfl, by decide +kernel, rfl, by decide +kernel, by decide +kernel⟩
theorem scRL : FnScope ["self"] ["self"] (defScope sRL) := ⟨rfl, rfl, rfl, by decide +kernel, rfl, by decide +kernel, by decide +kernel⟩
theorem ok_rn (F : Fun K "name" "Register.name" sRN f fd) (G : RgF K mg C fI) : FnOk P w K mg base CX0 1 f fd ["self"] (spNm C) := by
  refine F.ok scRN (fun vs H Q E h => ?_) (fun cdv A outer s H vs Q E hr h => ?_)
  · obtain ⟨a, lg, R, rfl, _⟩ := h
    rfl
  · obtain ⟨a, lg, R, rfl, ⟨dx, cv, xs, ys, h1, h2, h3, h4, h5⟩, k⟩ := h
    exact ⟨_, pss_one (ps_ret (pe_fld (pv 0) (by rfl))), _, rfl, a, C, dx, _, _, rfl, h1, G.cls, G.a1, rfl, k⟩
theorem ok_rc (F : Fun K "columns" "Register.columns" sRC f fd) (G : RgF K mg C fI) : FnOk P w K mg base CX0 1 f fd ["self"] (spCo C) := by
  refine F.ok scRC (fun vs H Q E h => ?_) (fun cdv A outer s H vs Q E hr h => ?_)
  · obtain ⟨a, lg, R, rfl, _⟩ := h
    rfl
  · obtain ⟨a, lg, R, rfl, ⟨dx, cv, xs, ys, h1, h2, h3, h4, h5⟩, k⟩ := h
    exact ⟨_, pss_one (ps_ret (pe_fld (pv 0) (by rfl))), _, rfl, a, C, dx, _, _, rfl, h1, G.cls, G.a2, rfl, k cv xs h2 h3⟩
theorem ok_rv (F : Fun K "version" "Register.version" sRV f fd) (T : Bt mg) (G : RgF K mg C fI) : FnOk P w K mg base CX0 1 f fd ["self"] (spVe C) := by
  refine F.ok scRV (fun vs H Q E h => ?_) (fun cdv A outer s H vs Q E hr h => ?_)
  · obtain ⟨a, lg, R, rfl, _⟩ := h
    rfl
  · obtain ⟨a, lg, R, rfl, ⟨dx, cv, xs, ys, h1, h2, h3, h4, h5⟩, k⟩ := h
    have ly := h5.len
    rw [List.length_map] at ly
    rw [← ly] at k
    exact ⟨_, pss_one (ps_ret (pe_callB call_len_seq (by rfl) T.len PySem.boot_len (pa_cons (pe_fld (pv 0) (by rfl)) pa_nil))), _, rfl, a, C, dx, _, _, rfl, h1, G.cls, G.a3, rfl, lg, _, rfl, .inl (SqL.of h4), k⟩
theorem ok_re (F : Fun K "entries" "Register.entries" sRE f fd) (T : Bt mg) (G : RgF K mg C fI) : FnOk P w K mg base CX0 1 f fd ["self"] (spEn C) := by
  refine F.ok scRE (fun vs H Q E h => ?_) (fun cdv A outer s H vs Q E hr h => ?_)
  · obtain ⟨a, lg, R, rfl, _⟩ := h
    rfl
  · obtain ⟨a, lg, R, rfl, ⟨dx, cv, xs, ys, h1, h2, h3, h4, h5⟩, k⟩ := h
    exact ⟨_, pss_one (ps_ret (pe_callTy call_list_of (by rfl) T.list boot_list (pa_cons (pe_fld (pv 0) (by rfl)) pa_nil))), _, rfl, a, C, dx, _, _, rfl, h1, G.cls, G.a3, rfl, lg, _, rfl, .inl (SqL.of h4), fun r hr => k r ys _ (Same.upd hr) hr upd_same (DhAll.same (Same.upd hr) h5)⟩
end
end K12
set_option Elab.async false
set_option linter.all false
set_option maxRecDepth 100000
set_option maxHeartbeats 4000000
namespace K12
open PySem PySem.Spec PyProof.Rows L2 Lc
abbrev sTw : Stmt := inClass (top 35) 12
theorem cut_take (ys : List V) {v : Nat} (h : v ≤ ys.length) : cutV ys none (some (v : Int)) = ys.take v := by
  unfold cutV
  have e1 : HT.sIx ys.length 0 none = 0 := rfl
  have e2 : HT.sIx ys.length ys.length (some (v : Int)) = v := by
    rw [HT.sIx_nat]
    omega
  rw [e1, e2]
  rfl
theorem DhAll.take {H : Hp} : ∀ {vs : List V} {ds : List PyData} (i : Nat), DhAll H vs ds → DhAll H (vs.take i) (ds.take i)
  | _, _, 0, _ => .nil
  | _, _, _ + 1, .nil => .nil
  | _, _, i + 1, .cons h r => .cons h (DhAll.take i r)
theorem rows_of_kvs {H : Hp} : ∀ {ts : List Addr} {kvs : List (Key × V)} {st : St2}, Paired (fun (t : Addr) (q : Key × V) => H t = some (.tup [kV q.1, q.2])) ts kvs → Rw H kvs st → DhAll H (ts.map V.ref) (rowsD st)
  | _, _, _, .nil, .nil => .nil
  | _, _, _, .cons e r, .cons h q => .cons (.tup e (.cons (.int _) (.cons h .nil))) (rows_of_kvs r q)
section
variable {P : Program} {w : World} {K : PySem.W.Frag} {mg : Str → Option Value} {base : Heap} {f C fI fN fC fW fA fR fU fE fS : Addr} {fd fdI fdN fdC fdW fdA fdR fdU fdE fdS : FuncData} {u1 : Tok}
theorem scRR : FnScope ["self", "version", "rows"] ["self", "version"] (defScope sRR) := ⟨rfl, rfl, rfl, by decide +kernel, rfl, by decide +kernel, by decide +kernel⟩
theorem ok_rr {dvs : List V} {kws : List (Str × V)} (F : FunD K "rows" "Register.rows" (defArgs sRR) (defBody sRR) (defScope sRR) dvs kws f fd) (T : Bt mg) (G : RgF K mg C fI)
    (GW : FnOk P w K mg base CX0 1 fW fdW ["value"] spWhole) (mW : mg "is_whole" = some (.ref fW)) (kW : PySem.W.keepIn K (.ref fW) = true) (bW : Binds K fdW ["value"] [])
    (GA : FnOk P w K mg base CX0 1 fA fdA ["entries"] spRa) (mA : mg "rows_after" = some (.ref fA)) (kA : PySem.W.keepIn K (.ref fA) = true) (bA : Binds K fdA ["entries"] []) : FnOk P w K mg base CX0 2 f fd ["self", "version"] (spRows C) := by
  refine F.ok scRR (fun vs H Q E h => ?_) (fun cdv A outer s H vs Q E hr h => ?_)
  · obtain ⟨a, lg, R, y, v, rfl, _⟩ := h
    rfl
  · obtain ⟨a, lg, R, y, v, rfl, ⟨dx, cv, xs, ys, h1, h2, h3, h4, h5⟩, o, lv, hy, k⟩ := h
    refine ⟨_, Evl.pss_cut (ps_if (pt_cmpR op_isN (pv 1) pe_non (nomark _)) (pss_one (ps_set (i := 1) scRR.nd rfl (Or.inl rfl) (pe_callB call_len_seq (by rfl) T.len PySem.boot_len (pa_cons (pe_fld (pv 0) (by rfl)) pa_nil)))) pss_nil)
      (pss_cons (ps_if (PW.pt (pw_or (pt_not (pt_val (pe_call GW hr (by rfl) mW kW bW .nil pass0 (pa_cons (pv 1) pa_nil)))) (pw_or (pt_cmpR op_lt (pv 1) pe_int (nomark _)) (pw_or1 (pt_cmpR op_gt (pv 1) (pe_callB call_len_seq (by rfl) T.len PySem.boot_len (pa_cons (pe_fld (pv 0) (by rfl)) pa_nil)) (nomark _)))))) pss_dead pss_nil)
      (pss_cons (ps_set (i := 2) scRR.nd rfl (Or.inl rfl) (pe_call GA hr (by rfl) mA kA bA .nil pass0 (pa_cons (pe_slice sl_list (pe_fld (pv 0) (by rfl)) po_none (po_some (pv 1))) pa_nil)))
      (pss_one (ps_ret (LiI.pe_listItems (by rfl) (pv 2) (by rfl) T.list boot_list))))), ?_⟩
    have ly := h5.len
    rw [List.length_map] at ly
    refine ⟨fun σ H' => σ = [some (.ref a), some (.int v), none] ∧ H' = H, ?_, ?_⟩
    · refine ⟨_, rfl, rfl, _, rfl, ?_⟩
      rcases hy with rfl | ⟨rfl, rfl⟩
      · exact iteF ⟨rfl, rfl⟩
      · refine iteT ⟨_, rfl, a, C, dx, _, _, rfl, h1, G.cls, G.a3, rfl, lg, _, rfl, .inl (SqL.of h4), ?_, rfl⟩
        rw [ly]
        rfl
    rintro σ H' ⟨rfl, rfl⟩
    refine ⟨_, rfl, _, _, rfl, .int v, _, rfl, iteF ⟨_, rfl, _, _, rfl, rfl, _, rfl, ?_⟩⟩
    rw [decide_eq_false (show ¬ (v : Int) < 0 by omega)]
    refine iteF ⟨_, rfl, _, rfl, a, C, dx, _, _, rfl, h1, G.cls, G.a3, rfl, lg, _, rfl, .inl (SqL.of h4), _, _, rfl, rfl, _, rfl, ?_⟩
    rw [decide_eq_false (show ¬ (ys.length : Int) < (v : Int) by omega)]
    refine iteF ?_
    refine ⟨_, rfl, a, C, dx, _, _, rfl, h1, G.cls, G.a3, rfl, _, rfl, v, rfl, lg, _, rfl, SqL.of h4, fun p hp => ?_⟩
    have zp := Same.upd (o := .lst (cutV ys none (some (v : Int)))) hp
    have ep : upd H' p (.lst (cutV ys none (some (v : Int)))) p = some (.lst (ys.take v)) := by rw [upd_same, cut_take ys (by omega)]
    have dp : DhAll (upd H' p (.lst (cutV ys none (some (v : Int))))) (ys.take v) ((R.es.take v).map En.d) := by
      rw [List.map_take]
      exact DhAll.take v (DhAll.same zp h5)
    refine ⟨p, _, _, R.es.take v, rfl, ep, dp, OkEs.take v o.es, by rw [List.length_take]; have := o.ln; omega, fun r kvs H2 s2 h2' rw2 => ?_⟩
    refine ⟨_, rfl, r, kvs, rfl, h2', fun H3 q ts s3 gq _ _ h3' pr => ?_⟩
    have gH : H' q = none := by
      cases z : H' q with
      | none => rfl
      | some o' => rw [(zp.trans s2) _ _ z] at gq; cases gq
    exact k q _ H3 ((zp.trans s2).trans s3) gH h3' (rows_of_kvs pr (rw2.t (fun b xs e => s3 _ _ e) (OkEs.take v o.es).noLs))
theorem ok_rl (F : Fun K "__len__" "Register.__len__" sRL f fd) (T : Bt mg) (G : RgF K mg C fI) {ds : List Value} (hm : Meth K C "rows" fR) (GR : FnOk P w K mg base CX0 2 fR fdR ["self", "version"] (spRows C)) (bR : Binds K fdR ["self", "version"] ds) (vR : Vals [.non] ds) : FnOk P w K mg base CX0 3 f fd ["self"] (spLen C) := by
  refine F.ok scRL (fun vs H Q E h => ?_) (fun cdv A outer s H vs Q E hr h => ?_)
  · obtain ⟨a, lg, R, rfl, _⟩ := h
    rfl
  · obtain ⟨a, lg, R, rfl, hI, o, k⟩ := h
    refine ⟨_, pss_one (ps_ret (pe_callB call_len_seq (by rfl) T.len PySem.boot_len (pa_cons (pe_meth0 (pv 0) G.cls hm GR hr bR vR pass0) pa_nil))), ?_⟩
    obtain ⟨dx, cv, xs, ys, h1, _⟩ := id hI
    refine ⟨_, rfl, a, dx, _, rfl, h1, rfl, a, lg, R, .non, R.es.length, rfl, hI, o, Nat.le_refl _, .inr ⟨rfl, rfl⟩, fun r zs H1 s1 _ hr1 hd => ⟨r, zs, rfl, .inl (SqL.of hr1), ?_⟩⟩
    have lz := hd.len
    rw [rowsD, List.length_map, List.take_length] at lz
    rw [lz]
    exact k H1 s1
end
end K12
set_option Elab.async false
set_option linter.all false
set_option maxRecDepth 100000
set_option maxHeartbeats 4000000
namespace Lc
open PySem PySem.Spec PyProof.Rows L2
/-! ## == and != of an instance whose class has an own __eq__ and no own __ne__ -/
structure EqC (K : PySem.W.Frag) (C f : Addr) : Prop where
  eq : PySem.W.findIn K (.ref C) "__eq__" = some (some (.ref f))
  fn : PySem.W.isFn K (.ref f) = true
  ne : PySem.W.findIn K (.ref C) "__ne__" = some (some (.builtin "object.__ne__"))
  ob : PySem.W.subIn K (.ref C) (.type "object") = some true
section
variable {prog : Program} {w : World} {A : Around} {E : Value → Shared → Prop} {s : Shared} {K : PySem.W.Frag} {x C L f : Addr} {h₀ : Heap} {m : Str → Option Value} {ox : Obj} {od : Option Obj} {b tb : Value}
/-- object.__ne__ asks the own __eq__ -/
theorem ne_bodyK {Q : Value → Shared → Prop} (hu : A.units < cLine) (X : K.In s.heap) (I : PySem.W.InstAt s.heap x ox C od) (c : EqC K C f)
    (h : wpAny (model prog w) A (call (.ref f) [.ref x, b]) (fun v s' => ∃ k, v = .bool k ∧ Q (.bool (!k)) s') E s) :
    wpAny (model prog w) A (Builtin.«object.__ne__» ⟨[.ref x, b], []⟩) (fun fin s' => ∃ v, fin = .done (.ret v) ∧ Q v s') E s := by
  unfold Builtin.«object.__ne__»
  refine wpAny_bind (m := slotArgs "__ne__" 1 ⟨[.ref x, b], []⟩) (wpAny_pure ?_)
  refine wpAny_bind (wpAny_cRoomFor hu ?_)
  refine wpAny_bind (m := callSpecialIfBound? (.ref x) (Str.ofString "__eq__") [b]) (PySem.W.ifBound_K X I c.eq c.fn (wpAny_mono h (fun r s' hr => ?_) fun _ _ e => e))
  obtain ⟨k, rfl, hq⟩ := hr
  refine wpAny_bind (m := truthy (.bool k)) (wpAny_truthy_bool ?_)
  exact wpAny_pure ⟨_, rfl, hq⟩
theorem ne_K {Q : Value → Shared → Prop} (hu : A.units + 1 < cLine) (X : K.In s.heap) (I : PySem.W.InstAt s.heap x ox C od) (hb : PySem.W.Looks (model prog w) s.heap (typeOf b) tb) (hn : PySem.W.notFirst K C tb = true) (c : EqC K C f)
    (h : wpAny (model prog w) A.in1 (call (.ref f) [.ref x, b]) (fun v s' => ∃ k, v = .bool k ∧ Q (.bool (!k)) s') E s) : wpAny (model prog w) A (richCompare .NotEq (.ref x) b) Q E s := by
  have iob : PySem.W.Looks (model prog w) s.heap (isInstance (.ref x) (.type "object")) true := I.type.andThen (PySem.W.looks_subIn X c.ob)
  have sp : PySem.W.Looks (model prog w) s.heap (specialOf (.ref x) "__ne__") (some (.builtin "object.__ne__")) := I.type.andThen (PySem.W.looks_findIn X c.ne)
  have hcall : wpAny (model prog w) A (call (.builtin "object.__ne__") [.ref x, b]) (fun v s' => ∃ k, v = .bool k ∧ Q (.bool k) s') E s := by
    refine wpAny_call (codeAny_call_builtin F.cmp_object.ne.plain F.cmpEntry_ne (PySem.W.check_slot F.cmpKind_ne F.cmpSplit_ne iob (F.cmpArgs_ne _ _) ?_))
    refine wpAny_mono (ne_bodyK (A := A.in1) (Q := fun v s' => ∃ k, v = .bool k ∧ Q (.bool k) s') hu X I c (wpAny_mono h (fun v s' hv => ?_) fun _ _ e => e)) (fun fin s' hf => ?_) fun _ _ e => e
    · obtain ⟨k, rfl, q⟩ := hv
      exact ⟨k, rfl, _, rfl, q⟩
    · obtain ⟨v, rfl, q⟩ := hf
      exact q
  have hbs : bindSpecial (.builtin "object.__ne__") (.ref x) = pure (.builtin "object.__ne__", [.ref x]) := by rfl
  have one : wpAny (model prog w) A (tryCompare (.ref x) "__ne__" b) (fun r s' => ∃ v, r = some v ∧ Q v s') E s := by
    unfold tryCompare
    refine wpAny_bind ?_
    simp only [callSpecialIfBound?, bindSpecialIfBound?]
    refine wpAny_holding (wpAny_bind (wpAny_bind (sp.here ?_)))
    refine wpAny_bind (wpAny_askSetting (wpAny_ite ?_))
    have fin : wpAny (model prog w) A (call (.builtin "object.__ne__") ([.ref x] ++ [b]) >>= fun v => pure (some v)) (fun r s' => wpAny (model prog w) A (match r with
        | some .notImplemented | none => pure none
        | some v => pure (some v)) (fun r s' => ∃ v, r = some v ∧ Q v s') E s') E s :=
      wpAny_bind (wpAny_mono hcall (fun v s' h' => by
        obtain ⟨k, rfl, q⟩ := h'
        exact wpAny_pure (wpAny_pure ⟨_, rfl, q⟩)) fun _ _ h' => h')
    split
    · exact wpAny_bind (wpAny_of_eq hbs (wpAny_pure (by exact fin)))
    · exact wpAny_tryCatch (wpAny_bind (wpAny_of_eq hbs (wpAny_pure (by exact fin))))
  unfold richCompare
  simp only [oneThing_ref]
  refine wpAny_holding (wpAny_bind (wpAny_cRoomFor (Nat.lt_of_succ_lt hu) ?_))
  refine wpAny_bind (I.type.here (wpAny_bind (hb.here ?_)))
  split
  · rename_i q
    have e : PySem.W.subIn K tb (.ref C) = some false := by
      rcases Bool.or_eq_true_iff.mp hn with e | e
      · rw [beq_iff_eq.mp e] at q; simp at q
      · exact beq_iff_eq.mp e
    refine wpAny_bind ((PySem.W.looks_subIn X e).here ?_)
    simp only [Bool.false_eq_true, if_false]
    refine wpAny_bind (wpAny_mono one (fun r s' z => ?_) fun _ _ e => e)
    obtain ⟨v, rfl, hq⟩ := z
    exact wpAny_pure hq
  · refine wpAny_bind (wpAny_pure ?_)
    simp only [Bool.false_eq_true, if_false]
    refine wpAny_bind (wpAny_mono one (fun r s' z => ?_) fun _ _ e => e)
    obtain ⟨v, rfl, hq⟩ := z
    exact wpAny_pure hq
end
/-- the right one: None, a list, an instance -/
inductive Rt3 (H : Hp) : V → Value → Prop
  | non : Rt3 H .non (.type "NoneType")
  | lst {a : Addr} {xs : List V} (e : H a = some (.lst xs)) : Rt3 H (.ref a) (.type "list")
  | ins {b C dx : Addr} {fs : List (Str × V)} (e : H b = some (.ins C dx fs)) : Rt3 H (.ref b) (.ref C)
section
variable {X : Cx}
theorem looks_rt3 {pins : List (Addr × Obj)} {σ : L2.St} {H : Hp} {s : Shared} {y : V} {u tb : Value} (I : Inv X pins σ H s) (ry : RelV y u) (h : Rt3 H y tb) : PySem.W.Looks (model X.prog X.w) s.heap (typeOf u) tb := by
  cases h with
  | non =>
    obtain rfl : u = Value.none := ry
    exact PySem.W.Looks.of_pure rfl
  | @lst a xs e =>
    obtain rfl : u = Value.ref a := ry
    obtain ⟨_, its, n, _, ho⟩ := (show ObjOk X.prog X.w H s.heap a (.lst xs) from I.hok a _ e)
    exact (PySem.W.Looks.ld ho).andThen .now
  | @ins b C dx fs e =>
    obtain rfl : u = Value.ref b := ry
    obtain ⟨mA, J, _⟩ := ins_get I.hok e
    obtain ⟨od, J, _⟩ := J.look
    exact J.type
def rEqI (K : PySem.W.Frag) (C : Addr) (sp : Sp) (neg : Bool) : R2 := fun x y H Q => ∃ a dx fs tb, x = .ref a ∧ H a = some (.ins C dx fs) ∧ Rt3 H y tb ∧ PySem.W.notFirst K C tb = true ∧ sp [.ref a, y] H (fun v H' => ∃ k, v = .bl k ∧ Q (.bl (if neg then !k else k)) H') E0
theorem call_own2 {k : Nat} {f a : Addr} {fd : FuncData} {ps : List Str} {sp : Sp} {A1 : Around} {pins : List (Addr × Obj)} {σ : L2.St} {H : Hp} {s : Shared} {y : V} {u : Value} {N : V → Hp → Prop} (F : FnOk X.prog X.w X.K X.mg X.base CX0 k f fd ps sp) (hb : Binds X.K fd ps []) (sb : Sub X k A1)
    (I : Inv X pins σ H s) (ry : RelV y u) (h : sp [.ref a, y] H N E0) : wpAny (model X.prog X.w) A1 (call (.ref f) [.ref a, u]) (fun v s' => ∃ z H', Inv X pins σ H' s' ∧ RelV z v ∧ N z H') X.xe s := by
  have e0 : Env0 X.prog X.w X.K X.mg X.base A1 X.stack s H := by
    have e := I.env0
    exact ⟨by rw [sb.fr]; exact e.frames, e.mod, e.bs, e.bsz, e.funs, e.frf, e.hok, e.bare⟩
  have hl := F.len _ _ _ _ h
  have r2 : Vals [V.ref a, y] [Value.ref a, u] := .cons rfl (.cons ry .nil)
  refine wpAny_call (codeAny_mono (F.run A1 X.stack s H ⟨[.ref a, u], []⟩ [.ref a, u] [.ref a, y] _ _ sb.room e0 (by
    have := hb s [.ref a, u] I.kIn (by simpa using hl)
    simpa using this) r2 h) fun r s' hq => ?_)
  cases r with
  | error e => exact hq.elim
  | ok fl =>
    cases fl with
    | ret w =>
      obtain ⟨z, H', I', rz, ez⟩ := I.after hq
      exact ⟨z, H', I', rz, ez⟩
    | next => exact False.elim hq
    | brk => exact False.elim hq
    | cont => exact False.elim hq
theorem op_eqI {k : Nat} {C f : Addr} {fd : FuncData} {ps : List Str} {sp : Sp} (c : EqC X.K C f) (F : FnOk X.prog X.w X.K X.mg X.base CX0 k f fd ps sp) (hb : Binds X.K fd ps []) (hr : Room (k + 1) X.A) : OpR X (compareOp .Eq) (rEqI X.K C sp false) := by
  intro pins s σ H x y v u Q I rx ry h
  obtain ⟨a, dx, fs, tb, rfl, ha, ht, hn, hsp⟩ := h
  obtain rfl : v = Value.ref a := rx
  obtain ⟨mA, J, _⟩ := ins_get I.hok ha
  obtain ⟨od, J, _⟩ := J.look
  obtain ⟨m, hF⟩ := I.fr
  have sb : Sub X k X.A := ⟨hr.mono (Nat.le_succ _), rfl⟩
  unfold compareOp
  refine PySem.W.cmp_K (op := .Eq) (tb := tb) sb.room.units0 hF I.ok.mod.kin J (looks_rt3 I ry ht) hn c.eq c.fn ?_
  refine wpAny_mono (call_own2 F hb sb I ry hsp) (fun w s' hw => ?_) fun _ _ e => e
  obtain ⟨z, H', I', rz, kk, rfl, q⟩ := hw
  obtain rfl : w = Value.bool kk := rz
  exact ⟨.bl kk, H', I', rfl, q⟩
theorem op_neI {k : Nat} {C f : Addr} {fd : FuncData} {ps : List Str} {sp : Sp} (c : EqC X.K C f) (F : FnOk X.prog X.w X.K X.mg X.base CX0 k f fd ps sp) (hb : Binds X.K fd ps []) (hr : Room (k + 1) X.A) : OpR X (compareOp .NotEq) (rEqI X.K C sp true) := by
  intro pins s σ H x y v u Q I rx ry h
  obtain ⟨a, dx, fs, tb, rfl, ha, ht, hn, hsp⟩ := h
  obtain rfl : v = Value.ref a := rx
  obtain ⟨mA, J, _⟩ := ins_get I.hok ha
  obtain ⟨od, J, _⟩ := J.look
  have sb : Sub X k X.A.in1 := Sub.in1 (⟨hr, rfl⟩ : Sub X (k + 1) X.A)
  unfold compareOp
  refine ne_K (tb := tb) (Nat.lt_of_le_of_lt (Nat.add_le_add_left (show 1 ≤ 64 by decide) _) hr.units) I.kIn J (looks_rt3 I ry ht) hn c ?_
  refine wpAny_mono (call_own2 F hb sb I ry hsp) (fun w s' hw => ?_) fun _ _ e => e
  obtain ⟨z, H', I', rz, kk, rfl, q⟩ := hw
  obtain rfl : w = Value.bool kk := rz
  exact ⟨kk, rfl, .bl (!kk), H', I', rfl, q⟩
end
/-! ## a test, what follows is shown once -/
def tMidT (t : TT) : TT := fun σ H Q => ∃ M : Bool → Hp → Prop, t σ H M ∧ ∀ b H', M b H' → Q b H'
theorem pt_mid {X : Cx} {e : Expr} {t : TT} (h : PT X e t) : PT X e (tMidT t) := by
  refine ⟨fun pins s σ H Q I hq => ?_⟩
  obtain ⟨M, h1, h2⟩ := hq
  exact thn (h.run pins s σ H M I h1) fun b s1 ⟨H1, I1, q⟩ => ⟨H1, I1, h2 b H1 q⟩
end Lc
set_option Elab.async false
set_option linter.all false
set_option maxRecDepth 100000
set_option maxHeartbeats 4000000
namespace K12
open PySem PySem.Spec PyProof.Rows L2 Lc
theorem can_str {n : Nat} {x : Str} (h : Sh n x) : (PyData.str x).canLay0 = true := by
  show x.cps.all (· < 0x110000) = true
  rw [Array.all_eq_true]
  intro i hi
  have := h.ok x.cps[i] (by simp)
  simpa using this
theorem cans_all {ds : List PyData} (h : ∀ d ∈ ds, d.canLay0 = true) : PyData.canLayAll0 ds = true := by
  induction ds with
  | nil => rfl
  | cons d ds ih => simp [PyData.canLayAll0, h d List.mem_cons_self, ih fun x hx => h x (List.mem_cons_of_mem _ hx)]
theorem Vk.can {k : Str} {d : PyData} (h : Vk k d) : d.canLay0 = true := by
  cases h with
  | non => rfl
  | num => rfl
  | flag => rfl
  | word h _ => exact can_str h
theorem Vks.can : ∀ {ks : List Str} {ds : List PyData}, Vks ks ds → PyData.canLayAll0 ds = true
  | _, _, .nil => rfl
  | _, _, .cons h r => by simp [PyData.canLayAll0, h.can, Vks.can r]
theorem OkEn.can {ks : List Str} {es : List En} {e : En} (g : OkEn ks es e) : e.vals.canLay0 = true ∧ e.d.canLay0 = true ∧ Sh 100 e.w := by
  have hw : Sh 100 e.w := by
    rcases g.go with ⟨h, _⟩ | ⟨h, _⟩ | ⟨h, _⟩ <;> rw [h] <;> exact ⟨by decide +kernel, by decide +kernel⟩
  have h : e.vals.canLay0 = true := by
    rcases g.go with ⟨_, _, ds, h, v⟩ | ⟨_, _, ds, h, v⟩ | ⟨_, _, h⟩
    · rw [h]; exact v.can
    · rw [h]; exact v.can
    · rw [h]; rfl
  refine ⟨h, cans_all fun d hd => ?_, hw⟩
  simp only [List.mem_cons, List.not_mem_nil, or_false] at hd
  rcases hd with rfl | rfl | rfl | rfl
  · exact can_str hw
  · rfl
  · exact h
  · exact can_str g.au.1
theorem OkEs.can {ks : List Str} {es : List En} (h : OkEs ks es) : PyData.canLayAll0 (es.map En.d) = true := by
  refine cans_all fun d hd => ?_
  obtain ⟨e, he, rfl⟩ := List.mem_map.mp hd
  obtain ⟨i, hi⟩ := List.mem_iff_getElem?.mp he
  exact (h.at hi).can.2.1
theorem ColsOk.can {ps : List (Str × Str)} (h : ColsOk ps) : PyData.canLayAll0 (ps.map colP) = true := by
  refine cans_all fun d hd => ?_
  obtain ⟨p, hp, rfl⟩ := List.mem_map.mp hd
  obtain ⟨h1, _, h3⟩ := h.each p hp
  refine cans_all fun d hd => ?_
  simp only [List.mem_cons, List.not_mem_nil, or_false] at hd
  rcases hd with rfl | rfl
  · exact can_str h1
  · exact can_str h3.sh
theorem eqvAll_len : ∀ {xs ys : List PyData}, xs.length ≠ ys.length → PyData.eqvAll xs ys = false
  | [], [], h => absurd rfl h
  | [], _ :: _, _ => rfl
  | _ :: _, [], _ => rfl
  | x :: xs, y :: ys, h => by
    rw [PyData.eqvAll, eqvAll_len (xs := xs) (ys := ys) (fun e => h (by rw [List.length_cons, List.length_cons, e])), Bool.and_false]
theorem Vk.depth {k : Str} {d : PyData} (h : Vk k d) : d.depth ≤ 1 := by cases h <;> simp [PyData.depth, PyData.depthAll]
theorem Vks.depth : ∀ {ks : List Str} {ds : List PyData}, Vks ks ds → PyData.depthAll ds ≤ 1
  | _, _, .nil => Nat.zero_le _
  | _, _, .cons h r => by
    have h1 := h.depth
    have h2 := Vks.depth r
    simp only [PyData.depthAll]
    omega
theorem OkEn.depth {ks : List Str} {es : List En} {e : En} (g : OkEn ks es e) : e.vals.depth ≤ 2 ∧ e.d.depth ≤ 3 := by
  have h : e.vals.depth ≤ 2 := by
    rcases g.go with ⟨_, _, ds, h, v⟩ | ⟨_, _, ds, h, v⟩ | ⟨_, _, h⟩
    · rw [h]; have := v.depth; simp only [PyData.depth]; omega
    · rw [h]; have := v.depth; simp only [PyData.depth]; omega
    · rw [h]; decide +kernel
  refine ⟨h, ?_⟩
  show PyData.depth (.tuple [.str e.w, .int e.n, e.vals, .str e.au]) ≤ 3
  simp only [PyData.depth, PyData.depthAll]
  omega
theorem depthAll_app {a b : List PyData} : PyData.depthAll (a ++ b) = max (PyData.depthAll a) (PyData.depthAll b) := by
  induction a with
  | nil => simp [PyData.depthAll]
  | cons x a ih => simp only [List.cons_append, PyData.depthAll, ih]; omega
theorem OkEs.depth {ks : List Str} {es : List En} (h : OkEs ks es) : PyData.depthAll (es.map En.d) ≤ 3 := by
  induction h with
  | nil => exact Nat.zero_le _
  | snoc h g ih =>
    rw [List.map_append, depthAll_app]
    have := g.depth.2
    simp only [List.map_cons, List.map_nil, PyData.depthAll]
    omega
theorem cols_depth (ps : List (Str × Str)) : PyData.depthAll (ps.map colP) ≤ 1 ∧ noLs (ps.map colP) = true := by
  induction ps with
  | nil => exact ⟨Nat.zero_le _, rfl⟩
  | cons p ps ih =>
    refine ⟨?_, ?_⟩
    · simp only [List.map_cons, PyData.depthAll, colP, PyData.depth]
      have := ih.1
      omega
    · rw [List.map_cons, noLs, ih.2]
      rfl
theorem shp_es {ks : List Str} {es : List En} (h : OkEs ks es) : SeqAt.shaped (.list (es.map En.d)) = true := by
  refine Bool.and_eq_true_iff.mpr ⟨?_, decide_eq_true ?_⟩
  · show PyData.canLayAll0 (es.map En.d) = true
    exact h.can
  · have := h.depth
    simp only [PyData.depth]
    omega
theorem shp_ps {ps : List (Str × Str)} (h : ColsOk ps) : SeqAt.shaped (.tuple (ps.map colP)) = true := by
  obtain ⟨h1, h2⟩ := cols_depth ps
  refine Bool.and_eq_true_iff.mpr ⟨?_, decide_eq_true ?_⟩
  · show PyData.canLayAll0 (ps.map colP) = true
    exact h.can
  · simp only [PyData.depth]
    omega
/-! ## how long it is when it is shown -/
theorem tm_int {i : Int} (h : i.natAbs ≤ 10000000000000000000000000000000000000000) : Tm 0 2000 (.int i) := by
  have b : i.natAbs < 2 ^ 1000 := Nat.lt_of_le_of_lt h (Nat.lt_of_lt_of_le (show 10000000000000000000000000000000000000000 < 2 ^ 140 by decide) (Nat.pow_le_pow_right (by decide) (by decide)))
  obtain ⟨h1, h2⟩ := num_len b
  exact ⟨h1, rfl, Nat.le_refl _, Nat.le_trans h2 (by decide)⟩
theorem tm_txt {x : Str} (h : Sh 100 x) : Tm 0 2000 (.str x) := by
  refine ⟨rfl, rfl, Nat.le_refl _, ?_⟩
  show (reprText x).length ≤ 2000
  have := StrLaws.reprText_len x (fun c hc => Nat.lt_trans (h.ok c hc) (by decide))
  have e := lenL x
  have := h.len
  omega
theorem tm_nonB : Tm 0 2000 .none ∧ ∀ b : Bool, Tm 0 2000 (.bool b) := ⟨⟨rfl, rfl, Nat.le_refl _, by decide +kernel⟩, fun b => ⟨rfl, rfl, Nat.le_refl _, by cases b <;> decide +kernel⟩⟩
theorem Vk.tm {k : Str} {d : PyData} (h : Vk k d) : Tm 1 4100 d := by
  cases h with
  | non => exact tm_nonB.1.mono (by decide) (by decide)
  | flag b => exact (tm_nonB.2 b).mono (by decide) (by decide)
  | word h _ => exact (tm_txt (h.mono (by decide))).mono (by decide) (by decide)
  | @num n d _ h1 h2 =>
    exact (tm_tup (k := 0) (n := 2000) (fun x hx => by simp at hx; rcases hx with rfl | rfl; exact tm_int h1; exact tm_int h2)).mono (by decide) (by show 2000 * 2 + 2 * 2 + 4 ≤ 4100; decide)
theorem Vks.tm {ks : List Str} {ds : List PyData} (h : Vks ks ds) (l : ks.length ≤ 8) : Tm 2 33000 (.tuple ds) := by
  have ln := h.len
  have all : ∀ d ∈ ds, Tm 1 4100 d := by
    clear ln l
    induction h with
    | nil => exact nofun
    | cons h r ih =>
      intro d hd
      rcases List.mem_cons.mp hd with rfl | hd
      · exact h.tm
      · exact ih d hd
  exact (tm_tup all).mono (by decide) (by omega)
/-- by the sum of the parts -/
theorem tm_tupS {k n : Nat} {ds : List PyData} (h : ∀ d ∈ ds, ∃ m, Tm k m d) (s : ((PyData.shownAll ds).map (·.length)).sum ≤ n) : Tm (k + 1) (n + 2 * ds.length + 4) (.tuple ds) := by
  have key : PyData.showableAll ds = true ∧ PyData.hasDictAll ds = false ∧ PyData.depthAll ds ≤ k ∧ (PyData.shownAll ds).length = ds.length := by
    clear s
    induction ds with
    | nil => exact ⟨rfl, rfl, Nat.zero_le _, rfl⟩
    | cons d ds ih =>
      obtain ⟨h1, h2, h3, h4⟩ := ih fun x hx => h x (List.mem_cons_of_mem _ hx)
      obtain ⟨m, hd⟩ := h d List.mem_cons_self
      refine ⟨by simp [PyData.showableAll, hd.sh, h1], by simp [PyData.hasDictAll, hd.nd, h2], ?_, by simp [PyData.shownAll, h4]⟩
      simp only [PyData.depthAll]
      have := hd.dz
      omega
  obtain ⟨h1, h2, h3, h4⟩ := key
  refine ⟨by simpa [PyData.showable] using h1, by simpa [PyData.hasDict] using h2, ?_, ?_⟩
  · simp only [PyData.depth]
    omega
  · have := tupleText_len_le (PyData.shownAll ds)
    simp only [PyData.shown]
    omega
theorem tm_lstS {k n : Nat} {ds : List PyData} (h : ∀ d ∈ ds, ∃ m, Tm k m d) (s : ((PyData.shownAll ds).map (·.length)).sum ≤ n) : Tm (k + 1) (n + 2 * ds.length + 4) (.list ds) := by
  have key : PyData.showableAll ds = true ∧ PyData.hasDictAll ds = false ∧ PyData.depthAll ds ≤ k ∧ (PyData.shownAll ds).length = ds.length := by
    clear s
    induction ds with
    | nil => exact ⟨rfl, rfl, Nat.zero_le _, rfl⟩
    | cons d ds ih =>
      obtain ⟨h1, h2, h3, h4⟩ := ih fun x hx => h x (List.mem_cons_of_mem _ hx)
      obtain ⟨m, hd⟩ := h d List.mem_cons_self
      refine ⟨by simp [PyData.showableAll, hd.sh, h1], by simp [PyData.hasDictAll, hd.nd, h2], ?_, by simp [PyData.shownAll, h4]⟩
      simp only [PyData.depthAll]
      have := hd.dz
      omega
  obtain ⟨h1, h2, h3, h4⟩ := key
  refine ⟨by simpa [PyData.showable] using h1, by simpa [PyData.hasDict] using h2, ?_, ?_⟩
  · simp only [PyData.depth]
    omega
  · have := listText_len_le (PyData.shownAll ds)
    simp only [PyData.shown]
    omega
theorem OkEn.tmV {ks : List Str} {es : List En} {e : En} (g : OkEn ks es e) (l : ks.length ≤ 8) : Tm 2 33000 e.vals := by
  rcases g.go with ⟨_, _, ds, h, v⟩ | ⟨_, _, ds, h, v⟩ | ⟨_, _, h⟩
  · rw [h]; exact v.tm l
  · rw [h]; exact v.tm l
  · rw [h]; exact tm_nonB.1.mono (by decide) (by decide)
theorem OkEs.used_le {ks : List Str} {es : List En} (h : OkEs ks es) : usedD es ≤ es.length := List.length_filter_le _ _
theorem OkEn.num {ks : List Str} {es : List En} {e : En} (o : OkEs ks es) (g : OkEn ks es e) (l : es.length ≤ 1000) : 0 ≤ e.n ∧ e.n ≤ 1000 := by
  have := o.used_le
  rcases g.go with ⟨_, h, _⟩ | ⟨_, h, _⟩ | ⟨_, h, _⟩
  · omega
  · have := o.keys.2.1 _ h; omega
  · have := o.keys.2.1 _ h; omega
theorem OkEn.tmD {ks : List Str} {es : List En} {e : En} (o : OkEs ks es) (g : OkEn ks es e) (l : ks.length ≤ 8) (l2 : es.length ≤ 1000) : Tm 3 40000 e.d := by
  have h1 := tm_txt g.can.2.2
  have h2 : Tm 0 2000 (.int e.n) := tm_int (by have := OkEn.num o g l2; omega)
  have h3 := g.tmV l
  have h4 := tm_txt (g.au.1.mono (show 12 ≤ 100 by decide))
  refine (tm_tupS (k := 2) (n := 39000) (fun d hd => ?_) ?_).mono (by decide) (by show 39000 + 2 * 4 + 4 ≤ 40000; decide)
  · simp only [List.mem_cons, List.not_mem_nil, or_false] at hd
    rcases hd with rfl | rfl | rfl | rfl
    · exact ⟨_, h1.mono (by decide) (Nat.le_refl _)⟩
    · exact ⟨_, h2.mono (by decide) (Nat.le_refl _)⟩
    · exact ⟨_, h3⟩
    · exact ⟨_, h4.mono (by decide) (Nat.le_refl _)⟩
  · have a1 := h1.ln
    have a2 := h2.ln
    have a3 := h3.ln
    have a4 := h4.ln
    simp only [PyData.shownAll, List.map_cons, List.map_nil, List.sum_cons, List.sum_nil]
    omega
theorem OkEs.tm {ks : List Str} {es : List En} (o : OkEs ks es) (l : ks.length ≤ 8) (l2 : es.length ≤ 100) : Tm 4 4100000 (.list (es.map En.d)) := by
  refine (tm_lst (k := 3) (n := 40000) (fun d hd => ?_)).mono (by decide) (by rw [List.length_map]; omega)
  obtain ⟨e, he, rfl⟩ := List.mem_map.mp hd
  obtain ⟨i, hi⟩ := List.mem_iff_getElem?.mp he
  exact OkEn.tmD (OkEs.take i o) (o.at hi) l (by rw [List.length_take]; omega)
/-- the rows' values -/
theorem OkEs.vals {ks : List Str} {es : List En} (h : OkEs ks es) (l : ks.length ≤ 8) : ∀ p ∈ stD es, Tm 2 33000 p.2 := by
  induction h with
  | nil => exact nofun
  | @snoc es e h g ih =>
    intro p hp
    rw [stD_snoc] at hp
    unfold stepS at hp
    rcases g.go with ⟨hw, _⟩ | ⟨hw, _⟩ | ⟨hw, _⟩
    · rw [if_pos hw] at hp
      rcases List.mem_append.mp hp with q | q
      · exact ih p q
      · rw [List.mem_singleton.mp q]; exact g.tmV l
    · rw [if_neg (by rw [hw]; exact w_ac), if_pos hw] at hp
      obtain ⟨q, hq, rfl⟩ := List.mem_map.mp hp
      by_cases z : q.1 = e.n
      · rw [if_pos z]; exact g.tmV l
      · rw [if_neg z]; exact ih q hq
    · rw [if_neg (by rw [hw]; exact w_as), if_neg (by rw [hw]; exact w_cs)] at hp
      exact ih p (List.mem_filter.mp hp).1
theorem OkEs.tmR {ks : List Str} {es : List En} (o : OkEs ks es) (l : ks.length ≤ 8) (l2 : es.length ≤ 100) : Tm 4 4100000 (.list (rowsD (stD es))) := by
  have lk := o.keys.2.2
  refine (tm_lst (k := 3) (n := 40000) (fun d hd => ?_)).mono (by decide) (by unfold rowsD; rw [List.length_map]; omega)
  obtain ⟨p, hp, rfl⟩ := List.mem_map.mp hd
  have h3 := o.vals l p hp
  have hn := o.keys.2.1 p.1 (List.mem_map.mpr ⟨p, hp, rfl⟩)
  have hu := o.used_le
  have h2 : Tm 0 2000 (.int p.1) := tm_int (by omega)
  refine (tm_tupS (k := 2) (n := 39000) (fun d hd => ?_) ?_).mono (by decide) (by show 39000 + 2 * 2 + 4 ≤ 40000; decide)
  · simp only [List.mem_cons, List.not_mem_nil, or_false] at hd
    rcases hd with rfl | rfl
    · exact ⟨_, h2.mono (by decide) (Nat.le_refl _)⟩
    · exact ⟨_, h3⟩
  · have a2 := h2.ln
    have a3 := h3.ln
    simp only [PyData.shownAll, List.map_cons, List.map_nil, List.sum_cons, List.sum_nil]
    omega
theorem tm_aus {l : List Str} (h : ∀ x ∈ l, Sh 12 x) (n : l.length ≤ 100) : Tm 1 210000 (.list (l.map PyData.str)) := by
  refine (tm_lst (k := 0) (n := 2000) (fun d hd => ?_)).mono (by decide) (by rw [List.length_map]; omega)
  obtain ⟨x, hx, rfl⟩ := List.mem_map.mp hd
  exact tm_txt ((h x hx).mono (by decide))
theorem shwB {K : PySem.W.Frag} {H : Hp} {v : V} {d : PyData} {k n : Nat} (h : Dh H v d) (t : Tm k n d) (a : k ≤ 60) (b : n ≤ 16000000) : Shw K H v d.shown := h.shw t.sh t.nd (Nat.le_trans t.dz a) (Nat.le_trans t.ln (Nat.le_trans b (by decide)))
end K12
set_option Elab.async false
set_option linter.all false
set_option maxRecDepth 100000
set_option maxHeartbeats 4000000
namespace K12
open PySem PySem.Spec PyProof.Rows L2 Lc
abbrev sDe : Stmt := top 46
def NoLast (es : List En) : Prop := ∀ e ∈ es, e.au ≠ ("last" : Str)
theorem NoLast.snoc {es : List En} {e : En} (h : NoLast es) (g : e.au ≠ ("last" : Str)) : NoLast (es ++ [e]) := fun x hx => by
  rcases List.mem_append.mp hx with q | q
  · exact h x q
  · rw [List.mem_singleton.mp q]; exact g
def spDe : Sp := fun vs H Q _ => ∃ (t c L : Addr) (m : Int) (b : Bool) (xs : List V) (ps : List (Str × Str)), vs = [.ref t, .ref L, .int m, .bl b] ∧ TapeL c H t ∧ H L = some (.tup xs) ∧ Cols H xs ps ∧ (∀ p ∈ ps, KindS p.2) ∧ ps.length ≤ 8 ∧ 0 ≤ m ∧ m ≤ 60 ∧
  ∀ (r : Addr) (zs : List V) (es : List En) (H' : Hp), H' r = some (.lst zs) → H r = none → DhAll H' zs (es.map En.d) → OkEs (ps.map (·.2)) es → es.length ≤ m.toNat → NoLast es → TapeL c H' t → SameB t H H' → Q (.ref r) H'
/-- a list of entries grows -/
theorem es_grow {H : Hp} {D q : Addr} {zs : List V} {x : V} {ks : List Str} {es : List En} {e : En} (hD : H D = some (.lst zs)) (hd : DhAll H zs (es.map En.d)) (o : OkEs ks es) (g : OkEn ks es e) (hq : H q = some (.tup [.str e.w, .int e.n, x, .str e.au])) (hx : Dh H x e.vals) :
    DhAll (upd H D (.lst (zs ++ [.ref q]))) (zs ++ [.ref q]) ((es ++ [e]).map En.d) := by
  have st := SameT.lst (o := .lst (zs ++ [.ref q])) hD
  rw [List.map_append]
  have d : Dh H (.ref q) e.d := .tup hq (.cons (.str _) (.cons (.int _) (.cons hx (.cons (.str _) .nil))))
  exact DhAll.append (DhAll.t st hd o.noLd) (.cons (d.t st g.noLd) .nil)
theorem erase_map {α β : Type} (f : α → β) : ∀ (l : List α) (k : Nat), (l.map f).eraseIdx k = (l.eraseIdx k).map f
  | [], _ => rfl
  | _ :: _, 0 => rfl
  | x :: l, k + 1 => by rw [List.map_cons, List.eraseIdx_cons_succ, List.eraseIdx_cons_succ, List.map_cons, erase_map f l k]
theorem filter_erase {l : List (Int × PyData)} (nd : (l.map (·.1)).Nodup) : ∀ {k : Nat} {n : Int}, (l.map (·.1))[k]? = some n → ((l.filter fun p => decide (p.1 ≠ n)).map (·.1)) = (l.map (·.1)).eraseIdx k := by
  induction l with
  | nil => intro k n h; simp at h
  | cons p l ih =>
    intro k n h
    rw [List.map_cons] at nd h
    obtain ⟨n1, n2⟩ := List.nodup_cons.mp nd
    cases k with
    | zero =>
      have e : p.1 = n := Option.some.inj h
      rw [List.filter_cons_of_neg (by simp [e]), List.map_cons, List.eraseIdx_cons_zero]
      have : l.filter (fun p => decide (p.1 ≠ n)) = l := List.filter_eq_self.mpr fun q hq => decide_eq_true fun z => n1 (by rw [e, ← z]; exact List.mem_map.mpr ⟨q, hq, rfl⟩)
      rw [this]
    | succ k =>
      have h : (l.map (·.1))[k]? = some n := by simpa using h
      have ne : p.1 ≠ n := fun e => n1 (by rw [e]; exact List.mem_of_getElem? h)
      rw [List.filter_cons_of_pos (by simp [ne]), List.map_cons, List.map_cons, List.eraseIdx_cons_succ, ih n2 h]
section
variable {P : Program} {w : World} {K : PySem.W.Frag} {mg : Str → Option Value} {base : Heap} {f fD fV : Addr} {fd fdD fdV : FuncData}
theorem scDe : FnScope ["_law_tape_here", "_law_columns_here", "_law_many", "_law_wide", "_law_deeds_here", "_law_alive", "_law_used", "_law_k", "_law_turn", "_law_hand", "_law_number"] ["_law_tape_here", "_law_columns_here", "_law_many", "_law_wide"] (defScope sDe) := ⟨rfl, rfl, rfl, by decide +kernel, rfl, by decide +kernel, by decide +kernel⟩
theorem ok_de (F : Fun K "_law_deeds" "_law_deeds" sDe f fd) (T : Bt mg) (GD : FnOk P w K mg base CX0 1 fD fdD ["_law_tape_here", "_law_many"] spDrawL) (mD : mg "_law_draw" = some (.ref fD)) (kD : PySem.W.keepIn K (.ref fD) = true) (bD : Binds K fdD ["_law_tape_here", "_law_many"] [])
    (GV : FnOk P w K mg base CX0 4 fV fdV ["_law_tape_here", "_law_columns_here", "_law_wide"] spVals) (mV : mg "_law_values" = some (.ref fV)) (kV : PySem.W.keepIn K (.ref fV) = true) (bV : Binds K fdV ["_law_tape_here", "_law_columns_here", "_law_wide"] []) : FnOk P w K mg base CX0 5 f fd ["_law_tape_here", "_law_columns_here", "_law_many", "_law_wide"] spDe := by
  refine F.ok scDe (fun vs H Q E h => ?_) (fun cdv A outer s H vs Q E hr h => ?_)
  · obtain ⟨t, c, L, m, b, xs, ps, rfl, _⟩ := h
    rfl
  · obtain ⟨t, c, L, m, b, xs, ps, rfl, hT, hL, hc, hk, l8, m0, m60, k⟩ := h
    have hr1 : Room 1 _ := hr.mono (by decide)
    refine ⟨_, pss_cons (ps_set (i := 4) scDe.nd rfl (Or.inl rfl) (pe_lst pa_nil)) (pss_cons (ps_set (i := 5) scDe.nd rfl (Or.inl rfl) (pe_lst pa_nil)) (pss_cons (ps_set (i := 6) scDe.nd rfl (Or.inl rfl) pe_int)
      (pss_cons (ps_for PassesOwn.never rfl (pi_range1 (by rfl) T.range (pa_cons (pe_call GD hr1 (by rfl) mD kD bD .nil pass0 (pa_cons (pv 0) (pa_cons (pe_op op_add (pv 2) pe_int) pa_nil))) pa_nil)) (pg_name (i := 7) scDe.nd rfl (Or.inl rfl))
        (pss_cons (ps_set (i := 8) scDe.nd rfl (Or.inl rfl) (pe_call GD hr1 (by rfl) mD kD bD .nil pass0 (pa_cons (pv 0) (pa_cons pe_int pa_nil))))
        (pss_cons (ps_set (i := 9) scDe.nd rfl (Or.inl rfl) (pe_ix ix_list (pe_lst (pa_cons pe_str (pa_cons pe_str (pa_cons pe_str (pa_cons pe_str pa_nil))))) (pe_call GD hr1 (by rfl) mD kD bD .nil pass0 (pa_cons (pv 0) (pa_cons pe_int pa_nil))) (fun _ _ => rfl)))
        (pss_one (ps_if (pt_mid (PW.pt (pw_or (pt_cmpR op_lt (pv 8) pe_int (nomark _)) (pw_or1 (pt_not (pt_truth (pv 5) (fun _ => rfl)))))))
          (pss_cons (ps_expr (pe_bm PySem.F.plainAttrs_list PySem.F.slot_list_append PySem.F.type_list_append mt_append (pv 4) (pa_cons (pe_tup (pa_cons pe_str (pa_cons (pv 6) (pa_cons (pe_call GV hr (by rfl) mV kV bV .nil pass0 (pa_cons (pv 0) (pa_cons (pv 1) (pa_cons (pv 3) pa_nil)))) (pa_cons (pv 9) pa_nil))))) pa_nil)))
          (pss_cons (ps_expr (pe_bm PySem.F.plainAttrs_list PySem.F.slot_list_append PySem.F.type_list_append mt_append (pv 5) (pa_cons (pv 6) pa_nil))) (pss_one (ps_set (i := 6) scDe.nd rfl (Or.inl rfl) (pe_op op_add (pv 6) pe_int)))))
          (pss_one (ps_if (pt_cmpR op_eq (pv 8) pe_int (nomark _))
            (pss_cons (ps_set (i := 10) scDe.nd rfl (Or.inl rfl) (pe_ix ix_list (pv 5) (pe_call GD hr1 (by rfl) mD kD bD .nil pass0 (pa_cons (pv 0) (pa_cons (pe_callB call_len_seq (by rfl) T.len PySem.boot_len (pa_cons (pv 5) pa_nil)) pa_nil))) (fun _ _ => rfl)))
            (pss_one (ps_expr (pe_bm PySem.F.plainAttrs_list PySem.F.slot_list_append PySem.F.type_list_append mt_append (pv 4) (pa_cons (pe_tup (pa_cons pe_str (pa_cons (pv 10) (pa_cons (pe_call GV hr (by rfl) mV kV bV .nil pass0 (pa_cons (pv 0) (pa_cons (pv 1) (pa_cons (pv 3) pa_nil)))) (pa_cons (pv 9) pa_nil))))) pa_nil)))))
            (pss_one (ps_expr (pe_bm PySem.F.plainAttrs_list PySem.F.slot_list_append PySem.F.type_list_append mt_append (pv 4) (pa_cons (pe_tup (pa_cons pe_str (pa_cons (pe_bm PySem.F.plainAttrs_list PySem.F.slot_list_pop PySem.F.type_list_pop mt_popAt (pv 5) (pa_cons (pe_call GD hr1 (by rfl) mD kD bD .nil pass0 (pa_cons (pv 0) (pa_cons (pe_callB call_len_seq (by rfl) T.len PySem.boot_len (pa_cons (pv 5) pa_nil)) pa_nil))) pa_nil)) (pa_cons pe_non (pa_cons (pv 9) pa_nil))))) pa_nil)))))))))))
      (pss_one (ps_ret (pv 4)))))), ?_⟩
    have zro : 0 ≤ sizeLine := by decide
    have four : 4 ≤ sizeLine := by decide
    refine ⟨zro, fun D hD => ⟨zro, fun Al hA => ?_⟩⟩
    have yD := Same.upd (o := .lst []) hD
    have yA := Same.upd (o := .lst []) hA
    obtain ⟨ys, hcl⟩ := hT.list
    have nDt := hT.tape.ne hD
    have nAt := (hT.same yD).tape.ne hA
    have nDc : D ≠ c := Ne.symm (ne_of_none hcl hD)
    have nAc : Al ≠ c := Ne.symm (ne_of_none (yD _ _ hcl) hA)
    have eD : upd H D (.lst []) D = some (.lst []) := upd_same
    have nDA : D ≠ Al := ne_of_none eD hA
    have gA : H Al = none := Same.gone yD hA
    have hD1 := yA _ _ eD
    have hA1 : upd (upd H D (.lst [])) Al (.lst []) Al = some (.lst []) := upd_same
    have s1 := yD.trans yA
    have T1 := hT.same s1
    generalize upd (upd H D (.lst [])) Al (.lst []) = H1 at hD1 hA1 s1 T1 ⊢
    clear yA yD eD
    let ks := ps.map (·.2)
    refine ⟨_, rfl, _, rfl, _, _, rfl, rfl, t, c, _, rfl, T1, by omega, big1000 (by omega) (by omega), fun j H2 uj wj T2 S2 => ⟨j, rfl, by omega, by omega, for_range (n := j.toNat) (fun i σ H' => ∃ (x7 x8 x9 x10 : Option V) (zs : List V) (es : List En), σ = [some (.ref t), some (.ref L), some (.int m), some (.bl b), some (.ref D), some (.ref Al), some (.int (usedD es)), x7, x8, x9, x10] ∧ H' D = some (.lst zs) ∧ DhAll H' zs (es.map En.d) ∧ H' Al = some (.lst (((stD es).map (·.1)).map V.int)) ∧ OkEs ks es ∧ es.length = i ∧ NoLast es ∧ TapeL c H' t ∧ SameB t H H')
      ⟨_, _, _, _, [], [], rfl, S2 _ _ nDt hD1, .nil, S2 _ _ nAt hA1, .nil, rfl, nofun, T2, (Same.b t s1).trans S2⟩ ?_ ?_⟩⟩
    · rintro i σ H3 hi ⟨x7, x8, x9, x10, zs, es, rfl, hD3, hd3, hA3, ok, le, nl, T3, S3⟩
      refine ⟨_, rfl, t, c, _, rfl, T3, by decide, big1000 (by decide) (by decide), fun u H4 uu wu T4 S4 => ?_⟩
      refine ⟨four, fun q0 hq0 => ?_⟩
      have zq0 := Same.upd (o := .lst [.str "bo", .str "di", .str "x", .str "a0"]) hq0
      have nq0 := T4.tape.ne hq0
      refine ⟨_, rfl, t, c, _, rfl, T4.same zq0, by decide, big1000 (by decide) (by decide), fun k3 H5 u5 w5 T5 S5 => ?_⟩
      obtain ⟨au, hau, sau, nau, nla⟩ : ∃ x : Str, ([.str "bo", .str "di", .str "x", .str "a0"] : List V)[k3.toNat]? = some (.str x) ∧ Sh 12 x ∧ nameB (.str x) = true ∧ x ≠ "last" := by
        have : k3.toNat = 0 ∨ k3.toNat = 1 ∨ k3.toNat = 2 ∨ k3.toNat = 3 := by omega
        rcases this with e | e | e | e <;> rw [e]
        · exact ⟨_, rfl, ⟨by decide +kernel, by decide +kernel⟩, by decide +kernel, by decide +kernel⟩
        · exact ⟨_, rfl, ⟨by decide +kernel, by decide +kernel⟩, by decide +kernel, by decide +kernel⟩
        · exact ⟨_, rfl, ⟨by decide +kernel, by decide +kernel⟩, by decide +kernel, by decide +kernel⟩
        · exact ⟨_, rfl, ⟨by decide +kernel, by decide +kernel⟩, by decide +kernel, by decide +kernel⟩
      refine ⟨q0, _, _, _, rfl, rfl, SqL.of (S5 _ _ nq0 upd_same), at_of (j := k3.toNat) (by omega) hau, ?_⟩
      have S6 : SameB t H3 H5 := (S4.trans (Same.b t zq0)).trans S5
      have st6 := SameT.b T3.tape S6
      have hD5 := S6 _ _ nDt hD3
      have hA5 := S6 _ _ nAt hA3
      have hd5 := DhAll.t st6 hd3 ok.noLd
      have s5 := S3.trans S6
      clear S6 st6 S4 zq0 hD3 hA3 hd3 S3 T3 T4
      have off : ∀ {Hx : Hp} {a : Addr} {o : HO}, H a = none → SameB t H Hx → SameB t H (upd Hx a o) := fun {Hx a o} g s b' o' n e => by rw [upd_ne (ne_of_none e g)]; exact s b' o' n e
      have lz := hd5.len
      rw [List.length_map] at lz
      have lim : ∀ {n : Nat}, n ≤ 100 → n < sizeLine := fun h => Nat.lt_of_le_of_lt h (by decide)
      have lst := ok.keys.2.2
      have hL5 := s5 _ _ (hT.tape.neT hL) hL
      have hc5 := hc.t (SameT.b hT.tape s5)
      refine ⟨fun bb H' => bb = (decide (u < 4) || (stD es).isEmpty) ∧ H' = H5, ?_, ?_⟩
      · refine ⟨_, rfl, _, _, rfl, rfl, _, rfl, ite2 (fun z => ?_) (fun z => ?_)⟩
        · rw [z]
          exact ⟨rfl, rfl⟩
        · refine ⟨_, rfl, _, .inl ⟨_, SqL.of hA5, rfl⟩, ?_, rfl⟩
          rw [show decide (u < 4) = false by simpa using z]
          cases stD es <;> rfl
      rintro bb H' ⟨rfl, rfl⟩
      refine ite2 (fun z => ?_) (fun z => ?_)
      · -- a row is added
        refine ⟨_, rfl, .inl ⟨rfl, _, SqL.of hD5⟩, _, rfl, _, rfl, _, rfl, _, rfl, t, c, L, b, xs, ps, rfl, T5, hL5, hc5, hk, l8, fun r ds H6 hf6 vk T6 S6 => ⟨_, rfl, four, fun q hq => ?_⟩⟩
        have hr6 := hf6.now
        have zq := Same.upd (o := .tup [.str "add", .int (usedD es), .ref r, .str au]) hq
        have st6 := SameT.b T5.tape S6
        have hD6 := zq _ _ (S6 _ _ nDt hD5)
        have hA6 := zq _ _ (S6 _ _ nAt hA5)
        have hd6 := DhAll.same zq (DhAll.t st6 hd5 ok.noLd)
        have og : OkEn ks es ⟨"add", usedD es, .tuple ds, au⟩ := ⟨⟨sau, nau⟩, .inl ⟨rfl, rfl, ds, rfl, vk⟩⟩
        have s6 := (s5.trans S6).trans (Same.b t zq)
        refine ⟨D, zs, _, rfl, rfl, hD6, lim (by omega), ?_⟩
        have gr := es_grow (e := ⟨"add", usedD es, .tuple ds, au⟩) hD6 hd6 ok og upd_same (hr6.same zq)
        have hA7 : upd (upd H6 q (.tup [.str "add", .int (usedD es), .ref r, .str au])) D (.lst (zs ++ [.ref q])) Al = some (.lst (((stD es).map (·.1)).map V.int)) := by rw [upd_ne (Ne.symm nDA)]; exact hA6
        have hD7 : upd (upd H6 q (.tup [.str "add", .int (usedD es), .ref r, .str au])) D (.lst (zs ++ [.ref q])) D = some (.lst (zs ++ [.ref q])) := upd_same
        have T7 := (T6.same zq).upd (o := .lst (zs ++ [.ref q])) nDt nDc
        have s7 := off (o := .lst (zs ++ [.ref q])) hD s6
        generalize upd (upd H6 q (.tup [.str "add", .int (usedD es), .ref r, .str au])) D (.lst (zs ++ [.ref q])) = H7 at gr hA7 hD7 T7 s7 ⊢
        refine ⟨_, rfl, .inl ⟨rfl, _, SqL.of hA7⟩, _, rfl, Al, _, _, rfl, rfl, hA7, lim (by rw [List.length_map, List.length_map]; omega), ?_⟩
        refine ⟨_, rfl, _, _, rfl, rfl, some (.int (0 + (i : Int))), some (.int u), some (.str au), x10, zs ++ [.ref q], es ++ [⟨"add", usedD es, .tuple ds, au⟩], ?_, by rw [upd_ne nDA]; exact hD7, DhAll.t (SameT.lst hA7) gr (OkEs.snoc ok og).noLd, ?_, .snoc ok og, by rw [List.length_append, le]; rfl, nl.snoc nla, T7.upd nAt nAc, off gA s7⟩
        · rw [usedD_snoc, if_pos rfl]
          rfl
        · rw [upd_same, stD_snoc]
          unfold stepS
          rw [if_pos rfl, List.map_append, List.map_append]
          rfl
      have ne : (stD es).isEmpty = false ∧ ¬ u < 4 := by
        cases q : (stD es).isEmpty with
        | true => rw [q, Bool.or_true] at z; exact absurd rfl z
        | false => rw [q, Bool.or_false] at z; exact ⟨rfl, fun y => z (decide_eq_true y)⟩
      have lpos : 0 < (stD es).length := by
        cases q : stD es with
        | nil => rw [q] at ne; cases ne.1
        | cons => simp
      have lA : (((stD es).map (·.1)).map V.int).length = (stD es).length := by rw [List.length_map, List.length_map]
      refine ⟨_, rfl, rfl, _, rfl, ite2 (fun z => ?_) (fun z => ?_)⟩
      · -- a row is corrected
        refine ⟨_, rfl, _, rfl, _, rfl, Al, _, rfl, .inl (SqL.of hA5), t, c, _, rfl, T5, by omega, big1000 (by omega) (by omega), fun g H6 ug wg T6 S6 => ?_⟩
        have hg : g.toNat < (stD es).length := by omega
        obtain ⟨n, hn⟩ : ∃ n, ((stD es).map (·.1))[g.toNat]? = some n := ⟨_, List.getElem?_eq_getElem (by rw [List.length_map]; exact hg)⟩
        have hnV : (((stD es).map (·.1)).map V.int)[g.toNat]? = some (.int n) := by rw [List.getElem?_map, hn]; rfl
        have st6 := SameT.b T5.tape S6
        refine ⟨Al, _, _, _, rfl, rfl, SqL.of (S6 _ _ nAt hA5), at_of (j := g.toNat) (by omega) hnV, ?_⟩
        refine ⟨_, rfl, .inl ⟨rfl, _, SqL.of (S6 _ _ nDt hD5)⟩, _, rfl, _, rfl, _, rfl, _, rfl, t, c, L, b, xs, ps, rfl, T6, S6 _ _ (T5.tape.neT hL5) hL5, hc5.t st6, hk, l8, fun r ds H7 hf7 vk T7 S7 => ⟨_, rfl, four, fun q hq => ?_⟩⟩
        have hr7 := hf7.now
        have zq := Same.upd (o := .tup [.str "correct", .int n, .ref r, .str au]) hq
        have st7 := SameT.b T6.tape S7
        have hD7 := zq _ _ (S7 _ _ nDt (S6 _ _ nDt hD5))
        have hA7 := zq _ _ (S7 _ _ nAt (S6 _ _ nAt hA5))
        have hd7 := DhAll.same zq (DhAll.t (st6.trans st7) hd5 ok.noLd)
        have og : OkEn ks es ⟨"correct", n, .tuple ds, au⟩ := ⟨⟨sau, nau⟩, .inr (.inl ⟨rfl, List.mem_of_getElem? hn, ds, rfl, vk⟩)⟩
        have s7 := ((s5.trans S6).trans S7).trans (Same.b t zq)
        refine ⟨D, zs, _, rfl, rfl, hD7, lim (by omega), ?_⟩
        have gr := es_grow (e := ⟨"correct", n, .tuple ds, au⟩) hD7 hd7 ok og upd_same (hr7.same zq)
        refine ⟨some (.int (0 + (i : Int))), some (.int u), some (.str au), some (.int n), zs ++ [.ref q], es ++ [⟨"correct", n, .tuple ds, au⟩], ?_, upd_same, gr, ?_, .snoc ok og, by rw [List.length_append, le]; rfl, nl.snoc nla, (T7.same zq).upd nDt nDc, off hD s7⟩
        · rw [usedD_snoc, if_neg w_ac]
          rfl
        · rw [upd_ne (Ne.symm nDA), hA7, stD_snoc]
          unfold stepS
          rw [if_neg w_ac, if_pos rfl, List.map_map, List.map_map]
          congr 2
          rw [List.map_map]
          refine List.map_congr_left fun p _ => ?_
          show V.int p.1 = V.int (if p.1 = n then (p.1, PyData.tuple ds) else p).1
          split <;> rfl
      · -- a row is struck
        refine ⟨_, rfl, .inl ⟨rfl, _, SqL.of hD5⟩, _, rfl, .inl ⟨rfl, _, SqL.of hA5⟩, _, rfl, _, rfl, Al, _, rfl, .inl (SqL.of hA5), t, c, _, rfl, T5, by omega, big1000 (by omega) (by omega), fun g H6 ug wg T6 S6 => ?_⟩
        have hg : g.toNat < (stD es).length := by omega
        obtain ⟨n, hn⟩ : ∃ n, ((stD es).map (·.1))[g.toNat]? = some n := ⟨_, List.getElem?_eq_getElem (by rw [List.length_map]; exact hg)⟩
        have hnV : (((stD es).map (·.1)).map V.int)[g.toNat]? = some (.int n) := by rw [List.getElem?_map, hn]; rfl
        have st6 := SameT.b T5.tape S6
        have hA6 := S6 _ _ nAt hA5
        have hD6 := S6 _ _ nDt hD5
        refine ⟨Al, _, g, g.toNat, _, rfl, rfl, hA6, by omega, by omega, (ixN_seq (show ixN _ g = some g.toNat from by unfold ixN; rw [if_pos ug, if_pos (by rw [lA]; omega)])).1, hnV, ?_⟩
        have hA7 : upd H6 Al (.lst ((((stD es).map (·.1)).map V.int).eraseIdx g.toNat)) Al = some (.lst ((((stD es).map (·.1)).map V.int).eraseIdx g.toNat)) := upd_same
        have hD7 : upd H6 Al (.lst ((((stD es).map (·.1)).map V.int).eraseIdx g.toNat)) D = some (.lst zs) := by rw [upd_ne nDA]; exact hD6
        have hd7 := DhAll.t (SameT.lst (o := .lst ((((stD es).map (·.1)).map V.int).eraseIdx g.toNat)) hA6) (DhAll.t st6 hd5 ok.noLd) ok.noLd
        have T7 := T6.upd (o := .lst ((((stD es).map (·.1)).map V.int).eraseIdx g.toNat)) nAt nAc
        have s7 := off (o := .lst ((((stD es).map (·.1)).map V.int).eraseIdx g.toNat)) gA (s5.trans S6)
        generalize upd H6 Al (.lst ((((stD es).map (·.1)).map V.int).eraseIdx g.toNat)) = H7 at hA7 hD7 hd7 T7 s7 ⊢
        refine ⟨_, rfl, four, fun q hq => ?_⟩
        have zq := Same.upd (o := .tup [.str "strike", .int n, .non, .str au]) hq
        have og : OkEn ks es ⟨"strike", n, .none, au⟩ := ⟨⟨sau, nau⟩, .inr (.inr ⟨rfl, List.mem_of_getElem? hn, rfl⟩)⟩
        refine ⟨D, zs, _, rfl, rfl, zq _ _ hD7, lim (by omega), ?_⟩
        have gr := es_grow (e := ⟨"strike", n, .none, au⟩) (zq _ _ hD7) (DhAll.same zq hd7) ok og upd_same .non
        refine ⟨some (.int (0 + (i : Int))), some (.int u), some (.str au), x10, zs ++ [.ref q], es ++ [⟨"strike", n, .none, au⟩], ?_, upd_same, gr, ?_, .snoc ok og, by rw [List.length_append, le]; rfl, nl.snoc nla, (T7.same zq).upd nDt nDc, off hD (s7.trans (Same.b t zq))⟩
        · rw [usedD_snoc, if_neg w_as]
          rfl
        · rw [upd_ne (Ne.symm nDA), zq _ _ hA7, stD_snoc]
          unfold stepS
          rw [if_neg w_as, if_neg w_cs, filter_erase ok.keys.1 hn]
          rw [erase_map]
    · rintro σ H3 ⟨x7, x8, x9, x10, zs, es, rfl, hD3, hd3, hA3, ok, le, nl, T3, S3⟩
      exact ⟨_, rfl, k D zs es H3 hD3 hD hd3 ok (by omega) nl T3 S3⟩
end
end K12
set_option Elab.async false
set_option linter.all false
set_option maxRecDepth 100000
set_option maxHeartbeats 4000000
namespace K12
open PySem PySem.Spec PyProof.Rows L2 Lc
abbrev sSt : Stmt := top 48
def spSt : Sp := fun vs H Q _ => ∃ (L : Addr) (xs : List V) (ks : List Str) (es : List En), vs = [.ref L] ∧ H L = some (.lst xs) ∧ DhAll H xs (es.map En.d) ∧ OkEs ks es ∧ es.length ≤ 100 ∧
  ∀ (r : Addr) (zs : List V) (H' : Hp), Same H H' → H' r = some (.lst zs) → zs.length = es.length + 1 → (∀ i, i ≤ es.length → ∃ (q : Addr) (ys : List V), zs[i]? = some (.ref q) ∧ H' q = some (.lst ys) ∧ DhAll H' ys (rowsD (stD (es.take i)))) → Q (.ref r) H'
abbrev teCo (K : PySem.W.Frag) : TE := tTup (tCons (tVar 7) (tCons (tOp (rIxL K) (tLst (tCons (tVar 8) (tCons (tVar 5) tNil))) (tCB (fun xs H Q => (∃ i, xs = [.int i] ∧ Q (.int i) H) ∨ ∃ k, xs = [.bl k] ∧ Q (.int (if k then 1 else 0)) H) (tCons (tOp rEq (tVar 7) (tVar 4)) tNil))) tNil))
abbrev teSk : TE := tTup (tCons (tVar 7) (tCons (tVar 8) tNil))
abbrev ttSk : TT := tTest (tOp rNe (tVar 7) (tVar 4))
theorem rows_noL {st : St2} (h : ∀ p ∈ st, Lc.noL p.2 = true) : noLs (rowsD st) = true := by
  rw [noLs_all]
  intro d hd
  obtain ⟨p, hp, rfl⟩ := List.mem_map.mp hd
  show noLs [.int p.1, p.2] = true
  simp [noLs, Lc.noL, h p hp]
theorem row_of {H : Hp} {v : V} {n : Int} {d : PyData} (h : Dh H v (.tuple [.int n, d])) : ∃ (a : Addr) (x : V), v = .ref a ∧ H a = some (.tup [.int n, x]) ∧ Dh H x d := by
  cases h with
  | @tup a xs _ ea hs =>
    match xs, hs with
    | [p, q], .cons h1 (.cons h2 .nil) =>
      cases h1
      exact ⟨a, q, rfl, ea, h2⟩
theorem rows_get {H : Hp} {ys : List V} {st : St2} (h : DhAll H ys (rowsD st)) {i : Nat} {x : V} (hx : ys[i]? = some x) : ∃ p, st[i]? = some p ∧ ∃ (a : Addr) (v : V), x = .ref a ∧ H a = some (.tup [.int p.1, v]) ∧ Dh H v p.2 := by
  obtain ⟨d, hd, dh⟩ := h.get i x hx
  unfold rowsD at hd
  rw [List.getElem?_map] at hd
  cases q : st[i]? with
  | none => rw [q] at hd; cases hd
  | some p => rw [q] at hd; cases hd; exact ⟨p, rfl, row_of dh⟩
section
variable {P : Program} {w : World} {K : PySem.W.Frag} {mg : Str → Option Value} {base : Heap} {f : Addr} {fd : FuncData}
abbrev nSt : List Str := ["_law_deeds_here", "_law_rows", "_law_found", "_law_word", "_law_number", "_law_values_here", "_law_hand", "_law_at", "_law_old"]
theorem scSt : FnScope nSt ["_law_deeds_here"] (defScope sSt) := ⟨rfl, rfl, rfl, by decide +kernel, rfl, by decide +kernel, by decide +kernel⟩
theorem ok_st (F : Fun K "_law_states" "_law_states" sSt f fd) (T : Bt mg) : FnOk P w K mg base CX0 1 f fd ["_law_deeds_here"] spSt := by
  refine F.ok scSt (fun vs H Q E h => ?_) (fun cdv A outer s H vs Q E hr h => ?_)
  · obtain ⟨L, xs, ks, es, rfl, _⟩ := h
    rfl
  · obtain ⟨L, xs, ks, es, rfl, hL, hd, ok, ln, k⟩ := h
    refine ⟨_, pss_cons (ps_set (i := 1) scSt.nd rfl (Or.inl rfl) (pe_lst pa_nil)) (pss_cons (ps_set (i := 2) scSt.nd rfl (Or.inl rfl) (pe_lst (pa_cons (pv 1) pa_nil)))
      (pss_cons (ps_for PassesOwn.never rfl (pi_list (pv 0)) (pg_tup rfl (pgs_cons (pg_name (i := 3) scSt.nd rfl (.inl rfl)) (pgs_cons (pg_name (i := 4) scSt.nd rfl (.inr rfl)) (pgs_cons (pg_name (i := 5) scSt.nd rfl (.inr rfl)) (pgs_cons (pg_name (i := 6) scSt.nd rfl (.inl rfl)) pgs_nil)))))
        (Evl.pss_cut (ps_if (pt_cmpR op_eq (pv 3) pe_str (nomark _)) (pss_one (ps_set (i := 1) scSt.nd rfl (Or.inl rfl) (pe_op op_cat (pv 1) (pe_lst (pa_cons (pe_tup (pa_cons (pv 4) (pa_cons (pv 5) pa_nil))) pa_nil)))))
          (pss_one (ps_if (pt_cmpR op_eq (pv 3) pe_str (nomark _)) (pss_one (ps_setLc (i := 1) (own := [("_law_at", 7), ("_law_old", 8)]) (g := gTup K 2 (gCons (gName 7) (gCons (gName 8) gNil))) (tt := tYes) (te := teCo K) (by rfl) scSt.nd rfl rfl (by rfl) (pi_list (pv 1)) (blkOk_by (own := [("_law_at", 7), ("_law_old", 8)]) (N := nSt) (sc := defScope sSt) (by decide +kernel))
                (fun _ _ _ _ _ => pg_tup rfl (pgs_cons (pg_name (i := 7) scSt.nd rfl (.inl rfl)) (pgs_cons (pg_name (i := 8) scSt.nd rfl (.inl rfl)) pgs_nil))) (fun _ _ _ _ _ => pts_nil)
                (fun _ _ _ _ _ => pe_tup (pa_cons (pv 7) (pa_cons (pe_ix ix_list (pe_lst (pa_cons (pv 8) (pa_cons (pv 5) pa_nil))) (pe_callTy call_int1 (by rfl) T.int boot_int (pa_cons (pe_cmpR op_eq (pv 7) (pv 4) (nomark _)) pa_nil)) (fun _ _ => rfl)) pa_nil)))))
            (pss_one (ps_setLc (i := 1) (own := [("_law_at", 7), ("_law_old", 8)]) (g := gTup K 2 (gCons (gName 7) (gCons (gName 8) gNil))) (tt := ttSk) (te := teSk) (by rfl) scSt.nd rfl rfl (by rfl) (pi_list (pv 1)) (blkOk_by (own := [("_law_at", 7), ("_law_old", 8)]) (N := nSt) (sc := defScope sSt) (by decide +kernel))
                (fun _ _ _ _ _ => pg_tup rfl (pgs_cons (pg_name (i := 7) scSt.nd rfl (.inl rfl)) (pgs_cons (pg_name (i := 8) scSt.nd rfl (.inl rfl)) pgs_nil))) (fun _ _ _ _ _ => pts_one (pt_cmpR op_ne (pv 7) (pv 4) (nomark _))) (fun _ _ _ _ _ => pe_tup (pa_cons (pv 7) (pa_cons (pv 8) pa_nil))))))))
        (pss_one (ps_expr (pe_bm PySem.F.plainAttrs_list PySem.F.slot_list_append PySem.F.type_list_append mt_append (pv 2) (pa_cons (pv 1) pa_nil))))))
      (pss_one (ps_ret (pv 2))))), ?_⟩
    have one : 1 ≤ sizeLine := by decide
    have two : 2 ≤ sizeLine := by decide
    have lim : ∀ {n : Nat}, n ≤ 200 → n < sizeLine := fun h => Nat.lt_of_le_of_lt h (by decide)
    refine ⟨by show 0 ≤ sizeLine; decide, fun q0 h0 => ⟨_, rfl, one, fun Fd hF => ?_⟩⟩
    have y0 := Same.upd (o := .lst []) h0
    have y1 := Same.upd (o := .lst [.ref q0]) hF
    have e0 : upd H q0 (.lst []) q0 = some (.lst []) := upd_same
    have n0 : q0 ≠ Fd := ne_of_none e0 hF
    have gF : H Fd = none := Same.gone y0 hF
    have s0 := y0.trans y1
    have lx : xs.length = es.length := by rw [hd.len, List.length_map]
    refine ⟨_, rfl, L, rfl, ⟨_, SqL.of (s0 _ _ hL)⟩, for_list (K := K) (a := L) (xs := xs) (fun i σ H' => ∃ (x3 x4 x5 x6 : Option V) (q : Addr) (ys zs : List V), σ = [some (.ref L), some (.ref q), some (.ref Fd), x3, x4, x5, x6, none, none] ∧ Same H H' ∧ H' Fd = some (.lst zs) ∧ zs.length = i + 1 ∧ H' q = some (.lst ys) ∧ q ≠ Fd ∧ DhAll H' ys (rowsD (stD (es.take i))) ∧
        ∀ j, j ≤ i → ∃ (qj : Addr) (yj : List V), zs[j]? = some (.ref qj) ∧ qj ≠ Fd ∧ H' qj = some (.lst yj) ∧ DhAll H' yj (rowsD (stD (es.take j))))
      ⟨_, _, _, _, q0, [], [.ref q0], rfl, s0, upd_same, rfl, y1 _ _ e0, n0, .nil, fun j hj => ⟨q0, [], by rw [show j = 0 by omega]; rfl, n0, y1 _ _ e0, by rw [show j = 0 by omega]; exact .nil⟩⟩ (fun i σ H' _ p => by obtain ⟨_, _, _, _, _, _, _, _, s', _⟩ := p; exact SqL.of (s' _ _ hL)) ?_ ?_⟩
    · rintro i x σ H1 hx ⟨x3, x4, x5, x6, q, ys, zs, rfl, s1, hF1, lz, hq, nq, hy, all⟩
      obtain ⟨e, he, de⟩ := en_get hd hx
      have og := ok.at he
      have op := OkEs.take i ok
      have os := OkEs.snoc op og
      have ek : es.take (i + 1) = es.take i ++ [e] := by rw [List.take_add_one, he]; rfl
      have li : i < es.length := (List.getElem?_eq_some_iff.mp he).1
      obtain ⟨a, v, rfl, ea, dv⟩ := en_of (de.same s1)
      have ly := hy.len
      unfold rowsD at ly
      rw [List.length_map] at ly
      have lk := op.keys.2.2
      rw [List.length_take] at lk
      have l100 : ys.length ≤ 100 := by omega
      refine ⟨a, _, rfl, SqT.of ea, rfl, _, _, rfl, _, _, rfl, _, _, rfl, _, _, rfl, rfl, ?_⟩
      have gF1 : ∀ {p : Addr} {Hx : Hp}, Same H1 Hx → Hx p = none → p ≠ Fd := fun sx hp z => by rw [z, sx _ _ hF1] at hp; cases hp
      refine ⟨fun σ H' => ∃ (q' : Addr) (ys' : List V), σ = [some (.ref L), some (.ref q'), some (.ref Fd), some (.str e.w), some (.int e.n), some v, some (.str e.au), none, none] ∧ Same H1 H' ∧ H' q' = some (.lst ys') ∧ q' ≠ Fd ∧ DhAll H' ys' (rowsD (stD (es.take i ++ [e]))), ?_, ?_⟩
      · rw [stD_snoc]
        unfold stepS
        refine ⟨_, rfl, rfl, _, rfl, ite2 (fun z => ?_) (fun z => ?_)⟩
        · have ew : e.w = "add" := by have := of_decide_eq_true z; injection this
          rw [if_pos ew]
          refine ⟨_, rfl, _, rfl, _, rfl, two, fun t0 h0' => ⟨one, fun t1 h1 => ?_⟩⟩
          have z0 := Same.upd (o := .tup [.int e.n, v]) h0'
          have z1 := Same.upd (o := .lst [.ref t0]) h1
          refine ⟨q, t1, ys, _, rfl, rfl, (z0.trans z1) _ _ hq, upd_same, Nat.le_of_lt (lim (show ys.length + 1 ≤ 200 by omega)), fun p hp => ?_⟩
          have zp := Same.upd (o := .lst (ys ++ [.ref t0])) hp
          have s2 := (z0.trans z1).trans zp
          have e0' : upd H1 t0 (.tup [.int e.n, v]) t0 = some (.tup [.int e.n, v]) := upd_same
          refine ⟨p, ys ++ [.ref t0], rfl, s2, upd_same, gF1 (z0.trans z1) hp, ?_⟩
          unfold rowsD
          rw [List.map_append]
          exact DhAll.append (DhAll.same s2 hy) (.cons (.tup ((z1.trans zp) _ _ e0') (.cons (.int _) (.cons (dv.same s2) .nil))) .nil)
        have nw : e.w ≠ "add" := fun q => z (decide_eq_true (by rw [q]))
        rw [if_neg nw]
        refine ⟨_, rfl, rfl, _, rfl, ite2 (fun z => ?_) (fun z => ?_)⟩
        · have ew : e.w = "correct" := by have := of_decide_eq_true z; injection this
          rw [if_pos ew]
          refine ⟨_, rfl, q, rfl, ⟨_, SqL.of hq⟩, fun D hD => lc_list (K := K) (a := q) (xs := ys) (fun j H' => ∃ ws : List V, H' D = some (.lst ws) ∧ ws.length = j ∧ Same H1 H' ∧ DhAll H' ws (rowsD (((stD (es.take i)).take j).map fun p => if p.1 = e.n then (p.1, e.vals) else p)))
            ⟨[], upd_same, rfl, Same.upd hD, .nil⟩ (fun j H' _ p => by obtain ⟨_, _, _, s', _⟩ := p; exact SqL.of (s' _ _ hq)) ?_ ?_⟩
          · rintro j y H2 hyj ⟨ws, hD2, lw, s2, hw⟩
            obtain ⟨pp, hpp, b, vv, rfl, eb, dvv⟩ := rows_get (DhAll.same s2 hy) hyj
            refine ⟨b, _, rfl, SqT.of eb, rfl, _, _, rfl, _, _, rfl, rfl, rfl, ?_⟩
            refine ⟨_, rfl, _, rfl, _, rfl, two, fun l0 hl0 => ?_⟩
            have zl := Same.upd (o := .lst [vv, v]) hl0
            refine ⟨_, rfl, _, rfl, rfl, .inr ⟨_, rfl, l0, [vv, v], _, if pp.1 = e.n then v else vv, rfl, rfl, SqL.of upd_same, ?_, two, fun p hp => ?_⟩⟩
            · by_cases en : pp.1 = e.n
              · rw [if_pos en, show decide (V.int pp.1 = V.int e.n) = true from decide_eq_true (by rw [en])]
                rfl
              · rw [if_neg en, show decide (V.int pp.1 = V.int e.n) = false from decide_eq_false (fun h => en (by injection h))]
                rfl
            have zp := Same.upd (o := .tup [.int pp.1, if pp.1 = e.n then v else vv]) hp
            have s3 := s2.trans (zl.trans zp)
            have s4 := zl.trans zp
            have hD3 := s4 _ _ hD2
            have hjl : j < ys.length := (List.getElem?_eq_some_iff.mp hyj).1
            refine ⟨ws, hD3, lim (by omega), ws ++ [.ref p], upd_same, by rw [List.length_append, lw]; rfl, fun b' o' e' => by rw [upd_ne (ne_of_none e' hD)]; exact s3 b' o' e', ?_⟩
            have st : SameT (upd (upd H2 l0 (.lst [vv, v])) p (.tup [.int pp.1, if pp.1 = e.n then v else vv])) (upd (upd (upd H2 l0 (.lst [vv, v])) p (.tup [.int pp.1, if pp.1 = e.n then v else vv])) D (.lst (ws ++ [.ref p]))) := SameT.lst hD3
            have noP : ∀ {l : St2}, (∀ p ∈ l, Lc.noL p.2 = true) → noLs (rowsD (l.map fun p => if p.1 = e.n then (p.1, e.vals) else p)) = true := fun {l} hl => rows_noL fun p' hp' => by
              obtain ⟨q', hq', rfl⟩ := List.mem_map.mp hp'
              by_cases z : q'.1 = e.n
              · rw [if_pos z]; exact og.noL
              · rw [if_neg z]; exact hl q' hq'
            have na : ∀ p ∈ stD (es.take i), Lc.noL p.2 = true := op.noLs
            rw [List.take_add_one, hpp]
            show DhAll _ _ (rowsD (((stD (es.take i)).take j ++ [pp]).map _))
            unfold rowsD
            rw [List.map_append, List.map_append]
            refine DhAll.append (DhAll.t st (DhAll.same s4 hw) (noP fun p' hp' => na p' (List.mem_of_mem_take hp'))) (.cons ?_ .nil)
            have dg : ∀ Hx : Hp, Dh Hx v e.vals → Dh Hx vv pp.2 → Dh Hx (if pp.1 = e.n then v else vv) (if pp.1 = e.n then (pp.1, e.vals) else pp).2 := fun Hx g1 g2 => by
              by_cases en : pp.1 = e.n
              · rw [if_pos en, if_pos en]; exact g1
              · rw [if_neg en, if_neg en]; exact g2
            have dd := dg _ (dv.same s3) (dvv.same s4)
            have e1 : (if pp.1 = e.n then (pp.1, e.vals) else pp).1 = pp.1 := by split <;> rfl
            have nd : Lc.noL (if pp.1 = e.n then (pp.1, e.vals) else pp).2 = true := by
              by_cases en : pp.1 = e.n
              · rw [if_pos en]; exact og.noL
              · rw [if_neg en]; exact na pp (List.mem_of_getElem? hpp)
            have ep : upd (upd H2 l0 (.lst [vv, v])) p (.tup [.int pp.1, if pp.1 = e.n then v else vv]) p = some (.tup [.int pp.1, if pp.1 = e.n then v else vv]) := upd_same
            show Dh _ (.ref p) (.tuple [.int (if pp.1 = e.n then (pp.1, e.vals) else pp).1, (if pp.1 = e.n then (pp.1, e.vals) else pp).2])
            rw [e1]
            exact .tup (st _ _ ep) (.cons (.int _) (.cons (dd.t st nd) .nil))
          · rintro H2 ⟨ws, hD2, lw, s2, hw⟩
            rw [ly, List.take_length] at hw
            exact ⟨D, ws, rfl, s2, hD2, gF1 (Same.refl H1) hD, hw⟩
        · have nc : e.w ≠ "correct" := fun q => z (decide_eq_true (by rw [q]))
          rw [if_neg nc]
          refine ⟨_, rfl, q, rfl, ⟨_, SqL.of hq⟩, fun D hD => lc_list (K := K) (a := q) (xs := ys) (fun j H' => ∃ ws : List V, H' D = some (.lst ws) ∧ ws.length ≤ j ∧ Same H1 H' ∧ DhAll H' ws (rowsD (((stD (es.take i)).take j).filter fun p => decide (p.1 ≠ e.n))))
            ⟨[], upd_same, Nat.le_refl _, Same.upd hD, .nil⟩ (fun j H' _ p => by obtain ⟨_, _, _, s', _⟩ := p; exact SqL.of (s' _ _ hq)) ?_ ?_⟩
          · rintro j y H2 hyj ⟨ws, hD2, lw, s2, hw⟩
            obtain ⟨pp, hpp, b, vv, rfl, eb, dvv⟩ := rows_get (DhAll.same s2 hy) hyj
            have hjl : j < ys.length := (List.getElem?_eq_some_iff.mp hyj).1
            refine ⟨b, _, rfl, SqT.of eb, rfl, _, _, rfl, _, _, rfl, rfl, rfl, ?_⟩
            change ttSk _ _ _
            rw [show (stD (es.take i)).take (j + 1) = (stD (es.take i)).take j ++ [pp] by rw [List.take_add_one, hpp]; rfl]
            refine ⟨_, rfl, _, rfl, rfl, _, rfl, ?_⟩
            have na : ∀ p ∈ stD (es.take i), Lc.noL p.2 = true := op.noLs
            by_cases en : pp.1 = e.n
            · rw [show decide (V.int pp.1 = V.int e.n) = true from decide_eq_true (by rw [en])]
              refine iteF ⟨ws, hD2, by omega, s2, ?_⟩
              rw [List.filter_append, show ([pp].filter fun p => decide (p.1 ≠ e.n)) = [] by simp [en], List.append_nil]
              exact hw
            · rw [show decide (V.int pp.1 = V.int e.n) = false from decide_eq_false (fun h => en (by injection h))]
              refine iteT ⟨_, rfl, _, rfl, two, fun p hp => ?_⟩
              have zp := Same.upd (o := .tup [.int pp.1, vv]) hp
              have s3 := s2.trans zp
              have hD3 := zp _ _ hD2
              have st : SameT (upd H2 p (.tup [.int pp.1, vv])) (upd (upd H2 p (.tup [.int pp.1, vv])) D (.lst (ws ++ [.ref p]))) := SameT.lst hD3
              refine ⟨ws, hD3, lim (by omega), ws ++ [.ref p], upd_same, by rw [List.length_append, List.length_singleton]; omega, fun b' o' e' => by rw [upd_ne (ne_of_none e' hD)]; exact s3 b' o' e', ?_⟩
              rw [List.filter_append, show ([pp].filter fun p => decide (p.1 ≠ e.n)) = [pp] by simp [en]]
              unfold rowsD
              rw [List.map_append]
              have ep : upd H2 p (.tup [.int pp.1, vv]) p = some (.tup [.int pp.1, vv]) := upd_same
              exact DhAll.append (DhAll.t st (DhAll.same zp hw) (rows_noL fun p' hp' => na p' (List.mem_of_mem_take (List.mem_filter.mp hp').1))) (.cons (.tup (st _ _ ep) (.cons (.int _) (.cons ((dvv.same zp).t st (na pp (List.mem_of_getElem? hpp))) .nil))) .nil)
          · rintro H2 ⟨ws, hD2, lw, s2, hw⟩
            rw [ly, List.take_length] at hw
            exact ⟨D, ws, rfl, s2, hD2, gF1 (Same.refl H1) hD, hw⟩
      · rintro σ H2 ⟨q', ys', rfl, s2, hq', nq', hy'⟩
        have hF2 := s2 _ _ hF1
        have st : SameT H2 (upd H2 Fd (.lst (zs ++ [.ref q']))) := SameT.lst hF2
        refine ⟨_, rfl, .inl ⟨rfl, _, SqL.of hF2⟩, _, rfl, Fd, zs, _, rfl, rfl, hF2, lim (by omega), ?_⟩
        have nl : ∀ j, noLs (rowsD (stD (es.take j))) = true := fun j => rows_noL (OkEs.take j ok).noLs
        refine ⟨_, _, _, _, q', ys', zs ++ [.ref q'], rfl, fun b o' e' => by rw [upd_ne (ne_of_none e' gF)]; exact (s1.trans s2) b o' e', upd_same, by rw [List.length_append, lz]; rfl, by rw [upd_ne nq']; exact hq', nq', ?_, fun j hj => ?_⟩
        · have := nl (i + 1)
          rw [ek] at this ⊢
          exact DhAll.t st hy' this
        · by_cases z : j ≤ i
          · obtain ⟨qj, yj, g1, g2, g3, g4⟩ := all j z
            exact ⟨qj, yj, by rw [List.getElem?_append_left (by omega)]; exact g1, g2, by rw [upd_ne g2]; exact s2 _ _ g3, DhAll.t st (DhAll.same s2 g4) (nl j)⟩
          · have ej : j = i + 1 := by omega
            subst ej
            have := nl (i + 1)
            rw [ek] at this ⊢
            exact ⟨q', ys', by rw [List.getElem?_append_right (by omega), lz]; simp, nq', by rw [upd_ne nq']; exact hq', DhAll.t st hy' this⟩
    · rintro σ H1 ⟨x3, x4, x5, x6, q, ys, zs, rfl, s1, hF1, lz, hq, nq, hy, all⟩
      rw [lx] at lz all
      exact ⟨_, rfl, k Fd zs H1 s1 hF1 lz fun i hi => by obtain ⟨qj, yj, g1, _, g3, g4⟩ := all i hi; exact ⟨qj, yj, g1, g3, g4⟩⟩
end
end K12
set_option Elab.async false
set_option linter.all false
set_option maxRecDepth 100000
set_option maxHeartbeats 4000000
namespace K12
open PySem PySem.Spec PyProof.Rows L2 Lc
def spAddV (C : Addr) : Sp := fun vs H Q _ => ∃ (a lg b : Addr) (R : RD) (au : Str) (ds : List PyData), vs = [.ref a, .ref b, .str au] ∧ IsRg C H a lg R ∧ OkR R ∧ R.es.length < 400 ∧ Dh H (.ref b) (.tuple ds) ∧ Vks (R.ps.map (·.2)) ds ∧ Sh 12 au ∧ nameB (.str au) = true ∧ Makes C H a lg R ⟨"add", usedD R.es, .tuple ds, au⟩ (.int (usedD R.es)) Q
def spCorV (C : Addr) : Sp := fun vs H Q _ => ∃ (a lg b : Addr) (R : RD) (n : Int) (au : Str) (ds : List PyData), vs = [.ref a, .int n, .ref b, .str au] ∧ IsRg C H a lg R ∧ OkR R ∧ R.es.length < 400 ∧ n ∈ (stD R.es).map (·.1) ∧ Dh H (.ref b) (.tuple ds) ∧ Vks (R.ps.map (·.2)) ds ∧ Sh 12 au ∧ nameB (.str au) = true ∧ Makes C H a lg R ⟨"correct", n, .tuple ds, au⟩ .non Q
def spStrV (C : Addr) : Sp := fun vs H Q _ => ∃ (a lg : Addr) (R : RD) (n : Int) (au : Str), vs = [.ref a, .int n, .str au] ∧ IsRg C H a lg R ∧ OkR R ∧ R.es.length < 400 ∧ n ∈ (stD R.es).map (·.1) ∧ Sh 12 au ∧ nameB (.str au) = true ∧ Makes C H a lg R ⟨"strike", n, .none, au⟩ .non Q
theorem OkR.ext {R : RD} (o : OkR R) {es : List En} (ok : OkEs (R.ps.map (·.2)) (R.es ++ es)) (ln : R.es.length + es.length ≤ 100) (i : Nat) : OkR { R with es := R.es ++ es.take i } := by
  refine ⟨o.nm, o.cols, ?_, ?_⟩
  · have := OkEs.take (R.es.length + i) ok
    rw [List.take_length_add_append] at this
    exact this
  · show (R.es ++ es.take i).length ≤ 100
    rw [List.length_append, List.length_take]
    omega
abbrev sDo : Stmt := top 47
def spDo (C : Addr) : Sp := fun vs H Q _ => ∃ (a lg L : Addr) (R : RD) (xs : List V) (es : List En), vs = [.ref a, .ref L] ∧ IsRg C H a lg R ∧ OkR R ∧ H L = some (.lst xs) ∧ L ≠ lg ∧ DhAll H xs (es.map En.d) ∧ OkEs (R.ps.map (·.2)) (R.es ++ es) ∧ R.es.length + es.length ≤ 100 ∧
  ∀ H', SameB lg H H' → IsRg C H' a lg { R with es := R.es ++ es } → Q .non H'
section
variable {P : Program} {w : World} {K : PySem.W.Frag} {mg : Str → Option Value} {base : Heap} {f C fI fW fA fR fS : Addr} {fd fdW fdA fdR fdS : FuncData} {gA gR gS : List Value → List Value → List Value}
abbrev nDo : List Str := ["_law_log", "_law_deeds_here", "_law_word", "_law_number", "_law_values_here", "_law_hand"]
theorem scDo : FnScope nDo ["_law_log", "_law_deeds_here"] (defScope sDo) := ⟨rfl, rfl, rfl, by decide +kernel, rfl, by decide +kernel, by decide +kernel⟩
theorem ok_do (F : Fun K "_law_do" "_law_do" sDo f fd) (G : RgF K mg C fI)
    (hA : Meth K C "add" fA) (GA : FnOk P w K mg base CX0 5 fA fdA ["self", "values", "author"] (spAddV C)) (bA : KBn K fdA ["self", "values", "author"] 2 ["author"] gA (fun vs zs => vs ++ zs))
    (hR : Meth K C "correct" fR) (GR : FnOk P w K mg base CX0 5 fR fdR ["self", "number", "values", "author"] (spCorV C)) (bR : KBn K fdR ["self", "number", "values", "author"] 3 ["author"] gR (fun vs zs => vs ++ zs))
    (hS : Meth K C "strike" fS) (GS : FnOk P w K mg base CX0 5 fS fdS ["self", "number", "author"] (spStrV C)) (bS : KBn K fdS ["self", "number", "author"] 2 ["author"] gS (fun vs zs => vs ++ zs)) : FnOk P w K mg base CX0 6 f fd ["_law_log", "_law_deeds_here"] (spDo C) := by
  refine F.ok scDo (fun vs H Q E h => ?_) (fun cdv A outer s H vs Q E hr h => ?_)
  · obtain ⟨a, lg, L, R, xs, es, rfl, _⟩ := h
    rfl
  · obtain ⟨a, lg, L, R, xs, es, rfl, hI, o, hL, nL, hd, ok, ln, k⟩ := h
    refine ⟨_, pss_cons (ps_for PassesOwn.never rfl (pi_list (pv 1)) (pg_tup rfl (pgs_cons (pg_name (i := 2) scDo.nd rfl (.inl rfl)) (pgs_cons (pg_name (i := 3) scDo.nd rfl (.inl rfl)) (pgs_cons (pg_name (i := 4) scDo.nd rfl (.inl rfl)) (pgs_cons (pg_name (i := 5) scDo.nd rfl (.inl rfl)) pgs_nil)))))
        (pss_one (ps_if (pt_cmpR op_eq (pv 2) pe_str (nomark _))
          (pss_one (ps_expr (pe_methK (pv 0) G.cls hA GA hr bA pass0 (pa_cons (pv 4) pa_nil) (pk_cons (pv 5) pk_nil))))
          (pss_one (ps_if (pt_cmpR op_eq (pv 2) pe_str (nomark _))
            (pss_one (ps_expr (pe_methK (pv 0) G.cls hR GR hr bR pass0 (pa_cons (pv 3) (pa_cons (pv 4) pa_nil)) (pk_cons (pv 5) pk_nil))))
            (pss_one (ps_expr (pe_methK (pv 0) G.cls hS GS hr bS pass0 (pa_cons (pv 3) pa_nil) (pk_cons (pv 5) pk_nil)))))))))
      pss_nil, ?_⟩
    have lx : xs.length = es.length := by rw [hd.len, List.length_map]
    obtain ⟨ys0, hl0⟩ := hI.list
    have sT : ∀ {H'}, SameB lg H H' → SameT H H' := fun s => SameT.at hl0 (fun _ => nofun) s
    have nd : noLs (es.map En.d) = true := by
      have := ok.noLd
      rw [List.map_append, noLs_app, Bool.and_eq_true_iff] at this
      exact this.2
    refine ⟨_, rfl, L, rfl, ⟨_, SqL.of hL⟩, for_list (K := K) (a := L) (xs := xs) (fun i σ H' => ∃ (x2 x3 x4 x5 : Option V), σ = [some (.ref a), some (.ref L), x2, x3, x4, x5] ∧ SameB lg H H' ∧ IsRg C H' a lg { R with es := R.es ++ es.take i })
      ⟨_, _, _, _, rfl, SameB.refl _ _, by rw [List.take_zero, List.append_nil]; exact hI⟩ (fun i σ H' _ p => by obtain ⟨_, _, _, _, _, s', _⟩ := p; exact SqL.of (s' _ _ nL hL)) ?_ ?_⟩
    · rintro i x σ H1 hx ⟨x2, x3, x4, x5, rfl, s1, hI1⟩
      obtain ⟨e, he, de⟩ := en_get hd hx
      have og : OkEn (R.ps.map (·.2)) (R.es ++ es.take i) e := by
        have := ok.at (i := R.es.length + i) (e := e) (by rw [List.getElem?_append_right (by omega), Nat.add_sub_cancel_left]; exact he)
        rw [List.take_length_add_append] at this
        exact this
      have oi := o.ext ok ln i
      have l4 : (R.es ++ es.take i).length < 400 := by
        have := (List.getElem?_eq_some_iff.mp he).1
        rw [List.length_append, List.length_take]
        omega
      have ek : es.take (i + 1) = es.take i ++ [e] := by rw [List.take_add_one, he]; rfl
      have dn : noL e.d = true := og.noLd
      obtain ⟨b, v, rfl, eb, dv⟩ := en_of (de.t (sT s1) dn)
      obtain ⟨w', n', vals', au'⟩ := e
      obtain ⟨dx, cv, xs', ys', h1, h2, h3, h4, h5⟩ := id hI1
      refine ⟨b, _, rfl, SqT.of eb, rfl, _, _, rfl, _, _, rfl, _, _, rfl, _, _, rfl, rfl, ?_⟩
      have fin : ∀ {H2 : Hp}, SameB lg H1 H2 → IsRg C H2 a lg { R with es := (R.es ++ es.take i) ++ [⟨w', n', vals', au'⟩] } → ∀ (y2 y3 y4 y5 : Option V), ∃ (x2 x3 x4 x5 : Option V), [some (V.ref a), some (V.ref L), y2, y3, y4, y5] = [some (.ref a), some (.ref L), x2, x3, x4, x5] ∧ SameB lg H H2 ∧ IsRg C H2 a lg { R with es := R.es ++ es.take (i + 1) } := fun s2 hI2 y2 y3 y4 y5 => ⟨y2, y3, y4, y5, rfl, s1.trans s2, by rw [ek, ← List.append_assoc]; exact hI2⟩
      rcases og.go with ⟨hw, hn, ds, hv, vk⟩ | ⟨hw, hn, ds, hv, vk⟩ | ⟨hw, hn, hv⟩
      · obtain rfl : w' = "add" := hw
        obtain rfl : n' = _ := hn
        obtain rfl : vals' = _ := hv
        refine ⟨_, rfl, rfl, _, rfl, iteT ?_⟩
        cases dv with
        | @tup v _ _ eb' dz =>
        exact ⟨_, rfl, a, dx, _, rfl, h1, rfl, _, rfl, _, rfl, rfl, rfl, a, lg, v, _, au', ds, rfl, hI1, oi, l4, .tup eb' dz, vk, og.au.1, og.au.2, fun H2 s2 hI2 => fin s2 hI2 _ _ _ _⟩
      · obtain rfl : w' = "correct" := hw
        obtain rfl : vals' = _ := hv
        refine ⟨_, rfl, rfl, _, rfl, iteF ⟨_, rfl, rfl, _, rfl, iteT ?_⟩⟩
        cases dv with
        | @tup v _ _ eb' dz =>
        exact ⟨_, rfl, a, dx, _, rfl, h1, rfl, _, rfl, _, rfl, _, rfl, rfl, rfl, a, lg, v, _, n', au', ds, rfl, hI1, oi, l4, hn, .tup eb' dz, vk, og.au.1, og.au.2, fun H2 s2 hI2 => fin s2 hI2 _ _ _ _⟩
      · obtain rfl : w' = "strike" := hw
        obtain rfl : vals' = _ := hv
        refine ⟨_, rfl, rfl, _, rfl, iteF ⟨_, rfl, rfl, _, rfl, iteF ?_⟩⟩
        exact ⟨_, rfl, a, dx, _, rfl, h1, rfl, _, rfl, _, rfl, rfl, rfl, a, lg, _, n', au', rfl, hI1, oi, l4, hn, og.au.1, og.au.2, fun H2 s2 hI2 => fin s2 hI2 _ _ _ _⟩
    · rintro σ H1 ⟨x2, x3, x4, x5, rfl, s1, hI1⟩
      rw [lx, List.take_length] at hI1
      exact k H1 s1 hI1
end
end K12
set_option Elab.async false
set_option linter.all false
set_option maxRecDepth 100000
set_option maxHeartbeats 4000000
/-! An own error class over KeyError: what makes it stands in LookupError; KeyError is but one more name in the line. -/
namespace PySem.F
theorem store_KeyError : StoreFacts "KeyError" [.type "KeyError", .type "LookupError", .type "Exception", .type "BaseException", .type "object"]
    "object.__setattr__" "object" where
  mro := by kernel_rfl
  slot := .of (owner := "object") (n := "__setattr__")
    (by rw [typeLookup_type, builtinLookup_eq_fast]; kernel_rfl) (by decide +kernel)
    (by decide +kernel) (by decide +kernel)
    (by first | exact .inl (by decide +kernel) | exact .inr (by decide +kernel))
    (by rw [isSubtype_type]; kernel_rfl)
  entry := entry_object_sa
  kind := by decide +kernel
  split := by decide +kernel
  hasOwner := by decide +kernel
  args := fun a b c => by unfold argsOk; kernel_rfl
  passes := fun self => by kernel_rfl
end PySem.F
namespace PySem
namespace LcKey
open Builtin PySem.HandSPX
/-- the line of bases holds the maker's class, and no class of errors that is made in another way -/
structure Line (B : String) (line : List Value) : Prop where
  own : line.contains (.type B) = true
  att : line.contains (.type "AttributeError") = false
  nam : line.contains (.type "NameError") = false
section
variable {pr : Program} {wd : World} {Ar : Around} {Er : Value → Shared → Prop} {Rr : Result → Shared → Prop} {hh : Heap} {gn : Array GenState} {dn : Drawn} {tn : Nat} {on : OsState}
variable {c1 c2 : Str} {C c3 : Addr} {c4 line tailB : List Value} {c0 : Bool} {c5 : List Str} {c6 : List Value} {c7 : Bool} {c8 : Option Bool} {c9 : Option Addr} {c10 c11 c12 c13 c14 : Option Value} {B new ini : String} {us : List Value}
theorem new_line (FB : ExcBaseFacts B new ini tailB) (ln : Line B line) (lk : hh.get? C = some (excClassObj c1 c2 C c3 c4 line c0 c5 c6 c7 c8 c9 c10 c11 c12 c13 c14 new)) (few : us.length ≤ sizeLine)
    (go : Rr (.ok (.ret (.ref (hh.objs.size + 1)))) ⟨(hh.push (W.kdv_tup us)).push (excO C hh.objs.size), gn, dn, tn, on⟩) :
    codeAny (model pr wd) Ar (.builtin new ⟨.ref C :: us, []⟩) Rr ⟨hh, gn, dn, tn, on⟩ := by
  have ee := FB.ends
  have qB : (Value.ref C :: line).contains (.type B) = true := by rw [List.contains_cons, ln.own, Bool.or_true]
  have qA : (Value.ref C :: line).contains (.type "AttributeError") = false := by rw [List.contains_cons, ln.att]; rfl
  have qN : (Value.ref C :: line).contains (.type "NameError") = false := by rw [List.contains_cons, ln.nam]; rfl
  refine codeAny_builtinAt FB.entry ?_
  unfold Builtin.«BaseException.__new__»
  refine wpAt_bind ?_
  show wpAt _ _ _ (stack >>= _) _ _ _
  refine wpAt_bind (wpAt_stack fun top low => wpAt_of_wpAny ?_)
  wp_walk
  refine wpAt_of_wpAny ?_
  rw [FB.owner]
  repeat (first | with_reducible refine wpAny_madeHere_exc FB.canon lk ?_ | with_reducible refine wpAny_loadPart_at lk ?_ | (with_reducible refine wpAny_isSubtype_exc lk ?_; first | rw [qB] | rw [qA] | rw [qN]) | wp_step)
  show Rr _ _
  rw [Heap.size_push]
  exact go
theorem check_line (FB : ExcBaseFacts B new ini tailB) (ln : Line B line) {Qu : Unit → Shared → Prop} (lk : hh.get? C = some (excClassObj c1 c2 C c3 c4 line c0 c5 c6 c7 c8 c9 c10 c11 c12 c13 c14 new)) (go : Qu () ⟨hh, gn, dn, tn, on⟩) :
    wpAny (model pr wd) Ar (checkBuiltinCall new ⟨.ref C :: us, []⟩) Qu Er ⟨hh, gn, dn, tn, on⟩ := by
  have qB : (Value.ref C :: line).contains (.type B) = true := by rw [List.contains_cons, ln.own, Bool.or_true]
  have ns := FB.noStar
  simp only [checkBuiltinCall, FB.newKind, FB.newSplit, FB.newRow]
  repeat (first | refine wpAny_loadPart_at lk ?_ | (refine wpAny_isSubtype_exc lk ?_; rw [qB]) | refine wpAny_staticBase_exc lk ?_ | refine wpAny_madeBy_exc lk ?_ | simp only [bne_self_eq_false, Bool.false_eq_true, if_false] | wp_step)
  exact go
theorem call_line (FB : ExcBaseFacts B new ini tailB) (ln : Line B line) {fI : Addr} (lk : hh.get? C = some (excClassObj c1 c2 C c3 c4 line c0 c5 c6 c7 c8 c9 c10 c11 c12 c13 c14 new))
    (at1 : W.Looks (model pr wd) hh (typeLookup (.ref C) "__init__") (some (.ref fI))) (at2 : ∀ self, W.Looks (model pr wd) hh (bindSpecial (.ref fI) self) (.ref fI, [self])) (few : us.length ≤ sizeLine)
    (go : codeAny (model pr wd) (Ar.under (.builtin "type.__call__" ⟨.ref C :: us, []⟩)) (.call (.ref fI) ⟨.ref (hh.objs.size + 1) :: us, []⟩) (W.InitBack (hh.objs.size + 1) Rr)
      ⟨(hh.push (W.kdv_tup us)).push (excO C hh.objs.size), gn, dn, tn, on⟩) : codeAny (model pr wd) Ar (.call (.ref C) ⟨us, []⟩) Rr ⟨hh, gn, dn, tn, on⟩ := by
  have e1 := tc_lookup
  have e2 := tc_bind (.ref C)
  have ty : (⟨hh, gn, dn, tn, on⟩ : Shared).TypeIs (.ref C) "type" := ⟨_, lk, rfl⟩
  refine codeAny_of_tree ?_
  show wpAny _ _ (callAny (.ref C) _) _ _ _
  repeat (any_goals (first | assumption | with_reducible refine wpAny_loadPart_at lk ?_ | wp_step))
  refine ⟨rfl, ?_⟩
  refine codeAny_call_builtin_at (Code.quiet_builtin _ (by decide +kernel)) entry_typeCall (wpAny_check_type_call_sub lk ?_)
  -- the class is called
  repeat (first | with_reducible refine wpAny_loadPart_at lk ?_ | with_reducible refine wpAny_madeBy_exc lk ?_ | wp_step)
  refine codeAny_call_builtin_code (Code.quiet_builtin _ FB.quiet) (check_line FB ln lk ?_)
  refine new_line FB ln lk few ?_
  show wpAny _ _ _ _ _ _
  have stay : ∀ b o, hh.get? b = some o → ((hh.push (W.kdv_tup us)).push (excO C hh.objs.size)).get? b = some o := fun b o eb => Heap.get?_push_of_some _ (Heap.get?_push_of_some _ eb)
  have lk1 := stay _ _ lk
  have me : ((hh.push (W.kdv_tup us)).push (excO C hh.objs.size)).get? (hh.objs.size + 1) = some (excO C hh.objs.size) := by heap_get
  have qC : (Value.ref C :: line).contains (.ref C) = true := by simp
  have l1 := at1.keeps stay
  have l2 := (at2 (.ref (hh.objs.size + 1))).keeps stay
  unfold isInstance
  repeat (first | with_reducible refine wpAny_loadPart_at me ?_ | (with_reducible refine wpAny_isSubtype_exc lk1 ?_; rw [qC]) | wp_step)
  show wpAny _ _ (isSubtype (.ref C) (.ref C)) _ _ _
  refine wpAny_isSubtype_exc lk1 ?_
  rw [qC]
  repeat (first | with_reducible refine wpAny_loadPart_at me ?_ | wp_step)
  show wpAny _ _ (typeLookup (.ref C) _) _ _ _
  refine l1.at ?_
  refine wpAny_holding (wpAny_bind (l2.at ?_))
  refine wpAny_bind (wpAny_call (codeAny_mono go fun r s' z => ?_))
  rcases r with e | (v | _ | _ | _) <;> first | exact z | exact z.elim | skip
  obtain ⟨rfl, z⟩ := z
  first
    | exact wpAny_pure (wpAny_pure z)
    | (wp_walk; exact z)
end
end LcKey
end PySem
namespace Lc
open PySem PySem.Spec PyProof.Rows L2
section
variable {X : Cx} {B new ini : String} {tail tailB : List Value} {CX : CXT} {x : Str} {C fI : Addr} {k : Nat} {fd : FuncData} {ps : List Str} {sp : Sp} {e : Expr} {es : List Expr} {ta : TA} {p pos : Pos}
/-- as pmk_oexG, the maker's class further up in the line -/
theorem pmk_oexL {more : List Value} {moreV : List V} (FB : ExcBaseFacts B new ini tailB) (ln : LcKey.Line B tail) (T : OexG X.K C new tail) (iC : PySem.W.findIn X.K (.ref C) "__init__" = some (some (.ref fI))) (tI : PySem.W.typeIn X.K (.ref fI) = some (.type "function"))
    (FI : FnOk X.prog X.w X.K X.mg X.base CX k fI fd ps sp) (hr : Room (k + 1) X.A) (hb : Binds X.K fd ps more) (hmore : Vals moreV more) (hx : Passes CX X (fun _ _ _ => False)) (hg : Gl X x) (hm : X.mg x = some (.ref C)) (ha : PA X (e :: es) ta)
    (hdb : (x == ("__debug__" : Str)) = false := by decide) (he : starEach (e :: es) X.env = (false, eval e X.env) :: starEach es X.env := by rfl) (hpl : (backTo pos (starEach es X.env)).any (·.1) = false := by rfl) :
    PMk X (.Call (.Name x p) (e :: es) [] pos) (tMkO C sp moreV ta) := by
  intro pins s σ H Q I h
  obtain ⟨c1, c2, c3, c4, c5, c6, c7, c8, c9, c10, c11, c12, c13, c14, lk⟩ := T.at_
  refine wpAny_Call_Name_kw (ld_glob I hg hm ?_ hdb)
  refine PySem.W.callWith_K (h₀ := X.base) I.ok.mod.kin T.kept (thn (ha.run pos pins s σ H _ I h) fun us s1 ⟨vs, H1, I1, rv1, short, q1⟩ => ⟨I1.kIn, ?_⟩) he hpl
  show wpAny _ _ (call (.ref C) us) _ _ _
  obtain ⟨hp, g, dr, tk, os⟩ := s1
  have nme : H1 (hp.objs.size + 1) = none := I1.hok.fresh (Nat.le_succ _)
  have sp1 := q1 (hp.objs.size + 1) nme
  have grow : ∀ b ob, hp.get? b = some ob → ((hp.push (PySem.W.kdv_tup us)).push (PySem.HandSPX.excO C hp.objs.size)).get? b = some ob := fun b ob eb => Heap.get?_push_of_some _ (Heap.get?_push_of_some _ eb)
  have here : ((hp.push (PySem.W.kdv_tup us)).push (PySem.HandSPX.excO C hp.objs.size)).get? (hp.objs.size + 1) = some (PySem.HandSPX.excO C hp.objs.size) := by heap_get
  have I2 := I1.laid (t' := tk) (a := hp.objs.size + 1) (o := exo (hp.objs.size + 1) C none) grow (Nat.le_succ _) (exo_ok here)
  have rv2 : Vals (V.ref (hp.objs.size + 1) :: (vs ++ moreV)) (Value.ref (hp.objs.size + 1) :: (us ++ more)) := .cons rfl (rv1.append hmore)
  have len : (Value.ref (hp.objs.size + 1) :: us ++ more).length = ps.length := by
    have z := rv2.length
    rw [FI.len _ _ _ _ sp1] at z
    exact z.symm
  have few : us.length ≤ sizeLine := by rw [← Paired.length rv1, sizeLine_eq]; omega
  refine wpAny_call (LcKey.call_line FB ln (I1.kIn _ _ lk) (PySem.W.looks_findIn I1.kIn iC) (fun self => PySem.W.bind_fn I1.kIn self tI) few ?_)
  refine codeAny_mono (FI.run _ X.stack _ _ ⟨Value.ref (hp.objs.size + 1) :: us, []⟩ (Value.ref (hp.objs.size + 1) :: (us ++ more)) _ _ (fun _ _ _ => False) (hr.make C us []) (I2.env0.make C us []) (hb _ (Value.ref (hp.objs.size + 1) :: us) I2.kIn len) rv2 sp1) fun res s' hq => ?_
  match res, hq with
  | .error er, hq => exact hx pins σ _ _ er s' I2 hq
  | .ok (.ret u), hq =>
    obtain ⟨v, H2, os2, bare2, un2, ok2, rv, ev, dd, fs, ea, ed, nd, q2⟩ := hq
    subst ev
    obtain ⟨h2, g2, d2, t2, os'⟩ := s'
    exact ⟨rv, mk_end (raises_own T.exc T.typ) I1 (Nat.le_succ _) grow un2 ok2 os2 bare2 ea ed nd q2⟩
  | .ok .next, hq => exact False.elim hq
  | .ok .brk, hq => exact False.elim hq
  | .ok .cont, hq => exact False.elim hq
end
end Lc
set_option Elab.async false
set_option linter.all false
set_option maxRecDepth 100000
set_option maxHeartbeats 4000000
namespace K12
open PySem PySem.Spec PyProof.Rows L2 Lc
/-! ## errors that tell one thing -/
abbrev sIniV : Stmt := inClass (top 7) 0
abbrev sIniU : Stmt := inClass (top 5) 0
abbrev ixT : List Value := [.type "IndexError", .type "LookupError", .type "Exception", .type "BaseException", .type "object"]
abbrev keT : List Value := [.type "KeyError", .type "LookupError", .type "Exception", .type "BaseException", .type "object"]
/-- the same of a class right over another built-in one -/
structure ErG (K : PySem.W.Frag) (mg : Str → Option Value) (x fld : Str) (C fI : Addr) (new : String) (tail : List Value) : Prop where
  oex : OexG K C new tail
  iC : PySem.W.findIn K (.ref C) "__init__" = some (some (.ref fI))
  tI : PySem.W.typeIn K (.ref fI) = some (.type "function")
  nG : PySem.W.findIn K (.ref C) fld = some none
  gC : mg x = some (.ref C)
abbrev ErI (K : PySem.W.Frag) (mg : Str → Option Value) (x fld : Str) (C fI : Addr) : Prop := ErG K mg x fld C fI "IndexError.__new__" ixT
abbrev ErK (K : PySem.W.Frag) (mg : Str → Option Value) (x fld : Str) (C fI : Addr) : Prop := ErG K mg x fld C fI "LookupError.__new__" keT
def TellsF (C : Addr) (fld : Str) (H : Hp) (v : V) (E : XK) : Prop := ∀ (d : Addr) (H' : Hp), Same H H' → H d = none → H' d = some (.xd [(fld, v)]) → E (.ref C) (some d) H'
def spIni (C : Addr) (fld : Str) : Sp := fun vs H Q _ => ∃ (a : Addr) (v : V), vs = [.ref a, v] ∧ H a = some (exo a C none) ∧ ∀ dx, H dx = none → dx ≠ a → Q .non (upd (upd H dx (exd dx [(fld, v)])) a (exo a C (some dx)))
section
variable {P : Program} {w : World} {K : PySem.W.Frag} {mg : Str → Option Value} {base : Heap} {f C fI : Addr} {fd fdI : FuncData}
theorem scIniV : FnScope ["self", "given"] ["self", "given"] (defScope sIniV) := ⟨rfl, rfl, rfl, by decide +kernel, rfl, by decide +kernel, by decide +kernel⟩
theorem ok_iniV (F : Fun K "__init__" "NoVersion.__init__" sIniV fI fdI) (T : ErI K mg "NoVersion" "given" C fI) : FnOk P w K mg base CX0 1 fI fdI ["self", "given"] (spIni C "given") := by
  refine F.ok scIniV (fun vs H Q E h => ?_) (fun cdv A outer s H vs Q E hr h => ?_)
  · obtain ⟨a, v, rfl, _⟩ := h
    rfl
  · obtain ⟨a, v, rfl, ha, k⟩ := h
    refine ⟨_, pss_one (ps_put PySem.F.store_IndexError T.oex T.nG (pv 0) (pv 1)), ?_⟩
    exact ⟨_, rfl, _, rfl, a, rfl, ha, fun dx h1 h2 => k dx h1 h2⟩
theorem scIniU : FnScope ["self", "key"] ["self", "key"] (defScope sIniU) := ⟨rfl, rfl, rfl, by decide +kernel, rfl, by decide +kernel, by decide +kernel⟩
theorem ok_iniU (F : Fun K "__init__" "UnknownName.__init__" sIniU fI fdI) (T : ErK K mg "UnknownName" "key" C fI) : FnOk P w K mg base CX0 1 fI fdI ["self", "key"] (spIni C "key") := by
  refine F.ok scIniU (fun vs H Q E h => ?_) (fun cdv A outer s H vs Q E hr h => ?_)
  · obtain ⟨a, v, rfl, _⟩ := h
    rfl
  · obtain ⟨a, v, rfl, ha, k⟩ := h
    refine ⟨_, pss_one (ps_put PySem.F.store_KeyError T.oex T.nG (pv 0) (pv 1)), ?_⟩
    exact ⟨_, rfl, _, rfl, a, rfl, ha, fun dx h1 h2 => k dx h1 h2⟩
theorem tells_ofF {H : Hp} {fld : Str} {v : V} {E : XK} (t : TellsF C fld H v E) : ∀ a, H a = none → spIni C fld (.ref a :: ([v] ++ [])) (upd H a (exo a C none))
    (fun v' H2 => v' = .non ∧ ∃ (d : Addr) (fs : List (Str × V)), H2 a = some (exo a C (some d)) ∧ H2 d = some (exd d fs) ∧ H d = none ∧ E (.ref C) (some d) (upd (del H2 a) d (.xd fs))) (fun _ _ _ => False) := by
  intro a ha
  refine ⟨a, v, rfl, upd_same, fun dx hx hne => ⟨rfl, dx, _, upd_same, by rw [upd_ne hne, upd_same], by rw [upd_ne hne] at hx; exact hx, ?_⟩⟩
  rw [upd_ne hne] at hx
  refine t dx _ (fun b o e => ?_) hx upd_same
  have nb : b ≠ a := ne_of_none e ha
  have nd : b ≠ dx := ne_of_none e hx
  rw [upd_ne nd, del_ne nb, upd_ne nb, upd_ne nd, upd_ne nb]
  exact e
end
structure EA where
  v : Addr
def Vd (A : EA) (H : Hp) (u : Option (Nat × V)) (E : XK) (Q : Prop) : Prop := (u = none → Q) ∧ ∀ c x, u = some (c, x) → ∀ H', Same H H' → TellsF A.v "given" H' x E
def versU (es : List En) (v : V) : PyData → Option (Nat × V)
  | .int n => if 0 ≤ n ∧ n ≤ (es.length : Int) then none else some (3, v)
  | _ => some (3, v)
def usedU (es : List En) (v : V) : PyData → Option (Nat × V)
  | .int n => if 0 ≤ n ∧ n < (usedD es : Int) then none else some (2, v)
  | _ => some (2, v)
def spRowsX (C : Addr) (A : EA) : Sp := fun vs H Q E => ∃ (a lg : Addr) (R : RD) (v : V) (d : PyData), vs = [.ref a, v] ∧ IsRg C H a lg R ∧ OkR R ∧ Dh H v d ∧ v ≠ .non ∧ Vd A H (versU R.es v d) E (∀ (r : Addr) H', Same H H' → Q (.ref r) H')
theorem int_or {H : Hp} {v : V} {d : PyData} (h : Dh H v d) : (∃ n, v = .int n ∧ d = .int n) ∨ (tyD d ≠ "int" ∧ ∀ es, versU es v d = some (3, v) ∧ usedU es v d = some (2, v)) := by
  cases h with
  | int n => exact .inl ⟨n, rfl, rfl⟩
  | _ => exact .inr ⟨by simp [tyD], fun _ => ⟨rfl, rfl⟩⟩
section
variable {P : Program} {w : World} {K : PySem.W.Frag} {mg : Str → Option Value} {base : Heap} {f C fI fN fC fW fA fR fU fE fS fV fM : Addr} {fd fdN fdC fdW fdA fdR fdU fdE fdS fdV fdM : FuncData} {u1 : Tok} {A : EA}
theorem ok_rrX {dvs : List V} {kws : List (Str × V)} (F : FunD K "rows" "Register.rows" (defArgs sRR) (defBody sRR) (defScope sRR) dvs kws f fd) (T : Bt mg) (G : RgF K mg C fI) (RV : ErI K mg "NoVersion" "given" A.v fV) (GV : FnOk P w K mg base CX0 1 fV fdV ["self", "given"] (spIni A.v "given")) (bV : Binds K fdV ["self", "given"] [])
    (GW : FnOk P w K mg base CX0 1 fW fdW ["value"] spWhole) (mW : mg "is_whole" = some (.ref fW)) (kW : PySem.W.keepIn K (.ref fW) = true) (bW : Binds K fdW ["value"] [])
    (GA : FnOk P w K mg base CX0 1 fA fdA ["entries"] spRa) (mA : mg "rows_after" = some (.ref fA)) (kA : PySem.W.keepIn K (.ref fA) = true) (bA : Binds K fdA ["entries"] []) : FnOk P w K mg base (L2.CX P w) 3 f fd ["self", "version"] (spRowsX C A) := by
  refine F.ok scRR (fun vs H Q E h => ?_) (fun cdv A' outer s H vs Q E hr h => ?_)
  · obtain ⟨a, lg, R, v, d, rfl, _⟩ := h
    rfl
  · obtain ⟨a, lg, R, v, d, rfl, ⟨dx, cv, xs, ys, h1, h2, h3, h4, h5⟩, o, hd, nn, k1, k2⟩ := h
    have hr1 : Room 1 _ := hr.mono (by decide)
    refine ⟨_, pss_cons (ps_if (pt_cmpR op_isN (pv 1) pe_non (nomark _)) pss_dead pss_nil)
      (pss_cons (ps_if (PW.pt (pw_or (pt_not (pt_val (pe_call GW hr1 (by rfl) mW kW bW .nil pass0 (pa_cons (pv 1) pa_nil)))) (pw_or (pt_cmpR op_lt (pv 1) pe_int (nomark _)) (pw_or1 (pt_cmpR op_gt (pv 1) (pe_callB call_len_seq (by rfl) T.len PySem.boot_len (pa_cons (pe_fld (pv 0) (by rfl)) pa_nil)) (nomark _))))))
        (pss_one (ps_raise (W := fun cls d _ H => E cls d H) rfl (takes_of rfl rfl rfl rfl) (pmk_oexG PySem.F.excBase_IndexError RV.oex RV.iC RV.tI GV hr bV .nil pass0 (by rfl) RV.gC (pa_cons (pv 1) pa_nil)))) pss_nil)
      (pss_cons (ps_set (i := 2) scRR.nd rfl (Or.inl rfl) (pe_call GA hr1 (by rfl) mA kA bA .nil pass0 (pa_cons (pe_slice sl_list (pe_fld (pv 0) (by rfl)) po_none (po_some (pv 1))) pa_nil)))
      (pss_one (ps_ret (LiI.pe_listItems (by rfl) (pv 2) (by rfl) T.list boot_list))))), ?_⟩
    have ly := h5.len
    rw [List.length_map] at ly
    have one : 1 ≤ 1000 := by decide
    refine ⟨_, rfl, rfl, _, rfl, ?_⟩
    rw [decide_eq_false nn]
    refine iteF ⟨_, rfl, v, _, rfl, hd.ty, _, rfl, ?_⟩
    rcases int_or hd with ⟨n, rfl, rfl⟩ | ⟨ti, ev⟩
    · rw [show (tyD (.int n) == "int") = true from rfl]
      refine iteF ⟨_, rfl, _, _, rfl, rfl, _, rfl, ?_⟩
      by_cases n0 : n < 0
      · rw [decide_eq_true n0]
        have e : versU R.es (.int n) (.int n) = some (3, .int n) := by
          show (if 0 ≤ n ∧ n ≤ (R.es.length : Int) then none else _) = _
          rw [if_neg (by omega)]
        exact iteT (iteT ⟨_, rfl, one, tells_ofF (k2 _ _ e H (Same.refl H))⟩)
      · rw [decide_eq_false n0]
        refine iteF ⟨_, rfl, _, rfl, a, C, dx, _, _, rfl, h1, G.cls, G.a3, rfl, lg, _, rfl, .inl (SqL.of h4), _, _, rfl, rfl, _, rfl, ?_⟩
        by_cases n1 : (ys.length : Int) < n
        · rw [decide_eq_true n1]
          have e : versU R.es (.int n) (.int n) = some (3, .int n) := by
            show (if 0 ≤ n ∧ n ≤ (R.es.length : Int) then none else _) = _
            rw [if_neg (by omega)]
          exact iteT ⟨_, rfl, one, tells_ofF (k2 _ _ e H (Same.refl H))⟩
        · rw [decide_eq_false n1]
          have e : versU R.es (.int n) (.int n) = none := by
            show (if 0 ≤ n ∧ n ≤ (R.es.length : Int) then none else _) = _
            rw [if_pos (by omega)]
          have k := k1 e
          obtain ⟨m, rfl⟩ : ∃ m : Nat, n = (m : Int) := ⟨n.toNat, by omega⟩
          refine iteF ?_
          refine ⟨_, rfl, a, C, dx, _, _, rfl, h1, G.cls, G.a3, rfl, _, rfl, m, rfl, lg, _, rfl, SqL.of h4, fun p hp => ?_⟩
          have zp := Same.upd (o := .lst (cutV ys none (some (m : Int)))) hp
          have ep : upd H p (.lst (cutV ys none (some (m : Int)))) p = some (.lst (ys.take m)) := by rw [upd_same, cut_take ys (by omega)]
          have dp : DhAll (upd H p (.lst (cutV ys none (some (m : Int))))) (ys.take m) ((R.es.take m).map En.d) := by
            rw [List.map_take]
            exact DhAll.take m (DhAll.same zp h5)
          refine ⟨p, _, _, R.es.take m, rfl, ep, dp, OkEs.take m o.es, by rw [List.length_take]; have := o.ln; omega, fun r kvs H2 s2 h2' rw2 => ?_⟩
          exact ⟨_, rfl, r, kvs, rfl, h2', fun H3 q ts s3 gq _ _ h3' pr => k q H3 ((zp.trans s2).trans s3)⟩
    · rw [show (tyD d == "int") = false by simpa using ti]
      exact iteT (iteT ⟨_, rfl, one, tells_ofF (k2 _ _ (ev R.es).1 H (Same.refl H))⟩)
end
end K12
set_option Elab.async false
set_option linter.all false
set_option maxRecDepth 100000
set_option maxHeartbeats 4000000
namespace Lc
open PySem PySem.Spec PyProof.Rows L2
/-! ## a dict comprehension that is stored in a local name -/
section
variable {X : Cx}
theorem sw_dict {e1 e2 : Expr} {cs : List Comprehension} {sc : Scope} {p1 p2 : Pos} {nm : Str} {ln : Nat} {en : Env} (h1 : en.scope.kind = .function) (h2 : en.scope.names.lookup nm = some .local) (h3 : (p2.line == p1.line) = true)
    (h4 : (sc.names.any fun (a, b) => a == nm && (b == .local || b == .cell)) = false) : swapsWith (.DictComp e1 e2 cs sc p1) (some (.Name nm p2)) ln en = pure true := by
  have k1 : en.kindOf nm = some .local := h2
  have k2 : en.blockKind = .function := by
    unfold Env.blockKind
    rw [h1]
    rfl
  unfold swapsWith
  simp only [k2, k1, h4, Expr.pos, h3]
  rfl
theorem ps_setDc {i : Nat} {nm : Str} {p2 p1 p3 : Pos} {kx vx tg it : Expr} {ifs : List Expr} {sc : Scope} {own : List (Str × Nat)} {wi : TI} {g : TG} {tt : TT} {tk tv : TE} (calm : X.calm = true) (nd : X.N.Nodup) (at_ : X.N[i]? = some nm) (loc : X.env.scope.names.lookup nm = some .local)
    (sw : swapsWith (.DictComp kx vx [⟨tg, it, ifs, 0⟩] sc p1) (some (.Name nm p2)) p3.line X.env = pure true) (hi : PI X tg it wi) (ok : BlkOk X.N X.env.scope sc own)
    (hg : ∀ (s : Shared) (H : Hp) (C : Addr) (cl : List (Str × Addr)) (fp : List Addr), PG (X.blk s H sc (compEnvC sc cl C X.env) fp) tg g) (ht : ∀ (s : Shared) (H : Hp) (C : Addr) (cl : List (Str × Addr)) (fp : List Addr), PTs (X.blk s H sc (compEnvC sc cl C X.env) fp) ifs tt)
    (hk : ∀ (s : Shared) (H : Hp) (C : Addr) (cl : List (Str × Addr)) (fp : List Addr), PE (X.blk s H sc (compEnvC sc cl C X.env) fp) kx tk) (hv : ∀ (s : Shared) (H : Hp) (C : Addr) (cl : List (Str × Addr)) (fp : List Addr), PE (X.blk s H sc (compEnvC sc cl C X.env) fp) vx tv) (hs : ∀ x, foldedSetIterable it X.env x = pure x := by intro _; rfl) :
    PS X (.Assign [.Name nm p2] (.DictComp kx vx [⟨tg, it, ifs, 0⟩] sc p1) p3) (tAsg (tDc wi g tt tk tv (own.map (·.2))) (gName i)) := by
  refine ⟨fun pins st σ H D I q0 => ?_⟩
  rw [exec_Assign_Name_used _ _ _ _ sw]
  refine wpAny_bind (wpAny_standAt (wpAny_bind ?_))
  show wpAny _ X.A (do let _ ← comprehension (.DictComp kx vx [⟨tg, it, ifs, 0⟩] sc p1) sc X.env (firstIterPos [⟨tg, it, ifs, 0⟩] p1) newDict false (eval it X.env) (some (assign (.Name nm p2) X.env))) _ _ st
  have q1 : tDc wi g tt tk tv (own.map (·.2)) σ H (fun x H1 => gName i x σ H1 D.nx) := q0
  refine wpAny_bind (thn (dc_core (Qf := fun _ s' => SP X pins D .next s') calm nd I hi ok hg ht hk hv hs q1 fun L C s' mm H' I' qq hn fr => ?_) fun _ s' z => wpAny_pure (wpAny_pure z))
  show wpAny _ _ (assign (.Name nm p2) X.env (.ref L)) _ _ _
  refine wpAny_assign_Name (store_ok2 (v := V.ref L) I' nd at_ (.inl loc) rfl (fun s2 I2 ⟨a, sb, ha⟩ => ?_) (.inr loc))
  obtain ⟨g0, g1, _, g3, g4, g5⟩ := fr
  have ne : C ≠ a := by
    rcases ha with z | z
    · exact z ▸ g1
    · exact fun e => g4 nm a z e.symm
  refine ⟨mm, hn.sameBut sb ne, fun h3 sb3 => ?_⟩
  refine ⟨_, H', I2.turned (t' := s2.toks) (fun b o hb e => ?_) g0 g1 g3 g4 g5, qq⟩
  exact (sb3.2 b hb).trans e
end
/-- a dict comprehension over zip of two tuples of one length -/
theorem dc_zip {K : PySem.W.Frag} {a b : Addr} {xs ys : List V} {g : TG} {tt : TT} {tk tv : TE} {vs : List Nat} {σ : L2.St} {H1 : Hp} {D : Addr} {Qd : Hp → Prop} (hl : xs.length = ys.length) (Pv : Nat → Hp → Prop) (h0 : Pv 0 (upd H1 D (.dK []))) (hq : ∀ i H, Pv i H → SqT K H a xs ∧ SqT K H b ys)
    (hs : ∀ (i : Nat) (x y : V) (T : Addr) (H : Hp), xs[i]? = some x → ys[i]? = some y → Pv i H → H T = none → g (.ref T) (wipe σ vs) (upd H T (.tup [x, y])) fun σ2 H2 => wipe σ2 vs = wipe σ vs ∧ tt σ2 H2 fun c H3 =>
      if c = true then tk σ2 H3 fun k H4 => tv σ2 H4 fun z H5 => ∃ kvs kk, k = kV kk ∧ H5 D = some (.dK kvs) ∧ kvs.length < sizeLine ∧ Pv (i + 1) (upd H5 D (.dK (putK kvs kk z))) else Pv (i + 1) H3) (hd : ∀ H, Pv xs.length H → Qd H) :
    ∃ W : Nat → Nat → Hp → Prop, (∃ m, W 0 m (upd H1 D (.dK []))) ∧ ∀ i m H, W i m H →
      ((RZ.ItzT K a b).stop i H ∧ Qd H) ∨ ((RZ.ItzT K a b).go i H ∧ ∃ N : Hp → Prop, (∀ H', N H' → ∃ m', m' < m ∧ W (i + 1) m' H') ∧ ∀ v H', (RZ.ItzT K a b).yld i H v H' → g v (wipe σ vs) H' fun σ2 H2 => wipe σ2 vs = wipe σ vs ∧ tt σ2 H2 fun c H3 =>
        if c = true then tk σ2 H3 fun k H4 => tv σ2 H4 fun z H5 => ∃ kvs kk, k = kV kk ∧ H5 D = some (.dK kvs) ∧ kvs.length < sizeLine ∧ N (upd H5 D (.dK (putK kvs kk z))) else N H3) := by
  refine ⟨fun i m H => i + m = xs.length ∧ Pv i H, ⟨xs.length, Nat.zero_add _, h0⟩, ?_⟩
  rintro i m H ⟨em, pv⟩
  obtain ⟨q1, q2⟩ := hq i H pv
  cases m with
  | zero =>
    obtain rfl : i = xs.length := by omega
    exact .inl ⟨⟨xs, ys, q1, q2, .inl (Nat.le_refl _)⟩, hd H pv⟩
  | succ m =>
    have l1 : i < xs.length := by omega
    have l2 : i < ys.length := by omega
    refine .inr ⟨⟨xs, ys, _, _, q1, q2, List.getElem?_eq_getElem l1, List.getElem?_eq_getElem l2⟩, Pv (i + 1), fun H' p' => ⟨m, by omega, by omega, p'⟩, fun v H' yl => ?_⟩
    obtain ⟨T, x', y', rfl, hT, rfl, f1, f2⟩ := yl
    exact hs i x' y' T H (f1 xs q1) (f2 ys q2) pv hT
section
variable {X : Cx} {k : Nat} {f : Addr} {fd : FuncData} {ps : List Str} {sp : Sp} {x : Str} {p pos : Pos}
/-- f(), f kept under FnG -/
theorem pe_callG0 (F : FnG X.prog X.w X.K X.mg X.base k f fd ps sp) (gg : X.A.guards = some []) (hr : Room k X.A) (hg : Gl X x) (hm : X.mg x = some (.ref f)) (hk : PySem.W.keepIn X.K (.ref f) = true) (hb : Binds X.K fd ps []) (hdb : (x == ("__debug__" : Str)) = false := by decide) :
    PE X (.Call (.Name x p) [] [] pos) (tCall sp [] E0 tNil) := by
  refine ⟨fun pins s σ H Q I h => wpAny_Call_Name_kw (ld_glob I hg hm ?_ hdb)⟩
  refine PySem.W.callWith_K0 I.kIn hk ?_
  have q : sp [] H Q E0 := h
  have hl : ([] : List V).length = ps.length := F.len _ _ _ _ q
  have b := hb s [] I.kIn hl
  refine wpAny_call (codeAny_mono (F.run X.A X.stack s H ⟨[], []⟩ [] [] Q E0 gg hr I.env0 b .nil q) fun rr s' hq => ?_)
  cases rr with
  | error er => exact hq.elim
  | ok fl =>
    cases fl with
    | ret u => exact I.after hq
    | next => exact hq.elim
    | brk => exact hq.elim
    | cont => exact hq.elim
end
/-- a list comprehension over zip of two tuples of one length -/
theorem lc_zip {K : PySem.W.Frag} {a b : Addr} {xs ys : List V} {g : TG} {tt : TT} {te : TE} {vs : List Nat} {σ : L2.St} {H1 : Hp} {D : Addr} {Qd : Hp → Prop} (hl : xs.length = ys.length) (Pv : Nat → Hp → Prop) (h0 : Pv 0 (upd H1 D (.lst []))) (hq : ∀ i H, Pv i H → SqT K H a xs ∧ SqT K H b ys)
    (hs : ∀ (i : Nat) (x y : V) (T : Addr) (H : Hp), xs[i]? = some x → ys[i]? = some y → Pv i H → H T = none → g (.ref T) (wipe σ vs) (upd H T (.tup [x, y])) fun σ2 H2 => wipe σ2 vs = wipe σ vs ∧ tt σ2 H2 fun c H3 =>
      if c = true then te σ2 H3 fun z H4 => ∃ acc, H4 D = some (.lst acc) ∧ acc.length < sizeLine ∧ Pv (i + 1) (upd H4 D (.lst (acc ++ [z]))) else Pv (i + 1) H3) (hd : ∀ H, Pv xs.length H → Qd H) :
    ∃ W : Nat → Nat → Hp → Prop, (∃ m, W 0 m (upd H1 D (.lst []))) ∧ ∀ i m H, W i m H →
      ((RZ.ItzT K a b).stop i H ∧ Qd H) ∨ ((RZ.ItzT K a b).go i H ∧ ∃ N : Hp → Prop, (∀ H', N H' → ∃ m', m' < m ∧ W (i + 1) m' H') ∧ ∀ v H', (RZ.ItzT K a b).yld i H v H' → g v (wipe σ vs) H' fun σ2 H2 => wipe σ2 vs = wipe σ vs ∧ tt σ2 H2 fun c H3 =>
        if c = true then te σ2 H3 fun z H4 => ∃ acc, H4 D = some (.lst acc) ∧ acc.length < sizeLine ∧ N (upd H4 D (.lst (acc ++ [z]))) else N H3) := by
  refine ⟨fun i m H => i + m = xs.length ∧ Pv i H, ⟨xs.length, Nat.zero_add _, h0⟩, ?_⟩
  rintro i m H ⟨em, pv⟩
  obtain ⟨q1, q2⟩ := hq i H pv
  cases m with
  | zero =>
    obtain rfl : i = xs.length := by omega
    exact .inl ⟨⟨xs, ys, q1, q2, .inl (Nat.le_refl _)⟩, hd H pv⟩
  | succ m =>
    have l1 : i < xs.length := by omega
    have l2 : i < ys.length := by omega
    refine .inr ⟨⟨xs, ys, _, _, q1, q2, List.getElem?_eq_getElem l1, List.getElem?_eq_getElem l2⟩, Pv (i + 1), fun H' p' => ⟨m, by omega, by omega, p'⟩, fun v H' yl => ?_⟩
    obtain ⟨T, x', y', rfl, hT, rfl, f1, f2⟩ := yl
    exact hs i x' y' T H (f1 xs q1) (f2 ys q2) pv hT
theorem paired_snoc {α β : Type} {R : α → β → Prop} {a : α} {b : β} (h : R a b) : ∀ {l : List α} {m : List β}, Paired R l m → Paired R (l ++ [a]) (m ++ [b])
  | _, _, .nil => .cons h .nil
  | _, _, .cons g r => .cons g (paired_snoc h r)
theorem paired_imp {α β : Type} {R S : α → β → Prop} (h : ∀ a b, R a b → S a b) : ∀ {l : List α} {m : List β}, Paired R l m → Paired S l m
  | _, _, .nil => .nil
  | _, _, .cons g r => .cons (h _ _ g) (paired_imp h r)
end Lc
set_option Elab.async false
set_option linter.all false
set_option maxRecDepth 100000
set_option maxHeartbeats 4000000
namespace Lc
open PySem PySem.Spec PyProof.Rows L2
theorem ud_entry : entryFor table "dict.update.loop" = some Builtin.«dict.update.loop» := entryFor_of_tree (by kernel_rfl)
theorem ud_plain : plainId "dict.update.loop" = true := by decide +kernel
section
variable {prog : Program} {w : World} {A : Around} {E : Value → Shared → Prop}
/-- the walk over the pairs -/
theorem upd_loopT {R : Result → Shared → Prop} {S I l : Addr} {items : Array Value} {res : Value} (hh : A.handled = none) (hlI : l ≠ I) (hSI : S ≠ I) (hSl : S ≠ l) :
    ∀ (rest : List (Key × Value)) (i : Nat) (acc : List (Key × Value)) (ix : Int) (t : Tok) (s : Shared), items.size = i + rest.length → acc.length + rest.length ≤ sizeLine →
      (∀ (j : Nat) (q : Key × Value), rest[j]? = some q → ∃ (b : Addr) (u : Value), items[i + j]? = some (.ref b) ∧ b ≠ S ∧ b ≠ I ∧ IsTup s.heap b #[u, q.2] ∧ keyIs q.1 u = true) →
      s.heap.IsTupleIter I l i → s.heap.IsTuple l items → s.heap.DictOf (mixKind prog w) S acc →
      (∀ h' tk, h'.DictOf (mixKind prog w) S (merged acc rest) → (∀ b o, b ≠ S → b ≠ I → s.heap.get? b = some o → h'.get? b = some o) → R (.ok (.ret res)) { s with heap := h', toks := tk }) →
      codeAny (model prog w) A (.builtin "dict.update.loop" ⟨[.ref S, .ref I, .int ix t, res], []⟩) R s
  | [], i, acc, ix, t, s, hsz, hln, ht, hit, hl, hm, hR => by
    refine codeAny_builtin ud_entry ?_
    rw [Around.under_plainId ud_plain _]
    show wpAny _ A.in1 (pyNext (.ref I) >>= _) _ _ s
    refine wpAny_bind (wpAny_pyNext_tuple_end (A := A.in1) hh hit hl (by first | exact Array.getElem?_eq_none (Nat.le_of_eq hsz) | (simp at hsz; simp; omega)) fun h' he => ?_)
    show wpAny _ A.in1 (Builtin.Dict.addKeywords S [] >>= _) _ _ _
    refine wpAny_bind (wpAny_pure (wpAny_pure ?_))
    exact hR h' s.toks (hm.extBut he hSI) fun b o _ hb e => he b o hb e
  | q :: rest, i, acc, ix, t, s, hsz, hln, ht, hit, hl, hm, hR => by
    obtain ⟨b, u, hb, hbS, hbI, htup, hk⟩ := ht 0 q rfl
    rw [List.length_cons] at hsz hln
    refine codeAny_builtin ud_entry ?_
    rw [Around.under_plainId ud_plain _]
    show wpAny _ A.in1 (pyNext (.ref I) >>= _) _ _ s
    refine wpAny_bind (wpAny_pyNext_tuple_item (x := .ref b) hit hl (by simpa using hb) fun h1 hit1 hs1 => ?_)
    have ht1 : IsTup h1 b #[u, q.2] := htup.extBut hs1.extBut hbI
    have hl1 : h1.IsTuple l items := hl.extBut hs1.extBut hlI
    have hm1 : h1.DictOf (mixKind prog w) S acc := hm.extBut hs1.extBut hSI
    obtain ⟨o, ho, hc, n, hd⟩ := id ht1
    show wpAny _ A.in1 (holding [Value.ref b] _ >>= _) _ _ _
    refine wpAny_bind (wpAny_holding ?_)
    refine wpAny_bind (wpAny_tryCatch ?_)
    unfold Builtin.Dict.pairItems
    refine wpAny_bind (wpAny_typeOf (T := "tuple") ⟨o, ho, hc⟩ ?_)
    rw [if_pos (by first | decide | rfl | simp)]
    refine wpAny_bind (wpAny_seqItems ho hd (wpAny_pure ?_))
    show wpAny _ A.in1 (holding [u, q.2] (dictSet S u q.2)) _ _ _
    refine wpAny_holding (wpAny_dictSet_pairs (knd := mixKind prog w) (k := q.1) hk hm1 (fun h2 hm2 hs2 => ?_) (by omega))
    refine wpAny_pure ⟨plainId_quiet ud_plain _, upd_loopT (items := items) hh hlI hSI hSl rest (i + 1) (stored acc q.1 q.2) (ix + 1) 0 _ (show items.size = i + 1 + rest.length by omega) ?_ (fun j q' e => ?_) ?_ ?_ hm2 fun h' tk hd' k => ?_⟩
    · have z := stored_length_le acc q.1 q.2
      omega
    · obtain ⟨b', u', hb', hbS', hbI', htup', hk'⟩ := ht (j + 1) q' (by simpa using e)
      refine ⟨b', u', ?_, hbS', hbI', (htup'.extBut hs1.extBut hbI').extBut hs2.extBut hbS', hk'⟩
      rw [show i + 1 + j = i + (j + 1) by omega]
      exact hb'
    · exact hit1.at fun o' e => hs2.extBut I o' (Ne.symm hSI) e
    · exact hl1.extBut hs2.extBut (Ne.symm hSl)
    · exact hR h' tk hd' fun c oc h3 h4 e => k c oc h3 h4 (hs2.extBut c oc h3 (hs1.extBut c oc h4 e))
/-- dict(t) of a tuple of pairs -/
theorem call_dict_pairsT {s : Shared} {l : Addr} {ol : Obj} {items : Array Value} {n : Nat} {prs : List (Key × Value)} {Q : Value → Shared → Prop} (hh : A.handled = none) (hl : s.heap.get? l = some ol) (hc : ol.cls = .type "tuple") (hd : ol.dict = none)
    (hdat : ol.data = .seq items n) (hsz : items.size = prs.length) (hln : prs.length ≤ sizeLine)
    (ht : ∀ (j : Nat) (q : Key × Value), prs[j]? = some q → ∃ (b : Addr) (u : Value), items[j]? = some (.ref b) ∧ IsTup s.heap b #[u, q.2] ∧ keyIs q.1 u = true)
    (h : ∀ h' tk, h'.DictOf (mixKind prog w) s.heap.objs.size (merged [] prs) → (∀ b o, s.heap.get? b = some o → h'.get? b = some o) → Q (.ref s.heap.objs.size) { s with heap := h', toks := tk }) :
    wpAny (model prog w) A (call (.type "dict") [.ref l]) Q E s := by
  refine callType_codes (Q₁ := fun obj s₁ => obj = .ref s.heap.objs.size ∧ s₁ = { s with heap := s.heap.push { cls := .type "dict", data := .dict #[] } }) PySem.F.kt_called_dict (PySem.F.kt_typeCall_dict_1 _) PySem.F.entry_dict_init (kt_code_dict_new _ ⟨rfl, rfl⟩) ?_
  rintro obj s₁ ⟨rfl, rfl⟩
  have hnew : (s.heap.push { cls := .type "dict", data := .dict #[] }).DictOf (mixKind prog w) s.heap.objs.size [] := Heap.DictOf.new s.heap
  have k0 : ∀ b o, s.heap.get? b = some o → (s.heap.push { cls := .type "dict", data := .dict #[] }).get? b = some o := fun b o e => Heap.get?_push_of_some _ e
  refine ⟨hnew.typeIs, PySem.F.args_dict_init_2 _ _, ?_⟩
  unfold Builtin.«dict.__init__»
  refine wpAny_bind ?_
  unfold Builtin.Dict.selfAndRest
  refine wpAny_bind (wpAny_notOrdered_dict hnew.typeIs ?_)
  show wpAny _ _ (pure (s.heap.objs.size, [Value.ref l])) _ _ _
  refine wpAny_pure ?_
  show wpAny _ _ (Builtin.Dict.updateFrom "dict.__init__" s.heap.objs.size (.ref l) [] .none) _ _ _
  unfold Builtin.Dict.updateFrom
  refine wpAny_bind (wpAny_typeOf (T := "tuple") ⟨ol, k0 _ _ hl, hc⟩ ?_)
  rw [if_pos (by first | decide | rfl | simp)]
  refine wpAny_bind (getAttrOr_miss_tuple (k0 _ _ hl) hc hdat hd tuple_no_keys (by decide +kernel) hh fun h1 tk1 hk1 => ?_)
  rw [if_pos (show (none : Option Value).isNone = true from rfl)]
  refine wpAny_bind (wpAny_rule ?_)
  have hl1 : h1.IsTuple l items := ⟨ol, hk1 _ _ (k0 _ _ hl), hc, n, hdat⟩
  have hS1 : s.heap.objs.size < h1.objs.size := by
    have e : (s.heap.push { cls := .type "dict", data := .dict #[] }).get? s.heap.objs.size = some { cls := .type "dict", data := .dict #[] } := Heap.get?_push_size _ rfl
    exact Heap.lt_size (hk1 _ _ e)
  refine wpAny_bind (wpAny_pyIter_tuple hl1 ?_)
  have k2 : ∀ b o, h1.get? b = some o → (h1.push { cls := .type "tuple_iterator", data := .fields #[.ref l, .int 0 0] }).get? b = some o := fun b o e => Heap.get?_push_of_some _ e
  have hlt : l < s.heap.objs.size := Heap.lt_size hl
  have key := upd_loopT (prog := prog) (w := w) (A := A.in1) (R := wants (fun r s₂ => r = .none ∧ Q (.ref s.heap.objs.size) s₂) E) (S := s.heap.objs.size) (I := h1.objs.size) (l := l) (items := items) (res := Value.none) hh
    (Nat.ne_of_lt (Nat.lt_trans hlt hS1)) (Nat.ne_of_lt hS1) (Nat.ne_of_gt hlt) prs 0 [] 0 0
    { s with heap := h1.push { cls := .type "tuple_iterator", data := .fields #[.ref l, .int 0 0] }, toks := tk1 } (by rw [hsz, Nat.zero_add]) (by rw [List.length_nil, Nat.zero_add]; exact hln)
    (fun j q e => by
      obtain ⟨b, u, e1, e2, e3⟩ := ht j q e
      have hb : b < s.heap.objs.size := e2.lt
      exact ⟨b, u, by rw [Nat.zero_add]; exact e1, Nat.ne_of_lt hb, Nat.ne_of_lt (Nat.lt_trans hb hS1), e2.keeps fun c o z => k2 _ _ (hk1 _ _ (k0 _ _ z)), e3⟩)
    ⟨_, Heap.get?_push_size _ rfl, rfl, rfl⟩ (hl1.at fun o e => k2 _ _ e) ((hnew.at fun o e => hk1 _ _ e).at fun o e => k2 _ _ e)
    (fun h' tk hd' k => ⟨rfl, h h' tk hd' fun b o e => k b o (Nat.ne_of_lt (Heap.lt_size e)) (Nat.ne_of_lt (Nat.lt_trans (Heap.lt_size e) hS1)) (k2 _ _ (hk1 _ _ (k0 _ _ e)))⟩)
  first
    | exact wpAny_pure ⟨plainId_quiet ud_plain _, key⟩
    | exact wpAny_bind (wpAny_pure (wpAny_pure ⟨plainId_quiet ud_plain _, key⟩))
end
/-! ## tuples whose very object is known: they have no table of their own -/
def ZT (H : Hp) (a : Addr) (xs : List V) : Prop := ∃ ob : Obj, ob.cls = .type "tuple" ∧ ob.dict = none ∧ H a = some (.frz ob (.tup xs))
theorem ZT.rd {H : Hp} {a : Addr} {xs : List V} (h : ZT H a xs) : Rd H a (.tup xs) := let ⟨ob, _, _, e⟩ := h; .inr ⟨ob, e⟩
theorem ZT.sq {K : PySem.W.Frag} {H : Hp} {a : Addr} {xs : List V} (h : ZT H a xs) : SqT K H a xs := .inl h.rd
theorem ZT.same {H H' : Hp} {a : Addr} {xs : List V} (h : ZT H a xs) (s : Same H H') : ZT H' a xs := let ⟨ob, c, d, e⟩ := h; ⟨ob, c, d, s _ _ e⟩
theorem _root_.L2.Rd.same {H H' : Hp} {a : Addr} {xs : List V} (h : Rd H a (.tup xs)) (s : Same H H') : Rd H' a (.tup xs) := by
  rcases h with h | ⟨o, h⟩
  · exact .inl (s _ _ h)
  · exact .inr ⟨o, s _ _ h⟩
theorem _root_.L2.Rd.sq {K : PySem.W.Frag} {H : Hp} {a : Addr} {xs : List V} (h : Rd H a (.tup xs)) : SqT K H a xs := .inl h
theorem Tape.neR {t p : Addr} {H : Hp} {xs : List V} (h : Tape H t) (e : Rd H p (.tup xs)) : p ≠ t := by
  intro z
  subst z
  obtain ⟨_, _, _, _, _, h1, _⟩ := h
  rcases e with e | ⟨o, e⟩ <;> (rw [h1] at e; cases e)
theorem _root_.L2.Rd.b {t : Addr} {H H' : Hp} {a : Addr} {xs : List V} (h : Rd H a (.tup xs)) (T : Tape H t) (s : SameB t H H') : Rd H' a (.tup xs) := by
  have n := T.neR h
  rcases h with h | ⟨o, h⟩
  · exact .inl (s _ _ n h)
  · exact .inr ⟨o, s _ _ n h⟩
theorem ZT.b {t : Addr} {H H' : Hp} {a : Addr} {xs : List V} (h : ZT H a xs) (T : Tape H t) (s : SameB t H H') : ZT H' a xs := by
  have n := T.neR h.rd
  obtain ⟨ob, c, d, e⟩ := h
  exact ⟨ob, c, d, s _ _ n e⟩
section
variable {X : Cx}
theorem zt_new {pins : List (Addr × Obj)} {σ : L2.St} {H : Hp} {s : Shared} {ys : List V} {its : List Value} (I : Inv X pins σ H s) (hz : ys.length ≤ sizeLine) (r : Vals ys its) :
    Inv X pins σ (upd H s.heap.objs.size (.frz { cls := .type "tuple", data := .seq its.toArray } (.tup ys))) { s with heap := s.heap.push { cls := .type "tuple", data := .seq its.toArray } } :=
  I.laid (t' := s.toks) (fun b o e => Heap.get?_push_of_some _ e) (Nat.le_refl _) (show ObjOk X.prog X.w _ _ _ (.frz _ (.tup ys)) from ⟨Heap.get?_push_size _ rfl, hz, its, r, IsTup.new _ _⟩)
/-- tuple(list): what is made is known to be plain -/
theorem call_tupleZ : CallR X (.type "tuple") (fun xs H Q => ∃ p ys, xs = [.ref p] ∧ SqL X.K H p ys ∧ ∀ l ob, H l = none → ob.cls = .type "tuple" → ob.dict = none → Q (.ref l) (upd H l (.frz ob (.tup ys)))) := by
  intro pins s σ H xs us Q I r h
  obtain ⟨p, ys, rfl, hq, q⟩ := h
  obtain ⟨u, rfl, rx⟩ := vals1 r
  cases rx
  obtain ⟨its, r', pl, hz⟩ := I.list hq
  have hlen := r'.length
  refine call_tuple_list pl.isList (fun h' kp => ?_) (by simp only [List.size_toArray] <;> omega)
  have I1 : Inv X pins σ H { s with heap := h' } := I.kept (t' := s.toks) kp
  exact ⟨.ref h'.objs.size, _, zt_new I1 hz r', rfl, q _ _ (I1.hok.fresh (Nat.le_refl _)) rfl rfl⟩
abbrev rCatZ (K : PySem.W.Frag) : V → V → Hp → VK → Prop := fun x y H Q => ∃ (a b : Addr) (xs ys : List V), x = .ref a ∧ y = .ref b ∧ SqT K H a xs ∧ SqT K H b ys ∧ xs ≠ [] ∧ xs.length + ys.length ≤ sizeLine ∧ (ys = [] → Q (.ref a) H) ∧ (ys ≠ [] → ∀ p ob, H p = none → ob.cls = .type "tuple" → ob.dict = none → Q (.ref p) (upd H p (.frz ob (.tup (xs ++ ys)))))
theorem op_catZ : OpR X (binaryOp .Add) (rCatZ X.K) := by
  intro pins s σ H x y v u Q I rx ry h
  obtain ⟨a, b, xs, ys, rfl, rfl, ha, hb, hx, hz, q1, q2⟩ := h
  cases rx
  cases ry
  obtain ⟨its, r1, p1, _⟩ := I.tuple ha
  obtain ⟨its2, r2, p2, _⟩ := I.tuple hb
  refine HT.cat_tup p1 p2 (fun z => hx (r1.nil_iff.mp z)) (fun z => ⟨.ref a, H, I, rfl, q1 (r2.nil_iff.mp z)⟩) (fun z => ?_) (by rw [← r1.length, ← r2.length]; exact hz)
  exact ⟨.ref s.heap.objs.size, _, zt_new I (by rw [List.length_append]; exact hz) (r1.append r2), rfl, q2 (fun w => z (r2.nil_iff.mpr w)) _ _ (I.hok.fresh (Nat.le_refl _)) rfl rfl⟩
/-- dict(t) of a plain tuple of pairs: later pairs win -/
theorem call_dictZ (hcalm : X.calm = true) : CallR X (.type "dict") (fun xs H Q => ∃ (a : Addr) (ps : List Addr) (kvs : List (Key × V)), xs = [.ref a] ∧ ZT H a (ps.map V.ref) ∧ Paired (fun p kv => SqT X.K H p [kV kv.1, kv.2]) ps kvs ∧
    ∀ p, H p = none → Q (.ref p) (upd H p (.dK (mergeK [] kvs)))) := by
  intro pins s σ H xs us Q I r q
  obtain ⟨a, ps, kvs, ex, ⟨o, hc, hd, hq⟩, hp, q⟩ := q
  subst ex
  obtain ⟨u, eu, rx⟩ := vals1 r
  subst eu
  cases rx
  obtain ⟨ho, hz, its, rv, o', ho', _, n, hdat⟩ := I.hok a _ hq
  rw [ho] at ho'
  cases ho'
  have ei := refs_at rv
  subst ei
  rw [List.length_map] at hz
  obtain ⟨prs, rel, hl, hpr⟩ := pairs_of I hp
  refine call_dict_pairsT (prs := prs) (I.ok.hd hcalm) ho hc hd hdat (by simp [hl]) (by rw [hl]; exact hz) (fun j q' e => ?_) fun h' tk hd' k => ?_
  · obtain ⟨b, u, e1, e2, e3⟩ := hpr j q' e
    exact ⟨b, u, by simp [e1], e2, e3⟩
  · have hm : (s.heap.objs.size == sysModules) = false := beq_eq_false_iff_ne.mpr (Nat.ne_of_gt I.big)
    have hlen : (mergeK [] kvs).length ≤ sizeLine := by
      refine Nat.le_trans (length_mergeK kvs []) ?_
      rw [List.length_nil, Nat.zero_add, rel.length, hl]
      exact hz
    exact ⟨.ref s.heap.objs.size, upd H s.heap.objs.size (.dK (mergeK [] kvs)), I.laid (t' := tk) k (Nat.le_refl _) (show ObjOk X.prog X.w _ _ _ (.dK (mergeK [] kvs)) from ⟨hlen, hm, merged [] prs, KV.merge rel .nil, hd'⟩), rfl, q _ (I.hok.fresh (Nat.le_refl _))⟩
end
end Lc
namespace Lc
open PySem PySem.Spec PyProof.Rows L2
/-- a tuple, or a list -/
def LT (H : Hp) (a : Addr) (xs : List V) : Prop := H a = some (.tup xs) ∨ H a = some (.lst xs)
theorem LT.same {H H' : Hp} {a : Addr} {xs : List V} (h : LT H a xs) (s : Same H H') : LT H' a xs := h.imp (s _ _) (s _ _)
theorem LT.sq {K : PySem.W.Frag} {H : Hp} {a : Addr} {xs : List V} (h : LT H a xs) : SqL K H a xs ∨ SqT K H a xs := h.symm.imp SqL.of SqT.of
end Lc
set_option Elab.async false
set_option linter.all false
set_option maxRecDepth 100000
set_option maxHeartbeats 4000000
namespace K12
open PySem PySem.Spec PyProof.Rows L2 Lc
/-! ## columns -/
abbrev nmS (x : Str) : Prop := nameB (.str x) = true
abbrev vS (ss : List Str) : List V := ss.map V.str
abbrev CsL : Type := List (Str × Str)
abbrev nms (ps : CsL) : List Str := ps.map (·.1)
theorem Cols.b {t : Addr} {H H' : Hp} {xs : List V} {ps : List (Str × Str)} (h : Cols H xs ps) (T : Tape H t) (s : SameB t H H') : Cols H' xs ps := h.t (SameT.b T s)
def dl (t : Addr) (H : Hp) : Hp := fun b => if b = t then none else H b
theorem dl_at {t a : Addr} {H : Hp} {o : HO} (n : a ≠ t) (e : H a = some o) : dl t H a = some o := by
  unfold dl
  rw [if_neg n]
  exact e
theorem dl_of {t a : Addr} {H : Hp} {o : HO} (e : dl t H a = some o) : a ≠ t ∧ H a = some o := by
  unfold dl at e
  by_cases q : a = t
  · rw [if_pos q] at e; cases e
  · rw [if_neg q] at e; exact ⟨q, e⟩
theorem dl_same {t : Addr} {H H' : Hp} (s : SameB t H H') : Same (dl t H) (dl t H') := fun b o e => dl_at (dl_of e).1 (s b o (dl_of e).1 (dl_of e).2)
theorem dl_here {t : Addr} {H : Hp} : Same (dl t H) H := fun b o e => (dl_of e).2
abbrev DhT (t : Addr) (H : Hp) (v : V) (d : PyData) : Prop := Dh (dl t H) v d
theorem dts {t : Addr} {H H1 : Hp} {v : V} {d : PyData} (h : DhT t H v d) (s : Same H H1) : DhT t H1 v d := h.same (dl_same (Same.b t s))
theorem dtb {t : Addr} {H H1 : Hp} {v : V} {d : PyData} (h : DhT t H v d) (s : SameB t H H1) : DhT t H1 v d := h.same (dl_same s)
theorem dtsA {t : Addr} {H H1 : Hp} {vs : List V} {ds : List PyData} (h : DhAll (dl t H) vs ds) (s : Same H H1) : DhAll (dl t H1) vs ds := h.same (dl_same (Same.b t s))
theorem dtbA {t : Addr} {H H1 : Hp} {vs : List V} {ds : List PyData} (h : DhAll (dl t H) vs ds) (s : SameB t H H1) : DhAll (dl t H1) vs ds := h.same (dl_same s)
theorem DhF.t {t : Addr} {H H' : Hp} {v : V} {d : PyData} (T : Tape H t) (h : DhF H H' v d) : DhT t H' v d := h (dl t H') fun b o n e => dl_at (T.ne n) e
/-- a new tuple of data -/
theorem dh_tupT {t p : Addr} {H : Hp} {vs : List V} {ds : List PyData} (T : Tape H t) (h : DhAll (dl t H) vs ds) (hp : H p = none) : DhT t (upd H p (.tup vs)) (.ref p) (.tuple ds) := .tup (dl_at (T.ne hp) upd_same) (dtsA h (Same.upd hp))
def CA (H : Hp) (L : Addr) (ps : CsL) : Prop := ∃ xs, H L = some (.tup xs) ∧ Cols H xs ps
theorem CA.b {t : Addr} {H H' : Hp} {L : Addr} {ps : CsL} (h : CA H L ps) (T : Tape H t) (s : SameB t H H') : CA H' L ps := by
  obtain ⟨xs, e, c⟩ := h
  exact ⟨xs, SameT.b T s _ _ e, c.b T s⟩
theorem CA.same {H H' : Hp} {L : Addr} {ps : CsL} (h : CA H L ps) (s : Same H H') : CA H' L ps := by
  obtain ⟨xs, e, c⟩ := h
  exact ⟨xs, s _ _ e, c.same s⟩
theorem CA.t {H H' : Hp} {L : Addr} {ps : CsL} (h : CA H L ps) (s : SameT H H') : CA H' L ps := by
  obtain ⟨xs, e, c⟩ := h
  exact ⟨xs, s _ _ e, c.t s⟩
theorem cols_at {H : Hp} {xs : List V} {ps : CsL} (c : Cols H xs ps) {i : Nat} {x : V} (h : xs[i]? = some x) : ∃ a z k, x = .ref a ∧ H a = some (.tup [.str z, .str k]) ∧ ps[i]? = some (z, k) := c.get _ _ h
/-- what is new stays when the tape is drawn from and when a list is written -/
theorem dlT {t a : Addr} {H : Hp} {zs ys : List V} (e : H a = some (.lst zs)) : SameT (dl t H) (dl t (upd H a (.lst ys))) := fun b xs q => by
  obtain ⟨n, q⟩ := dl_of q
  exact dl_at n (by rw [upd_ne (ne_of q e nofun)]; exact q)
theorem DhT.upd {t a : Addr} {H : Hp} {zs ys : List V} {v : V} {d : PyData} (h : DhT t H v d) (n : noL d = true) (e : H a = some (.lst zs)) : DhT t (L2.upd H a (.lst ys)) v d := h.t (dlT e) n
theorem dhtA_upd {t a : Addr} {H : Hp} {zs ys vs : List V} {ds : List PyData} (h : DhAll (dl t H) vs ds) (n : ∀ d ∈ ds, noL d = true) (e : H a = some (.lst zs)) : DhAll (dl t (L2.upd H a (.lst ys))) vs ds := by
  induction ds generalizing vs with
  | nil => cases h; exact .nil
  | cons d ds ih =>
    cases h with
    | cons h r => exact .cons (DhT.upd h (n d List.mem_cons_self) e) (ih r fun x hx => n x (List.mem_cons_of_mem _ hx))
end K12
set_option Elab.async false
set_option linter.all false
set_option maxRecDepth 100000
set_option maxHeartbeats 4000000
namespace Lc
open PySem PySem.Spec PyProof.Rows L2
/-! ## sorted(xs), xs a list of things that are read as alike data -/
abbrev dLe : PyData → PyData → Bool := PySem.W.dataLe false (fun d : PyData => d)
def rSortD (K : PySem.W.Frag) : List V → Hp → VK → Prop := fun vs H Q => ∃ (a : Addr) (xs : List V) (ds : List PyData), vs = [.ref a] ∧ SqL K H a xs ∧ (∀ x ∈ xs, ∃ b, x = V.ref b) ∧ DhAll H xs ds ∧ PySem.W.AllAlike ds ∧ PySem.W.Sortable ds ∧ (∀ d ∈ ds, d.hasDict = false ∧ d.depth ≤ 50) ∧
  ∀ (ys : List V) (p : Addr), ys.Perm xs → DhAll H ys (ds.mergeSort dLe) → H p = none → Q (.ref p) (upd H p (.lst ys))
theorem back_perm {us out : List Value} {xs : List V} (e : xs = us.map backV) (h : out.Perm us) : (out.map backV).Perm xs := by
  rw [e]
  exact h.map backV
theorem each_dh {H : Hp} : ∀ {us : List Value} {ds : List PyData}, PySem.W.EachIs (fun (v : Value) d => Dh H (backV v) d) us ds → DhAll H (us.map backV) ds
  | _, _, .nil => .nil
  | _, _, .cons h r => .cons h (each_dh r)
theorem dh_each {H : Hp} : ∀ {us : List Value} {ds : List PyData}, DhAll H (us.map backV) ds → PySem.W.EachIs (fun (v : Value) d => Dh H (backV v) d) us ds
  | [], _, .nil => .nil
  | _ :: _, _, .cons h r => .cons h (dh_each r)
section
variable {X : Cx}
theorem dh_readsAll {pins : List (Addr × Obj)} {σ : L2.St} {H : Hp} {s : Shared} (I : Inv X pins σ H s) : ∀ {xs : List V} {us : List Value} {ds : List PyData}, Vals xs us → DhAll H xs ds → (∀ d ∈ ds, d.hasDict = false ∧ d.depth ≤ 50) → PySem.W.EachIs (fun v d => ∃ as, Reads s.heap v d as) us ds
  | _, _, _, .nil, .nil, _ => .nil
  | _, _, _, .cons r rs, .cons h hs, n => by
    obtain ⟨as, q⟩ := Dp.reads I _ _ _ (h.dp (n _ List.mem_cons_self).1) r
    exact .cons ⟨as, q⟩ (dh_readsAll I rs hs fun d hd => n d (List.mem_cons_of_mem _ hd))
theorem each_mono' {α β : Type} {R S : α → β → Prop} (f : ∀ a b, R a b → S a b) : ∀ {as : List α} {bs : List β}, PySem.W.EachIs R as bs → PySem.W.EachIs S as bs
  | _, _, .nil => .nil
  | _, _, .cons h r => .cons (f _ _ h) (each_mono' f r)
theorem call_sortedDt (hu : X.A.units + 64 < cLine) : CallR X (.builtin "sorted") (rSortD X.K) := by
  intro pins s σ H vs us Q I r h
  obtain ⟨a, xs, ds, rfl, hs, hx, hd, al, so, dp, q⟩ := h
  obtain ⟨its, rv, hl, hz⟩ := I.list hs
  obtain ⟨u, rfl, ru⟩ := vals1 r
  obtain rfl : u = Value.ref a := ru
  obtain ⟨e1, e2⟩ := refs_back rv hx
  have rd : PySem.W.EachIs (fun v d => ∃ as, Reads s.heap v d as) its ds := dh_readsAll I rv hd dp
  have lz : its.length ≤ sizeLine := by rw [← rv.length]; exact hz
  have keep : ∀ b o, s.heap.get? b = some o → (PySem.W.sortingHeap (PySem.W.copyHeap s.heap its) (s.heap.objs.size + 1) its).get? b = some o := fun b o e => PySem.W.sorting_copy_old e
  have rd2 : PySem.W.EachIs (fun v d => ∃ as, Reads (PySem.W.sortingHeap (PySem.W.copyHeap s.heap its) (s.heap.objs.size + 1) its) v d as) its ds := each_mono' (fun v d ⟨as, r⟩ => ⟨as, Reads.keeps keep r⟩) rd
  have S := PySem.W.SortsAt.data (prog := X.prog) (w := X.w) (A := X.A.in1.in1) (s := { s with heap := PySem.W.sortingHeap (PySem.W.copyHeap s.heap its) (s.heap.objs.size + 1) its }) rd2 al so fun d hm => by
    have := (dp d hm).2
    show X.A.units + 1 + 1 + d.depth < cLine
    omega
  have e3 : PySem.W.EachIs (fun (v : Value) d => Dh H (backV v) d) (PySem.W.sortVals (PySem.W.dataKind (PySem.W.sortingHeap (PySem.W.copyHeap s.heap its) (s.heap.objs.size + 1) its) ds) false its its) (ds.mergeSort dLe) :=
    PySem.W.sortVals_each (κ := PySem.W.dataKind (PySem.W.sortingHeap (PySem.W.copyHeap s.heap its) (s.heap.objs.size + 1) its) ds) (rev := false) (fun d : PyData => PySem.W.keyToks d) (dh_each (by rw [← e1]; exact hd)) (PySem.W.each_keys al rd2)
  have pm : (PySem.W.sortVals (PySem.W.dataKind (PySem.W.sortingHeap (PySem.W.copyHeap s.heap its) (s.heap.objs.size + 1) its) ds) false its its).Perm its := by
    unfold PySem.W.sortVals
    have z := (List.mergeSort_perm (its.zip its) (PySem.W.sortLe (PySem.W.dataKind (PySem.W.sortingHeap (PySem.W.copyHeap s.heap its) (s.heap.objs.size + 1) its) ds).toKeyOrd false fun p : Keyed => PySem.W.keyD (PySem.W.dataKind (PySem.W.sortingHeap (PySem.W.copyHeap s.heap its) (s.heap.objs.size + 1) its) ds) p.1)).map Prod.snd
    rw [List.map_snd_zip (Nat.le_refl _)] at z
    exact z
  refine PySem.W.sorted_vals hl.isList S lz ?_
  generalize PySem.W.sortVals (PySem.W.dataKind (PySem.W.sortingHeap (PySem.W.copyHeap s.heap its) (s.heap.objs.size + 1) its) ds) false its its = out at e3 pm ⊢
  have h3 : ∀ u ∈ out, ∃ a, u = Value.ref a := fun u hu => e2 u (pm.mem_iff.mp hu)
  obtain ⟨n, hn⟩ := sortedAll_at s.heap its out.toArray
  refine ⟨.ref _, upd H (s.heap.objs.size + 1) (.lst (out.map backV)), I.laid (t' := s.toks) (fun b o e => sortedAll_old e) (Nat.le_succ _) ⟨?_, out, n, vals_back h3, hn⟩, rfl, q _ _ (back_perm e1 pm) (each_dh e3) (I.hok.fresh (Nat.le_succ _))⟩
  rw [List.length_map, pm.length_eq]
  exact lz
end
end Lc
set_option Elab.async false
set_option linter.all false
set_option maxRecDepth 100000
set_option maxHeartbeats 4000000
namespace Lc
open PySem PySem.Spec PyProof.Rows L2
/-! ## sets whose members are keys that stand in the heap, at most 63 of them -/
section
variable {P : Program} {w : World} {J : Type} [DecidableEq J]
/-- what a set asks of such a kind of keys -/
structure Mem (κ : HeapKind P w J) : Prop where
  stay : ∀ {h h' : Heap} {j : J} {b : Addr}, κ.is h j b → (∀ c o vs n, h.get? c = some o → o.data = .seq vs n → h'.get? c = some o) → κ.is h' j b
  value : ∀ {A : Around} {E : Value → Shared → Prop} {s : Shared} {j : J} {b : Addr} {Q : Bool → Shared → Prop}, κ.is s.heap j b → (∀ v, Q v s) → wpAny (model P w) A (hashByValue 8 (.ref b)) Q E s
  class_ : ∀ {A : Around} {E : Value → Shared → Prop} {s : Shared} {j : J} {b : Addr} {Q : Bool → Shared → Prop}, κ.is s.heap j b → Q false s → wpAny (model P w) A (ofAClassStatement 8 (.ref b)) Q E s
variable {κ : HeapKind P w J}
theorem Mem.keep (m : Mem κ) {h h' : Heap} {j : J} {b : Addr} (x : κ.is h j b) (up : ∀ c o, h.get? c = some o → h'.get? c = some o) : κ.is h' j b := m.stay x fun c o _ _ e _ => up c o e
/-- a member is not the set -/
theorem Mem.but (m : Mem κ) {h h' : Heap} {j : J} {a b : Addr} {o : Obj} {es : Array (Int × Value)} {ep : Nat} {t : SetTable} (x : κ.is h j b) (e : h.get? a = some o) (d : o.data = .set es ep t) (sb : Heap.SameBut a h h') : κ.is h' j b :=
  m.stay x fun c u vs n eu du => (sb.2 c fun z => by
    rw [z, e] at eu
    rw [Option.some.inj eu] at d
    rw [d] at du
    cases du).trans eu
/-! ### a search shows nothing -/
theorem Mem.unseen (m : Mem κ) {A : Around} {E : Value → Shared → Prop} {s : Shared} {j : J} {b : Addr} {Q : Bool → Shared → Prop} (x : κ.is s.heap j b) {us : List Value} (all : ∀ u ∈ us, ∃ i c, u = .ref c ∧ κ.is s.heap i c) (q : Q false s) :
    wpAny (model P w) A (searchCouldBeSeen (.ref b) us) Q E s := by
  unfold searchCouldBeSeen
  refine wpAny_bind (wpAny_forIn_list _ (fun left r s' => r.1 = none ∧ s' = s ∧ ∀ u ∈ left, ∃ i c, u = .ref c ∧ κ.is s.heap i c) _ ?_ ?_ _ _ ⟨rfl, rfl, all⟩)
  · rintro u left r s' ⟨e, rfl, more⟩
    obtain ⟨i, c, rfl, y⟩ := more u List.mem_cons_self
    have back : ∀ v ∈ left, ∃ i c, v = Value.ref c ∧ κ.is s'.heap i c := fun v hv => more v (List.mem_cons_of_mem _ hv)
    dsimp only
    by_cases same : (b == c || (carriedByValue (.ref b) && carriedByValue (.ref c))) = true
    · exact wp_if_pos same (wpAny_pure ⟨rfl, rfl, back⟩)
    · refine wp_if_neg same (wpAny_bind (κ.quiet x ?_))
      rw [Bool.not_true]
      simp only [Bool.false_eq_true, ↓reduceIte]
      refine wpAny_bind (κ.quiet y ?_)
      rw [Bool.not_true]
      simp only [Bool.false_eq_true, ↓reduceIte]
      refine wpAny_bind (m.class_ x ?_)
      simp only [Bool.false_eq_true, ↓reduceIte]
      refine wpAny_bind (m.class_ y ?_)
      simp only [Bool.false_eq_true, ↓reduceIte]
      exact wpAny_pure ⟨rfl, rfl, back⟩
  · rintro ⟨r, z⟩ s' ⟨e, rfl, _⟩
    dsimp only at e
    subst e
    exact wpAny_pure q
/-! ### the set -/
def ents (κ : HeapKind P w J) (L : List (Addr × J)) : List (Int × Value) := L.map fun y => (κ.hash y.2, Value.ref y.1)
structure Ms (κ : HeapKind P w J) (h : Heap) (a : Addr) (L : List (Addr × J)) (es : Array (Int × Value)) (ep : Nat) (t : SetTable) : Prop where
  obj : ∃ o, h.get? a = some o ∧ o.ExactSet ∧ o.data = .set es ep t
  ent : es.toList = ents κ L
  tab : TabOk t (L.map fun y => κ.hash y.2)
  nd : (L.map (·.2)).Nodup
  mem : ∀ y ∈ L, κ.is h y.2 y.1
  led : w.params.followText "set-order" = true ∨ t.led = true
  room : L.length * 5 < t.mask * 3
  few : L.length < 64
variable {h : Heap} {a : Addr} {L : List (Addr × J)} {es : Array (Int × Value)} {ep : Nat} {t : SetTable}
theorem ents_len {κ : HeapKind P w J} {L : List (Addr × J)} {es : Array (Int × Value)} (e : es.toList = ents κ L) : es.size = L.length := by
  rw [← Array.length_toList, e]
  exact List.length_map _
theorem ents_get {κ : HeapKind P w J} {L : List (Addr × J)} {es : Array (Int × Value)} (e : es.toList = ents κ L) {i : Nat} {y : Addr × J} (hy : L[i]? = some y) : es[i]? = some (κ.hash y.2, .ref y.1) := by
  rw [← Array.getElem?_toList, e, ents, List.getElem?_map, hy]
  rfl
theorem tab_fits {hs : List Int} {n : Nat} (T : TabOk t hs) (hn : hs.length = n) (le : n ≤ t.mask) : t.fits n = true := by
  have := T.sz
  unfold SetTable.fits SetTable.fill
  simp only [T.dm, Bool.and_eq_true, beq_iff_eq, decide_eq_true_eq, Array.size_empty]
  omega
theorem Ms.fit (R : Ms κ h a L es ep t) : t.fits es.size = true := by
  have := R.room
  refine tab_fits R.tab ?_ ?_
  · rw [List.length_map, ents_len R.ent]
  · rw [ents_len R.ent]
    omega
theorem Ms.steady (R : Ms κ h a L es ep t) : ¬ t.gaveWay = true := by
  unfold SetTable.gaveWay
  rw [mask_odd R.tab.mok]
  decide
theorem nth_clean (n : Nat) : ∀ (k : Nat) (p : SetTable.Probe), p.dummy = none → (nth n p k).dummy = none
  | 0, _, e => e
  | k + 1, p, e => nth_clean n k (adv n p) (by unfold adv; split <;> exact e)
/-- the search of a key, from any step of its way on -/
theorem Ms.from_ (m : Mem κ) {A : Around} {E : Value → Shared → Prop} {s : Shared} (R : Ms κ s.heap a L es ep t) {x : Addr} {j : J} (hx : κ.is s.heap j x) (rm : κ.room A) {K : Nat} (lim : K < 10 * SetTable.turns t.mask)
    (free : way t.mask (κ.hash j) K ∉ t.place.toList) (full : ∀ c, c < K → way t.mask (κ.hash j) c ∈ t.place.toList) {Q : SetFound → Shared → Prop} (yes : j ∈ L.map (·.2) → Q (.there none) s) (no : j ∉ L.map (·.2) → Q (.free (way t.mask (κ.hash j) K) false) s) :
    ∀ (n c : Nat) (st : Option SetTable.Probe), st.getD (t.probeStart (κ.hash j)) = nth t.mask (t.probeStart (κ.hash j)) c → c ≤ K → K - c < n →
      (∀ (i : Nat) y, L[i]? = some y → y.2 = j → ∃ d, c ≤ d ∧ d < K ∧ t.place.toList[i]? = some (way t.mask (κ.hash j) d)) → wpAny (model P w) A (setSearchFrom a (.ref x) (κ.hash j) true n st) Q E s := by
  obtain ⟨o, eo, ex, ed⟩ := R.obj
  intro n
  induction n with
  | zero => intro c st _ _ z; exact absurd z (Nat.not_lt_zero _)
  | succ n ih =>
    intro c st est le lt ahead
    rw [setSearchFrom_succ]
    refine wpAny_bind (wpAny_setState_of eo ed R.fit ?_)
    dsimp only
    refine wp_if_neg R.steady ?_
    generalize hH : κ.hash j = H at *
    have stp : ∀ k, (nth t.mask (nth t.mask (t.probeStart H) c) k).j = way t.mask H (c + k) := fun k => by rw [← nth_add]; rfl
    have hat : ∀ {i : Nat} {y : Addr × J}, L[i]? = some y → (es[i]?.map (·.1)).getD 0 = κ.hash y.2 := fun e => by rw [ents_get R.ent e]; rfl
    have word := go_spec t R.tab.ris R.tab.dm (fun i => (es[i]?.map (·.1)).getD 0) H (10 * SetTable.turns t.mask) (K - c) (nth t.mask (t.probeStart H) c) (nth_clean _ _ _ rfl) (by omega) (fun k hk => by rw [stp]; exact full _ (by omega)) (by rw [stp, Nat.add_sub_of_le le]; exact free)
    rw [est]
    have opn : ∀ q, t.probe (fun i => (es[i]?.map (·.1)).getD 0) H q = SetTable.probe.go t (fun i => (es[i]?.map (·.1)).getD 0) H (10 * SetTable.turns t.mask) q := fun _ => rfl
    rw [opn]
    rcases word with ⟨k, i, hk, hi, hh, first, eg⟩ | ⟨none_, eg⟩
    · rw [eg]
      dsimp only
      rw [stp] at hi
      have li : i < L.length := by
        have h1 := (List.getElem?_eq_some_iff.mp hi).1
        have h2 := R.tab.sz
        rw [List.length_map] at h2
        rw [Array.length_toList] at h1
        omega
      obtain ⟨y, ey⟩ : ∃ y, L[i]? = some y := ⟨_, List.getElem?_eq_getElem li⟩
      have my := List.mem_of_getElem? ey
      have sl := slot_live R.tab.ris hi
      have next : wpAny (model P w) A (searchRest a (.ref x) H true n es t (nth t.mask (nth t.mask (t.probeStart H) c) k).j i (nth t.mask (nth t.mask (t.probeStart H) c) (k + 1))) Q E s := by
        unfold searchRest
        rw [ents_get R.ent ey]
        dsimp only
        refine wpAny_bind (wpAny_holding (κ.eqBool rm (R.mem y my) hx ?_))
        refine wpAny_bind (wpAny_setState_of eo ed R.fit ?_)
        dsimp only
        by_cases ej : y.2 = j
        · exact wp_if_pos (by simp [ej]) (wpAny_pure (yes (List.mem_map.mpr ⟨y, my, ej⟩)))
        · refine wp_if_neg (by simp [ej]) ?_
          rw [sameMem]
          dsimp only
          rw [stp]
          simp only [↓reduceIte, sl, ents_get R.ent ey]
          refine wpAny_bind (wpAny_isSame_ref_self (wpAny_bind (wpAny_pure ?_)))
          simp only [↓reduceIte]
          refine wp_if_neg (by simp [ej]) ?_
          refine ih (c + (k + 1)) _ (nth_add t.mask c _ (k + 1)).symm (by omega) (by omega) fun i0 y0 e0 j0 => ?_
          obtain ⟨d, d1, d2, d3⟩ := ahead i0 y0 e0 j0
          refine ⟨d, ?_, d2, d3⟩
          rcases Nat.lt_trichotomy d (c + k) with z | z | z
          · refine absurd ((hat e0).trans (by rw [j0]; exact hH)) (first (d - c) i0 (by omega) ?_)
            rw [stp, Nat.add_sub_of_le d1]
            exact d3
          · rw [z] at d3
            have s0 := slot_live R.tab.ris d3
            rw [sl] at s0
            injection s0 with s0
            rw [← s0, ey] at e0
            rw [Option.some.inj e0] at ej
            exact absurd j0 ej
          · exact z
      by_cases ld : t.led = true
      · exact wp_if_neg (by simp [ld]) next
      · refine wp_if_pos (by simp [ld]) (wpAny_bind (m.unseen hx (fun u hu => ?_) (wp_if_neg (by decide) next)))
        obtain ⟨e, he, rfl⟩ := List.mem_map.mp hu
        have he : e ∈ es.toList := by
          have : e ∈ es ∧ e.1 = H := by simpa using he
          simpa using this.1
        rw [R.ent] at he
        obtain ⟨y2, h2, rfl⟩ := List.mem_map.mp he
        exact ⟨y2.2, y2.1, rfl, R.mem y2 h2⟩
    · rw [eg]
      dsimp only
      rw [stp, Nat.add_sub_of_le le]
      refine wpAny_pure (no fun z => ?_)
      obtain ⟨y, my, ej⟩ := List.mem_map.mp z
      obtain ⟨i, hi, ey⟩ := List.getElem_of_mem my
      have ey : L[i]? = some y := by rw [List.getElem?_eq_getElem hi, ey]
      obtain ⟨d, d1, d2, d3⟩ := ahead i y ey ej
      refine none_ (d - c) i (by omega) ?_ ((hat ey).trans (by rw [ej]; exact hH))
      rw [stp, Nat.add_sub_of_le d1]
      exact d3
/-- the search, as adding asks for it -/
theorem Ms.look (m : Mem κ) {A : Around} {E : Value → Shared → Prop} {s : Shared} (R : Ms κ s.heap a L es ep t) {x : Addr} {j : J} (hx : κ.is s.heap j x) (rm : κ.room A) {Q : SetFound → Shared → Prop} (yes : j ∈ L.map (·.2) → Q (.there none) s)
    (no : ∀ K, j ∉ L.map (·.2) → way t.mask (κ.hash j) K ∉ t.place.toList → (∀ c, c < K → way t.mask (κ.hash j) c ∈ t.place.toList) → Q (.free (way t.mask (κ.hash j) K) false) s) : wpAny (model P w) A (setSearch a (.ref x) (κ.hash j) true) Q E s := by
  have rom := R.room
  obtain ⟨K, lim, free, full⟩ := R.tab.first (by rw [List.length_map]; omega) (κ.hash j)
  have small : 10 * SetTable.turns t.mask ≤ 1420 := by
    unfold SetTable.turns
    rcases R.tab.mok with e | e | e <;> rw [e] <;> decide
  unfold setSearch
  refine R.from_ m hx rm lim free full yes (fun n => no K n free full) 100000 0 none rfl (Nat.zero_le _) (by omega) fun i y ey ej => ?_
  have lp : i < t.place.toList.length := by
    have h1 := (List.getElem?_eq_some_iff.mp ey).1
    have h2 := R.tab.sz
    rw [List.length_map] at h2
    rw [Array.length_toList]
    omega
  obtain ⟨c, h1, h2⟩ := R.tab.before (h := κ.hash j) (i := i) free (by rw [List.getElem?_map, ey, ← ej]; rfl) (List.getElem?_eq_getElem lp)
  exact ⟨c, Nat.zero_le _, h1, by rw [h2]; exact List.getElem?_eq_getElem lp⟩
/-! ### laid anew -/
theorem fm_congr {α β : Type} {f g : α → Option β} : ∀ {l : List α}, (∀ i ∈ l, f i = g i) → l.filterMap f = l.filterMap g
  | [], _ => rfl
  | x :: l, e => by
    rw [List.filterMap_cons, List.filterMap_cons, e x List.mem_cons_self, fm_congr fun i hi => e i (List.mem_cons_of_mem _ hi)]
theorem range_all {α : Type} (l : List α) : (List.range l.length).filterMap (fun i => l[i]?) = l := by
  have e : (List.range l.length).map (fun i => l[i]?) = l.map some := by
    refine List.ext_getElem? fun i => ?_
    rw [List.getElem?_map, List.getElem?_map]
    by_cases z : i < l.length
    · rw [List.getElem?_range z, List.getElem?_eq_getElem z]
      simp [List.getElem?_eq_getElem z]
    · rw [List.getElem?_eq_none (by rw [List.length_range]; omega), List.getElem?_eq_none (by omega)]
      rfl
  have f : (List.range l.length).filterMap (fun i => l[i]?) = ((List.range l.length).map fun i => l[i]?).filterMap id := by
    rw [List.filterMap_map]
    rfl
  rw [f, e]
  simp
theorem ents_order {L : List (Addr × J)} {es : Array (Int × Value)} {order : Array Nat} (e : es.toList = ents κ L) (pm : order.toList.Perm (List.range L.length)) :
    ∃ L2 : List (Addr × J), L2.Perm L ∧ (order.filterMap (es[·]?)).toList = ents κ L2 ∧ (L2.map fun y => κ.hash y.2) = order.toList.map fun i => (es.map (·.1)).getD i 0 := by
  refine ⟨order.toList.filterMap fun i => L[i]?, ?_, ?_, ?_⟩
  · have := pm.filterMap fun i => L[i]?
    rw [range_all] at this
    exact this
  · rw [Array.toList_filterMap, ents, List.map_filterMap]
    refine fm_congr fun i _ => ?_
    rw [← Array.getElem?_toList, e, ents, List.getElem?_map]
  · rw [List.map_filterMap, ← List.filterMap_eq_map']
    refine fm_congr fun i hi => ?_
    have li := List.mem_range.mp (pm.mem_iff.mp hi)
    obtain ⟨y, ey⟩ : ∃ y, L[i]? = some y := ⟨_, List.getElem?_eq_getElem li⟩
    have q : (es.map (·.1))[i]? = some (κ.hash y.2) := by rw [Array.getElem?_map, ents_get e ey]; rfl
    rw [ey, Array.getD_eq_getD_getElem?, q]
    rfl
theorem sb_store {h : Heap} {a : Addr} {es : Array (Int × Value)} {t : SetTable} : Heap.SameBut a h (h.update a (Obj.putSet es t)) := Heap.SameBut.update ..
theorem Ms.relay (m : Mem κ) {A : Around} {E : Value → Shared → Prop} {s : Shared} {o : Obj} (eo : s.heap.get? a = some o) (ex : o.ExactSet) (ed : o.data = .set es ep t) (en : es.toList = ents κ L) (sz : t.place.size = es.size) (dm : t.dummies = #[]) (le : es.size ≤ t.mask) (nd : (L.map (·.2)).Nodup)
    (mem : ∀ y ∈ L, κ.is s.heap y.2 y.1) (led : w.params.followText "set-order" = true ∨ t.led = true) (few : L.length < 64) {n M : Nat} (hw : SetTable.sizeAbove n - 1 = M) (hM : MaskOk M) (big : SetTable.sizeAbove n ≤ 128) (room : L.length * 5 < M * 3) {Q : Unit → Shared → Prop}
    (q : ∀ h' L' es' ep' t', Heap.SameBut a s.heap h' → Ms κ h' a L' es' ep' t' → L'.Perm L → Q () { s with heap := h' }) : wpAny (model P w) A (setRelay a n) Q E s := by
  have el := ents_len en
  have ft : t.fits es.size = true := by
    unfold SetTable.fits SetTable.fill
    simp only [dm, Bool.and_eq_true, beq_iff_eq, decide_eq_true_eq, Array.size_empty]
    omega
  obtain ⟨t', order, e1, pm, T, e2, e3, e4, e5⟩ := relaid_ok t (hs := es.map (·.1)) (wanted := n) hw hM (by rw [Array.size_map, el]; omega)
  rw [Array.size_map, el] at pm
  obtain ⟨L2, p2, en2, hh⟩ := ents_order en pm
  rw [← hh] at T
  have sz2 : (order.filterMap (es[·]?)).size = es.size := by rw [ents_len en2, p2.length_eq, el]
  rw [setRelay_eq]
  refine wpAny_bind (wpAny_setState_of eo ed ft ?_)
  dsimp only
  refine wp_if_neg (by rw [sizeLine_eq]; omega) ?_
  rw [e1]
  dsimp only
  refine wpAny_bind (wp_if_neg (by simp [sz2]) (wpAny_pure ?_))
  dsimp only
  refine wpAny_storeSet_of eo ed ?_ (by rw [sz2, el, sizeLine_eq]; omega)
  refine q _ L2 _ (ep + 1) t' sb_store ⟨⟨_, store_at eo ed, ⟨ex.1, ex.2.1, ex.2.2⟩, rfl⟩, en2, T, (p2.map (·.2)).nodup_iff.mpr nd, fun y hy => m.but (mem y (p2.mem_iff.mp hy)) eo ed sb_store, by rw [e3]; exact led, by rw [p2.length_eq, e2]; exact room, by rw [p2.length_eq]; exact few⟩ p2
theorem ents_put (L : List (Addr × J)) (p : Nat) (y : Addr × J) : ents κ (L.take p ++ y :: L.drop p) = (ents κ L).take p ++ (κ.hash y.2, .ref y.1) :: (ents κ L).drop p := by
  unfold ents
  rw [List.map_append, List.map_cons, List.map_take, List.map_drop]
/-- a key is added -/
theorem Ms.add (m : Mem κ) {A : Around} {E : Value → Shared → Prop} {s : Shared} (R : Ms κ s.heap a L es ep t) {x : Addr} {j : J} (hx : κ.is s.heap j x) (rm : κ.room A) (few : L.length + 1 < 64) {Q : Bool → Shared → Prop}
    (q : ∀ b h' L' es' ep' t', Heap.SameBut a s.heap h' → Ms κ h' a L' es' ep' t' → (j ∈ L.map (·.2) → L' = L) → (j ∉ L.map (·.2) → L'.Perm ((x, j) :: L)) → Q b { s with heap := h' }) :
    wpAny (model P w) A (setAddHashed a (.ref x) (κ.hash j)) Q E s := by
  obtain ⟨o, eo, ex, ed⟩ := R.obj
  have el := ents_len R.ent
  have rom := R.room
  unfold setAddHashed
  refine wpAny_holding ?_
  show wpAny _ _ (setAddHashedIn a (.ref x) (κ.hash j) (99999 + 1)) _ _ _
  rw [setAddHashedIn_succ]
  refine wpAny_bind (wpAny_setState_of eo ed R.fit ?_)
  dsimp only
  refine wp_if_neg (by simp [byScan, Value.scannable]) ?_
  refine wpAny_bind (R.look m hx rm (fun z => ?_) fun K z free full => ?_)
  · exact wpAny_pure (q false s.heap L es ep t (Heap.SameBut.refl a s.heap) R (fun _ => rfl) fun n => absurd z n)
  dsimp only
  refine wpAny_bind (wpAny_setState_of eo ed R.fit ?_)
  dsimp only
  obtain ⟨f1, f2, f3, f4, f5, f6, f7, f8, f9⟩ := R.tab.put free full
  generalize t.put (way t.mask (κ.hash j) K) = pt at f1 f3 f4 f5 f6 f7 f8 f9 ⊢
  obtain ⟨t1, p⟩ := pt
  dsimp only at f1 f3 f4 f5 f6 f7 f8 f9 ⊢
  subst f1
  have off : ∀ {t1 : SetTable} {hs : List Int}, TabOk t1 hs → TabOk { t1 with plain := false } hs := fun T => ⟨T.ris, T.dm, T.sz, T.mok, T.bd, T.reach⟩
  -- whether its hash is known by its value
  suffices go : ∀ t1 : SetTable, TabOk t1 ((L.map fun y => κ.hash y.2).take (SetTable.below t.place (way t.mask (κ.hash j) K)) ++ κ.hash j :: (L.map fun y => κ.hash y.2).drop (SetTable.below t.place (way t.mask (κ.hash j) K))) → t1.mask = t.mask → t1.led = t.led → t1.fill = (L.map fun y => κ.hash y.2).length + 1 →
      wpAny (model P w) A (do
        storeSet a (SetTable.insertAt es (SetTable.below t.place (way t.mask (κ.hash j) K)) (κ.hash j, .ref x)) t1
        if (!false && t1.tooFull) = true then do
          setRelay a (SetTable.grown (es.size + 1))
          pure true
        else pure true) Q E s by
    by_cases pt : t1.plain = true
    · refine wp_if_pos pt (wpAny_bind (m.value hx fun v => ?_))
      cases v with
      | true => exact go t1 f3 f4 f5 f9
      | false => exact go { t1 with plain := false } (off f3) f4 f5 f9
    · exact wp_if_neg pt (wpAny_bind (wpAny_pure (go t1 f3 f4 f5 f9)))
  clear f3 f4 f5 f6 f7 f8 f9 off t1
  intro t1 f3 f4 f5 f9
  generalize SetTable.below t.place (way t.mask (κ.hash j) K) = p at f2 f3 ⊢
  have en1 : (SetTable.insertAt es p (κ.hash j, .ref x)).toList = ents κ (L.take p ++ (x, j) :: L.drop p) := by rw [SetTable.toList_insertAt, ents_put, R.ent]
  have pm := put_perm L p (x, j)
  have T1 : TabOk t1 ((L.take p ++ (x, j) :: L.drop p).map fun y => κ.hash y.2) := by
    rw [List.map_append, List.map_cons, List.map_take, List.map_drop]
    exact f3
  generalize SetTable.insertAt es p (κ.hash j, .ref x) = es1 at en1 ⊢
  generalize L.take p ++ (x, j) :: L.drop p = L1 at en1 pm T1
  have l1 : L1.length = L.length + 1 := pm.length_eq
  have el1 := ents_len en1
  have nd1 : (L1.map (·.2)).Nodup := (pm.map (·.2)).nodup_iff.mpr (List.nodup_cons.mpr ⟨z, R.nd⟩)
  refine wpAny_bind (wpAny_storeSet_of eo ed ?_ (by rw [el1, sizeLine_eq]; omega))
  have sb : Heap.SameBut a s.heap (s.heap.update a (Obj.putSet es1 t1)) := sb_store
  have eo1 := store_at (es' := es1) (t' := t1) eo ed
  generalize s.heap.update a (Obj.putSet es1 t1) = h1 at sb eo1 ⊢
  have mem1 : ∀ y ∈ L1, κ.is h1 y.2 y.1 := fun y hy => by
    rcases List.mem_cons.mp (pm.mem_iff.mp hy) with rfl | hy
    · exact m.but hx eo ed sb
    · exact m.but (R.mem y hy) eo ed sb
  have led1 : w.params.followText "set-order" = true ∨ t1.led = true := by rw [f5]; exact R.led
  have ex1 : ({ o with data := .set es1 (ep + 1) t1 } : Obj).ExactSet := ⟨ex.1, ex.2.1, ex.2.2⟩
  by_cases full : t1.tooFull = true
  · refine wp_if_pos (by simp [full]) (wpAny_bind ?_)
    have hf : (L.length + 1) * 5 ≥ t1.mask * 3 := by
      unfold SetTable.tooFull at full
      rw [decide_eq_true_eq, f9, List.length_map] at full
      exact full
    have sz1 : t1.place.size = es1.size := by rw [T1.sz, List.length_map, el1]
    rw [f4] at hf
    rw [el]
    have run : ∀ M, SetTable.sizeAbove (SetTable.grown (L.length + 1)) - 1 = M → MaskOk M → SetTable.sizeAbove (SetTable.grown (L.length + 1)) ≤ 128 → (L.length + 1) * 5 < M * 3 →
        wpAny (model P w) A (setRelay a (SetTable.grown (L.length + 1))) (fun _ s' => wpAny (model P w) A (pure true) Q E s') E { s with heap := h1 } := fun M m1 m2 m3 m4 =>
      Ms.relay m (s := { s with heap := h1 }) eo1 ex1 rfl en1 sz1 T1.dm (by rw [el1, f4, l1]; omega) nd1 mem1 led1 (by rw [l1]; exact few) m1 m2 m3 (by rw [l1]; exact m4) fun h2 L2 es2 ep2 t2 sb2 R2 p2 =>
        wpAny_pure (q true h2 L2 es2 ep2 t2 (sb.trans sb2) R2 (fun y => absurd y z) fun _ => p2.trans pm)
    rcases R.tab.mok with e | e | e
    · have : L.length = 4 := by rw [e] at hf rom; omega
      exact run 31 (by rw [this, size_20]) (.inr (.inl rfl)) (by rw [this, size_20]; decide) (by omega)
    · have : L.length = 18 := by rw [e] at hf rom; omega
      exact run 127 (by rw [this, size_76]) (.inr (.inr rfl)) (by rw [this, size_76]; decide) (by omega)
    · rw [e] at hf
      omega
  · refine wp_if_neg (by simp [full]) ?_
    refine wpAny_pure (q true h1 L1 es1 (ep + 1) t1 sb ⟨⟨_, eo1, ex1, rfl⟩, en1, T1, nd1, mem1, led1, ?_, by rw [l1]; exact few⟩ (fun y => absurd y z) fun _ => pm)
    unfold SetTable.tooFull at full
    rw [decide_eq_true_eq, f9, List.length_map] at full
    rw [l1]
    omega
/-- a new set -/
theorem Ms.new {κ : HeapKind P w J} {h : Heap} {a : Addr} (e : h.get? a = some { cls := .type "set", dict := none, data := .set #[] 0 (.fresh 0 0 (!w.params.followText "set-order")) }) : Ms κ h a [] #[] 0 (.fresh 0 0 (!w.params.followText "set-order")) := by
  refine ⟨⟨_, e, ⟨rfl, rfl, rfl⟩, rfl⟩, rfl, ⟨List.Pairwise.nil, rfl, rfl, .inl rfl, nofun, fun i h j hi => by simp at hi⟩, List.nodup_nil, nofun, ?_, by show 0 * 5 < 7 * 3; decide, by show 0 < 64; decide⟩
  show _ ∨ (!w.params.followText "set-order") = true
  cases w.params.followText "set-order" <;> simp
end
end Lc
set_option Elab.async false
set_option linter.all false
set_option maxRecDepth 100000
set_option maxHeartbeats 4000000
namespace Lc
open PySem PySem.Spec PyProof.Rows L2
/-! ## {x for a in as for x in a}: a set of tuples of texts and whole numbers -/
section
variable {P : Program} {w : World} {A : Around} {E : Value → Shared → Prop} {s : Shared}
theorem plain_class (n : Nat) {k : Key} {v : Value} (x : keyIs k v = true) : ofAClassStatement n v = pure false ∧ hashByValue n v = pure (plainKind v) := by
  rcases keyIs_shape x with ⟨i, t, rfl, rfl⟩ | ⟨y, t, rfl, rfl⟩ <;> exact ⟨by cases n <;> rfl, hashByValue_scannable n rfl⟩
theorem plain_items {ks : List Key} {us : List Value} (x : ItemsAre (mixKind P w) ks us) : ∀ u ∈ us, ∃ k, keyIs k u = true := by
  induction x with
  | nil => exact nofun
  | @cons k v ks us h _ ih =>
    intro u hu
    rcases List.mem_cons.mp hu with rfl | hu
    · exact ⟨k, h⟩
    · exact ih u hu
theorem mem_mix : Mem (tupleKind (mixKind P w)) where
  stay := fun x up => tupleKind_stays.stays up x
  value := fun {A E s j b Q} x q => by
    have ty := IsTupleKey.typeIs x
    obtain ⟨o, us, n, eo, _, ed, ei⟩ := x
    unfold hashByValue
    refine wpAny_bind (wpAny_specialOf ty F.slot_tuple_hash.lookup ?_)
    show wpAny _ _ (seqItems? (.ref b) >>= _) Q E s
    refine wpAny_bind (wpAny_seqItems eo ed (wpAny_bind ?_))
    show wpAny _ _ (forIn us _ _) _ E s
    rw [← Array.forIn_toList]
    refine wpAny_forIn_list _ (fun left r s' => r.1 = none ∧ s' = s ∧ ∀ u ∈ left, ∃ k, keyIs k u = true) _ ?_ ?_ _ _ ⟨rfl, rfl, plain_items ei⟩
    · rintro u left r s' ⟨e, rfl, more⟩
      obtain ⟨k, hk⟩ := more u List.mem_cons_self
      rw [(plain_class _ hk).2]
      refine wpAny_bind (wpAny_pure ?_)
      cases plainKind u with
      | true => exact wp_if_neg (by decide) (wpAny_pure ⟨rfl, rfl, fun v hv => more v (List.mem_cons_of_mem _ hv)⟩)
      | false => exact wp_if_pos rfl (wpAny_pure (wpAny_pure (q false)))
    · rintro ⟨r, z⟩ s' ⟨e, rfl, _⟩
      dsimp only at e
      subst e
      exact wpAny_pure (q true)
  class_ := fun {A E s j b Q} x q => by
    have ty := IsTupleKey.typeIs x
    obtain ⟨o, us, n, eo, _, ed, ei⟩ := x
    unfold ofAClassStatement
    refine wpAny_bind (wpAny_typeOf ty ?_)
    dsimp only
    rw [show (("tuple" : String) == "tuple") = true by decide]
    simp only [Bool.not_true, Bool.false_eq_true, ↓reduceIte]
    show wpAny _ _ (seqItems? (.ref b) >>= _) Q E s
    refine wpAny_bind (wpAny_seqItems eo ed ?_)
    dsimp only
    refine wpAny_bind ?_
    show wpAny _ _ (forIn us _ _) _ E s
    rw [← Array.forIn_toList]
    refine wpAny_forIn_list _ (fun left r s' => r.1 = none ∧ s' = s ∧ ∀ u ∈ left, ∃ k, keyIs k u = true) _ ?_ ?_ _ _ ⟨rfl, rfl, plain_items ei⟩
    · rintro u left r s' ⟨e, rfl, more⟩
      obtain ⟨k, hk⟩ := more u List.mem_cons_self
      rw [(plain_class _ hk).1]
      refine wpAny_bind (wpAny_pure ?_)
      simp only [Bool.false_eq_true, ↓reduceIte]
      exact wpAny_pure ⟨rfl, rfl, fun v hv => more v (List.mem_cons_of_mem _ hv)⟩
    · rintro ⟨r, z⟩ s' ⟨e, rfl, _⟩
      dsimp only at e
      subst e
      exact wpAny_pure q
end
/-! ### the set as a thing of ours -/
abbrev Kt (P : Program) (w : World) : HeapKind P w (List Key) := tupleKind (mixKind P w)
structure MsW (P : Program) (w : World) (h : Heap) (a : Addr) (L : List (Addr × List Key)) (es : Array (Int × Value)) (ep : Nat) (t : SetTable) : Prop where
  obj : ∃ o, h.get? a = some o ∧ o.ExactSet ∧ o.data = .set es ep t
  ent : es.toList = ents (Kt P w) L
  tab : TabOk t (L.map fun y => (Kt P w).hash y.2)
  nd : (L.map (·.2)).Nodup
  led : w.params.followText "set-order" = true ∨ t.led = true
  room : L.length * 5 < t.mask * 3
  few : L.length < 64
def MsO (P : Program) (w : World) (a : Addr) (L : List (Addr × List Key)) : HO := .ext fun h => ∃ es ep t, MsW P w h a L es ep t
section
variable {P : Program} {w : World} {h h' : Heap} {a : Addr} {L : List (Addr × List Key)}
theorem MsW.full {es : Array (Int × Value)} {ep : Nat} {t : SetTable} (R : MsW P w h a L es ep t) (m : ∀ y ∈ L, (Kt P w).is h y.2 y.1) : Ms (Kt P w) h a L es ep t := ⟨R.obj, R.ent, R.tab, R.nd, m, R.led, R.room, R.few⟩
theorem Ms.light {es : Array (Int × Value)} {ep : Nat} {t : SetTable} (R : Ms (Kt P w) h a L es ep t) : MsW P w h a L es ep t := ⟨R.obj, R.ent, R.tab, R.nd, R.led, R.room, R.few⟩
theorem msO_new {H : Hp} (R : ∃ es ep t, MsW P w h a L es ep t) : ObjOk P w H h a (MsO P w a L) := by
  obtain ⟨es, ep, t, R⟩ := id R
  obtain ⟨o, eo, _⟩ := id R.obj
  refine ⟨⟨es, ep, t, R⟩, ⟨o, eo⟩, fun h1 h2 p up => ?_⟩
  obtain ⟨es, ep, t, R⟩ := p
  obtain ⟨o, eo, r⟩ := R.obj
  exact ⟨es, ep, t, ⟨o, up o eo, r⟩, R.ent, R.tab, R.nd, R.led, R.room, R.few⟩
end
section
variable {X : Cx}
theorem msO_get {pins : List (Addr × Obj)} {σ : L2.St} {H : Hp} {s : Shared} {a : Addr} {L : List (Addr × List Key)} (I : Inv X pins σ H s) (e : H a = some (MsO X.prog X.w a L)) : ∃ es ep t, MsW X.prog X.w s.heap a L es ep t := (I.hok a _ e).1
/-- a tuple of ours is such a key -/
theorem items_mix {P : Program} {w : World} : ∀ {j : List Key} {us : List Value}, Vals (j.map kV) us → ItemsAre (mixKind P w) j us
  | [], _, r => by cases r; exact .nil
  | k :: j, _, r => by
    cases r with
    | cons h t =>
      refine .cons ?_ (items_mix t)
      cases k with
      | inl i => obtain ⟨u, rfl⟩ := h; exact keyIs_int i u
      | inr x => obtain ⟨u, rfl⟩ := h; exact keyIs_str x u
theorem Inv.mixT {pins : List (Addr × Obj)} {σ : L2.St} {H : Hp} {s : Shared} {b : Addr} {j : List Key} (I : Inv X pins σ H s) (e : SqT X.K H b (j.map kV)) : (Kt X.prog X.w).is s.heap j b := by
  obtain ⟨us, r, ⟨o, eo, ec, n, ed⟩, _⟩ := I.tuple e
  exact ⟨o, us.toArray, n, eo, ec, ed, by simpa using items_mix r⟩
end
/-! ### set.add -/
section
variable {P : Program} {w : World} {A : Around} {E : Value → Shared → Prop} {s : Shared}
theorem call_setadd {a x : Addr} {j : List Key} {L : List (Addr × List Key)} {es : Array (Int × Value)} {ep : Nat} {t : SetTable} {Q : Value → Shared → Prop} (R : Ms (Kt P w) s.heap a L es ep t) (hx : (Kt P w).is s.heap j x) (rm : A.units + 64 < cLine) (few : L.length + 1 < 64)
    (q : ∀ h' tk L', Heap.SameBut a s.heap h' → (∃ es ep t, MsW P w h' a L' es ep t) → (j ∈ L.map (·.2) → L' = L) → (j ∉ L.map (·.2) → L'.Perm ((x, j) :: L)) → Q .none { s with heap := h', toks := tk }) :
    wpAny (model P w) A (call (.builtin "set.add") [.ref a, .ref x]) Q E s := by
  have ty : s.TypeIs (.ref a) "set" := by
    obtain ⟨o, eo, ex, _⟩ := R.obj
    exact ⟨o, eo, ex.1⟩
  refine wpAny_call_entry F.slot_set_add ty F.entry_set_add ?_ (F.args_set_add_2 _ _)
  unfold Builtin.«set.add» Builtin.Frozenset.oneOther
  simp only [List.isEmpty_nil, bind_assoc]
  unfold Builtin.Frozenset.addrOf setAdd
  refine wpAny_bind (wpAny_pure ?_)
  try dsimp only
  refine wpAny_bind (wpAny_pure ?_)
  try dsimp only
  refine wpAny_bind (wpAny_holding (wpAny_bind ((Kt P w).pyHash (show _ < cLine by first | omega | (show A.in1.units < cLine; have := A.in1_units; omega)) hx ?_)))
  refine Ms.add (s := { s with toks := s.toks + (Kt P w).draws j }) mem_mix R hx (show _ < cLine by first | omega | (show A.in1.units < cLine; have := A.in1_units; omega)) few fun b h' L' es' ep' t' sb R' c1 c2 => ?_
  show wpAny _ _ (ret Value.none) _ _ _
  exact wpAny_pure ⟨_, rfl, q h' _ L' sb ⟨es', ep', t', R'.light⟩ c1 c2⟩
end
/-- the key at y is put into the set at D -/
def PutM (K : PySem.W.Frag) (P : Program) (w : World) (D : Addr) (y : V) (H : Hp) (N : Hp → Prop) : Prop :=
  ∃ (b : Addr) (j : List Key) (L : List (Addr × List Key)), y = .ref b ∧ SqT K H b (j.map kV) ∧ H D = some (MsO P w D L) ∧ (∀ z ∈ L, SqT K H z.1 (z.2.map kV)) ∧ L.length + 1 < 64 ∧
    ∀ L', (j ∈ L.map (·.2) → L' = L) → (j ∉ L.map (·.2) → L'.Perm ((b, j) :: L)) → N (upd H D (MsO P w D L'))
section
variable {X : Cx}
theorem putM_ok {pins : List (Addr × Obj)} {σ : L2.St} {H : Hp} {s : Shared} {E : Value → Shared → Prop} {D : Addr} {y : V} {v : Value} {Q : Value → Shared → Prop} {N : Hp → Prop} (I : Inv X pins σ H s) (hu : X.A.units + 64 < cLine) (r : RelV y v) (p : PutM X.K X.prog X.w D y H N)
    (h : ∀ s' H', Inv X pins σ H' s' → N H' → Q .none s') : wpAny (model X.prog X.w) X.A (call (.builtin "set.add") [.ref D, v]) Q E s := by
  obtain ⟨b, j, L, rfl, e1, e2, e3, few, n⟩ := p
  cases r
  obtain ⟨es, ep, t, R⟩ := msO_get I e2
  refine call_setadd (R.full fun z hz => Inv.mixT I (e3 z hz)) (Inv.mixT I e1) hu few fun h' tk L' sb R' c1 c2 => ?_
  have he : ∃ u, h'.get? D = some u := by
    obtain ⟨_, _, _, R'⟩ := R'
    obtain ⟨o, eo, _⟩ := R'.obj
    exact ⟨o, eo⟩
  exact h _ _ (I.write (e := D) (t' := tk) (by rw [e2]; trivial) (.inl rfl) (fun c u hc hu => (sb.2 c hc).trans hu) he (msO_new R')) (n L' c1 c2)
end
/-! ### the two clauses -/
theorem turn_first (x t0 i0 t1 i1 : Expr) (c0 c1 : List Expr) (sc : Scope) (pos : Pos) (it acc : Value) (env : Env) :
    compTurn (.SetComp x [⟨t0, i0, c0, 0⟩, ⟨t1, i1, c1, 0⟩] sc pos) 0 it acc env = (do
      standAt i0.pos
      match ← pyNext it with
      | none => pure (.done .next)
      | some v =>
        letOwnedTupleGo t0 it v
        assign t0 env v
        let mut go := true
        for c in c0 do
          if go then go ← isTrue c env (eval c env)
        if go then
          let y ← eval i1 env
          standAt i1.pos
          let y ← foldedSetIterable i1 env y
          let _ ← runOwn (.compStart (.SetComp x [⟨t0, i0, c0, 0⟩, ⟨t1, i1, c1, 0⟩] sc pos) 1 (← holding [y] (pyIter y)) acc env) env
        again (.compLoop (.SetComp x [⟨t0, i0, c0, 0⟩, ⟨t1, i1, c1, 0⟩] sc pos) 0 it acc env)) := by rfl
theorem turn_second (x t0 i0 t1 i1 : Expr) (c0 c1 : List Expr) (sc : Scope) (pos : Pos) (it acc : Value) (env : Env) :
    compTurn (.SetComp x [⟨t0, i0, c0, 0⟩, ⟨t1, i1, c1, 0⟩] sc pos) 1 it acc env = (do
      standAt i1.pos
      match ← pyNext it with
      | none => pure (.done .next)
      | some v =>
        letOwnedTupleGo t1 it v
        assign t1 env v
        let mut go := true
        for c in c1 do
          if go then go ← isTrue c env (eval c env)
        if go then
          (do let v ← eval x env; standAt x.pos; let _ ← call (.builtin "set.add") [acc, v])
        again (.compLoop (.SetComp x [⟨t0, i0, c0, 0⟩, ⟨t1, i1, c1, 0⟩] sc pos) 1 it acc env)) := by rfl
section
variable {prog : Program} {w : World} {A : Around} {R : Result → Shared → Prop} {s : Shared} {x t0 i0 t1 i1 : Expr} {c0 c1 : List Expr} {sc : Scope} {pos : Pos} {it acc : Value} {env : Env}
abbrev Oops (prog : Program) (w : World) (A : Around) (env : Env) (R : Result → Shared → Prop) : Value → Shared → Prop := notedBy (model prog w) A env fun e s' => R (.error e) s'
theorem loop_first (hs : ∀ y, foldedSetIterable i1 env y = pure y) (I : Nat → Shared → Prop)
    (turn : ∀ n s, I n s → wpAny (model prog w) A (pyNext it) (fun r s1 => match r with
      | none => R (.ok .next) s1
      | some v => wpAny (model prog w) A (letOwnedTupleGo t0 it v) (fun _ s2 => wpAny (model prog w) A (assign t0 env v) (fun _ s3 =>
          wpAny (model prog w) A (forIn c0 true fun c r => if r = true then do let ok ← isTrue c env (eval c env); pure (ForInStep.yield ok) else pure (ForInStep.yield r)) (fun ok s4 =>
            if ok = true then wpAny (model prog w) A (eval i1 env) (fun y s5 => wpAny (model prog w) A (pyIter y) (fun it1 s6 =>
              codeAny (model prog w) A (.compStart (.SetComp x [⟨t0, i0, c0, 0⟩, ⟨t1, i1, c1, 0⟩] sc pos) 1 it1 acc env) (fun r s' => match r with
                | .ok _ => ∃ m, m < n ∧ I m s'
                | .error _ => False) s6) (Oops prog w A env R) s5) (Oops prog w A env R) s4
            else ∃ m, m < n ∧ I m s4) (Oops prog w A env R) s3) (Oops prog w A env R) s2) (Oops prog w A env R) s1) (Oops prog w A env R) s)
    (n : Nat) (h : I n s) : codeAny (model prog w) A (.compLoop (.SetComp x [⟨t0, i0, c0, 0⟩, ⟨t1, i1, c1, 0⟩] sc pos) 0 it acc env) R s := by
  refine codeAny_loop rfl I (fun n s i => ?_) n h
  show wpAny _ A ((compTurn (.SetComp x [⟨t0, i0, c0, 0⟩, ⟨t1, i1, c1, 0⟩] sc pos) 0 it acc env).onRaise (fun z => do noteFrame z env; theTreesLotGoes z)) _ _ s
  refine wpAny_noted ?_
  rw [turn_first]
  refine wpAny_bind (wpAny_standAt (wpAny_bind (wpAny_mono (turn n s i) (fun r s1 q1 => ?_) fun _ _ z => z)))
  match r, q1 with
  | none, q1 => exact wpAny_pure q1
  | some v, q1 =>
    refine wpAny_bind (wpAny_mono q1 (fun _ s2 q2 => wpAny_bind (wpAny_mono q2 (fun _ s3 q3 => wpAny_bind (wpAny_mono q3 (fun ok s4 q4 => ?_) fun _ _ z => z)) fun _ _ z => z)) fun _ _ z => z)
    cases ok with
    | false => exact wpAny_pure ⟨rfl, q4⟩
    | true =>
      refine wpAny_bind (wpAny_mono q4 (fun y s5 q5 => wpAny_bind (wpAny_standAt (wpAny_bind (wpAny_of_eq (hs y) (wpAny_bind (wpAny_holding (wpAny_mono q5 (fun it1 s6 q6 => ?_) fun _ _ z => z))))))) fun _ _ z => z)
      refine wpAny_bind (wpAny_runOwn ?_)
      rw [Around.mark_none]
      refine codeAny_mono q6 fun r s' q => ?_
      match r, q with
      | .ok f, q =>
        first
          | exact wpAny_pure ⟨rfl, q⟩
          | exact wpAny_bind (wpAny_pure (wpAny_pure ⟨rfl, q⟩))
      | .error e, q => exact q.elim
theorem loop_second (I : Nat → Shared → Prop)
    (turn : ∀ n s, I n s → wpAny (model prog w) A (pyNext it) (fun r s1 => match r with
      | none => R (.ok .next) s1
      | some v => wpAny (model prog w) A (letOwnedTupleGo t1 it v) (fun _ s2 => wpAny (model prog w) A (assign t1 env v) (fun _ s3 =>
          wpAny (model prog w) A (forIn c1 true fun c r => if r = true then do let ok ← isTrue c env (eval c env); pure (ForInStep.yield ok) else pure (ForInStep.yield r)) (fun ok s4 =>
            if ok = true then wpAny (model prog w) A (eval x env) (fun y s5 => wpAny (model prog w) A (call (.builtin "set.add") [acc, y]) (fun _ s6 => ∃ m, m < n ∧ I m s6) (Oops prog w A env R) s5) (Oops prog w A env R) s4
            else ∃ m, m < n ∧ I m s4) (Oops prog w A env R) s3) (Oops prog w A env R) s2) (Oops prog w A env R) s1) (Oops prog w A env R) s)
    (n : Nat) (h : I n s) : codeAny (model prog w) A (.compLoop (.SetComp x [⟨t0, i0, c0, 0⟩, ⟨t1, i1, c1, 0⟩] sc pos) 1 it acc env) R s := by
  refine codeAny_loop rfl I (fun n s i => ?_) n h
  show wpAny _ A ((compTurn (.SetComp x [⟨t0, i0, c0, 0⟩, ⟨t1, i1, c1, 0⟩] sc pos) 1 it acc env).onRaise (fun z => do noteFrame z env; theTreesLotGoes z)) _ _ s
  refine wpAny_noted ?_
  rw [turn_second]
  refine wpAny_bind (wpAny_standAt (wpAny_bind (wpAny_mono (turn n s i) (fun r s1 q1 => ?_) fun _ _ z => z)))
  match r, q1 with
  | none, q1 => exact wpAny_pure q1
  | some v, q1 =>
    refine wpAny_bind (wpAny_mono q1 (fun _ s2 q2 => wpAny_bind (wpAny_mono q2 (fun _ s3 q3 => wpAny_bind (wpAny_mono q3 (fun ok s4 q4 => ?_) fun _ _ z => z)) fun _ _ z => z)) fun _ _ z => z)
    cases ok with
    | false => exact wpAny_pure ⟨rfl, q4⟩
    | true => exact wpAny_bind (wpAny_bind (wpAny_mono q4 (fun y s5 q5 => wpAny_bind (wpAny_standAt (wpAny_bind (wpAny_mono q5 (fun _ s6 q6 => wpAny_pure (wpAny_pure ⟨rfl, q6⟩)) fun _ _ z => z)))) fun _ _ z => z))
theorem start_second (h0 : codeAny (model prog w) A (.compLoop (.SetComp x [⟨t0, i0, c0, 0⟩, ⟨t1, i1, c1, 0⟩] sc pos) 1 it acc env) R s)
    (h : wpAny (model prog w) A (pyIter it) (fun it' s' => codeAny (model prog w) A (.compLoop (.SetComp x [⟨t0, i0, c0, 0⟩, ⟨t1, i1, c1, 0⟩] sc pos) 1 it' acc env) R s') (Oops prog w A env R) s) :
    codeAny (model prog w) A (.compStart (.SetComp x [⟨t0, i0, c0, 0⟩, ⟨t1, i1, c1, 0⟩] sc pos) 1 it acc env) R s := by
  refine codeAny_of_tree ?_
  show wpAny _ _ ((compStart (.SetComp x [⟨t0, i0, c0, 0⟩, ⟨t1, i1, c1, 0⟩] sc pos) 1 it acc env).onRaise (fun z => do noteFrame z env; standAt theWindowsPlace)) _ _ s
  refine wpAny_notedAt ?_
  unfold compStart
  show wpAny _ _ (ask >>= _) _ _ s
  refine wpAny_bind (wpAny_askSetting (wpAny_ite ?_))
  split
  · first
      | exact wpAny_bind (wpAny_pure (wpAny_pure (And.intro rfl h0)))
      | exact wpAny_pure (And.intro rfl h0)
  · first
      | exact wpAny_bind (wpAny_rule (wpAny_bind (wpAny_standAt (wpAny_bind (wpAny_mono h (fun _ _ z => wpAny_pure (And.intro rfl z)) fun _ _ z => z)))))
      | (refine wpAny_bind (wpAny_rule ?_); show wpAny _ _ (standAt i1.pos >>= _) _ _ s; exact wpAny_bind (wpAny_standAt (wpAny_bind (wpAny_mono h (fun _ _ z => wpAny_pure (And.intro rfl z)) fun _ _ z => z))))
end
/-! ### the comprehension -/
def tSt (K : PySem.W.Frag) (P : Program) (w : World) (wi : TI) (g : TG) (tt : TT) (wi1 : TI) (g1 : TG) (tt1 : TT) (te : TE) (vs vs1 : List Nat) : TE := fun σ H Q => wi σ H fun J H1 => ∀ D, H1 D = none → ∃ W : Nat → Nat → Hp → Prop, (∃ m, W 0 m (upd H1 D (MsO P w D []))) ∧ ∀ i m H, W i m H →
  (J.stop i H ∧ Q (.ref D) H) ∨ (J.go i H ∧ ∃ Nx : Hp → Prop, (∀ H', Nx H' → ∃ m', m' < m ∧ W (i + 1) m' H') ∧ ∀ x H', J.yld i H x H' → g x (wipe σ vs) H' fun σ2 H2 => wipe σ2 vs = wipe σ vs ∧ tt σ2 H2 fun b H3 =>
    if b = true then wi1 σ2 H3 fun J1 H4 => ∃ W1 : Nat → Nat → Hp → Prop, (∃ m, W1 0 m H4) ∧ ∀ j k H, W1 j k H →
      (J1.stop j H ∧ Nx H) ∨ (J1.go j H ∧ ∃ N1 : Hp → Prop, (∀ H', N1 H' → ∃ k', k' < k ∧ W1 (j + 1) k' H') ∧ ∀ x H', J1.yld j H x H' → g1 x (wipe σ2 vs1) H' fun σ3 H5 => wipe σ3 vs1 = wipe σ2 vs1 ∧ tt1 σ3 H5 fun b H6 =>
        if b = true then te σ3 H6 fun y H7 => PutM K P w D y H7 N1 else N1 H6)
    else Nx H3)
section
variable {X : Cx}
theorem st_core {pins : List (Addr × Obj)} {s : Shared} {σ : L2.St} {H : Hp} {Q : VK} {x tg iter tg1 iter1 : Expr} {c0 c1 : List Expr} {scope : Scope} {own : List (PySem.Str × Nat)} {vs1 : List Nat} {pos pos' : Pos} {wi wi1 : TI} {g g1 : TG} {tt tt1 : TT} {te : TE} {use : Option (Value → Sem Unit)} {Qf : Value → Shared → Prop}
    (hu : X.A.units + 64 < cLine) (hc : X.calm = true) (hN : X.N.Nodup) (I : Inv X pins σ H s) (hi : PI X tg iter wi) (ok : BlkOk X.N X.env.scope scope own) (hv : ∀ i ∈ vs1, i ∈ own.map (·.2))
    (hg : ∀ (s : Shared) (H : Hp) (C : Addr) (cl : List (PySem.Str × Addr)) (fp : List Addr), PG (X.blk s H scope (compEnvC scope cl C X.env) fp) tg g) (ht : ∀ (s : Shared) (H : Hp) (C : Addr) (cl : List (PySem.Str × Addr)) (fp : List Addr), PTs (X.blk s H scope (compEnvC scope cl C X.env) fp) c0 tt)
    (hi1 : ∀ (s : Shared) (H : Hp) (C : Addr) (cl : List (PySem.Str × Addr)) (fp : List Addr), PI (X.blk s H scope (compEnvC scope cl C X.env) fp) tg1 iter1 wi1) (hg1 : ∀ (s : Shared) (H : Hp) (C : Addr) (cl : List (PySem.Str × Addr)) (fp : List Addr), PG (X.blk s H scope (compEnvC scope cl C X.env) fp) tg1 g1)
    (ht1 : ∀ (s : Shared) (H : Hp) (C : Addr) (cl : List (PySem.Str × Addr)) (fp : List Addr), PTs (X.blk s H scope (compEnvC scope cl C X.env) fp) c1 tt1) (he : ∀ (s : Shared) (H : Hp) (C : Addr) (cl : List (PySem.Str × Addr)) (fp : List Addr), PE (X.blk s H scope (compEnvC scope cl C X.env) fp) x te)
    (hs : ∀ y, foldedSetIterable iter X.env y = pure y) (hs1 : ∀ env y, foldedSetIterable iter1 env y = pure y) (h : tSt X.K X.prog X.w wi g tt wi1 g1 tt1 te (own.map (·.2)) vs1 σ H Q)
    (fin : ∀ D C s' m H', Inv X pins σ H' s' → Q (.ref D) H' → s'.heap.Ns C m → FpOk X pins H' C → compPost (model X.prog X.w) X.A X.xe use Qf (.ref D) C (.ok .next) s') :
    wpAny (model X.prog X.w) X.A (comprehension (.SetComp x [⟨tg, iter, c0, 0⟩, ⟨tg1, iter1, c1, 0⟩] scope pos) scope X.env pos' (newSet (.type "set")) false (eval iter X.env) use) Qf X.xe s := by
  have inScope : ∀ y ∈ scope.names, y.2 = .free → ∃ c, X.env.cells.lookup y.1 = some c := fun y hy e => (ok.free y hy e).elim (fun k => I.ok.has _ (.inl k)) fun k => I.ok.has _ (.inr k)
  refine wpAny_comprehension_free (use := use) rfl hs (closure_ok inScope) ok.kind (fun y hy e => by rw [ok.uniq y hy, e]) (thn (hi.run pins s σ H _ I h) fun _ s1 h1 => thn h1 fun itv s2 h2 => ?_)
  obtain ⟨it, fp, tn, J, H2, rfl, I2, T, st2, f2, q⟩ := h2
  refine PpSet.newSet_ok (newEnv_comp ?_)
  generalize eD : s2.heap.objs.size = D
  have nD : H2 D = none := I2.hok.fresh (Nat.le_of_eq eD)
  obtain ⟨W, ⟨m0, w0⟩, turn⟩ := q D nD
  generalize e3 : ({ s2 with heap := s2.heap.push { cls := .type "set", dict := none, data := .set #[] 0 (.fresh 0 0 (!X.w.params.followText "set-order")) } } : Shared) = s3
  have hp3 : s3.heap = s2.heap.push { cls := .type "set", dict := none, data := .set #[] 0 (.fresh 0 0 (!X.w.params.followText "set-order")) } := by rw [← e3]
  have I3 : Inv X pins σ (upd H2 D (MsO X.prog X.w D [])) s3 := by
    rw [← e3]
    refine I2.laid (t' := s2.toks) (fun b o e => Heap.get?_push_of_some _ e) (Nat.le_of_eq eD) ?_
    rw [← eD]
    exact msO_new ⟨_, _, _, (Ms.new (Heap.get?_push_size _ rfl)).light⟩
  have lt : ∀ b ∈ fp, b < s2.heap.objs.size := fun b hb => let ⟨_, e, _⟩ := T.obj _ _ st2 b hb; Heap.lt_size e
  have f3 : ∀ b ∈ fp, FpOk X pins (upd H2 D (MsO X.prog X.w D [])) b ∧ b < s3.heap.objs.size := fun b hb => by
    have l := lt b hb
    refine ⟨⟨?_, (f2 b hb).2⟩, by rw [hp3, Heap.size_push]; exact Nat.lt_of_lt_of_le l (Nat.le_succ _)⟩
    rw [upd_ne fun z => Nat.lt_irrefl D (by rw [← z] at eD ⊢; exact eD ▸ l)]
    exact (f2 b hb).1
  have st3 : tn 0 s3.heap := T.keep _ _ _ st2 fun b _ o e => by rw [hp3]; exact Heap.get?_push_of_some _ e
  have I4 := block_start I3 ok hN f3
  have pg := hg s3 (upd H2 D (MsO X.prog X.w D [])) s3.heap.objs.size (cellsFrom (s3.heap.objs.size + 1) scope.names (cloFrom X.env.cells scope.names [])) fp
  have pt := ht s3 (upd H2 D (MsO X.prog X.w D [])) s3.heap.objs.size (cellsFrom (s3.heap.objs.size + 1) scope.names (cloFrom X.env.cells scope.names [])) fp
  have pe := he s3 (upd H2 D (MsO X.prog X.w D [])) s3.heap.objs.size (cellsFrom (s3.heap.objs.size + 1) scope.names (cloFrom X.env.cells scope.names [])) fp
  have pi1 := hi1 s3 (upd H2 D (MsO X.prog X.w D [])) s3.heap.objs.size (cellsFrom (s3.heap.objs.size + 1) scope.names (cloFrom X.env.cells scope.names [])) fp
  have pg1 := hg1 s3 (upd H2 D (MsO X.prog X.w D [])) s3.heap.objs.size (cellsFrom (s3.heap.objs.size + 1) scope.names (cloFrom X.env.cells scope.names [])) fp
  have pt1 := ht1 s3 (upd H2 D (MsO X.prog X.w D [])) s3.heap.objs.size (cellsFrom (s3.heap.objs.size + 1) scope.names (cloFrom X.env.cells scope.names [])) fp
  show codeAny _ _ (.compStart (.SetComp x [⟨tg, iter, c0, 0⟩, ⟨tg1, iter1, c1, 0⟩] scope pos) 0 (.ref it) (.ref D) (compEnvC scope (cellsFrom (s3.heap.objs.size + 1) scope.names (cloFrom X.env.cells scope.names [])) s3.heap.objs.size X.env)) (compPost (model X.prog X.w) X.A X.xe use Qf (.ref D) s3.heap.objs.size) { s3 with heap := pushCells (s3.heap.push { cls := .type "dict", data := .dict #[] }) scope.names }
  have none3 : ∀ b ∈ fp, upd H2 D (MsO X.prog X.w D []) b = none := fun b hb => (f3 b hb).1.1
  generalize ec : compEnvC scope (cellsFrom (s3.heap.objs.size + 1) scope.names (cloFrom X.env.cells scope.names [])) s3.heap.objs.size X.env = ce at I4 pg pt pe pi1 pg1 pt1 ⊢
  have loc : ce.locals = s3.heap.objs.size := by rw [← ec]; rfl
  generalize upd H2 D (MsO X.prog X.w D []) = H3 at I3 I4 pg pt pe pi1 pg1 pt1 w0 none3 f3
  generalize e4 : ({ s3 with heap := pushCells (s3.heap.push { cls := .type "dict", data := .dict #[] }) scope.names } : Shared) = s4 at I4 ⊢
  have st4 : tn 0 s4.heap := T.keep _ _ _ st3 fun b _ o e => by rw [← e4]; exact pushCells_keeps _ _ _ _ (Heap.get?_push_of_some _ e)
  have foot : ∀ {σ' : L2.St} {H' : Hp} {s' : Shared}, Inv (X.blk s3 H3 scope ce fp) [] σ' H' s' → (∀ b ∈ fp, H' b = none) → ∀ b ∈ fp, FpOk (X.blk s3 H3 scope ce fp) [] H' b := fun I' n b hb =>
    ⟨n b hb, (I'.ok.exf b hb).1, I'.ok.exfs b hb, .inl hb, fun y c e => (I'.ok.exf b hb).2 y c e, fun p z => by cases z⟩
  have all : codeAny (model X.prog X.w) X.A (.compLoop (.SetComp x [⟨tg, iter, c0, 0⟩, ⟨tg1, iter1, c1, 0⟩] scope pos) 0 (.ref it) (.ref D) ce) (compPost (model X.prog X.w) X.A X.xe use Qf (.ref D) s3.heap.objs.size) s4 := by
    refine loop_first (hs1 ce) (fun n s' => ∃ i H', Inv (X.blk s3 H3 scope ce fp) [] (wipe σ (own.map (·.2))) H' s' ∧ tn i s'.heap ∧ (∀ b ∈ fp, H' b = none) ∧ W i n H') ?_ m0 ⟨0, H3, I4, st4, none3, w0⟩
    rintro n s5 ⟨i, H5, I5, st5, n5, w5⟩
    rcases turn i n H5 w5 with ⟨stop, qq⟩ | ⟨go, Nx, down, step⟩
    · refine thnF (T.done (X.blk s3 H3 scope ce fp) rfl rfl rfl hc i [] s5 _ H5 (fun _ _ => False) I5 (foot I5 n5) st5 stop) fun r s6 ⟨er, I6⟩ => ?_
      subst er
      obtain ⟨m, ns, _⟩ := I6.loc
      have ns : s6.heap.Ns ce.locals m := ns
      have fr : H5 ce.locals = none := I6.free
      rw [loc] at ns fr
      exact fin D _ s6 m H5 (I3.call' (ch := fp) I6.os I6.base I6.hok I6.bare fun b hb => ⟨(f3 b hb).1.2.2.2.1, (f3 b hb).1.2.1, (f3 b hb).1.2.2.2.2.1, (f3 b hb).1.2.2.2.2.2⟩) qq ns (I3.fpOk (Nat.le_refl _) fr)
    refine thnF (T.item (X.blk s3 H3 scope ce fp) rfl rfl rfl hc i [] s5 _ H5 (fun _ _ => False) I5 (foot I5 n5) st5 go) fun r s6 ⟨u, er, h6⟩ => ?_
    subst er
    refine thnF h6 fun _ s7 ⟨y, H7, I7, r7, y7, st7, n7⟩ => ?_
    refine thnF (pg.run _ s7 _ H7 y u _ (I7.pinned (foot I7 n7) (T.obj _ _ st7)) r7 (step y H7 y7)) fun _ s8 ⟨σ8, H8, I8, w8, q8⟩ => ?_
    refine thnF (pt.run _ s8 σ8 H8 _ I8 q8) fun b s9 ⟨H9, I9, q9⟩ => ?_
    -- the end of a turn
    have over : ∀ {σ9 : L2.St} {s' : Shared} {H' : Hp}, Inv (X.blk s3 H3 scope ce fp) ([] ++ pinsAt fp s7.heap) σ9 H' s' → (wipe σ (own.map (·.2))).length = σ9.length → (∀ (k : Nat) v, (wipe σ (own.map (·.2)))[k]? = some (some v) → σ9[k]? = some (some v)) → Nx H' →
        ∃ m, m < n ∧ ∃ i H', Inv (X.blk s3 H3 scope ce fp) [] (wipe σ (own.map (·.2))) H' s' ∧ tn i s'.heap ∧ (∀ b ∈ fp, H' b = none) ∧ W i m H' := fun {σ9 s' H'} I' len know nx => by
      obtain ⟨m', lm, w'⟩ := down H' nx
      have still : ∀ b ∈ fp, ∀ o, s7.heap.get? b = some o → s'.heap.get? b = some o ∧ H' b = none := fun b hb o e =>
        have z := I'.pin (b, o) (List.mem_append_right _ (List.mem_append_right _ (mem_pinsAt hb e)))
        ⟨z.1, z.2.1⟩
      exact ⟨m', lm, i + 1, H', (I'.unpinned (pins := [])).weak len know, T.keep _ _ _ st7 fun b hb o e => (still b hb o e).1, fun b hb => let ⟨o, e, _⟩ := T.obj _ _ st7 b hb; (still b hb o e).2, w'⟩
    have len8 : (wipe σ (own.map (·.2))).length = σ8.length := by rw [← w8, wipe_length]
    have know8 : ∀ (k : Nat) v, (wipe σ (own.map (·.2)))[k]? = some (some v) → σ8[k]? = some (some v) := fun k v e => (wipe_some (w8 ▸ e)).1
    have know9 : ∀ (k : Nat) v, (wipe σ (own.map (·.2)))[k]? = some (some v) → (wipe σ8 vs1)[k]? = some (some v) := fun k v e => by
      obtain ⟨a1, a2⟩ := wipe_some (w8 ▸ e)
      rw [wipe_out fun z => a2 (hv k z)]
      exact a1
    cases b with
    | false =>
      rw [if_neg Bool.false_ne_true] at q9 ⊢
      exact over I9 len8 know8 q9
    | true =>
    rw [if_pos rfl] at q9 ⊢
    refine thnF (pi1.run _ s9 σ8 H9 _ I9 q9) fun _ s10 h10 => thnF h10 fun itv s11 h11 => ?_
    obtain ⟨it1, fp1, tn1, J1, H11, rfl, I11, T1, st11, f11, W1, ⟨m1, w1⟩, turn1⟩ := h11
    have foot1 : ∀ {H' : Hp}, (∀ b ∈ fp1, H' b = none) → ∀ b ∈ fp1, FpOk (X.blk s3 H3 scope ce fp) ([] ++ pinsAt fp s7.heap) H' b := fun n b hb => ⟨n b hb, (f11 b hb).2⟩
    have inner : codeAny (model X.prog X.w) X.A (.compLoop (.SetComp x [⟨tg, iter, c0, 0⟩, ⟨tg1, iter1, c1, 0⟩] scope pos) 1 (.ref it1) (.ref D) ce)
        (fun r s' => match r with
          | .ok _ => ∃ m, m < n ∧ ∃ i H', Inv (X.blk s3 H3 scope ce fp) [] (wipe σ (own.map (·.2))) H' s' ∧ tn i s'.heap ∧ (∀ b ∈ fp, H' b = none) ∧ W i m H'
          | .error _ => False) s11 := by
      refine loop_second (fun k s' => ∃ j H', Inv (X.blk s3 H3 scope ce fp) ([] ++ pinsAt fp s7.heap) (wipe σ8 vs1) H' s' ∧ tn1 j s'.heap ∧ (∀ b ∈ fp1, H' b = none) ∧ W1 j k H') ?_ m1 ⟨0, H11, I11.weak (wipe_length _ _) (fun k v e => (wipe_some e).1), st11, fun b hb => (f11 b hb).1, w1⟩
      rintro k s12 ⟨j, H12, I12, st12, n12, w12⟩
      rcases turn1 j k H12 w12 with ⟨stop1, nx1⟩ | ⟨go1, N1, down1, step1⟩
      · refine thnF (T1.done (X.blk s3 H3 scope ce fp) rfl rfl rfl hc j _ s12 (wipe σ8 vs1) H12 (fun _ _ => False) I12 (foot1 n12) st12 stop1) fun r s13 ⟨er, I13⟩ => ?_
        subst er
        exact over I13 (len8.trans (wipe_length σ8 vs1).symm) know9 nx1
      refine thnF (T1.item (X.blk s3 H3 scope ce fp) rfl rfl rfl hc j _ s12 (wipe σ8 vs1) H12 (fun _ _ => False) I12 (foot1 n12) st12 go1) fun r s13 ⟨u1, er, h13⟩ => ?_
      subst er
      refine thnF h13 fun _ s14 ⟨y1, H14, I14, r14, y14, st14, n14⟩ => ?_
      refine thnF (pg1.run _ s14 (wipe σ8 vs1) H14 y1 u1 _ (I14.pinned (foot1 n14) (T1.obj _ _ st14)) r14 (step1 y1 H14 y14)) fun _ s15 ⟨σ15, H15, I15, w15, q15⟩ => ?_
      refine thnF (pt1.run _ s15 σ15 H15 _ I15 q15) fun b1 s16 ⟨H16, I16, q16⟩ => ?_
      have over1 : ∀ {s' : Shared} {H' : Hp}, Inv (X.blk s3 H3 scope ce fp) (([] ++ pinsAt fp s7.heap) ++ pinsAt fp1 s14.heap) σ15 H' s' → N1 H' → ∃ m, m < k ∧ ∃ j H', Inv (X.blk s3 H3 scope ce fp) ([] ++ pinsAt fp s7.heap) (wipe σ8 vs1) H' s' ∧ tn1 j s'.heap ∧ (∀ b ∈ fp1, H' b = none) ∧ W1 j m H' := fun {s' H'} I' nx => by
        obtain ⟨m', lm, w'⟩ := down1 H' nx
        have still : ∀ b ∈ fp1, ∀ o, s14.heap.get? b = some o → s'.heap.get? b = some o ∧ H' b = none := fun b hb o e =>
          have z := I'.pin (b, o) (List.mem_append_right _ (List.mem_append_right _ (mem_pinsAt hb e)))
          ⟨z.1, z.2.1⟩
        exact ⟨m', lm, j + 1, H', I'.unpinned.weak (by rw [← w15, wipe_length]) (fun k v e => (wipe_some (w15 ▸ e)).1), T1.keep _ _ _ st14 fun b hb o e => (still b hb o e).1, fun b hb => let ⟨o, e, _⟩ := T1.obj _ _ st14 b hb; (still b hb o e).2, w'⟩
      cases b1 with
      | false =>
        rw [if_neg Bool.false_ne_true] at q16 ⊢
        exact over1 I16 q16
      | true =>
        rw [if_pos rfl] at q16 ⊢
        exact thnF (pe.run _ s16 σ15 H16 _ I16 q16) fun v s17 ⟨yv, H17, I17, r17, put⟩ => putM_ok (X := X.blk s3 H3 scope ce fp) I17 hu r17 put fun s18 H18 I18 nx => over1 I18 nx
    exact start_second inner (T1.self X.A 0 _ _ _ st11 inner)
  exact PpSet.codeAny_compStart_set all (T.self X.A 0 _ _ _ st4 all)
/-- as a value -/
theorem pe_st {x tg iter tg1 iter1 : Expr} {c0 c1 : List Expr} {scope : Scope} {own : List (PySem.Str × Nat)} {vs1 : List Nat} {pos : Pos} {wi wi1 : TI} {g g1 : TG} {tt tt1 : TT} {te : TE} (hu : X.A.units + 64 < cLine) (hc : X.calm = true) (hN : X.N.Nodup) (hi : PI X tg iter wi) (ok : BlkOk X.N X.env.scope scope own) (hv : ∀ i ∈ vs1, i ∈ own.map (·.2))
    (hg : ∀ (s : Shared) (H : Hp) (C : Addr) (cl : List (PySem.Str × Addr)) (fp : List Addr), PG (X.blk s H scope (compEnvC scope cl C X.env) fp) tg g) (ht : ∀ (s : Shared) (H : Hp) (C : Addr) (cl : List (PySem.Str × Addr)) (fp : List Addr), PTs (X.blk s H scope (compEnvC scope cl C X.env) fp) c0 tt)
    (hi1 : ∀ (s : Shared) (H : Hp) (C : Addr) (cl : List (PySem.Str × Addr)) (fp : List Addr), PI (X.blk s H scope (compEnvC scope cl C X.env) fp) tg1 iter1 wi1) (hg1 : ∀ (s : Shared) (H : Hp) (C : Addr) (cl : List (PySem.Str × Addr)) (fp : List Addr), PG (X.blk s H scope (compEnvC scope cl C X.env) fp) tg1 g1)
    (ht1 : ∀ (s : Shared) (H : Hp) (C : Addr) (cl : List (PySem.Str × Addr)) (fp : List Addr), PTs (X.blk s H scope (compEnvC scope cl C X.env) fp) c1 tt1) (he : ∀ (s : Shared) (H : Hp) (C : Addr) (cl : List (PySem.Str × Addr)) (fp : List Addr), PE (X.blk s H scope (compEnvC scope cl C X.env) fp) x te)
    (hs : ∀ y, foldedSetIterable iter X.env y = pure y := by intro _; rfl) (hs1 : ∀ env y, foldedSetIterable iter1 env y = pure y := by intro _ _; rfl) :
    PE X (.SetComp x [⟨tg, iter, c0, 0⟩, ⟨tg1, iter1, c1, 0⟩] scope pos) (tSt X.K X.prog X.w wi g tt wi1 g1 tt1 te (own.map (·.2)) vs1) := by
  refine ⟨fun pins s σ H Q I h => ?_⟩
  rw [PpSet.eval_SetComp]
  refine st_core hu hc hN I hi ok hv hg ht hi1 hg1 ht1 he hs hs1 h fun D C s' m H' I' q ns f => ⟨m, ns, fun h'' sb => ?_⟩
  exact ⟨.ref D, H', I'.turned (t' := s'.toks) (fun b o hb e => (sb.2 b hb).trans e) f.1 f.2.1 f.2.2.2.1 f.2.2.2.2.1 f.2.2.2.2.2, rfl, q⟩
end
end Lc
set_option Elab.async false
set_option linter.all false
set_option maxRecDepth 100000
set_option maxHeartbeats 4000000
namespace Lc
open PySem PySem.Spec PyProof.Rows L2
/-! ## sorted(s), s a set of tuples of texts and whole numbers -/
def kD : Key → PyData
  | .inl i => .int i
  | .inr x => .str x
abbrev tkD (j : List Key) : PyData := .tuple (j.map kD)
theorem kD_dh {H : Hp} : ∀ (j : List Key), DhAll H (j.map kV) (j.map kD)
  | [] => .nil
  | .inl i :: j => .cons (.int i) (kD_dh j)
  | .inr x :: j => .cons (.str x) (kD_dh j)
theorem kD_nd : ∀ (j : List Key), PyData.hasDictAll (j.map kD) = false
  | [] => rfl
  | .inl i :: j => by show PyData.hasDictAll (.int i :: _) = _; rw [PyData.hasDictAll, kD_nd j]; rfl
  | .inr x :: j => by show PyData.hasDictAll (.str x :: _) = _; rw [PyData.hasDictAll, kD_nd j]; rfl
theorem kD_dep : ∀ (j : List Key), PyData.depthAll (j.map kD) ≤ 1
  | [] => by simp [PyData.depthAll]
  | .inl i :: j => by
    have := kD_dep j
    show PyData.depthAll (.int i :: _) ≤ _
    simp only [PyData.depthAll, PyData.depth]
    omega
  | .inr x :: j => by
    have := kD_dep j
    show PyData.depthAll (.str x :: _) ≤ _
    simp only [PyData.depthAll, PyData.depth]
    omega
section
variable {P : Program} {w : World} {A : Around} {E : Value → Shared → Prop} {s : Shared}
theorem sorted_msG {a : Addr} {L : List (Addr × List Key)} {es : Array (Int × Value)} {ep : Nat} {t : SetTable} {Q : Value → Shared → Prop} (R : MsW P w s.heap a L es ep t) (hh : A.handled = none)
    (S : ∀ (s1 : Shared) (vs : List Value) (h' : Heap), (∀ b o, s.heap.get? b = some o → h'.get? b = some o) → vs.Perm (L.map fun z => Value.ref z.1) → ∃ κ : PyProof.Rows.KeyKind, PySem.W.SortsAt P w A.in1.in1 { s1 with heap := h' } κ vs ∧
      ∀ p (h'' : Heap) n, (∀ b o, s.heap.get? b = some o → h''.get? b = some o) → s.heap.objs.size ≤ p → h''.get? p = some (seqObj "list" (PySem.W.sortVals κ false vs vs).toArray n) → s1.gens = s.gens → s1.os = s.os → Q (.ref p) { s1 with heap := h'' }) :
    wpAny (model P w) A (call (.builtin "sorted") [.ref a]) Q E s := by
  obtain ⟨o, eo, ex, ed⟩ := id R.obj
  have el := ents_len R.ent
  have rom := R.room
  refine Calls.call_function_entry kind_sorted plain_sorted entry_sorted (args_sorted1 _) ?_
  unfold Builtin.«sorted»
  refine wpAny_bind (m := checkCount "sorted" 1 1 _) (wpAny_pure ?_)
  have ft : t.fits es.size = true := by
    refine tab_fits R.tab ?_ ?_
    · rw [List.length_map, el]
    · rw [el]; omega
  refine wpAny_bind (collect_set (A := A.in1) hh ⟨o, eo, ex.1, ed⟩ ft (by have := R.few; rw [el]; show L.length < 4096; omega) R.tab.ris R.led fun s1 vs k1 hz g1 o1 pm => ?_)
  have e2 : es.toList.map (·.2) = L.map fun z => Value.ref z.1 := by
    rw [R.ent]
    unfold ents
    rw [List.map_map]
    rfl
  rw [e2] at pm
  have hvl : vs.length ≤ sizeLine := by have := R.few; rw [pm.length_eq, List.length_map, sizeLine_eq]; omega
  refine wpAny_bind (wpAny_newList ?_ hvl)
  have hoL : (s1.heap.push (seqObj "list" vs.toArray 0)).get? s1.heap.objs.size = some (seqObj "list" vs.toArray 0) := Heap.get?_push_size _ rfl
  have up : ∀ b o, s.heap.get? b = some o → (PySem.W.sortingHeap (s1.heap.push (seqObj "list" vs.toArray 0)) s1.heap.objs.size vs).get? b = some o := fun b u e => by
    have q := k1 b u e
    have hlt := Heap.lt_size q
    exact PySem.W.sortingHeap_old (Nat.ne_of_lt hlt) (Heap.get?_push_of_some _ q)
  obtain ⟨κ, SS, fin⟩ := S s1 vs (PySem.W.sortingHeap (s1.heap.push (seqObj "list" vs.toArray 0)) s1.heap.objs.size vs) up pm
  refine wpAny_bind (wpAny_holding (wpAny_call_entry slot_list_sort ⟨_, hoL, rfl⟩ entry_list_sort
    (PySem.W.list_sort_vals (s := { s1 with heap := s1.heap.push (seqObj "list" vs.toArray 0) }) hoL SS hvl ⟨_, rfl, ?_⟩) (args_list_sort _)))
  obtain ⟨c, hc⟩ := sortedHeap_at (vs := vs) (out := (PySem.W.sortVals κ false vs vs).toArray) hoL
  refine wpAny_pure ⟨_, rfl, fin s1.heap.objs.size _ c (fun b u e => ?_) hz hc g1 o1⟩
  have q := k1 b u e
  have hlt := Heap.lt_size q
  rw [sortedHeap_old (Nat.ne_of_lt hlt) (by rw [size_push']; exact Nat.lt_succ_of_lt hlt)]
  exact Heap.get?_push_of_some _ q
end
section
variable {X : Cx}
def rSortM (P : Program) (w : World) : List V → Hp → VK → Prop := fun vs H Q => ∃ (a : Addr) (L : List (Addr × List Key)), vs = [.ref a] ∧ H a = some (MsO P w a L) ∧ (∀ z ∈ L, H z.1 = some (.tup (z.2.map kV))) ∧ PySem.W.AllAlike (L.map fun z => tkD z.2) ∧ (∀ z ∈ L, z.2 ≠ []) ∧
  ∀ (L2 : List (Addr × List Key)) (ys : List V) (p : Addr), L2.Perm L → ys.Perm (L.map fun z => V.ref z.1) → DhAll H ys ((L2.map fun z => tkD z.2).mergeSort dLe) → H p = none → Q (.ref p) (upd H p (.lst ys))
theorem vals_refs (L : List (Addr × List Key)) : Vals (L.map fun z => V.ref z.1) (L.map fun z => Value.ref z.1) := by
  induction L with
  | nil => exact .nil
  | cons z L ih => exact .cons rfl ih
theorem dh_refs {H : Hp} : ∀ {L : List (Addr × List Key)}, (∀ z ∈ L, H z.1 = some (.tup (z.2.map kV))) → DhAll H (L.map fun z => V.ref z.1) (L.map fun z => tkD z.2)
  | [], _ => .nil
  | z :: L, h => .cons (.tup (h z List.mem_cons_self) (kD_dh _)) (dh_refs fun y hy => h y (List.mem_cons_of_mem _ hy))
theorem map_perm_lift {α β : Type} (f : α → β) : ∀ {vs : List β} {L : List α}, vs.Perm (L.map f) → ∃ L2 : List α, L2.Perm L ∧ vs = L2.map f := by
  intro vs L h
  generalize e : L.map f = us at h
  induction h generalizing L with
  | nil =>
    have : L = [] := by simpa using e
    subst this
    exact ⟨[], .nil, rfl⟩
  | @cons x l1 l2 h ih =>
    cases L with
    | nil => simp at e
    | cons y L =>
      rw [List.map_cons] at e
      obtain ⟨e1, e2⟩ := List.cons.inj e
      obtain ⟨L2, p, q⟩ := ih e2
      exact ⟨y :: L2, p.cons y, by rw [List.map_cons, e1, q]⟩
  | swap x y l =>
    cases L with
    | nil => simp at e
    | cons a L =>
      cases L with
      | nil => simp at e
      | cons b L =>
        rw [List.map_cons, List.map_cons] at e
        obtain ⟨e1, e2⟩ := List.cons.inj e
        obtain ⟨e3, e4⟩ := List.cons.inj e2
        exact ⟨b :: a :: L, .swap a b L, by rw [List.map_cons, List.map_cons, e1, e3, e4]⟩
  | trans _ _ ih1 ih2 =>
    obtain ⟨L2, p2, q2⟩ := ih2 e
    obtain ⟨L1, p1, q1⟩ := ih1 q2.symm
    exact ⟨L1, p1.trans p2, q1⟩
theorem cr_sortM (hc : X.calm = true) (hu : X.A.units + 64 < cLine) : CallR X (.builtin "sorted") (rSortM X.prog X.w) := by
  intro pins s σ H vs us Q I r h
  obtain ⟨a, L, rfl, ha, hT, al, ne, q⟩ := h
  obtain ⟨es, ep, t, R⟩ := msO_get I ha
  rw [Vals.ref1 r]
  refine sorted_msG R (I.ok.hd hc) fun s1 vs h' up pm => ?_
  obtain ⟨L2, p2, rfl⟩ := map_perm_lift (fun z : Addr × List Key => Value.ref z.1) pm
  have hT2 : ∀ z ∈ L2, H z.1 = some (.tup (z.2.map kV)) := fun z hz => hT z (p2.mem_iff.mp hz)
  have dp : ∀ d ∈ L2.map (fun z => tkD z.2), d.hasDict = false ∧ d.depth ≤ 50 := fun d hd => by
    obtain ⟨z, _, rfl⟩ := List.mem_map.mp hd
    refine ⟨by rw [PyData.hasDict]; exact kD_nd _, ?_⟩
    have := kD_dep z.2
    simp only [PyData.depth]
    omega
  have al2 : PySem.W.AllAlike (L2.map fun z => tkD z.2) := fun d hd d' hd' => al d ((p2.map _).mem_iff.mp hd) d' ((p2.map _).mem_iff.mp hd')
  have so : PySem.W.Sortable (L2.map fun z => tkD z.2) := .inl fun d hd => by
    obtain ⟨z, hz, rfl⟩ := List.mem_map.mp hd
    have n := ne z (p2.mem_iff.mp hz)
    cases e : z.2 with
    | nil => exact absurd e n
    | cons k j => exact ⟨kD k, j.map kD, rfl⟩
  have dh : DhAll H (L2.map fun z => V.ref z.1) (L2.map fun z => tkD z.2) := dh_refs hT2
  have rd : PySem.W.EachIs (fun v d => ∃ as, Reads h' v d as) (L2.map fun z => Value.ref z.1) (L2.map fun z => tkD z.2) :=
    each_mono' (fun v d ⟨as, r⟩ => ⟨as, Reads.keeps up r⟩) (dh_readsAll I (vals_refs L2) dh dp)
  have SS := PySem.W.SortsAt.data (prog := X.prog) (w := X.w) (A := X.A.in1.in1) (s := { s1 with heap := h' }) rd al2 so fun d hm => by
    have := (dp d hm).2
    show X.A.units + 1 + 1 + d.depth < cLine
    omega
  refine ⟨_, SS, fun p h'' n up2 hp hg g1 o1 => ?_⟩
  have eb : (L2.map fun z => V.ref z.1) = (L2.map fun z => Value.ref z.1).map backV := by
    rw [List.map_map]
    rfl
  have e3 : PySem.W.EachIs (fun (v : Value) d => Dh H (backV v) d) (PySem.W.sortVals (PySem.W.dataKind h' (L2.map fun z => tkD z.2)) false (L2.map fun z => Value.ref z.1) (L2.map fun z => Value.ref z.1)) ((L2.map fun z => tkD z.2).mergeSort dLe) :=
    PySem.W.sortVals_each (κ := PySem.W.dataKind h' (L2.map fun z => tkD z.2)) (rev := false) (fun d : PyData => PySem.W.keyToks d) (dh_each (by rw [← eb]; exact dh)) (PySem.W.each_keys al2 rd)
  have pm3 : (PySem.W.sortVals (PySem.W.dataKind h' (L2.map fun z => tkD z.2)) false (L2.map fun z => Value.ref z.1) (L2.map fun z => Value.ref z.1)).Perm (L2.map fun z => Value.ref z.1) := by
    unfold PySem.W.sortVals
    generalize (L2.map fun z => Value.ref z.1) = its
    have z := (List.mergeSort_perm (its.zip its) (PySem.W.sortLe (PySem.W.dataKind h' (L2.map fun z => tkD z.2)).toKeyOrd false fun p : Keyed => PySem.W.keyD (PySem.W.dataKind h' (L2.map fun z => tkD z.2)) p.1)).map Prod.snd
    rw [List.map_snd_zip (Nat.le_refl _)] at z
    exact z
  generalize PySem.W.sortVals (PySem.W.dataKind h' (L2.map fun z => tkD z.2)) false (L2.map fun z => Value.ref z.1) (L2.map fun z => Value.ref z.1) = out at e3 pm3 hg
  have h3 : ∀ u ∈ out, ∃ a, u = Value.ref a := fun u hu => by
    obtain ⟨z, _, e⟩ := List.mem_map.mp (pm3.mem_iff.mp hu)
    exact ⟨_, e.symm⟩
  have py : (out.map backV).Perm (L.map fun z => V.ref z.1) := by
    have q1 := pm3.map backV
    rw [← eb] at q1
    exact q1.trans (p2.map _)
  have hn : H p = none := I.hok.fresh hp
  have hl : (out.map backV).length ≤ sizeLine := by
    have := R.few
    rw [py.length_eq, List.length_map, sizeLine_eq]
    omega
  have J : Inv X pins σ (upd H p (.lst (out.map backV))) { s with heap := h'', gens := s1.gens, drawn := s1.drawn, toks := s1.toks } :=
    I.call (ch := []) (Un.laid up2 hp hn) (I.hok.laid up2 hp ⟨hl, out, n, vals_back h3, hg⟩) (by rw [g1]; exact I.bare) (fun _ z => nomatch z)
  have e : ({ s1 with heap := h'' } : Shared) = { s with heap := h'', gens := s1.gens, drawn := s1.drawn, toks := s1.toks } := by
    cases s1
    cases s
    cases o1
    rfl
  rw [e]
  exact ⟨.ref p, _, J, rfl, q L2 (out.map backV) p p2 py (each_dh e3) hn⟩
end
/-! ### there is one sorted order -/
theorem dLe_total (a b : PyData) : dLe a b = true ∨ dLe b a = true := (PySem.W.sortLe_total (listOrd itemOrd) false fun d : PyData => PySem.W.keyToks d).total a b
theorem dLe_trans (a b c : PyData) (h1 : dLe a b = true) (h2 : dLe b c = true) : dLe a c = true := (PySem.W.sortLe_total (listOrd itemOrd) false fun d : PyData => PySem.W.keyToks d).trans a b c h1 h2
theorem dLe_anti {a b : PyData} (h1 : dLe a b = true) (h2 : dLe b a = true) : PySem.W.keyToks a = PySem.W.keyToks b := by
  have e1 : (listOrd itemOrd).blt (PySem.W.keyToks b) (PySem.W.keyToks a) = false := by simpa [dLe, PySem.W.dataLe, PySem.W.sortLe] using h1
  have e2 : (listOrd itemOrd).blt (PySem.W.keyToks a) (PySem.W.keyToks b) = false := by simpa [dLe, PySem.W.dataLe, PySem.W.sortLe] using h2
  exact (listOrd itemOrd).total _ _ e2 e1
/-- a place: a text and a number -/
def plD (p : Str × Int) : PyData := .tuple [.str p.1, .int p.2]
theorem plD_toks (p : Str × Int) : PySem.W.keyToks (plD p) = [.inl 1, .inr p.1.cps.toList, .inl 1, .inl p.2, .inl 0] := by
  simp [plD, PySem.W.keyToks, PySem.W.keyToksAll]
theorem str_cps {x y : Str} (e : x.cps.toList = y.cps.toList) : x = y := by
  cases x
  cases y
  congr 1
  exact Array.toList_inj.mp e
theorem plD_inj {p q : Str × Int} (e : PySem.W.keyToks (plD p) = PySem.W.keyToks (plD q)) : p = q := by
  rw [plD_toks, plD_toks] at e
  simp only [List.cons.injEq, Sum.inl.injEq, Sum.inr.injEq, and_true, true_and] at e
  exact Prod.ext (str_cps e.1) e.2
theorem pl_alike (p q : Str × Int) : PySem.W.alike (plD p) (plD q) = true := rfl
theorem dLe_plD {p q : Str × Int} (h1 : dLe (plD p) (plD q) = true) (h2 : dLe (plD q) (plD p) = true) : p = q := plD_inj (dLe_anti h1 h2)
theorem srt_perm : ∀ {L1 L2 : List (Str × Int)}, L1.Perm L2 → (L1.map plD).mergeSort dLe = (L2.map plD).mergeSort dLe := by
  intro L1 L2 p
  have tot : ∀ a b : PyData, (dLe a b || dLe b a) = true := fun a b => by
    rcases dLe_total a b with h | h <;> simp [h]
  refine List.Perm.eq_of_pairwise (le := fun a b => dLe a b = true) (fun a b ha hb h1 h2 => ?_) (List.pairwise_mergeSort (le := dLe) dLe_trans tot _) (List.pairwise_mergeSort (le := dLe) dLe_trans tot _) ((List.mergeSort_perm _ _).trans ((p.map plD).trans (List.mergeSort_perm _ _).symm))
  obtain ⟨x, _, rfl⟩ := List.mem_map.mp ((List.mergeSort_perm _ _).mem_iff.mp ha)
  obtain ⟨y, _, rfl⟩ := List.mem_map.mp ((List.mergeSort_perm _ _).mem_iff.mp hb)
  exact congrArg plD (dLe_plD h1 h2)
end Lc
set_option Elab.async false
set_option linter.all false
set_option maxRecDepth 100000
set_option maxHeartbeats 4000000
namespace Lc
open PySem PySem.Spec PyProof.Rows L2
/-! ## {x for a in as for x in a} over a list of tuples: the two walks -/
theorem st_out {K : PySem.W.Frag} {a : Addr} {xs : List V} {g g1 : TG} {tt tt1 : TT} {wi1 : TI} {vs vs1 : List Nat} {σ : L2.St} {Qd : Hp → Prop} {H0 : Hp} {Put : V → Hp → (Hp → Prop) → Prop} {te : TE} (Pv : Nat → Hp → Prop) (h0 : Pv 0 H0) (hl : ∀ i H, i ≤ xs.length → Pv i H → SqL K H a xs)
    (hs : ∀ i x H, xs[i]? = some x → Pv i H → g x (wipe σ vs) H fun σ2 H2 => wipe σ2 vs = wipe σ vs ∧ tt σ2 H2 fun b H3 =>
      if b = true then wi1 σ2 H3 fun J1 H4 => ∃ W1 : Nat → Nat → Hp → Prop, (∃ m, W1 0 m H4) ∧ ∀ j k H, W1 j k H →
      (J1.stop j H ∧ Pv (i + 1) H) ∨ (J1.go j H ∧ ∃ Nx1 : Hp → Prop, (∀ H', Nx1 H' → ∃ k', k' < k ∧ W1 (j + 1) k' H') ∧ ∀ x H', J1.yld j H x H' → g1 x (wipe σ2 vs1) H' fun σ3 H5 => wipe σ3 vs1 = wipe σ2 vs1 ∧ tt1 σ3 H5 fun b H6 =>
        if b = true then te σ3 H6 fun y H7 => Put y H7 Nx1 else Nx1 H6)
      else Pv (i + 1) H3) (hd : ∀ H, Pv xs.length H → Qd H) :
    ∃ W : Nat → Nat → Hp → Prop, (∃ m, W 0 m H0) ∧ ∀ i m H, W i m H →
      ((Itl K a).stop i H ∧ Qd H) ∨ ((Itl K a).go i H ∧ ∃ Nx : Hp → Prop, (∀ H', Nx H' → ∃ m', m' < m ∧ W (i + 1) m' H') ∧ ∀ x H', (Itl K a).yld i H x H' → g x (wipe σ vs) H' fun σ2 H2 => wipe σ2 vs = wipe σ vs ∧ tt σ2 H2 fun b H3 =>
        if b = true then wi1 σ2 H3 fun J1 H4 => ∃ W1 : Nat → Nat → Hp → Prop, (∃ m, W1 0 m H4) ∧ ∀ j k H, W1 j k H →
      (J1.stop j H ∧ Nx H) ∨ (J1.go j H ∧ ∃ Nx1 : Hp → Prop, (∀ H', Nx1 H' → ∃ k', k' < k ∧ W1 (j + 1) k' H') ∧ ∀ x H', J1.yld j H x H' → g1 x (wipe σ2 vs1) H' fun σ3 H5 => wipe σ3 vs1 = wipe σ2 vs1 ∧ tt1 σ3 H5 fun b H6 =>
        if b = true then te σ3 H6 fun y H7 => Put y H7 Nx1 else Nx1 H6)
        else Nx H3) := by
  refine ⟨fun i m H => m = xs.length - i ∧ i ≤ xs.length ∧ Pv i H, ⟨xs.length, by simp, Nat.zero_le _, h0⟩, ?_⟩
  rintro i m H ⟨rfl, hi, p⟩
  have q := hl i H hi p
  by_cases hlt : i < xs.length
  · refine .inr ⟨⟨xs, xs[i], q, by simp [hlt]⟩, Pv (i + 1), fun H' p' => ⟨xs.length - (i + 1), by omega, rfl, hlt, p'⟩, fun x H' y => ?_⟩
    obtain ⟨e, y⟩ := y
    subst e
    exact hs i x _ (y xs q) p
  · have e : i = xs.length := by omega
    subst e
    exact .inl ⟨⟨xs, q, Nat.le_refl _⟩, hd H p⟩
theorem st_in {K : PySem.W.Frag} {a : Addr} {xs : List V} {g1 : TG} {tt1 : TT} {vs1 : List Nat} {σ2 : L2.St} {H4 : Hp} {Nx : Hp → Prop} {Put : V → Hp → (Hp → Prop) → Prop} {te : TE} (Pv : Nat → Hp → Prop) (h0 : Pv 0 H4) (hl : ∀ i H, i ≤ xs.length → Pv i H → SqT K H a xs)
    (hs : ∀ i x H, xs[i]? = some x → Pv i H → g1 x (wipe σ2 vs1) H fun σ3 H5 => wipe σ3 vs1 = wipe σ2 vs1 ∧ tt1 σ3 H5 fun b H6 =>
      if b = true then te σ3 H6 fun y H7 => Put y H7 (Pv (i + 1)) else Pv (i + 1) H6) (hd : ∀ H, Pv xs.length H → Nx H) :
    ∃ W1 : Nat → Nat → Hp → Prop, (∃ m, W1 0 m H4) ∧ ∀ j k H, W1 j k H →
      ((Itt K a).stop j H ∧ Nx H) ∨ ((Itt K a).go j H ∧ ∃ Nx1 : Hp → Prop, (∀ H', Nx1 H' → ∃ k', k' < k ∧ W1 (j + 1) k' H') ∧ ∀ x H', (Itt K a).yld j H x H' → g1 x (wipe σ2 vs1) H' fun σ3 H5 => wipe σ3 vs1 = wipe σ2 vs1 ∧ tt1 σ3 H5 fun b H6 =>
        if b = true then te σ3 H6 fun y H7 => Put y H7 Nx1 else Nx1 H6) := by
  refine ⟨fun i m H => m = xs.length - i ∧ i ≤ xs.length ∧ Pv i H, ⟨xs.length, by simp, Nat.zero_le _, h0⟩, ?_⟩
  rintro i m H ⟨rfl, hi, p⟩
  have q := hl i H hi p
  by_cases hlt : i < xs.length
  · refine .inr ⟨⟨xs, xs[i], q, by simp [hlt]⟩, Pv (i + 1), fun H' p' => ⟨xs.length - (i + 1), by omega, rfl, hlt, p'⟩, fun x H' y => ?_⟩
    obtain ⟨e, y⟩ := y
    subst e
    exact hs i x _ (y xs q) p
  · have e : i = xs.length := by omega
    subst e
    exact .inl ⟨⟨xs, q, Nat.le_refl _⟩, hd H p⟩
theorem tyesT {σ : L2.St} {H : Hp} {A B : Hp → Prop} (h : A H) : tYes σ H (fun b H3 => if b = true then A H3 else B H3) := iteT (A := A H) (B := B H) h
/-! ### the union of lineages -/
abbrev PlL : Type := List (Str × Int)
def plK (p : Str × Int) : List Key := [.inr p.1, .inl p.2]
theorem plK_inj {p q : Str × Int} (e : plK p = plK q) : p = q := by
  unfold plK at e
  simp only [List.cons.injEq, Sum.inr.injEq, Sum.inl.injEq, and_true] at e
  exact Prod.ext e.1 e.2
theorem plK_D (p : Str × Int) : tkD (plK p) = plD p := rfl
def srtL (l : PlL) : PlL := l.mergeSort fun a b => dLe (plD a) (plD b)
theorem srtL_map (l : PlL) : (l.map plD).mergeSort dLe = (srtL l).map plD := (List.map_mergeSort (f := plD) (s := dLe) (r := fun a b => dLe (plD a) (plD b)) fun _ _ _ _ => rfl).symm
theorem srtL_perm {l m : PlL} (h : l.Perm m) : srtL l = srtL m := by
  have e := srt_perm h
  rw [srtL_map, srtL_map] at e
  have inj : ∀ {a b : PlL}, a.map plD = b.map plD → a = b := by
    intro a
    induction a with
    | nil =>
      intro b e
      cases b with
      | nil => rfl
      | cons _ _ => cases e
    | cons x a ih =>
      intro b e
      cases b with
      | nil => cases e
      | cons y b =>
        rw [List.map_cons, List.map_cons] at e
        obtain ⟨e1, e2⟩ := List.cons.inj e
        rw [plD_inj (congrArg PySem.W.keyToks e1), ih e2]
  exact inj e
theorem srtL_mem {l : PlL} {p : Str × Int} : p ∈ srtL l ↔ p ∈ l := (List.mergeSort_perm l _).mem_iff
theorem srtL_nd {l : PlL} (h : l.Nodup) : (srtL l).Nodup := (List.mergeSort_perm l _).nodup_iff.mpr h
theorem srtL_len {l : PlL} : (srtL l).length = l.length := (List.mergeSort_perm l _).length_eq
/-- all of them, each once, as they come -/
def allL (ls : List PlL) : PlL := ls.foldl (fun acc l => acc ++ l.filter fun p => decide (p ∉ acc)) []
def unL (ls : List PlL) : PlL := srtL (allL ls)
theorem allL_snoc (ls : List PlL) (l : PlL) : allL (ls ++ [l]) = allL ls ++ l.filter fun p => decide (p ∉ allL ls) := by
  unfold allL
  rw [List.foldl_append]
  rfl
theorem snoc_ind {α : Type} {P : List α → Prop} (h0 : P []) (h1 : ∀ l x, P l → P (l ++ [x])) (l : List α) : P l := by
  have : ∀ m : List α, P m.reverse := fun m => by
    induction m with
    | nil => exact h0
    | cons x m ih => rw [List.reverse_cons]; exact h1 _ _ ih
  have := this l.reverse
  rwa [List.reverse_reverse] at this
theorem allL_mem {ls : List PlL} {p : Str × Int} : p ∈ allL ls ↔ ∃ l ∈ ls, p ∈ l := by
  induction ls using snoc_ind with
  | h0 => simp [allL]
  | h1 ls l ih =>
    rw [allL_snoc, List.mem_append, List.mem_filter]
    constructor
    · rintro (h | ⟨h1, _⟩)
      · obtain ⟨m, h1, h2⟩ := ih.mp h
        exact ⟨m, List.mem_append_left _ h1, h2⟩
      · exact ⟨l, List.mem_append_right _ List.mem_cons_self, h1⟩
    · rintro ⟨m, h1, h2⟩
      by_cases z : ∃ l ∈ ls, p ∈ l
      · exact .inl (ih.mpr z)
      · rcases List.mem_append.mp h1 with h1 | h1
        · exact .inl (ih.mpr ⟨m, h1, h2⟩)
        · rw [List.mem_singleton.mp h1] at h2
          exact .inr ⟨h2, decide_eq_true fun q => z (ih.mp q)⟩
theorem allL_nd {ls : List PlL} (h : ∀ l ∈ ls, l.Nodup) : (allL ls).Nodup := by
  induction ls using snoc_ind with
  | h0 => exact List.nodup_nil
  | h1 ls l ih =>
    rw [allL_snoc]
    refine List.nodup_append.mpr ⟨ih fun m hm => h m (List.mem_append_left _ hm), (h l (List.mem_append_right _ List.mem_cons_self)).sublist List.filter_sublist, fun a ha b hb e => ?_⟩
    subst e
    exact of_decide_eq_true (List.mem_filter.mp hb).2 ha
theorem unL_mem {ls : List PlL} {p : Str × Int} : p ∈ unL ls ↔ ∃ l ∈ ls, p ∈ l := srtL_mem.trans allL_mem
theorem unL_nd {ls : List PlL} (h : ∀ l ∈ ls, l.Nodup) : (unL ls).Nodup := srtL_nd (allL_nd h)
/-- whatever order a list without repeats comes in -/
theorem unL_any {ls : List PlL} (h : ∀ l ∈ ls, l.Nodup) {m : PlL} (nd : m.Nodup) (hm : ∀ p, p ∈ m ↔ ∃ l ∈ ls, p ∈ l) : srtL m = unL ls :=
  srtL_perm ((List.perm_ext_iff_of_nodup nd (allL_nd h)).mpr fun p => (hm p).trans allL_mem.symm)
end Lc
set_option Elab.async false
set_option linter.all false
set_option maxRecDepth 100000
set_option maxHeartbeats 4000000
namespace K12
open PySem PySem.Spec PyProof.Rows L2 Lc
/-! ## rows and lineages -/
abbrev Lin : Type := List (Str × Int)
/-- the parts that lineages have -/
def linU : Lin := (["a", "b", "aa", "z9"] : List Str).flatMap fun z => (List.range 12).map fun i : Nat => (z, Int.ofNat i)
theorem linU_len : linU.length = 48 := by decide +kernel
def partD (p : Str × Int) : PyData := .tuple [.str p.1, .int p.2]
def linD (l : Lin) : PyData := .tuple (l.map partD)
structure RowD where
  vals : List PyData
  lin : Lin
def RowD.d (r : RowD) : PyData := .tuple [.tuple r.vals, linD r.lin]
def PartOk (p : Str × Int) : Prop := Sh 12 p.1 ∧ 0 ≤ p.2 ∧ p.2 < 400
def LinOk (l : Lin) : Prop := l.Nodup ∧ ∀ p ∈ l, PartOk p
theorem lin_get {H : Hp} {xs : List V} {l : Lin} {i : Nat} {x : V} (h : DhAll H xs (l.map partD)) (e : xs[i]? = some x) : ∃ p a, l[i]? = some p ∧ x = .ref a ∧ H a = some (.tup [.str p.1, .int p.2]) := by
  obtain ⟨d, e1, e2⟩ := h.get i x e
  rw [List.getElem?_map] at e1
  cases q : l[i]? with
  | none => rw [q] at e1; cases e1
  | some p =>
    rw [q] at e1
    cases e1
    cases e2 with
    | tup ea hs =>
      cases hs with
      | cons h1 r1 =>
        cases r1 with
        | cons h2 r2 =>
          cases r2
          cases h1
          cases h2
          exact ⟨p, _, rfl, rfl, ea⟩
/-- data of parts -/
theorem parts_of : ∀ {es : List PyData}, (∀ e ∈ es, ∃ p, PartOk p ∧ e = partD p) → ∃ l : Lin, es = l.map partD ∧ ∀ p ∈ l, PartOk p
  | [], _ => ⟨[], rfl, nofun⟩
  | e :: es, h => by
    obtain ⟨l, e1, e2⟩ := parts_of (es := es) fun x hx => h x (List.mem_cons_of_mem _ hx)
    obtain ⟨p, h1, h2⟩ := h e List.mem_cons_self
    exact ⟨p :: l, by rw [List.map_cons, e1, h2], fun q hq => by
      rcases List.mem_cons.mp hq with rfl | hq
      · exact h1
      · exact e2 q hq⟩
theorem part_tm {p : Str × Int} (h : PartOk p) : Tm 1 40100 (partD p) := by
  have h1 : Tm 0 20000 (.str p.1) := tm_fl (v := .str p.1) (fl_str h.1 (by decide))
  have h2 : Tm 0 20000 (.int p.2) := tm_fl (v := .int p.2) (fl_int (by
    have := h.2
    exact Nat.lt_of_lt_of_le (show p.2.natAbs < 2 ^ 10 by omega) (Nat.pow_le_pow_right (by decide) (by decide))))
  have := tm_tup (k := 0) (n := 20000) (ds := [.str p.1, .int p.2]) fun d hd => by
    simp only [List.mem_cons, List.not_mem_nil, or_false] at hd
    rcases hd with rfl | rfl
    · exact h1
    · exact h2
  exact this.mono (Nat.le_refl _) (by show 20000 * 2 + 2 * 2 + 4 ≤ 40100; decide)
theorem hu65 {A : Around} {k : Nat} (hr : Room k A) : A.units + 65 < cLine := by
  have := hr.un
  omega
theorem can_strL {x : Str} (h : ∀ c ∈ x.cps.toList, c < 1114112) : (PyData.str x).canLay0 = true := by
  unfold PyData.canLay0
  show x.cps.all (· < 1114112) = true
  rw [← Array.all_toList, List.all_eq_true]
  intro c hc
  exact decide_eq_true (h c hc)
theorem part_lay {p : Str × Int} (h : PartOk p) : (partD p).canLay0 = true ∧ (partD p).depth = 1 := by
  have c := can_strL h.1.ok
  unfold partD
  refine ⟨?_, by simp [PyData.depth, PyData.depthAll]⟩
  rw [PyData.canLay0, PyData.canLayAll0, c, PyData.canLayAll0, PyData.canLayAll0]
  rfl
theorem parts_lay {l : Lin} (h : ∀ p ∈ l, PartOk p) : PyData.canLayAll0 (l.map partD) = true ∧ PyData.depthAll (l.map partD) ≤ 1 := by
  induction l with
  | nil => exact ⟨rfl, by decide⟩
  | cons p l ih =>
    have ih := ih fun q hq => h q (List.mem_cons_of_mem _ hq)
    have hp := part_lay (h p List.mem_cons_self)
    refine ⟨?_, ?_⟩
    · rw [List.map_cons, PyData.canLayAll0, hp.1, ih.1]
      rfl
    · rw [List.map_cons, PyData.depthAll, hp.2]
      omega
theorem parts_shp {l : Lin} (h : ∀ p ∈ l, PartOk p) : SeqAt.shaped (.list (l.map partD)) = true := by
  unfold SeqAt.shaped
  rw [PyData.canLay0, (parts_lay h).1, Bool.true_and]
  refine decide_eq_true ?_
  rw [PyData.depth]
  have := (parts_lay h).2
  omega
theorem part_shp {p : Str × Int} (h : PartOk p) : SeqAt.shaped (partD p) = true := by
  unfold SeqAt.shaped
  rw [(part_lay h).1, (part_lay h).2]
  rfl
theorem parts_dh {H : Hp} {xs : List V} {l : Lin} (h : DhAll H xs (l.map partD)) : ∀ x ∈ xs, ∃ b, x = V.ref b := fun x hx => by
  obtain ⟨i, hi⟩ := List.getElem?_of_mem hx
  obtain ⟨p, a, _, e, _⟩ := lin_get h hi
  exact ⟨a, e⟩
theorem parts_alike (l : Lin) : PySem.W.AllAlike (l.map partD) ∧ PySem.W.Sortable (l.map partD) ∧ ∀ d ∈ l.map partD, d.hasDict = false ∧ d.depth ≤ 50 := by
  refine ⟨fun d hd e he => ?_, .inl fun d hd => ?_, fun d hd => ?_⟩
  · obtain ⟨p, _, rfl⟩ := List.mem_map.mp hd
    obtain ⟨q, _, rfl⟩ := List.mem_map.mp he
    rfl
  · obtain ⟨p, _, rfl⟩ := List.mem_map.mp hd
    exact ⟨_, _, rfl⟩
  · obtain ⟨p, _, rfl⟩ := List.mem_map.mp hd
    exact ⟨by simp [partD, PyData.hasDict, PyData.hasDictAll], by simp [partD, PyData.depth, PyData.depthAll]⟩
theorem lin_mem {z : Str} {q : Int} (mz : z ∈ (["a", "b", "aa", "z9"] : List Str)) (h0 : 0 ≤ q) (h1 : q < 12) : (z, q) ∈ linU := by
  unfold linU
  refine List.mem_flatMap.mpr ⟨z, mz, List.mem_map.mpr ⟨q.toNat, List.mem_range.mpr (by omega), ?_⟩⟩
  rw [show Int.ofNat q.toNat = q from Int.toNat_of_nonneg h0]
theorem eqv_part (a b : Str × Int) : PyData.eqv (partD a) (partD b) = decide (a = b) := by
  obtain ⟨a1, a2⟩ := a
  obtain ⟨b1, b2⟩ := b
  show PyData.eqv (.tuple [.str a1, .int a2]) (.tuple [.str b1, .int b2]) = _
  simp only [PyData.eqv, PyData.eqvAll, Bool.and_true]
  by_cases h1 : a1 = b1
  · by_cases h2 : a2 = b2
    · subst h1; subst h2
      simp
    · have : (a2 == b2) = false := beq_eq_false_iff_ne.mpr h2
      rw [this]
      simp [h2]
  · have : (a1 == b1) = false := beq_eq_false_iff_ne.mpr h1
    rw [this]
    simp [h1]
theorem any_part (l : Lin) (p : Str × Int) : ((l.map partD).any fun z => PyData.eqv z (partD p)) = decide (p ∈ l) := by
  rw [List.any_map]
  by_cases h : p ∈ l
  · rw [decide_eq_true h]
    exact List.any_eq_true.mpr ⟨p, h, by show PyData.eqv (partD p) (partD p) = true; rw [eqv_part]; exact decide_eq_true rfl⟩
  · rw [decide_eq_false h]
    refine List.any_eq_false.mpr fun q hq => ?_
    show ¬ PyData.eqv (partD q) (partD p) = true
    rw [eqv_part]
    simpa using fun e => h (by rw [← e]; exact hq)
theorem part_new {l : Lin} {p : Str × Int} (h : (!(l.map partD).any fun z => PyData.eqv z (partD p)) = true) (nd : l.Nodup) : (l ++ [p]).Nodup := by
  rw [any_part] at h
  have h : p ∉ l := by simpa using h
  exact List.nodup_append.mpr ⟨nd, List.nodup_cons.mpr ⟨nofun, List.nodup_nil⟩, fun a ha b hb e => h (by rw [← List.mem_singleton.mp hb, ← e]; exact ha)⟩
theorem partD_inj {a b : Str × Int} (e : partD a = partD b) : a = b := plD_inj (congrArg PySem.W.keyToks e)
theorem map_partD_inj : ∀ {a b : Lin}, a.map partD = b.map partD → a = b
  | [], [], _ => rfl
  | [], _ :: _, e => by cases e
  | _ :: _, [], e => by cases e
  | x :: a, y :: b, e => by
    rw [List.map_cons, List.map_cons] at e
    obtain ⟨e1, e2⟩ := List.cons.inj e
    rw [partD_inj e1, map_partD_inj e2]
/-- a drawn lineage -/
def spFar : Sp := fun vs H Q _ => ∃ (t c : Addr), vs = [.ref t] ∧ TapeL c H t ∧ ∀ (v : V) (l : Lin) (H' : Hp), Dh H' v (linD l) → LinOk l → l.length ≤ 4 → (∀ p ∈ l, p ∈ linU) → TapeL c H' t → SameB t H H' → Q v H'
section
variable {P : Program} {w : World} {K : PySem.W.Frag} {mg : Str → Option Value} {base : Heap} {f : Addr} {fd : FuncData}
abbrev sFar : Stmt := top 49
abbrev nFar : List Str := ["_law_tape_here", "_law_found", "_law_k", "_law_part"]
abbrev pFar : List Str := ["_law_tape_here"]
theorem scFar : FnScope nFar pFar (defScope sFar) := ⟨rfl, rfl, rfl, by decide +kernel, rfl, by decide +kernel, by decide +kernel⟩
section
variable {fA_ : Addr} {fdA_ : FuncData}
theorem ok_Far (F : Fun K "_law_lineage" "_law_lineage" sFar f fd) (T : Bt mg) (mS : mg "sorted" = none)
    (GA_ : FnOk P w K mg base CX0 1 fA_ fdA_ ["_law_tape_here", "_law_many"] (spDrawL)) (mA_ : mg "_law_draw" = some (.ref fA_)) (kA_ : PySem.W.keepIn K (.ref fA_) = true) (bA_ : Binds K fdA_ ["_law_tape_here", "_law_many"] []) : FnOk P w K mg base CX0 2 f fd pFar (spFar) := by
  refine F.ok scFar (fun vs H Q E h => ?_) (fun cdv A outer s H vs Q E hr h => ?_)
  · obtain ⟨t, c, rfl, _⟩ := h
    rfl
  · obtain ⟨t, c, rfl, hT, k⟩ := h
    have hrA_ : Room (1) _ := hr.mono (by first | decide | omega)
    refine ⟨_, (pss_cons (ps_set (i := 1) scFar.nd rfl (Or.inl rfl) (pe_lst pa_nil))
      (pss_cons (ps_for PassesOwn.never rfl (pi_range1 (by rfl) T.range (pa_cons (pe_call GA_ hrA_ (by rfl) mA_ kA_ bA_ .nil pass0 (pa_cons (pv 0) (pa_cons pe_int pa_nil))) pa_nil)) (pg_name (i := 2) scFar.nd rfl (.inl rfl)) (pss_cons (ps_set (i := 3) scFar.nd rfl (Or.inl rfl) (pe_tup (pa_cons (pe_ix ix_list (pe_lst (pa_cons pe_str (pa_cons pe_str (pa_cons pe_str (pa_cons pe_str pa_nil))))) (pe_call GA_ hrA_ (by rfl) mA_ kA_ bA_ .nil pass0 (pa_cons (pv 0) (pa_cons pe_int pa_nil))) (fun _ _ => rfl)) (pa_cons (pe_call GA_ hrA_ (by rfl) mA_ kA_ bA_ .nil pass0 (pa_cons (pv 0) (pa_cons pe_int pa_nil))) pa_nil))))
      (pss_one (ps_if (pt_cmpR (op_notInD (hu65 hr)) (pv 3) (pv 1) (by rfl)) (pss_one (ps_expr (pe_bm PySem.F.plainAttrs_list PySem.F.slot_list_append PySem.F.type_list_append mt_append (pv 1) (pa_cons (pv 3) pa_nil)))) pss_nil))))
      (pss_one (ps_ret (pe_callTy call_tuple_of (by rfl) T.tuple boot_tuple (pa_cons (pe_callB (call_sortedDt hr.units) (by rfl) mS (by decide +kernel) (pa_cons (pv 1) pa_nil)) pa_nil)))))), ?_⟩
    have two : 2 ≤ sizeLine := by decide
    have four : 4 ≤ sizeLine := by decide
    refine ⟨by show 0 ≤ sizeLine; decide, fun L hL => ?_⟩
    have zL := Same.upd (o := .lst []) hL
    have eL : upd H L (.lst []) L = some (.lst []) := upd_same
    have nt : L ≠ t := hT.tape.ne hL
    have nc : L ≠ c := by
      obtain ⟨xs, e⟩ := hT.list
      exact (ne_of_none e hL).symm
    have T1 := hT.same zL
    generalize upd H L (.lst []) = H1 at zL eL T1 ⊢
    refine ⟨_, rfl, t, c, _, rfl, T1, by decide, big1000 (by decide) (by decide), fun m H2 m0 m5 T2 S2 => ⟨m, rfl, by omega, by omega, for_range (n := m.toNat) (fun i σ H' => (∃ x2 x3 : Option V, σ = [some (.ref t), some (.ref L), x2, x3]) ∧ (∃ (xs : List V) (l : Lin), H' L = some (.lst xs) ∧ DhAll H' xs (l.map partD) ∧ l.length ≤ i ∧ LinOk l ∧ ∀ p ∈ l, p ∈ linU) ∧ TapeL c H' t ∧ SameB t H H') ⟨⟨_, _, rfl⟩, ⟨[], [], S2 _ _ nt eL, .nil, Nat.le_refl _, ⟨List.nodup_nil, nofun⟩, nofun⟩, T2, (Same.b t zL).trans S2⟩ ?_ ?_⟩⟩
    · rintro i σ H3 hi ⟨⟨x2, x3, rfl⟩, ⟨xs, l, e3, d3, ll, ok, mu⟩, T3, S3⟩
      refine ⟨four, fun Y hY => ?_⟩
      have zY := Same.upd (o := .lst [.str "a", .str "b", .str "aa", .str "z9"]) hY
      have nY := T3.tape.ne hY
      refine ⟨_, rfl, t, c, _, rfl, T3.same zY, by decide, big1000 (by decide) (by decide), fun j H4 j0 j4 T4 S4 => ?_⟩
      have all : ∀ v ∈ ([.str "a", .str "b", .str "aa", .str "z9"] : List V), ∃ z : Str, v = .str z ∧ Sh 12 z ∧ z ∈ (["a", "b", "aa", "z9"] : List Str) := by
        intro v hv
        simp only [List.mem_cons, List.not_mem_nil, or_false] at hv
        rcases hv with rfl | rfl | rfl | rfl <;> exact ⟨_, rfl, ⟨by decide +kernel, by decide +kernel⟩, by decide +kernel⟩
      have hj : j.toNat < ([.str "a", .str "b", .str "aa", .str "z9"] : List V).length := by show j.toNat < 4; omega
      obtain ⟨z, ez, sz, mz⟩ := all _ (List.getElem_mem hj)
      refine ⟨Y, _, _, _, rfl, rfl, SqL.of (S4 _ _ nY upd_same), at_of (j := j.toNat) (by omega) ((List.getElem?_eq_getElem hj).trans (congrArg some ez)), ?_⟩
      refine ⟨_, rfl, t, c, _, rfl, T4, by decide, big1000 (by decide) (by decide), fun q H5 q0 q4 T5 S5 => ⟨two, fun p hp => ?_⟩⟩
      have S35 : SameB t H3 H5 := ((Same.b t zY).trans S4).trans S5
      have zp := Same.upd (o := .tup [.str z, .int q]) hp
      have ep : upd H5 p (.tup [.str z, .int q]) p = some (.tup [.str z, .int q]) := upd_same
      have e6 := zp _ _ (S35 _ _ nt e3)
      have T6 := T5.same zp
      have S6 : SameB t H3 (upd H5 p (.tup [.str z, .int q])) := S35.trans (Same.b t zp)
      have nl : ∀ l : Lin, noLs (l.map partD) = true := fun l => noLs_all.mpr fun d hd => by
        obtain ⟨_, _, rfl⟩ := List.mem_map.mp hd
        rfl
      have d6 := DhAll.t (SameT.b T3.tape S6) d3 (nl l)
      have hp0 : H p = none := S3.free T3.tape (S35.free T5.tape hp)
      generalize upd H5 p (.tup [.str z, .int q]) = H6 at ep e6 T6 S6 d6 ⊢
      have pok : PartOk (z, q) := ⟨sz, q0, by show q < 400; omega⟩
      have dp : Dh H6 (.ref p) (partD (z, q)) := .tup ep (.cons (.str _) (.cons (.int _) .nil))
      have nd1 : (partD (z, q)).hasDict = false := PyData.hasDict_of_canLay _ (part_lay pok).1
      have nd2 : (PyData.list (l.map partD)).hasDict = false := PyData.hasDict_of_canLay _ (SeqAt.canLay_of_shaped (parts_shp ok.2))
      refine ⟨_, rfl, _, rfl, partD (z, q), l.map partD, dp.dp nd1, (Dh.lst e6 d6).dp nd2, part_shp pok, parts_shp ok.2, _, rfl, ite2 (fun nq => ?_) (fun _ => ⟨⟨_, _, rfl⟩, ⟨xs, l, e6, d6, by omega, ok, mu⟩, T6, S3.trans S6⟩)⟩
      have lx := d6.len
      rw [List.length_map] at lx
      refine ⟨_, rfl, .inl ⟨rfl, _, SqL.of e6⟩, _, rfl, L, _, _, rfl, rfl, e6, Nat.lt_of_le_of_lt (show xs.length ≤ 5 by omega) (by decide), ⟨⟨_, _, rfl⟩, ⟨xs ++ [.ref p], l ++ [(z, q)], upd_same, ?_, by rw [List.length_append]; show l.length + 1 ≤ i + 1; omega, ⟨part_new nq ok.1, fun r hr => ?_⟩, fun r hr => ?_⟩, T6.upd nt nc, fun b o n e => by rw [upd_ne (ne_of_none e hL)]; exact (S3.trans S6) b o n e⟩⟩
      · rw [List.map_append]
        exact DhAll.append (DhAll.t (SameT.lst e6) d6 (nl l)) (.cons (dp.t (SameT.lst e6) rfl) .nil)
      · rcases List.mem_append.mp hr with hr | hr
        · exact ok.2 r hr
        · rw [List.mem_singleton.mp hr]
          exact pok
      · rcases List.mem_append.mp hr with hr | hr
        · exact mu r hr
        · rw [List.mem_singleton.mp hr]
          exact lin_mem mz q0 q4
    · rintro σ H3 ⟨⟨x2, x3, rfl⟩, ⟨xs, l, e3, d3, ll, ok, mu⟩, T3, S3⟩
      obtain ⟨al, so, dp⟩ := parts_alike l
      refine ⟨_, rfl, L, xs, l.map partD, rfl, SqL.of e3, parts_dh d3, d3, al, so, dp, fun ys p pm dy hp => ?_⟩
      have zp := Same.upd (o := .lst ys) hp
      refine ⟨p, ys, rfl, .inl ⟨SqL.of upd_same, fun r hr => ?_⟩⟩
      have zr := Same.upd (o := .tup ys) hr
      have pm2 := List.mergeSort_perm (l.map partD) dLe
      obtain ⟨l', e', ok'⟩ := parts_of (es := (l.map partD).mergeSort dLe) fun e he => by
        obtain ⟨q, hq, rfl⟩ := List.mem_map.mp (pm2.mem_iff.mp he)
        exact ⟨q, ok.2 q hq, rfl⟩
      have e2 : l' = srtL l := map_partD_inj (by rw [← e']; exact srtL_map l)
      have nd' : l'.Nodup := by
        rw [e2]
        exact srtL_nd ok.1
      have l4' : l'.length ≤ 4 := by
        rw [e2, srtL_len]
        omega
      have mu' : ∀ p ∈ l', p ∈ linU := fun p hp => mu p (srtL_mem.mp (by rw [← e2]; exact hp))
      exact k _ l' _ (.tup upd_same (by rw [← e']; exact (DhAll.same (zp.trans zr) dy))) ⟨nd', ok'⟩ l4' mu' (T3.same (zp.trans zr)) (S3.trans (Same.b t (zp.trans zr)))
end
end
end K12
set_option Elab.async false
set_option linter.all false
set_option maxRecDepth 100000
set_option maxHeartbeats 4000000
namespace K12
open PySem PySem.Spec PyProof.Rows L2 Lc
/-! ## tables -/
abbrev sTI : Stmt := inClass (top 12) 0
abbrev sTC : Stmt := inClass (top 12) 1
abbrev sTR : Stmt := inClass (top 12) 2
structure TbF (K : PySem.W.Frag) (mg : Str → Option Value) (C fI : Addr) : Prop where
  mkC : Mk K C fI
  cls : Cls K C
  a1 : NoAttr K C "shape"
  a2 : NoAttr K C "body"
  gC : mg "Table" = some (.ref C)
abbrev RowsL : Type := List (V × RowD)
def fsT (cv bv : Addr) : List (Str × V) := [("shape", .ref cv), ("body", .ref bv)]
def RowsAt (H : Hp) (rs : RowsL) : Prop := ∀ r ∈ rs, Dh H r.1 r.2.d
def RowsOk (rs : RowsL) : Prop := ∀ r ∈ rs, noLs r.2.vals = true ∧ LinOk r.2.lin
def IsTb (C : Addr) (H : Hp) (a cv : Addr) (rs : RowsL) : Prop := ∃ dx bv, H a = some (.ins C dx (fsT cv bv)) ∧ H bv = some (.tup (rs.map (·.1))) ∧ RowsAt H rs
theorem lin_noL (l : Lin) : noL (linD l) = true := by
  unfold linD
  rw [noL]
  refine noLs_all.mpr fun d hd => ?_
  obtain ⟨p, _, rfl⟩ := List.mem_map.mp hd
  rfl
theorem row_noL {r : RowD} (h : noLs r.vals = true) : noL r.d = true := by
  unfold RowD.d
  rw [noL, noLs, noL, h, noLs, lin_noL, noLs]
  rfl
theorem RowsAt.t {H H' : Hp} {rs : RowsL} (h : RowsAt H rs) (s : SameT H H') (o : RowsOk rs) : RowsAt H' rs := fun r hr => (h r hr).t s (row_noL (o r hr).1)
theorem RowsAt.same {H H' : Hp} {rs : RowsL} (h : RowsAt H rs) (s : Same H H') : RowsAt H' rs := fun r hr => (h r hr).same s
theorem IsTb.same {C : Addr} {H H' : Hp} {a cv : Addr} {rs : RowsL} (h : IsTb C H a cv rs) (s : Same H H') : IsTb C H' a cv rs := by
  obtain ⟨dx, bv, h1, h2, h3⟩ := h
  exact ⟨dx, bv, s _ _ h1, s _ _ h2, h3.same s⟩
/-- the tape alone changes -/
theorem IsTb.b {C t : Addr} {H H' : Hp} {a cv : Addr} {rs : RowsL} (h : IsTb C H a cv rs) (T : Tape H t) (s : SameB t H H') (o : RowsOk rs) : IsTb C H' a cv rs := by
  obtain ⟨dx, bv, h1, h2, h3⟩ := h
  obtain ⟨_, _, _, _, _, q, _⟩ := id T
  exact ⟨dx, bv, s _ _ (ne_of h1 q nofun) h1, SameT.b T s _ _ h2, h3.t (SameT.b T s) o⟩
theorem IsTb.upd {C : Addr} {H : Hp} {a cv b : Addr} {rs : RowsL} {u o : HO} (h : IsTb C H a cv rs) (hb : H b = some u) (nu : (∀ xs, u ≠ .tup xs) ∧ ∀ c d f, u ≠ .ins c d f) (ok : RowsOk rs) : IsTb C (upd H b o) a cv rs := by
  obtain ⟨dx, bv, h1, h2, h3⟩ := h
  have st : SameT H (L2.upd H b o) := fun x xs e => by rw [upd_ne (ne_of e hb fun z => nu.1 _ z.symm)]; exact e
  exact ⟨dx, bv, by rw [upd_ne (ne_of h1 hb fun z => nu.2 _ _ _ z.symm)]; exact h1, st _ _ h2, h3.t st ok⟩
def spTI (C : Addr) : Sp := fun vs H Q _ => ∃ (a dx cv R : Addr) (rs : RowsL), vs = [.ref a, .ref cv, .ref R] ∧ H a = some (.ins C dx []) ∧ (H R = some (.lst (rs.map (·.1))) ∨ H R = some (.tup (rs.map (·.1)))) ∧ RowsAt H rs ∧ RowsOk rs ∧
  ∀ H', SameB a H H' → IsTb C H' a cv rs → Q .non H'
def spTC (C : Addr) : Sp := fun vs H Q _ => ∃ (a cv : Addr) (rs : RowsL), vs = [.ref a] ∧ IsTb C H a cv rs ∧ Q (.ref cv) H
def spTR (C : Addr) : Sp := fun vs H Q _ => ∃ (a cv : Addr) (rs : RowsL), vs = [.ref a] ∧ IsTb C H a cv rs ∧ ∀ l, H l = none → Q (.ref l) (upd H l (.lst (rs.map (·.1))))
structure TbM (P : Program) (w : World) (K : PySem.W.Frag) (mg : Str → Option Value) (base : Heap) (C : Addr) : Prop where
  i : ∃ fI fdI, TbF K mg C fI ∧ FnOk P w K mg base CX0 1 fI fdI ["self", "columns", "rows"] (spTI C) ∧ Binds K fdI ["self", "columns", "rows"] []
  c : ∃ fC fdC, Meth K C "columns" fC ∧ FnOk P w K mg base CX0 1 fC fdC ["self"] (spTC C) ∧ Binds K fdC ["self"] []
  r : ∃ fR fdR, Meth K C "rows" fR ∧ FnOk P w K mg base CX0 1 fR fdR ["self"] (spTR C) ∧ Binds K fdR ["self"] []
theorem mk_tb {C cv R : Addr} {rs : RowsL} {H : Hp} {Q : Addr → Hp → Prop} {E : XK} (hR : H R = some (.lst (rs.map (·.1))) ∨ H R = some (.tup (rs.map (·.1)))) (ha : RowsAt H rs) (o : RowsOk rs)
    (k : ∀ (a : Addr) (H' : Hp), Same H H' → H a = none → IsTb C H' a cv rs → Q a H') :
    ∀ x dx, H x = none → H dx = none → dx ≠ x → spTI C [.ref x, .ref cv, .ref R] (L2.upd (L2.upd H dx (.own x)) x (.ins C dx [])) (fun v H2 => v = .non ∧ Q x H2) E := by
  intro x ex hx hex hne
  have s1 : Same H (L2.upd (L2.upd H ex (.own x)) x (.ins C ex [])) := fun b o' e => by
    rw [upd_ne (ne_of_none e hx), upd_ne (ne_of_none e hex)]
    exact e
  exact ⟨x, ex, cv, R, rs, rfl, upd_same, hR.imp (s1 _ _) (s1 _ _), ha.same s1, o, fun H1 b1 hI1 => ⟨rfl, k x H1 (fun b o' e => b1 b o' (ne_of_none e hx) (s1 b o' e)) hx hI1⟩⟩
section
variable {P : Program} {w : World} {K : PySem.W.Frag} {mg : Str → Option Value} {base : Heap} {f C fI : Addr} {fd : FuncData}
theorem scTI : FnScope ["self", "columns", "rows"] ["self", "columns", "rows"] (defScope sTI) := ⟨rfl, rfl, rfl, by decide +kernel, rfl, by decide +kernel, by decide +kernel⟩
theorem ok_ti (F : Fun K "__init__" "Table.__init__" sTI f fd) (T : Bt mg) (G : TbF K mg C fI) : FnOk P w K mg base CX0 1 f fd ["self", "columns", "rows"] (spTI C) := by
  refine F.ok scTI (fun vs H Q E h => ?_) (fun cdv A outer s H vs Q E hr h => ?_)
  · obtain ⟨a, dx, cv, R, rs, rfl, _⟩ := h
    rfl
  · obtain ⟨a, dx, cv, R, rs, rfl, ha, hR, hrs, o, k⟩ := h
    refine ⟨_, pss_cons (ps_fld (pv 0) (pv 1) (by rfl)) (pss_one (ps_fld (pv 0) (pe_callTy call_tuple_of (by rfl) T.tuple boot_tuple (pa_cons (pv 2) pa_nil)) (by rfl))), ?_⟩
    refine ⟨_, rfl, _, rfl, a, C, dx, _, rfl, ha, G.cls, G.a1, by decide, ?_⟩
    have nR : R ≠ a := by rcases hR with e | e <;> exact ne_of e ha nofun
    have b1 : SameB a H (L2.upd H a (.ins C dx (putF "shape" (.ref cv) []))) := SameB.upd
    have e1 : L2.upd H a (.ins C dx (putF "shape" (.ref cv) [])) a = some (.ins C dx [("shape", .ref cv)]) := upd_same
    have st1 : SameT H (L2.upd H a (.ins C dx (putF "shape" (.ref cv) []))) := SameT.at ha (fun xs => nofun) b1
    dsimp only
    generalize L2.upd H a (.ins C dx (putF "shape" (.ref cv) [])) = H1 at b1 e1 st1 ⊢
    have fin : ∀ (bv : Addr) (H2 : Hp), SameB a H H2 → H2 a = some (.ins C dx [("shape", .ref cv)]) → H2 bv = some (.tup (rs.map (·.1))) → RowsAt H2 rs → ∃ a' C' dx' fs, V.ref a = V.ref a' ∧ H2 a' = some (.ins C' dx' fs) ∧ Cls K C' ∧ NoAttr K C' "body" ∧ fs.length < 1000 ∧ Q .non (L2.upd H2 a' (.ins C' dx' (putF "body" (.ref bv) fs))) := fun bv H2 b2 e2 e3 r2 => by
      refine ⟨a, C, dx, _, rfl, e2, G.cls, G.a2, by show 1 < 1000; decide, ?_⟩
      have b3 : SameB a H2 (L2.upd H2 a (.ins C dx (fsT cv bv))) := SameB.upd
      have st3 : SameT H2 (L2.upd H2 a (.ins C dx (fsT cv bv))) := SameT.at e2 (fun xs => nofun) b3
      exact k _ (b2.trans b3) ⟨dx, bv, upd_same, st3 _ _ e3, r2.t st3 o⟩
    rcases hR with hR | hR
    · refine ⟨_, rfl, R, _, rfl, .inl ⟨SqL.of (b1 _ _ nR hR), fun l hl => ⟨_, rfl, ?_⟩⟩⟩
      have zl := Same.upd (o := .tup (rs.map (·.1))) hl
      exact fin l _ (b1.trans (Same.b a zl)) (zl _ _ e1) upd_same ((hrs.t st1 o).same zl)
    · exact ⟨_, rfl, R, _, rfl, .inr ⟨SqT.of (b1 _ _ nR hR), ⟨_, rfl, fin R _ b1 e1 (b1 _ _ nR hR) (hrs.t st1 o)⟩⟩⟩
theorem scTC : FnScope ["self"] ["self"] (defScope sTC) := ⟨rfl, rfl, rfl, by decide +kernel, rfl, by decide +kernel, by decide +kernel⟩
theorem ok_tc (F : Fun K "columns" "Table.columns" sTC f fd) (G : TbF K mg C fI) : FnOk P w K mg base CX0 1 f fd ["self"] (spTC C) := by
  refine F.ok scTC (fun vs H Q E h => ?_) (fun cdv A outer s H vs Q E hr h => ?_)
  · obtain ⟨a, cv, rs, rfl, _⟩ := h
    rfl
  · obtain ⟨a, cv, rs, rfl, ⟨dx, bv, h1, h2, h3⟩, k⟩ := h
    exact ⟨_, pss_one (ps_ret (pe_fld (pv 0) (by rfl))), ⟨_, rfl, a, C, dx, _, _, rfl, h1, G.cls, G.a1, rfl, k⟩⟩
theorem scTR : FnScope ["self"] ["self"] (defScope sTR) := ⟨rfl, rfl, rfl, by decide +kernel, rfl, by decide +kernel, by decide +kernel⟩
theorem ok_tr (F : Fun K "rows" "Table.rows" sTR f fd) (T : Bt mg) (G : TbF K mg C fI) : FnOk P w K mg base CX0 1 f fd ["self"] (spTR C) := by
  refine F.ok scTR (fun vs H Q E h => ?_) (fun cdv A outer s H vs Q E hr h => ?_)
  · obtain ⟨a, cv, rs, rfl, _⟩ := h
    rfl
  · obtain ⟨a, cv, rs, rfl, ⟨dx, bv, h1, h2, h3⟩, k⟩ := h
    exact ⟨_, pss_one (ps_ret (pe_callTy call_list_of (by rfl) T.list boot_list (pa_cons (pe_fld (pv 0) (by rfl)) pa_nil))), ⟨_, rfl, a, C, dx, _, _, rfl, h1, G.cls, G.a2, rfl, bv, _, rfl, .inr (SqT.of h2), fun l hl => k l hl⟩⟩
end
end K12
set_option Elab.async false
set_option linter.all false
set_option maxRecDepth 100000
set_option maxHeartbeats 4000000
namespace K12
open PySem PySem.Spec PyProof.Rows L2 Lc
/-! ## the union of lineages -/
inductive LinsAt (H : Hp) : List V → List Lin → Prop
  | nil : LinsAt H [] []
  | cons {v : V} {vs : List V} {l : Lin} {ls : List Lin} (h : Dh H v (linD l)) (r : LinsAt H vs ls) : LinsAt H (v :: vs) (l :: ls)
theorem LinsAt.same {H H' : Hp} (s : Same H H') : ∀ {vs : List V} {ls : List Lin}, LinsAt H vs ls → LinsAt H' vs ls
  | _, _, .nil => .nil
  | _, _, .cons h r => .cons (h.same s) (r.same s)
theorem LinsAt.len {H : Hp} : ∀ {vs : List V} {ls : List Lin}, LinsAt H vs ls → vs.length = ls.length
  | _, _, .nil => rfl
  | _, _, .cons h r => by rw [List.length_cons, List.length_cons, r.len]
theorem LinsAt.get {H : Hp} : ∀ {vs : List V} {ls : List Lin}, LinsAt H vs ls → ∀ {i : Nat} {v : V}, vs[i]? = some v → ∃ l, ls[i]? = some l ∧ Dh H v (linD l)
  | _, _, .nil, i, v, e => by simp at e
  | _, _, .cons h r, 0, v, e => by cases e; exact ⟨_, rfl, h⟩
  | _, _, .cons h r, i + 1, v, e => by
    obtain ⟨l, e1, e2⟩ := r.get (i := i) (by simpa using e)
    exact ⟨l, by simpa using e1, e2⟩
theorem LinsAt.snoc {H : Hp} {v : V} {l : Lin} : ∀ {vs : List V} {ls : List Lin}, LinsAt H vs ls → Dh H v (linD l) → LinsAt H (vs ++ [v]) (ls ++ [l])
  | _, _, .nil, g => .cons g .nil
  | _, _, .cons h r, g => .cons h (r.snoc g)
theorem LinsAt.t {H H' : Hp} (s : SameT H H') : ∀ {vs : List V} {ls : List Lin}, LinsAt H vs ls → LinsAt H' vs ls
  | _, _, .nil => .nil
  | _, _, .cons h r => .cons (h.t s (lin_noL _)) (r.t s)
theorem unL_ok {ls : List Lin} (h : ∀ l ∈ ls, LinOk l) : LinOk (unL ls) :=
  ⟨unL_nd fun l hl => (h l hl).1, fun p hp => by
    obtain ⟨l, hl, h1⟩ := unL_mem.mp hp
    exact (h l hl).2 p h1⟩
def spUn : Sp := fun vs H Q _ => ∃ (a : Addr) (xs : List V) (ls : List Lin), vs = [.ref a] ∧ H a = some (.lst xs) ∧ LinsAt H xs ls ∧ (∀ l ∈ ls, LinOk l) ∧ (∃ U : Lin, U.length ≤ 48 ∧ ∀ l ∈ ls, ∀ p ∈ l, p ∈ U) ∧ ∀ (v : V) (H' : Hp), Same H H' → Dh H' v (linD (unL ls)) → Q v H'
/-- the members of the set so far -/
def MemAt (H : Hp) (L : List (Addr × List Key)) (ok : Str × Int → Prop) : Prop := (∀ z ∈ L, ∃ p, z.2 = plK p ∧ ok p ∧ H z.1 = some (.tup (z.2.map kV))) ∧ (L.map (·.2)).Nodup ∧ ∀ p, ok p → plK p ∈ L.map (·.2)
theorem lin_plL (l : Lin) : linD l = .tuple (l.map plD) := rfl
theorem mem_lin {H : Hp} {L : List (Addr × List Key)} {ok : Str × Int → Prop} (h : MemAt H L ok) : ∃ m : Lin, L.map (·.2) = m.map plK ∧ (L.map fun z => tkD z.2) = m.map plD ∧ m.Nodup ∧ ∀ p, p ∈ m ↔ ok p := by
  obtain ⟨h1, h2, h3⟩ := h
  have ex : ∀ {L : List (Addr × List Key)}, (∀ z ∈ L, ∃ p, z.2 = plK p ∧ ok p ∧ H z.1 = some (.tup (z.2.map kV))) → ∃ m : Lin, L.map (·.2) = m.map plK ∧ (L.map fun z => tkD z.2) = m.map plD ∧ ∀ p ∈ m, ok p := by
    intro L
    induction L with
    | nil => exact fun _ => ⟨[], rfl, rfl, nofun⟩
    | cons z L ih =>
      intro h
      obtain ⟨p, e1, e2, _⟩ := h z List.mem_cons_self
      obtain ⟨m, e3, e4, e5⟩ := ih fun y hy => h y (List.mem_cons_of_mem _ hy)
      refine ⟨p :: m, by rw [List.map_cons, List.map_cons, e1, e3], by rw [List.map_cons, List.map_cons, e1, e4]; rfl, fun q hq => ?_⟩
      rcases List.mem_cons.mp hq with rfl | hq
      · exact e2
      · exact e5 q hq
  obtain ⟨m, e1, e2, e3⟩ := ex h1
  rw [e1] at h2 h3
  refine ⟨m, e1, e2, ?_, fun p => ⟨e3 p, fun hp => ?_⟩⟩
  · exact List.Pairwise.of_map (S := fun a b => a ≠ b) (R := fun a b => a ≠ b) plK (fun a b n e => n (by rw [e])) h2
  · obtain ⟨q, hq, e⟩ := List.mem_map.mp (h3 p hp)
    rw [← plK_inj e]
    exact hq
theorem MemAt.congr {H : Hp} {L : List (Addr × List Key)} {ok ok' : Str × Int → Prop} (h : MemAt H L ok) (e : ∀ p, ok p ↔ ok' p) : MemAt H L ok' :=
  ⟨fun z hz => let ⟨p, h1, h2, h3⟩ := h.1 z hz; ⟨p, h1, (e p).mp h2, h3⟩, h.2.1, fun p hp => h.2.2 p ((e p).mpr hp)⟩
theorem MemAt.put {P : Program} {w : World} {H : Hp} {L L' Lx : List (Addr × List Key)} {ok : Str × Int → Prop} {D b : Addr} {p : Str × Int} (h : MemAt H L ok) (eD : H D = some (MsO P w D L)) (hb : H b = some (.tup [.str p.1, .int p.2])) (c1 : plK p ∈ L.map (·.2) → L' = L) (c2 : plK p ∉ L.map (·.2) → L'.Perm ((b, plK p) :: L)) :
    MemAt (upd H D (MsO P w D Lx)) L' fun q => ok q ∨ q = p := by
  obtain ⟨h1, h2, h3⟩ := h
  have st : ∀ {c : Addr} {xs : List V}, H c = some (.tup xs) → upd H D (MsO P w D Lx) c = some (.tup xs) := fun e => by rw [upd_ne (ne_of e eD nofun)]; exact e
  by_cases z : plK p ∈ L.map (·.2)
  · rw [c1 z]
    refine ⟨fun y hy => let ⟨q, e1, e2, e3⟩ := h1 y hy; ⟨q, e1, .inl e2, st e3⟩, h2, fun q hq => ?_⟩
    rcases hq with hq | rfl
    · exact h3 q hq
    · exact z
  · have pm := c2 z
    refine ⟨fun y hy => ?_, (pm.map (·.2)).nodup_iff.mpr (List.nodup_cons.mpr ⟨z, h2⟩), fun q hq => (pm.map (·.2)).mem_iff.mpr ?_⟩
    · rcases List.mem_cons.mp (pm.mem_iff.mp hy) with rfl | hy
      · exact ⟨p, rfl, .inr rfl, st hb⟩
      · obtain ⟨q, e1, e2, e3⟩ := h1 y hy
        exact ⟨q, e1, .inl e2, st e3⟩
    · rcases hq with hq | rfl
      · exact List.mem_cons_of_mem _ (h3 q hq)
      · exact List.mem_cons_self
theorem fun_un (ls : List Lin) (i : Nat) (l : Lin) (e : ls[i]? = some l) (p : Str × Int) : (∃ m ∈ ls.take (i + 1), p ∈ m) ↔ (∃ m ∈ ls.take i, p ∈ m) ∨ p ∈ l := by
  rw [List.take_add_one, e]
  constructor
  · rintro ⟨m, h1, h2⟩
    rcases List.mem_append.mp h1 with h1 | h1
    · exact .inl ⟨m, h1, h2⟩
    · rw [Option.toList_some, List.mem_singleton] at h1
      rw [← h1]
      exact .inr h2
  · rintro (⟨m, h1, h2⟩ | h)
    · exact ⟨m, List.mem_append_left _ h1, h2⟩
    · exact ⟨l, List.mem_append_right _ (by simp), h⟩
section
variable {P : Program} {w : World} {K : PySem.W.Frag} {mg : Str → Option Value} {base : Heap} {f : Addr} {fd : FuncData}
abbrev sUn : Stmt := top 10
abbrev nUn : List Str := ["lineages", "lineage", "place"]
abbrev pUn : List Str := ["lineages"]
theorem scUn : FnScope nUn pUn (defScope sUn) := ⟨rfl, rfl, rfl, by decide +kernel, rfl, by decide +kernel, by decide +kernel⟩
section
theorem ok_Un (F : Fun K "union_of" "union_of" sUn f fd) (T : Bt mg) (mS : mg "sorted" = none) : FnOk P w K mg base CX0 1 f fd pUn (spUn) := by
  refine F.ok scUn (fun vs H Q E h => ?_) (fun cdv A outer s H vs Q E hr h => ?_)
  · obtain ⟨a, xs, ls, rfl, _⟩ := h
    rfl
  · obtain ⟨a, xs, ls, rfl, ha, hl, ok, ⟨U, lU, hU⟩, k⟩ := h
    refine ⟨_, (pss_one (ps_ret (pe_callTy call_tuple_of (by rfl) T.tuple boot_tuple (pa_cons (pe_callB (cr_sortM (by rfl) hr.units) (by rfl) mS (by decide +kernel) (pa_cons (pe_st (own := [("lineage", 1), ("place", 2)]) (vs1 := [2]) (wi := iList K (tVar 0)) (g := (gName 1)) (tt := tYes) (wi1 := iTup K (tVar 1)) (g1 := (gName 2)) (tt1 := tYes) (te := tVar 2) hr.units (by rfl) scUn.nd (pi_list (pv 0)) (blkOk_by (own := [("lineage", 1), ("place", 2)]) (N := nUn) (sc := defScope sUn) (by decide +kernel)) (by decide) (fun _ _ _ _ _ => (pg_name (i := 1) scUn.nd rfl (.inl rfl))) (fun _ _ _ _ _ => pts_nil) (fun _ _ _ _ _ => (pi_tup (pv 1))) (fun _ _ _ _ _ => (pg_name (i := 2) scUn.nd rfl (.inl rfl))) (fun _ _ _ _ _ => pts_nil) (fun _ _ _ _ _ => (pv 2))) pa_nil)) pa_nil)))), ?_⟩
    have hlen := hl.len
    refine ⟨_, rfl, a, rfl, ⟨_, SqL.of ha⟩, fun D hD => st_out (K := K) (a := a) (xs := xs) (fun i H' => (∃ L, H' D = some (MsO P w D L) ∧ MemAt H' L fun p => ∃ m ∈ ls.take i, p ∈ m) ∧ Same H H') ⟨⟨[], upd_same, nofun, List.nodup_nil, fun p ⟨m, h1, _⟩ => by simp at h1⟩, Same.upd hD⟩ (fun i H' _ pr => SqL.of (pr.2 _ _ ha)) ?_ ?_⟩
    · rintro i x H1 hx ⟨⟨L, eD, mL⟩, s1⟩
      obtain ⟨l, el, dl⟩ := hl.get hx
      have lo := ok l (List.mem_of_getElem? el)
      cases dl with
      | @tup b us _ eb hs =>
      refine ⟨rfl, tyesT ?_⟩
      refine ⟨_, rfl, b, rfl, ⟨_, SqT.of (s1 _ _ eb)⟩, st_in (K := K) (a := b) (xs := us) (fun j H' => (∃ L, H' D = some (MsO P w D L) ∧ MemAt H' L fun p => (∃ m ∈ ls.take i, p ∈ m) ∨ p ∈ l.take j) ∧ Same H H') ⟨⟨L, eD, mL.congr fun p => by simp⟩, s1⟩ (fun j H' _ pr => SqT.of (pr.2 _ _ eb)) ?_ ?_⟩
      · rintro j y H2 hy ⟨⟨L2, eD2, mL2⟩, s2⟩
        obtain ⟨p, c, ep, rfl, ec⟩ := lin_get hs hy
        obtain ⟨m, e1, _, nd, hm⟩ := mem_lin mL2
        have hp := lo.2 p (List.mem_of_getElem? ep)
        have l48 : L2.length ≤ 48 := by
          have e2 := congrArg List.length e1
          rw [List.length_map, List.length_map] at e2
          rw [e2]
          refine Nat.le_trans (nd.length_le_of_subset (l₂ := U) fun q hq => ?_) lU
          rcases (hm q).mp hq with ⟨n, h1, h2⟩ | h1
          · exact hU n (List.mem_of_mem_take h1) q h2
          · exact hU l (List.mem_of_getElem? el) q (List.mem_of_mem_take h1)
        refine ⟨rfl, ?_⟩
        dsimp only [tYes]
        refine iteT ⟨_, rfl, c, plK p, L2, rfl, SqT.of (s2 _ _ ec), eD2, fun z hz => ?_, by omega, fun L3 c1 c2 => ⟨⟨L3, upd_same, (mL2.put eD2 (s2 _ _ ec) c1 c2).congr fun q => ?_⟩, fun b' o e => by rw [upd_ne (ne_of_none e hD)]; exact s2 b' o e⟩⟩
        · obtain ⟨_, _, _, h3⟩ := mL2.1 z hz
          exact SqT.of h3
        · rw [List.take_add_one, ep, Option.toList_some, List.mem_append, List.mem_singleton, or_assoc]
      · rintro H2 ⟨⟨L2, eD2, mL2⟩, s2⟩
        have lu := hs.len
        rw [List.length_map] at lu
        rw [lu, List.take_length] at mL2
        exact ⟨⟨L2, eD2, mL2.congr fun p => (fun_un ls i l el p).symm⟩, s2⟩
    rintro H1 ⟨⟨L, eD, mL⟩, s1⟩
    rw [hlen, List.take_length] at mL
    obtain ⟨m, e1, e2, nd, hm⟩ := mem_lin mL
    refine ⟨D, L, rfl, eD, fun z hz => ?_, ?_, fun z hz e => ?_, fun L2 ys p p2 py dy hp => ?_⟩
    · obtain ⟨_, _, _, h3⟩ := mL.1 z hz
      exact h3
    · rw [e2]
      exact fun d hd d' hd' => by
        obtain ⟨x, _, rfl⟩ := List.mem_map.mp hd
        obtain ⟨y, _, rfl⟩ := List.mem_map.mp hd'
        rfl
    · obtain ⟨q, h1, _⟩ := mL.1 z hz
      rw [h1] at e
      cases e
    have e3 : (L2.map fun z => tkD z.2).Perm (m.map plD) := by rw [← e2]; exact p2.map _
    obtain ⟨m2, pm, em⟩ := map_perm_lift plD e3
    rw [em, srtL_map, srtL_perm pm, unL_any (fun l hl => (ok l hl).1) nd hm] at dy
    have zp := Same.upd (o := .lst ys) hp
    refine ⟨p, ys, rfl, .inl ⟨SqL.of upd_same, fun r hr' => ?_⟩⟩
    have zr := Same.upd (o := .tup ys) hr'
    exact k _ _ (s1.trans (zp.trans zr)) (.tup upd_same (DhAll.same (zp.trans zr) dy))
end
end
end K12
set_option Elab.async false
set_option linter.all false
set_option maxRecDepth 100000
set_option maxHeartbeats 4000000
namespace Lc
open PySem PySem.Spec PyProof.Rows L2 PySem.NumText
/-! ## Digits -/
def digs (m : Nat) : List Nat := (Nat.toDigits 10 m).map Char.toNat
theorem digs_small {m : Nat} (h : m < 10) : digs m = [48 + m] := by
  unfold digs
  rw [Nat.toDigits_of_lt_base h]
  have : ∀ k < 10, (Nat.digitChar k).toNat = 48 + k := by decide
  show [(Nat.digitChar m).toNat] = _
  rw [this m h]
theorem digs_big {m : Nat} (h : 10 ≤ m) : digs m = digs (m / 10) ++ [48 + m % 10] := by
  have hm : m % 10 < 10 := Nat.mod_lt m (by decide)
  have t : Nat.toDigits 10 (m / 10) ++ Nat.toDigits 10 (m % 10) = Nat.toDigits 10 (10 * (m / 10) + m % 10) := Nat.toDigits_append_toDigits (by decide) (by omega) hm
  rw [Nat.div_add_mod] at t
  have e := digs_small hm
  unfold digs at e ⊢
  rw [← t, List.map_append, e]
theorem digs_val (m : Nat) : digitsVal (digs m) = m := W.KIN.val_back m
theorem digs_all : ∀ m, AllDigits (digs m) := by
  intro m
  induction m using Nat.strongRecOn with
  | _ m ih =>
    by_cases h : m < 10
    · rw [digs_small h]
      intro c hc
      have : c = 48 + m := by simpa using hc
      omega
    · rw [digs_big (by omega)]
      intro c hc
      rcases List.mem_append.mp hc with hc | hc
      · exact ih (m / 10) (by omega) c hc
      · have : c = 48 + m % 10 := by simpa using hc
        omega
theorem digs_head : ∀ m, ∃ c r, digs m = c :: r ∧ (c = 48 → r = []) := by
  intro m
  have key : ∀ m, ∃ c r, digs m = c :: r ∧ (0 < m → 49 ≤ c) := by
    intro m
    induction m using Nat.strongRecOn with
    | _ m ih =>
      by_cases h : m < 10
      · exact ⟨48 + m, [], digs_small h, fun _ => by omega⟩
      · obtain ⟨c, r, e, g⟩ := ih (m / 10) (by omega)
        refine ⟨c, r ++ [48 + m % 10], ?_, fun _ => g (by omega)⟩
        rw [digs_big (by omega), e]
        rfl
  by_cases z : m = 0
  · exact ⟨48, [], by rw [z]; exact digs_small (by decide), fun _ => rfl⟩
  · obtain ⟨c, r, e, g⟩ := key m
    exact ⟨c, r, e, fun h => by have := g (by omega); omega⟩
theorem digs_len : ∀ (p m : Nat), 0 < p → m < 10 ^ p → (digs m).length ≤ p := by
  intro p
  induction p with
  | zero => intro m h; omega
  | succ p ih =>
    intro m _ h
    by_cases z : m < 10
    · rw [digs_small z]
      simp
    · rw [digs_big (by omega), List.length_append]
      have hp : 0 < p := by
        cases p with
        | zero => omega
        | succ q => omega
      have : m / 10 < 10 ^ p := by
        rw [Nat.div_lt_iff_lt_mul (by decide)]
        rw [Nat.pow_succ] at h
        exact h
      have := ih (m / 10) hp this
      simp only [List.length_cons, List.length_nil]
      omega
def zf (p r : Nat) : List Nat := List.replicate (p - (digs r).length) 48 ++ digs r
theorem zf_len {p r : Nat} (hp : 0 < p) (h : r < 10 ^ p) : (zf p r).length = p := by
  have := digs_len p r hp h
  unfold zf
  rw [List.length_append, List.length_replicate]
  omega
theorem zf_all (p r : Nat) : AllDigits (zf p r) := by
  intro c hc
  rcases List.mem_append.mp hc with hc | hc
  · have := List.eq_of_mem_replicate hc
    omega
  · exact digs_all r c hc
theorem val_from (l : List Nat) : ∀ a : Nat, l.foldl (fun acc c => acc * 10 + (c - 48)) a = a * 10 ^ l.length + digitsVal l := by
  induction l with
  | nil => intro a; simp [digitsVal]
  | cons c l ih =>
    intro a
    show l.foldl _ (a * 10 + (c - 48)) = _
    have e2 : digitsVal (c :: l) = l.foldl (fun acc c => acc * 10 + (c - 48)) (0 * 10 + (c - 48)) := rfl
    rw [ih, e2, ih, List.length_cons, Nat.pow_succ, Nat.zero_mul, Nat.zero_add, Nat.add_mul, Nat.mul_assoc, Nat.mul_comm 10]
    omega
theorem val_app (a b : List Nat) : digitsVal (a ++ b) = digitsVal a * 10 ^ b.length + digitsVal b := by
  unfold digitsVal
  rw [List.foldl_append]
  exact val_from b _
theorem val_zeros (k : Nat) : digitsVal (List.replicate k 48) = 0 := by
  induction k with
  | zero => rfl
  | succ k ih =>
    rw [List.replicate_succ, digitsVal_zero]
    exact ih
theorem zf_val (p r : Nat) : digitsVal (zf p r) = r := by
  unfold zf
  rw [val_app, val_zeros, digs_val]
  omega
/-! ## A text cut at the point -/
def jl : List (List Nat) → List Nat
  | [] => []
  | [x] => x
  | x :: y :: r => x ++ 46 :: jl (y :: r)
theorem cut_eq : ∀ {a b x y : List Nat}, 46 ∉ a → 46 ∉ b → a ++ 46 :: x = b ++ 46 :: y → a = b ∧ x = y
  | [], [], _, _, _, _, e => ⟨rfl, (List.cons.inj e).2⟩
  | [], c :: b, _, _, _, hb, e => absurd (List.cons.inj e).1 (fun z => hb (by rw [z]; exact List.mem_cons_self))
  | c :: a, [], _, _, ha, _, e => absurd (List.cons.inj e).1.symm (fun z => ha (by rw [z]; exact List.mem_cons_self))
  | c :: a, d :: b, x, y, ha, hb, e => by
    obtain ⟨e1, e2⟩ := List.cons.inj e
    obtain ⟨h1, h2⟩ := cut_eq (fun z => ha (List.mem_cons_of_mem _ z)) (fun z => hb (List.mem_cons_of_mem _ z)) e2
    exact ⟨by rw [e1, h1], h2⟩
theorem jl_one {ps : List (List Nat)} {a : List Nat} (hne : a ≠ []) (ha : 46 ∉ a) (e : jl ps = a) : ps = [a] := by
  match ps, e with
  | [], e => exact absurd e.symm hne
  | [x], e => rw [← show x = a from e]
  | x :: y :: r, e => exact absurd (by rw [← show x ++ 46 :: jl (y :: r) = a from e]; simp) ha
theorem jl_two {ps : List (List Nat)} {a b : List Nat} (hf : ∀ p ∈ ps, 46 ∉ p) (ha : 46 ∉ a) (hb : 46 ∉ b) (hne : b ≠ []) (e : jl ps = a ++ 46 :: b) : ps = [a, b] := by
  match ps, hf, e with
  | [], _, e => exact absurd e (by simp [jl])
  | [x], hf, e => exact absurd (by rw [show x = a ++ 46 :: b from e]; simp) (hf x List.mem_cons_self)
  | x :: y :: r, hf, e =>
    obtain ⟨h1, h2⟩ := cut_eq (hf x List.mem_cons_self) ha (show x ++ 46 :: jl (y :: r) = a ++ 46 :: b from e)
    rw [h1, jl_one hne hb h2]
theorem toL_join : ∀ ps : List Str, (Str.join ⟨#[46]⟩ ps).cps.toList = jl (ps.map fun p => p.cps.toList)
  | [] => rfl
  | [x] => rfl
  | x :: y :: r => by
    have ih := toL_join (y :: r)
    have e : Str.join ⟨#[46]⟩ (x :: y :: r) = x ++ ⟨#[46]⟩ ++ Str.join ⟨#[46]⟩ (y :: r) := rfl
    rw [e]
    show (x.cps ++ #[46] ++ (Str.join ⟨#[46]⟩ (y :: r)).cps).toList = _
    rw [Array.toList_append, Array.toList_append, ih]
    show x.cps.toList ++ [46] ++ jl (y.cps.toList :: r.map fun p => p.cps.toList) = x.cps.toList ++ 46 :: jl (y.cps.toList :: r.map fun p => p.cps.toList)
    rw [List.append_assoc]
    rfl
theorem dot_eq : PySem.Str.ofString "." = ⟨#[46]⟩ := by decide +kernel
theorem map_toL {ps : List Str} {ls : List (List Nat)} (h : ps.map (fun p => p.cps.toList) = ls) : ps = ls.map fun l => (⟨l.toArray⟩ : Str) := by
  rw [← h, List.map_map]
  have : ((fun l => (⟨l.toArray⟩ : Str)) ∘ fun p : Str => p.cps.toList) = id := by
    funext p
    obtain ⟨⟨l⟩⟩ := p
    rfl
  rw [this, List.map_id]
theorem split_jl (x : Str) : jl ((Txt.split x ⟨#[46]⟩).map fun p => p.cps.toList) = x.cps.toList := by
  rw [← toL_join, StrLaws.join_split]
theorem split_one {x : Str} (h : 46 ∉ x.cps.toList) (hne : x.cps.toList ≠ []) : Txt.split x ⟨#[46]⟩ = [x] := by
  have e := map_toL (jl_one hne h (split_jl x))
  rw [e]
  obtain ⟨⟨l⟩⟩ := x
  rfl
theorem split_two {x : Str} {a b : List Nat} (e : x.cps.toList = a ++ 46 :: b) (ha : 46 ∉ a) (hb : 46 ∉ b) (hne : b ≠ []) : Txt.split x ⟨#[46]⟩ = [⟨a.toArray⟩, ⟨b.toArray⟩] := by
  refine map_toL (jl_two (fun p hp => ?_) ha hb hne ((split_jl x).trans e))
  obtain ⟨q, hq, rfl⟩ := List.mem_map.mp hp
  exact StrLaws.split_free x 46 q hq
/-! ## Rounding -/
def ab (n : Int) : Int := if n < 0 then -n else n
def nu (n d s : Int) : Int := if n < 0 then -((2 * ab n * s + d) / (2 * d)) else (2 * ab n * s + d) / (2 * d)
theorem ab_nonneg (n : Int) : 0 ≤ ab n := by unfold ab; split <;> omega
theorem ab_nat (n : Int) : ab n = (n.natAbs : Int) := by unfold ab; split <;> omega
theorem nu_ab {n d s : Int} (hd : 0 < d) (hs : 0 < s) : ab (nu n d s) = (2 * ab n * s + d) / (2 * d) ∧ (nu n d s < 0 → n < 0) := by
  have h0 : 0 ≤ (2 * ab n * s + d) / (2 * d) := Int.ediv_nonneg (by have := Int.mul_nonneg (Int.mul_nonneg (by decide : (0:Int) ≤ 2) (ab_nonneg n)) (Int.le_of_lt hs); omega) (by omega)
  unfold nu
  generalize (2 * ab n * s + d) / (2 * d) = q at h0
  split
  · exact ⟨by unfold ab; split <;> omega, fun _ => by assumption⟩
  · exact ⟨by unfold ab; split <;> omega, fun h => by omega⟩
theorem nu_near {n d s : Int} (hd : 0 < d) (hs : 0 < s) : 2 * (ab (nu n d s) * d) ≤ 2 * (ab n * s) + d ∧ 2 * (ab n * s) < 2 * (ab (nu n d s) * d) + d := by
  rw [(nu_ab hd hs).1]
  have e := Int.mul_ediv_add_emod (2 * ab n * s + d) (2 * d)
  have r0 := Int.emod_nonneg (2 * ab n * s + d) (by omega : 2 * d ≠ 0)
  have r1 := Int.emod_lt_of_pos (2 * ab n * s + d) (by omega : 0 < 2 * d)
  generalize (2 * ab n * s + d) / (2 * d) = q at e
  generalize (2 * ab n * s + d) % (2 * d) = r at e r0 r1
  rw [Int.mul_assoc 2 d q, Int.mul_comm d q, Int.mul_assoc 2 (ab n) s] at e
  omega
/-- the same units again -/
theorem nu_again {u s a b : Int} (hs : 0 < s) (hb : 0 < b) (h : a * s = u * b) (hsg : (a < 0) ↔ (u < 0)) : nu a b s = u := by
  have e1 : ab a * s = ab u * b := by
    unfold ab
    by_cases z : a < 0
    · rw [if_pos z, if_pos (hsg.mp z), Int.neg_mul, Int.neg_mul, h]
    · rw [if_neg z, if_neg (fun q => z (hsg.mpr q)), h]
  have e2 : (2 * ab a * s + b) / (2 * b) = ab u := by
    have : 2 * ab a * s + b = b + 2 * b * ab u := by
      rw [Int.mul_assoc, e1, Int.mul_comm (ab u) b, ← Int.mul_assoc]
      omega
    rw [this, Int.add_mul_ediv_left _ _ (by omega : 2 * b ≠ 0), Int.ediv_eq_zero_of_lt (by omega) (by omega)]
    omega
  unfold nu
  rw [e2]
  unfold ab
  by_cases z : a < 0
  · rw [if_pos z, if_pos (hsg.mp z)]
    omega
  · rw [if_neg z, if_neg (fun q => z (hsg.mpr q))]
/-! ## What a decimal looks like -/
def tenP (p : Nat) : Nat := 10 ^ p
def decB (u : Int) (p : Nat) : List Nat := digs (u.natAbs / 10 ^ p) ++ (if p = 0 then [] else 46 :: zf p (u.natAbs % 10 ^ p))
def decL (u : Int) (p : Nat) : List Nat := (if u < 0 then [45] else []) ++ decB u p
end Lc
namespace Lc
open PySem PySem.Spec PyProof.Rows L2 PySem.NumText
theorem appL (x y : Str) : (x ++ y).cps.toList = x.cps.toList ++ y.cps.toList := by
  show (x.cps ++ y.cps).toList = _
  simp
theorem numL (m : Nat) : (PySem.Str.ofString (toString ((m : Nat) : Int))).cps.toList = digs m := W.KIN.signs_num m
theorem zfillL {a : Str} {k r : Nat} (h : a.cps.toList = digs r) : (Txt.zfill a (k : Int)).cps.toList = zf k r := by
  have ln : a.length = (digs r).length := by rw [lenL, h]
  unfold Txt.zfill
  by_cases z : (k : Int) ≤ a.length
  · rw [if_pos z, h]
    unfold zf
    rw [show k - (digs r).length = 0 by omega]
    rfl
  · rw [if_neg z]
    obtain ⟨c, rr, e, _⟩ := digs_head r
    have c0 : a.cps[0]? = some c := by
      rw [← Array.getElem?_toList, h, e]
      rfl
    have cd := digs_all r c (by rw [e]; exact List.mem_cons_self)
    have e2 : zfilled a ((k : Int).toNat - a.length) = Builtin.Str.padded a ((k : Int).toNat - a.length) 0 48 := by
      unfold zfilled
      rw [c0]
      split
      · rename_i q
        injection q with q
        omega
      · rename_i q
        injection q with q
        omega
      · rfl
    rw [e2]
    unfold Builtin.Str.padded zf
    show (Array.replicate ((k : Int).toNat - a.length) 48 ++ a.cps ++ Array.replicate 0 48).toList = _
    rw [Array.toList_append, Array.toList_append, Array.toList_replicate, Array.toList_replicate, h, ln]
    simp
theorem nu_le {n d s : Int} (hd : 0 < d) (hs : 0 < s) : ab (nu n d s) ≤ ab n * s := by
  have h := (nu_near (n := n) hd hs).1
  have N0 : 0 ≤ ab n * s := Int.mul_nonneg (ab_nonneg n) (Int.le_of_lt hs)
  generalize ab n * s = N at h N0
  generalize ab (nu n d s) = U at h
  rcases (by omega : N < U ∨ U ≤ N) with z | z
  · have a1 : (N + 1) * d ≤ U * d := Int.mul_le_mul_of_nonneg_right (by omega) (by omega)
    have a2 : N * 1 ≤ N * d := Int.mul_le_mul_of_nonneg_left (by omega) N0
    rw [Int.add_mul, Int.one_mul] at a1
    omega
  · exact z
inductive Pk (H : Hp) : V → Prop
  | ty {v : V} {t : String} (h : TyN H v t) (n : t ≠ "int") : Pk H v
  | out {k : Int} (h : k < 0 ∨ 9 < k) : Pk H (.int k)
theorem Pk.same {H H' : Hp} {v : V} (h : Pk H v) (s : Same H H') : Pk H' v := by
  cases h with
  | ty h n => exact .ty (h.same s) n
  | out h => exact .out h
theorem pad9 {k : Nat} (h : k ≤ 9) : PadOk (k : Int) = true := by
  have : ∀ k ≤ 9, PadOk ((k : Nat) : Int) = true := by decide +kernel
  exact this k h
theorem ten_pos (k : Nat) : (0 : Int) < 10 ^ k := Int.pow_pos (by decide)
theorem ten_small {k : Nat} (h : k ≤ 9) : ((10 : Int) ^ k).natAbs < 2 ^ 40 := by
  have : ∀ k ≤ 9, ((10 : Int) ^ k).natAbs < 2 ^ 40 := by decide +kernel
  exact this k h
end Lc
namespace Lc
open PySem PySem.Spec PyProof.Rows L2 PySem.NumText
theorem cut_first (x : Str) : (cutS x none (some 1)).cps.toList = x.cps.toList.take 1 := by
  have e : HT.sIx x.length 0 none = 0 := rfl
  have e2 : HT.sIx x.length x.length (some 1) = min 1 x.length := rfl
  unfold cutS
  rw [e, e2]
  show (x.cps.toList.drop 0).take (min 1 x.length - 0) = _
  rw [List.drop_zero, Nat.sub_zero, lenL]
  cases x.cps.toList with
  | nil => rfl
  | cons c r => simp
theorem cut_rest (x : Str) : (cutS x (some 1) none).cps.toList = x.cps.toList.drop 1 := by
  have e : HT.sIx x.length 0 (some 1) = min 1 x.length := rfl
  have e2 : HT.sIx x.length x.length none = x.length := rfl
  unfold cutS
  rw [e, e2]
  show (x.cps.toList.drop (min 1 x.length)).take (x.length - min 1 x.length) = _
  rw [lenL]
  cases x.cps.toList with
  | nil => rfl
  | cons c r => simp
theorem str_ext {x y : Str} (h : x.cps.toList = y.cps.toList) : x = y := by
  obtain ⟨⟨l⟩⟩ := x
  obtain ⟨⟨m⟩⟩ := y
  have : l = m := h
  rw [this]
theorem dec_head (u : Int) (k : Nat) : ∃ c r, decB u k = c :: r ∧ 48 ≤ c ∧ c ≤ 57 := by
  obtain ⟨c, r, e, _⟩ := digs_head (u.natAbs / 10 ^ k)
  have h := digs_all (u.natAbs / 10 ^ k) c (by rw [e]; exact List.mem_cons_self)
  exact ⟨c, _, by unfold decB; rw [e]; rfl, h.1, h.2⟩
theorem minus_is {x : Str} {u : Int} {k : Nat} (h : x.cps.toList = decL u k) : decide (V.str (cutS x none (some 1)) = V.str "-") = decide (u < 0) := by
  rw [Bool.eq_iff_iff, decide_eq_true_iff, decide_eq_true_iff]
  have e45 : (PySem.Str.ofString "-").cps.toList = [45] := by decide +kernel
  constructor
  · intro q
    injection q with q
    have z := cut_first x
    rw [q, h, e45] at z
    rcases (by omega : u < 0 ∨ ¬ u < 0) with g | g
    · exact g
    · obtain ⟨c, r, e, h1, h2⟩ := dec_head u k
      unfold decL at z
      rw [if_neg g, e] at z
      have : (45 : Nat) = c := by simpa using z
      omega
  · intro q
    have : cutS x none (some 1) = PySem.Str.ofString "-" := by
      apply str_ext
      rw [cut_first, h, e45]
      unfold decL
      rw [if_pos q]
      rfl
    rw [this]
theorem below_is {x : Str} {u : Int} {k : Nat} (h : x.cps.toList = decL u k) (n : u < 0) : (cutS x (some 1) none).cps.toList = decB u k := by
  rw [cut_rest, h]
  unfold decL
  rw [if_pos n]
  rfl
theorem digs_len_le {m : Nat} (h : m < 2 ^ 1100) : (digs m).length ≤ 1921 := by
  rw [← numL, ← lenL]
  refine int_text_len_1921 ?_
  rw [Int.natAbs_natCast]
  by_cases z : m = 0
  · rw [z]
    decide
  · exact Nat.lt_of_lt_of_le ((Nat.log2_lt z).mpr h) (by decide)
theorem decL_len {u : Int} {k : Nat} (h : u.natAbs < 2 ^ 1100) (k9 : k ≤ 9) : (decL u k).length ≤ 1940 ∧ (decB u k).length ≤ 1939 := by
  have h1 := digs_len_le (Nat.lt_of_le_of_lt (Nat.div_le_self u.natAbs (10 ^ k)) h)
  have h2 : (decB u k).length ≤ 1939 := by
    unfold decB
    rw [List.length_append]
    split
    · simp; omega
    · have := zf_len (p := k) (r := u.natAbs % 10 ^ k) (by omega) (Nat.mod_lt _ (Nat.pow_pos (by decide)))
      rw [List.length_cons, this]
      omega
  refine ⟨?_, h2⟩
  unfold decL
  rw [List.length_append]
  split
  · simp only [List.length_cons, List.length_nil]; omega
  · simp only [List.length_nil]; omega
theorem joinL_toL (ys : List Str) : (Txt.join (PySem.Str.ofString "") ys).cps.toList = (ys.map fun y => y.cps.toList).flatten := by
  have e : Txt.join (PySem.Str.ofString "") ys = Str.join Str.empty ys := (StrLaws.glued_eq_join (PySem.Str.ofString "") ys).trans rfl
  rw [e]
  have key : ∀ ys : List Str, (Str.join Str.empty ys).cps.toList = (ys.map fun y => y.cps.toList).flatten := by
    intro ys
    induction ys with
    | nil => rfl
    | cons x r ih =>
      cases r with
      | nil =>
        show x.cps.toList = _
        simp
      | cons y r =>
        have e : Str.join Str.empty (x :: y :: r) = x ++ Str.empty ++ Str.join Str.empty (y :: r) := rfl
        rw [e, appL, appL, ih]
        simp [Str.empty]
  exact key ys
def ten10 : Str := "0123456789"
theorem index_ten {c : Nat} (h : 48 ≤ c ∧ c ≤ 57) : Builtin.Str.occurrences ten10 ⟨#[c]⟩ 0 ten10.length 1 = [c - 48] := by
  have key : ∀ d < 10, Builtin.Str.occurrences ten10 ⟨#[48 + d]⟩ 0 ten10.length 1 = [d] := by decide +kernel
  have := key (c - 48) (by omega)
  rw [show 48 + (c - 48) = c by omega] at this
  exact this
theorem in_ten {c : Nat} (h : 48 ≤ c ∧ c ≤ 57) : decide (c ∈ ten10.cps.toList) = true := by
  have key : ∀ d < 10, decide (48 + d ∈ ten10.cps.toList) = true := by decide +kernel
  have := key (c - 48) (by omega)
  rw [show 48 + (c - 48) = c by omega] at this
  exact this
end Lc
set_option Elab.async false
set_option linter.all false
set_option maxRecDepth 100000
set_option maxHeartbeats 4000000
namespace Lc
open PySem PySem.Spec PyProof.Rows L2 He
/-! ## an int in a dict of the module with text keys -/
def diB (K : PySem.W.Frag) (d : Addr) (x : Str) (n : Int) : Bool := match PySem.W.nsIn K d x with
  | some (some (.int m _)) => decide (m = n)
  | _ => false
theorem di_ok {K : PySem.W.Frag} {w : World} {d : Addr} {x : Str} {n : Int} (D : ∃ es n, KDict K w d es n) (h : diB K d x n = true) : KDct K w d x (.int n) ∧ ∃ u, PySem.W.nsIn K d x = some (some u) := by
  unfold diB at h
  split at h
  · rename_i m t q
    obtain ⟨es, k, D⟩ := D
    have e : m = n := of_decide_eq_true h
    exact ⟨⟨es, k, _, D.at_, D.lit, q, ⟨t, by rw [e]⟩⟩, _, q⟩
  · cases h
end Lc
set_option Elab.async false
set_option linter.all false
set_option maxRecDepth 100000
set_option maxHeartbeats 4000000
namespace Lc
open PySem PySem.Spec PyProof.Rows L2
open Builtin
/-! ## repr of an instance whose class has an own __repr__ -/
structure ReprC (K : PySem.W.Frag) (C f : Addr) : Prop where
  at_ : PySem.W.findIn K (.ref C) "__repr__" = some (some (.ref f))
  fn : PySem.W.isFn K (.ref f) = true
def rReprI (C : Addr) (sp : Sp) : List V → Hp → VK → Prop := fun xs H Q => ∃ a dx fs, xs = [.ref a] ∧ H a = some (.ins C dx fs) ∧ sp [.ref a] H (fun v H' => ∃ z : Str, v = .str z ∧ Q (.str z) H') E0
section
variable {X : Cx}
theorem call_reprI {k : Nat} {C f : Addr} {fd : FuncData} {ps : List Str} {sp : Sp} (c : ReprC X.K C f) (G : FnOk X.prog X.w X.K X.mg X.base CX0 k f fd ps sp) (hr : Room (k + 1) X.A) (hb : Binds X.K fd ps []) : CallR X (.builtin "repr") (rReprI C sp) := by
  intro pins s σ H xs us Q I rv h
  obtain ⟨a, dx, fs, rfl, ha, hsp⟩ := h
  obtain ⟨u, rfl, ru⟩ := vals1 rv
  cases ru
  obtain ⟨mA, J, _⟩ := ins_get I.hok ha
  obtain ⟨od, J, _⟩ := J.look
  refine Calls.call_function_entry PySem.F.kind_repr PySem.F.plain_repr PySem.F.entry_repr (PySem.F.args_repr1 _) ?_
  unfold Builtin.«repr»
  refine wpAny_bind (m := oneArg "repr" _) (wpAny_pure ?_)
  refine wpAny_bind (wpAny_cRoomFor hr.in1.units0 ?_)
  have sp : PySem.W.Looks (model X.prog X.w) s.heap (specialOf (.ref a) "__repr__") (some (.ref f)) := J.type.andThen (PySem.W.looks_findIn I.kIn c.at_)
  refine wpAny_bind (sp.here ?_)
  show wpAny _ _ (if (some (Value.ref f)).isNone = true then _ else _) _ _ _
  rw [if_neg (by simp)]
  have e0 : Env0 X.prog X.w X.K X.mg X.base X.A.in1 X.stack s H := by
    have e := I.env0
    exact ⟨e.frames, e.mod, e.bs, e.bsz, e.funs, e.frf, e.hok, e.bare⟩
  have hl := G.len _ _ _ _ hsp
  have r2 : Vals [V.ref a] [Value.ref a] := .cons rfl .nil
  refine wpAny_bind (m := callSpecialIfBound? (.ref a) (Str.ofString "__repr__") _) (PySem.W.ifBound_K I.kIn J c.at_ c.fn (wpAny_call (codeAny_mono (G.run X.A.in1 X.stack s H ⟨[.ref a], []⟩ [.ref a] [.ref a] _ _ hr.in1 e0 (by
    have := hb s [.ref a] I.kIn (by simpa using hl)
    simpa using this) r2 hsp) fun r s' hq => ?_)))
  cases r with
  | error e => exact hq.elim
  | ok fl =>
    cases fl with
    | ret u =>
      obtain ⟨v, H', I3, rv, z, rfl, q3⟩ := I.after hq
      obtain ⟨t, rfl⟩ := rv
      refine wpAny_bind (wpAny_isInstance (typeIs_str _ _ _) isSubtype_str_str ?_)
      first
        | exact wpAny_pure ⟨_, rfl, .str z, H', I3, ⟨_, rfl⟩, q3⟩
        | (rw [if_pos rfl]; exact wpAny_pure ⟨_, rfl, .str z, H', I3, ⟨_, rfl⟩, q3⟩)
        | (simp only [if_true]; exact wpAny_pure ⟨_, rfl, .str z, H', I3, ⟨_, rfl⟩, q3⟩)
    | next => exact False.elim hq
    | brk => exact False.elim hq
    | cont => exact False.elim hq
end
/-! ## == and != with an instance on one side -/
/-- the other one: None, a tuple, an instance -/
inductive Rt4 (H : Hp) : V → Value → Prop
  | non : Rt4 H .non (.type "NoneType")
  | tup {a : Addr} {xs : List V} (e : H a = some (.tup xs)) : Rt4 H (.ref a) (.type "tuple")
  | ins {b C dx : Addr} {fs : List (Str × V)} (e : H b = some (.ins C dx fs)) : Rt4 H (.ref b) (.ref C)
section
variable {X : Cx}
theorem looks_rt4 {pins : List (Addr × Obj)} {σ : L2.St} {H : Hp} {s : Shared} {y : V} {u tb : Value} (I : Inv X pins σ H s) (ry : RelV y u) (h : Rt4 H y tb) : PySem.W.Looks (model X.prog X.w) s.heap (typeOf u) tb := by
  cases h with
  | non =>
    obtain rfl : u = Value.none := ry
    exact PySem.W.Looks.of_pure rfl
  | @tup a xs e =>
    obtain rfl : u = Value.ref a := ry
    obtain ⟨_, its, _, o, ho, hc, _⟩ := (show ObjOk X.prog X.w H s.heap a (.tup xs) from I.hok a _ e)
    rw [← hc]
    exact (PySem.W.Looks.ld ho).andThen .now
  | @ins b C dx fs e =>
    obtain rfl : u = Value.ref b := ry
    obtain ⟨mA, J, _⟩ := ins_get I.hok e
    obtain ⟨od, J, _⟩ := J.look
    exact J.type
def rEqL (K : PySem.W.Frag) (C : Addr) (sp : Sp) (neg : Bool) : R2 := fun x y H Q => ∃ a dx fs tb, x = .ref a ∧ H a = some (.ins C dx fs) ∧ Rt4 H y tb ∧ PySem.W.notFirst K C tb = true ∧ sp [.ref a, y] H (fun v H' => ∃ k, v = .bl k ∧ Q (.bl (if neg then !k else k)) H') E0
theorem op_eqL {k : Nat} {C f : Addr} {fd : FuncData} {ps : List Str} {sp : Sp} (c : EqC X.K C f) (F : FnOk X.prog X.w X.K X.mg X.base CX0 k f fd ps sp) (hb : Binds X.K fd ps []) (hr : Room (k + 1) X.A) : OpR X (compareOp .Eq) (rEqL X.K C sp false) := by
  intro pins s σ H x y v u Q I rx ry h
  obtain ⟨a, dx, fs, tb, rfl, ha, ht, hn, hsp⟩ := h
  obtain rfl : v = Value.ref a := rx
  obtain ⟨mA, J, _⟩ := ins_get I.hok ha
  obtain ⟨od, J, _⟩ := J.look
  obtain ⟨m, hF⟩ := I.fr
  have sb : Sub X k X.A := ⟨hr.mono (Nat.le_succ _), rfl⟩
  unfold compareOp
  refine PySem.W.cmp_K (op := .Eq) (tb := tb) sb.room.units0 hF I.ok.mod.kin J (looks_rt4 I ry ht) hn c.eq c.fn ?_
  refine wpAny_mono (call_own2 F hb sb I ry hsp) (fun w s' hw => ?_) fun _ _ e => e
  obtain ⟨z, H', I', rz, kk, rfl, q⟩ := hw
  obtain rfl : w = Value.bool kk := rz
  exact ⟨.bl kk, H', I', rfl, q⟩
theorem op_neL {k : Nat} {C f : Addr} {fd : FuncData} {ps : List Str} {sp : Sp} (c : EqC X.K C f) (F : FnOk X.prog X.w X.K X.mg X.base CX0 k f fd ps sp) (hb : Binds X.K fd ps []) (hr : Room (k + 1) X.A) : OpR X (compareOp .NotEq) (rEqL X.K C sp true) := by
  intro pins s σ H x y v u Q I rx ry h
  obtain ⟨a, dx, fs, tb, rfl, ha, ht, hn, hsp⟩ := h
  obtain rfl : v = Value.ref a := rx
  obtain ⟨mA, J, _⟩ := ins_get I.hok ha
  obtain ⟨od, J, _⟩ := J.look
  have sb : Sub X k X.A.in1 := Sub.in1 (⟨hr, rfl⟩ : Sub X (k + 1) X.A)
  unfold compareOp
  refine ne_K (tb := tb) (Nat.lt_of_le_of_lt (Nat.add_le_add_left (show 1 ≤ 64 by decide) _) hr.units) I.kIn J (looks_rt4 I ry ht) hn c ?_
  refine wpAny_mono (call_own2 F hb sb I ry hsp) (fun w s' hw => ?_) fun _ _ e => e
  obtain ⟨z, H', I', rz, kk, rfl, q⟩ := hw
  obtain rfl : w = Value.bool kk := rz
  exact ⟨kk, rfl, .bl (!kk), H', I', rfl, q⟩
end
section
variable {prog : Program} {w : World} {A : Around} {E : Value → Shared → Prop} {s : Shared} {K : PySem.W.Frag} {x C f : Addr} {ox : Obj} {od : Option Obj} {a : Value}
/-- the left one knows nothing of an instance: the instance is asked -/
theorem rc_refl {Ta id : String} {Q : Value → Shared → Prop} (hu : A.units < cLine) (X : K.In s.heap) (I : PySem.W.InstAt s.heap x ox C od) (ha : s.TypeIs a Ta) (hsub : PySem.W.subIn K (.ref C) (.type Ta) = some false) (h1 : Slot Ta "__eq__" id)
    (hc1 : ∀ Q' : Value → Shared → Prop, Q' .notImplemented s → wpAny (model prog w) A (call (.builtin id) [a, .ref x]) Q' E s)
    (hs : PySem.W.findIn K (.ref C) "__eq__" = some (some (.ref f))) (hf : PySem.W.isFn K (.ref f) = true)
    (h : wpAny (model prog w) A (call (.ref f) [.ref x, a]) (PySem.W.CmpBack Q) E s) : wpAny (model prog w) A (richCompare .Eq a (.ref x)) Q E s := by
  have one : wpAny (model prog w) A (tryCompare (.ref x) "__eq__" a) (fun r s' => ∃ v, r = some v ∧ Q v s') E s := by
    unfold tryCompare
    refine wpAny_bind (PySem.W.ifBound_K X I hs hf (wpAny_mono h (fun v s' hv => ?_) fun _ _ e => e))
    cases v <;> first | exact hv.elim | exact wpAny_pure ⟨_, rfl, hv⟩
  simp only [richCompare, cmpInfo, ha.oneThing_none]
  refine wpAny_holding (wpAny_bind (wpAny_cRoomFor hu ?_))
  refine wpAny_bind (wpAny_typeOf ha (wpAny_bind (I.type.here ?_)))
  rw [if_pos (show (Value.type Ta != Value.ref C) = true by simp)]
  refine wpAny_bind ((PySem.W.looks_subIn X hsub).here ?_)
  simp only [Bool.false_eq_true, if_false, Bool.not_false, if_true]
  refine wpAny_bind (m := tryCompare a _ (.ref x)) (wpAny_tryCompare_declines ha h1 (hc1 _ ⟨rfl, ?_⟩))
  refine wpAny_bind (m := tryCompare (.ref x) _ a) (wpAny_mono one (fun r s' z => ?_) fun _ _ e => e)
  obtain ⟨v, rfl, hq⟩ := z
  exact wpAny_pure hq
theorem tup_declines {l : Addr} {Q : Value → Shared → Prop} (X : K.In s.heap) (I : PySem.W.InstAt s.heap x ox C od) (hT : s.TypeIs (.ref l) "tuple") (hsub : PySem.W.subIn K (.ref C) (.type "tuple") = some false) (q : Q .notImplemented s) : wpAny (model prog w) A (call (.builtin "tuple.__eq__") [.ref l, .ref x]) Q E s := by
  refine GQ.call_here (PySem.F.slot_tuple_eq) hT PySem.F.entry_tuple_eq (PySem.F.args_tuple_eq_2 _ _) ?_
  have iob : PySem.W.Looks (model prog w) s.heap (isInstance (.ref x) (.type "tuple")) false := I.type.andThen (PySem.W.looks_subIn X hsub)
  refine wpAny_bind (m := slotArgs "__eq__" 1 ⟨[.ref l, .ref x], []⟩) (wpAny_pure ?_)
  refine wpAny_bind (iob.here ?_)
  rw [if_pos (by rfl)]
  exact wpAny_pure q
end
section
variable {X : Cx}
structure RfC (K : PySem.W.Frag) (C : Addr) : Prop where
  tup : PySem.W.subIn K (.ref C) (.type "tuple") = some false
  non : PySem.W.subIn K (.ref C) (.type "NoneType") = some false
/-- an instance on the right, None or a tuple on the left -/
def rEqR (C : Addr) (sp : Sp) : R2 := fun x y H Q => ∃ b dx fs, y = .ref b ∧ H b = some (.ins C dx fs) ∧ (x = .non ∨ ∃ a xs, x = .ref a ∧ H a = some (.tup xs)) ∧ sp [.ref b, x] H (fun v H' => ∃ k, v = .bl k ∧ Q (.bl k) H') E0
def rEqB (K : PySem.W.Frag) (C : Addr) (sp : Sp) : R2 := fun x y H Q => rEqL K C sp false x y H Q ∨ rEqR C sp x y H Q
theorem op_eqB {k : Nat} {C f : Addr} {fd : FuncData} {ps : List Str} {sp : Sp} (c : EqC X.K C f) (rf : RfC X.K C) (F : FnOk X.prog X.w X.K X.mg X.base CX0 k f fd ps sp) (hb : Binds X.K fd ps []) (hr : Room (k + 1) X.A) : OpR X (compareOp .Eq) (rEqB X.K C sp) := by
  intro pins s σ H x y v u Q I rx ry h
  rcases h with h | h
  · exact op_eqL c F hb hr pins s σ H x y v u Q I rx ry h
  obtain ⟨b, dx, fs, rfl, hb', hx, hsp⟩ := h
  obtain rfl : u = Value.ref b := ry
  obtain ⟨mA, J, _⟩ := ins_get I.hok hb'
  obtain ⟨od, J, _⟩ := J.look
  have sb : Sub X k X.A := ⟨hr.mono (Nat.le_succ _), rfl⟩
  unfold compareOp
  have own : wpAny (model X.prog X.w) X.A (call (.ref f) [.ref b, v]) (PySem.W.CmpBack (EP X pins σ Q)) X.xe s := by
    refine wpAny_mono (call_own2 F hb sb I rx hsp) (fun w s' hw => ?_) fun _ _ e => e
    obtain ⟨z, H', I', rz, kk, rfl, q⟩ := hw
    obtain rfl : w = Value.bool kk := rz
    exact ⟨.bl kk, H', I', rfl, q⟩
  rcases hx with rfl | ⟨a, xs, rfl, ha⟩
  · obtain rfl : v = Value.none := rx
    exact rc_refl sb.room.units0 I.kIn J rfl rf.non PySem.F.slot_NoneType_eq (fun _ hq => call_gives PySem.F.slot_NoneType_eq rfl PySem.F.entry_NoneType_eq (PySem.F.args_NoneType_eq_2 _ _) (PySem.SeqAt.NoneType___eq___none_ref_0 b) hq) c.eq c.fn own
  · obtain rfl : v = Value.ref a := rx
    obtain ⟨_, its, _, o, ho, hc, _⟩ := (show ObjOk X.prog X.w H s.heap a (.tup xs) from I.hok a _ ha)
    have hT : s.TypeIs (.ref a) "tuple" := ⟨o, ho, hc⟩
    exact rc_refl sb.room.units0 I.kIn J hT rf.tup PySem.F.slot_tuple_eq (fun _ hq => tup_declines I.kIn J hT rf.tup hq) c.eq c.fn own
end
end Lc
set_option Elab.async false
set_option linter.all false
set_option maxRecDepth 100000
set_option maxHeartbeats 4000000
namespace Lc
open PySem PySem.Spec PyProof.Rows L2
/-! ## a comprehension with two for: over a tuple, and over a list that each of its items gives -/
theorem lc2_tup {K : PySem.W.Frag} {a : Addr} {xs : List V} {g g1 : TG} {tt tt1 : TT} {wi1 : TI} {te : TE} {vs vs1 : List Nat} {σ : L2.St} {H1 : Hp} {D : Addr} {Qd : Hp → Prop} (Pv : Nat → Hp → Prop) (h0 : Pv 0 (upd H1 D (.lst []))) (hl : ∀ i H, i ≤ xs.length → Pv i H → SqT K H a xs)
    (hs : ∀ i x H, xs[i]? = some x → Pv i H → g x (wipe σ vs) H fun σ2 H2 => wipe σ2 vs = wipe σ vs ∧ tt σ2 H2 fun b H3 =>
      if b = true then wi1 σ2 H3 fun J1 H4 => ∃ W1 : Nat → Nat → Hp → Prop, (∃ m, W1 0 m H4) ∧ ∀ j k H, W1 j k H →
      (J1.stop j H ∧ Pv (i + 1) H) ∨ (J1.go j H ∧ ∃ Nx1 : Hp → Prop, (∀ H', Nx1 H' → ∃ k', k' < k ∧ W1 (j + 1) k' H') ∧ ∀ x H', J1.yld j H x H' → g1 x (wipe σ2 vs1) H' fun σ3 H5 => wipe σ3 vs1 = wipe σ2 vs1 ∧ tt1 σ3 H5 fun b H6 =>
        if b = true then te σ3 H6 fun y H7 => ∃ acc, H7 D = some (.lst acc) ∧ acc.length < sizeLine ∧ Nx1 (upd H7 D (.lst (acc ++ [y]))) else Nx1 H6)
      else Pv (i + 1) H3) (hd : ∀ H, Pv xs.length H → Qd H) :
    ∃ W : Nat → Nat → Hp → Prop, (∃ m, W 0 m (upd H1 D (.lst []))) ∧ ∀ i m H, W i m H →
      ((Itt K a).stop i H ∧ Qd H) ∨ ((Itt K a).go i H ∧ ∃ Nx : Hp → Prop, (∀ H', Nx H' → ∃ m', m' < m ∧ W (i + 1) m' H') ∧ ∀ x H', (Itt K a).yld i H x H' → g x (wipe σ vs) H' fun σ2 H2 => wipe σ2 vs = wipe σ vs ∧ tt σ2 H2 fun b H3 =>
        if b = true then wi1 σ2 H3 fun J1 H4 => ∃ W1 : Nat → Nat → Hp → Prop, (∃ m, W1 0 m H4) ∧ ∀ j k H, W1 j k H →
      (J1.stop j H ∧ Nx H) ∨ (J1.go j H ∧ ∃ Nx1 : Hp → Prop, (∀ H', Nx1 H' → ∃ k', k' < k ∧ W1 (j + 1) k' H') ∧ ∀ x H', J1.yld j H x H' → g1 x (wipe σ2 vs1) H' fun σ3 H5 => wipe σ3 vs1 = wipe σ2 vs1 ∧ tt1 σ3 H5 fun b H6 =>
        if b = true then te σ3 H6 fun y H7 => ∃ acc, H7 D = some (.lst acc) ∧ acc.length < sizeLine ∧ Nx1 (upd H7 D (.lst (acc ++ [y]))) else Nx1 H6)
        else Nx H3) := by
  refine ⟨fun i m H => m = xs.length - i ∧ i ≤ xs.length ∧ Pv i H, ⟨xs.length, by simp, Nat.zero_le _, h0⟩, ?_⟩
  rintro i m H ⟨rfl, hi, p⟩
  have q := hl i H hi p
  by_cases hlt : i < xs.length
  · refine .inr ⟨⟨xs, xs[i], q, by simp [hlt]⟩, Pv (i + 1), fun H' p' => ⟨xs.length - (i + 1), by omega, rfl, hlt, p'⟩, fun x H' y => ?_⟩
    obtain ⟨e, y⟩ := y
    subst e
    exact hs i x _ (y xs q) p
  · have e : i = xs.length := by omega
    subst e
    exact .inl ⟨⟨xs, q, Nat.le_refl _⟩, hd H p⟩
/-- the inner walk, over a list -/
theorem lc_in {K : PySem.W.Frag} {a : Addr} {xs : List V} {g1 : TG} {tt1 : TT} {te : TE} {vs1 : List Nat} {σ2 : L2.St} {H4 : Hp} {D : Addr} {Nx : Hp → Prop} (Pv : Nat → Hp → Prop) (h0 : Pv 0 H4) (hl : ∀ i H, i ≤ xs.length → Pv i H → SqL K H a xs)
    (hs : ∀ i x H, xs[i]? = some x → Pv i H → g1 x (wipe σ2 vs1) H fun σ3 H5 => wipe σ3 vs1 = wipe σ2 vs1 ∧ tt1 σ3 H5 fun b H6 =>
      if b = true then te σ3 H6 fun y H7 => ∃ acc, H7 D = some (.lst acc) ∧ acc.length < sizeLine ∧ Pv (i + 1) (upd H7 D (.lst (acc ++ [y]))) else Pv (i + 1) H6) (hd : ∀ H, Pv xs.length H → Nx H) :
    ∃ W1 : Nat → Nat → Hp → Prop, (∃ m, W1 0 m H4) ∧ ∀ j k H, W1 j k H →
      ((Itl K a).stop j H ∧ Nx H) ∨ ((Itl K a).go j H ∧ ∃ Nx1 : Hp → Prop, (∀ H', Nx1 H' → ∃ k', k' < k ∧ W1 (j + 1) k' H') ∧ ∀ x H', (Itl K a).yld j H x H' → g1 x (wipe σ2 vs1) H' fun σ3 H5 => wipe σ3 vs1 = wipe σ2 vs1 ∧ tt1 σ3 H5 fun b H6 =>
        if b = true then te σ3 H6 fun y H7 => ∃ acc, H7 D = some (.lst acc) ∧ acc.length < sizeLine ∧ Nx1 (upd H7 D (.lst (acc ++ [y]))) else Nx1 H6) := by
  refine ⟨fun i m H => m = xs.length - i ∧ i ≤ xs.length ∧ Pv i H, ⟨xs.length, by simp, Nat.zero_le _, h0⟩, ?_⟩
  rintro i m H ⟨rfl, hi, p⟩
  have q := hl i H hi p
  by_cases hlt : i < xs.length
  · refine .inr ⟨⟨xs, xs[i], q, by simp [hlt]⟩, Pv (i + 1), fun H' p' => ⟨xs.length - (i + 1), by omega, rfl, hlt, p'⟩, fun x H' y => ?_⟩
    obtain ⟨e, y⟩ := y
    subst e
    exact hs i x _ (y xs q) p
  · have e : i = xs.length := by omega
    subst e
    exact .inl ⟨⟨xs, q, Nat.le_refl _⟩, hd H p⟩
section
variable {X : Cx}
/-- str(x) of a text or a whole number -/
theorem call_strE : CallR X (.type "str") (fun xs H Q => (∃ a, xs = [.str a] ∧ Q (.str a) H) ∨ ∃ i, xs = [.int i] ∧ i.natAbs.log2 < 1920 ∧ Q (.str (toString i)) H) := by
  intro pins s σ H xs us Q I r h
  rcases h with h | h
  · exact SkE.call_str_str pins s σ H xs us Q I r h
  · exact call_str_int pins s σ H xs us Q I r h
end
end Lc
set_option Elab.async false
set_option linter.all false
set_option maxRecDepth 100000
set_option maxHeartbeats 4000000
namespace K12
open PySem PySem.Spec PyProof.Rows L2 Lc
theorem nm_turn {H H1 : Hp} {D : Addr} {ps : CsL} {i : Nat} {z kk : Str} (hD : H D = none) (hD1 : H1 D = some (.lst (vS ((nms ps).take i)))) (ep : ps[i]? = some (z, kk)) (l8 : ps.length ≤ 8) (s1 : Same H H1) : ∃ acc, H1 D = some (.lst acc) ∧ acc.length < sizeLine ∧ (upd H1 D (.lst (acc ++ [.str z])) D = some (.lst (vS ((nms ps).take (i + 1)))) ∧ Same H (upd H1 D (.lst (acc ++ [.str z])))) := by
  refine ⟨_, hD1, ?_, ?_, fun b o e => by rw [upd_ne (ne_of_none e hD)]; exact s1 b o e⟩
  · rw [List.length_map, List.length_take, List.length_map]
    exact Nat.lt_of_le_of_lt (show _ ≤ 8 by omega) (by decide)
  · have : (nms ps)[i]? = some z := by rw [List.getElem?_map, ep]; rfl
    rw [upd_same, List.take_add_one, this]
    unfold vS
    rw [List.map_append]
    rfl
def spNo : Sp := fun vs H Q _ => ∃ (L : Addr) (ps : CsL), vs = [.ref L] ∧ CA H L ps ∧ ps.length ≤ 8 ∧ ∀ (D : Addr) (H' : Hp), Same H H' → H D = none → H' D = some (.lst (vS (nms ps))) → Q (.ref D) H'
section
variable {P : Program} {w : World} {K : PySem.W.Frag} {mg : Str → Option Value} {base : Heap} {f : Addr} {fd : FuncData}
abbrev sNo : Stmt := top 11
abbrev nNo : List Str := ["columns", "name", "kind"]
abbrev pNo : List Str := ["columns"]
theorem scNo : FnScope nNo pNo (defScope sNo) := ⟨rfl, rfl, rfl, by decide +kernel, rfl, by decide +kernel, by decide +kernel⟩
section
theorem ok_No (F : Fun K "names_of" "names_of" sNo f fd) (T : Bt mg) : FnOk P w K mg base CX0 1 f fd pNo (spNo) := by
  refine F.ok scNo (fun vs H Q E h => ?_) (fun cdv A outer s H vs Q E hr h => ?_)
  · obtain ⟨L, ps, rfl, _⟩ := h
    rfl
  · obtain ⟨L, ps, rfl, hL, l8, k⟩ := h
    refine ⟨_, (pss_one (ps_ret (pe_lc (own := [("name", 1), ("kind", 2)]) (g := (gTup K 2 (gCons (gName 1) (gCons (gName 2) gNil)))) (tt := tYes) (te := tVar 1) (by rfl) scNo.nd (pi_tup (pv 0)) (blkOk_by (own := [("name", 1), ("kind", 2)]) (N := nNo) (sc := defScope sNo) (by decide +kernel)) (fun _ _ _ _ _ => (pg_tup rfl (pgs_cons (pg_name (i := 1) scNo.nd rfl (.inl rfl)) (pgs_cons (pg_name (i := 2) scNo.nd rfl (.inl rfl)) pgs_nil)))) (fun _ _ _ _ _ => pts_nil) (fun _ _ _ _ _ => (pv 1))))), ?_⟩
    obtain ⟨xs, eL, cc⟩ := hL
    refine ⟨_, rfl, L, rfl, ⟨_, SqT.of eL⟩, fun W hW => lc_tup (K := K) (a := L) (xs := xs) (fun i H' => H' W = some (.lst (vS ((nms ps).take i))) ∧ Same H H') ⟨upd_same, Same.upd hW⟩ (fun i H' _ pr => SqT.of (pr.2 _ _ eL)) ?_ ?_⟩
    · rintro i x H1 hx ⟨hW1, s1⟩
      obtain ⟨a, z, kk, rfl, ea, ep⟩ := cc.get _ _ hx
      refine ⟨a, _, rfl, SqT.of (s1 _ _ ea), rfl, _, _, rfl, _, _, rfl, rfl, rfl, ?_⟩
      dsimp only [tYes]
      exact iteT ⟨_, rfl, nm_turn hW hW1 ep l8 s1⟩
    rintro H1 ⟨hW1, s1⟩
    rw [show xs.length = (nms ps).length by rw [cc.len, List.length_map], List.take_length] at hW1
    exact k W H1 s1 hW hW1
end
end
theorem row_at {H : Hp} {v : V} {r : RowD} (h : Dh H v r.d) : ∃ ra va la, v = .ref ra ∧ H ra = some (.tup [.ref va, .ref la]) ∧ Dh H (.ref va) (.tuple r.vals) ∧ Dh H (.ref la) (linD r.lin) := by
  cases h with
  | tup e hs => cases hs with
    | cons h1 r1 => cases r1 with
      | cons h2 r2 =>
        cases r2
        have h1' := h1
        have h2' := h2
        cases h1 with
        | tup e1 _ => cases h2 with
          | tup e2 _ => exact ⟨_, _, _, rfl, e, h1', h2'⟩
theorem vS_dh {H : Hp} : ∀ ns : List Str, DhAll H (vS ns) (ns.map PyData.str)
  | [] => .nil
  | z :: ns => .cons (.str z) (vS_dh ns)
/-! ## a table asked -/
structure IsiT (K : PySem.W.Frag) (C : Addr) : Prop where
  ha : PySem.W.findIn K (.ref C) "__class__" = some (some (.builtin "object.__class__"))
  hn : PySem.W.specialIn K (.builtin "object.__class__") "__get__" = some (some (.builtin "getset_descriptor.__get__"))
  ht : PySem.W.takesIn K (.builtin "object.__class__") = some true
  hm : PySem.W.mroIn K C (.type "object") = some true
  own : PySem.W.kitOne K (.ref C) (.ref C) = some true
  non : PySem.W.kitOne K (.type "NoneType") (.ref C) = some false
  tup : PySem.W.kitOne K (.type "tuple") (.ref C) = some false
def RowG (ks : List Str) (rs : List RowD) : Prop := ∀ r ∈ rs, Vks ks r.vals ∧ LinOk r.lin
theorem RowG.ok {ks : List Str} {rs : RowsL} (h : RowG ks (rs.map (·.2))) : RowsOk rs := fun r hr => by
  obtain ⟨h1, h2⟩ := h r.2 (List.mem_map_of_mem hr)
  exact ⟨h1.noL, h2⟩
def rowsT (rs : List RowD) : PyData := .tuple (rs.map RowD.d)
theorem lin_lay {l : Lin} (h : LinOk l) : (linD l).canLay0 = true ∧ (linD l).depth ≤ 2 := by
  obtain ⟨h1, h2⟩ := parts_lay h.2
  refine ⟨h1, ?_⟩
  show PyData.depth (.tuple (l.map partD)) ≤ 2
  simp only [PyData.depth]
  omega
theorem row_lay {ks : List Str} {r : RowD} (h : Vks ks r.vals) (o : LinOk r.lin) : r.d.canLay0 = true ∧ r.d.depth ≤ 3 := by
  obtain ⟨h1, h2⟩ := lin_lay o
  have h3 := h.depth
  refine ⟨cans_all fun d hd => ?_, ?_⟩
  · simp only [List.mem_cons, List.not_mem_nil, or_false] at hd
    rcases hd with rfl | rfl
    · exact h.can
    · exact h1
  · show PyData.depth (.tuple [.tuple r.vals, linD r.lin]) ≤ 3
    simp only [PyData.depth, PyData.depthAll] at h2 ⊢
    omega
theorem depthAll_le {n : Nat} : ∀ {ds : List PyData}, (∀ d ∈ ds, d.depth ≤ n) → PyData.depthAll ds ≤ n
  | [], _ => Nat.zero_le _
  | d :: ds, h => by
    have h1 := h d List.mem_cons_self
    have h2 := depthAll_le (n := n) (ds := ds) fun x hx => h x (List.mem_cons_of_mem _ hx)
    simp only [PyData.depthAll]
    omega
theorem rows_shp {ks : List Str} {rs : List RowD} (h : RowG ks rs) : SeqAt.shaped (rowsT rs) = true := by
  refine Bool.and_eq_true_iff.mpr ⟨?_, decide_eq_true ?_⟩
  · refine cans_all fun d hd => ?_
    obtain ⟨r, hr, rfl⟩ := List.mem_map.mp hd
    exact (row_lay (h r hr).1 (h r hr).2).1
  · have : PyData.depthAll (rs.map RowD.d) ≤ 3 := depthAll_le fun d hd => by
      obtain ⟨r, hr, rfl⟩ := List.mem_map.mp hd
      exact (row_lay (h r hr).1 (h r hr).2).2
    show PyData.depth (.tuple (rs.map RowD.d)) ≤ _
    simp only [PyData.depth]
    omega
theorem rows_dh {H : Hp} : ∀ {rs : RowsL}, RowsAt H rs → DhAll H (rs.map (·.1)) ((rs.map (·.2)).map RowD.d)
  | [], _ => .nil
  | r :: rs, h => .cons (h r List.mem_cons_self) (rows_dh fun q hq => h q (List.mem_cons_of_mem _ hq))
def eqT (ps : CsL) (rs : List RowD) (qs : CsL) (ss : List RowD) : Bool := PyData.eqv (.tuple (ps.map colP)) (.tuple (qs.map colP)) && PyData.eqv (rowsT rs) (rowsT ss)
/-- a whole table -/
structure TbAt (C : Addr) (H : Hp) (a : Addr) (ps : CsL) (rs : RowsL) : Prop where
  at_ : ∃ cv, IsTb C H a cv rs ∧ CA H cv ps
  cols : ColsOk ps
  rows : RowG (ps.map (·.2)) (rs.map (·.2))
  ln : rs.length ≤ 60
theorem TbAt.same {C : Addr} {H H' : Hp} {a : Addr} {ps : CsL} {rs : RowsL} (h : TbAt C H a ps rs) (s : Same H H') : TbAt C H' a ps rs := by
  obtain ⟨⟨cv, h1, h2⟩, h3, h4, h5⟩ := h
  exact ⟨⟨cv, h1.same s, h2.same s⟩, h3, h4, h5⟩
theorem TbAt.b {C t : Addr} {H H' : Hp} {a : Addr} {ps : CsL} {rs : RowsL} (h : TbAt C H a ps rs) (T : Tape H t) (s : SameB t H H') : TbAt C H' a ps rs := by
  obtain ⟨⟨cv, h1, h2⟩, h3, h4, h5⟩ := h
  exact ⟨⟨cv, h1.b T s h4.ok, h2.b T s⟩, h3, h4, h5⟩
inductive EqTb (C : Addr) (H : Hp) (ps : CsL) (rs : List RowD) : V → Bool → Prop
  | tb {b : Addr} {qs : CsL} {ss : RowsL} (h : TbAt C H b qs ss) : EqTb C H ps rs (.ref b) (eqT ps rs qs (ss.map (·.2)))
  | non : EqTb C H ps rs .non false
  | tup {b : Addr} {xs : List V} (e : H b = some (.tup xs)) : EqTb C H ps rs (.ref b) false
theorem EqTb.same {C : Addr} {H H' : Hp} {ps : CsL} {rs : List RowD} {y : V} {k : Bool} (h : EqTb C H ps rs y k) (s : Same H H') : EqTb C H' ps rs y k := by
  cases h with
  | tb h => exact .tb (h.same s)
  | non => exact .non
  | tup e => exact .tup (s _ _ e)
def tx (n : Nat) : Str := Str.ofString (toString ((n : Nat) : Int))
def repT (n m : Nat) : Str := ((((("Table(" : Str) ++ tx n) ++ (" columns, " : Str)) ++ tx m) ++ (" rows)" : Str))
theorem tx_len {n : Nat} (h : n ≤ 60) : (tx n).length ≤ 4 := by
  have : ∀ i : Fin 61, (tx i.1).length ≤ 4 := by decide +kernel
  exact this ⟨n, by omega⟩
def spTe (C : Addr) : Sp := fun vs H Q _ => ∃ (a : Addr) (ps : CsL) (rs : RowsL) (y : V) (k : Bool), vs = [.ref a, y] ∧ TbAt C H a ps rs ∧ EqTb C H ps (rs.map (·.2)) y k ∧ Q (.bl k) H
def spTl (C : Addr) : Sp := fun vs H Q _ => ∃ (a : Addr) (ps : CsL) (rs : RowsL), vs = [.ref a] ∧ TbAt C H a ps rs ∧ Q (.int (rs.length : Nat)) H
def spTp (C : Addr) : Sp := fun vs H Q _ => ∃ (a : Addr) (ps : CsL) (rs : RowsL), vs = [.ref a] ∧ TbAt C H a ps rs ∧ Q (.str (repT ps.length rs.length)) H
def spTg (C : Addr) : Sp := fun vs H Q _ => ∃ (a : Addr) (ps : CsL) (rs : RowsL), vs = [.ref a] ∧ TbAt C H a ps rs ∧ (∃ U : Lin, U.length ≤ 48 ∧ ∀ r ∈ rs, ∀ p ∈ r.2.lin, p ∈ U) ∧ ∀ (v : V) (H' : Hp), Same H H' → Dh H' v (linD (unL (rs.map fun r => r.2.lin))) → Q v H'
/-- the values of a column -/
def colD (rs : RowsL) (j : Nat) : List PyData := rs.map fun r => r.2.vals.getD j .none
def spTk (C CU : Addr) : Sp := fun vs H Q E => ∃ (a : Addr) (ps : CsL) (rs : RowsL) (n : V) (d : PyData), vs = [.ref a, n] ∧ TbAt C H a ps rs ∧ Dh H n d ∧ SeqAt.shaped d = true ∧
  ((∀ x ∈ nms ps, PyData.eqv (.str x) d = false) → ∀ H', Same H H' → TellsF CU "key" H' n E) ∧
  (∀ j x, (nms ps)[j]? = some x → n = .str x → ∀ (r : Addr) (zs : List V) (H' : Hp), Same H H' → H r = none → H' r = some (.lst zs) → DhAll H' zs (colD rs j) → Q (.ref r) H')
theorem lnK : PySem.LcKey.Line "LookupError" keT := ⟨by decide +kernel, by decide +kernel, by decide +kernel⟩
section
variable {P : Program} {w : World} {K : PySem.W.Frag} {mg : Str → Option Value} {base : Heap} {f : Addr} {fd : FuncData}
abbrev sTe : Stmt := inClass (top 12) 5
abbrev nTe : List Str := ["self", "other"]
abbrev pTe : List Str := ["self", "other"]
theorem scTe : FnScope nTe pTe (defScope sTe) := ⟨rfl, rfl, rfl, by decide +kernel, rfl, by decide +kernel, by decide +kernel⟩
section
theorem ok_Te (F : Fun K "__eq__" "Table.__eq__" sTe f fd) (T : Bt mg) {C fI : Addr} (G : TbF K mg C fI) (I : IsiT K C) : FnOk P w K mg base CX0 1 f fd pTe (spTe C) := by
  refine F.ok scTe (fun vs H Q E h => ?_) (fun cdv A outer s H vs Q E hr h => ?_)
  · obtain ⟨a, ps, rs, y, kk, rfl, _⟩ := h
    rfl
  · obtain ⟨a, ps, rs, y, kk, rfl, hI, hy, q⟩ := h
    refine ⟨_, (pss_one (ps_ret (pe_and (pe_callB call_isi (by rfl) T.isi boot_isinstance (pa_cons (pv 1) (pa_cons (pe_glob (v := .ref C) (by rfl) G.gC rfl) pa_nil))) (pe_and (pe_cmpR (op_eqD hr.units) (pe_fld (pv 0) (by rfl)) (pe_fld (pv 1) (by rfl)) (nomark _)) (pe_one (pe_cmpR (op_eqD hr.units) (pe_fld (pv 0) (by rfl)) (pe_fld (pv 1) (by rfl)) (nomark _))))))), ?_⟩
    obtain ⟨⟨cv, ⟨dx, bv, h1, h2, h3⟩, xs, h4, h5⟩, co, ro, ln⟩ := hI
    cases hy with
    | non => exact ⟨_, rfl, .non, .ref C, _, _, _, rfl, .own C, .base .non, I.non, _, rfl, iteF q⟩
    | @tup b ys e => exact ⟨_, rfl, .ref b, .ref C, _, _, _, rfl, .own C, .base (.tup e), I.tup, _, rfl, iteF q⟩
    | @tb b qs ss h =>
      obtain ⟨⟨cw, ⟨ex, bw, g1, g2, g3⟩, us, g4, g5⟩, co2, ro2, ln2⟩ := h
      refine ⟨_, rfl, .ref b, .ref C, _, _, _, rfl, .own C, .base (.ins g1 G.cls I.ha I.hn I.ht I.hm), I.own, _, rfl, iteT ?_⟩
      have p1 : Dp K H (.ref cv) (.tuple (ps.map colP)) := (Dh.tup h4 h5.dh).dp (PyData.hasDict_of_canLay _ (SeqAt.canLay_of_shaped (shp_ps co)))
      have p2 : Dp K H (.ref cw) (.tuple (qs.map colP)) := (Dh.tup g4 g5.dh).dp (PyData.hasDict_of_canLay _ (SeqAt.canLay_of_shaped (shp_ps co2)))
      have p3 : Dp K H (.ref bv) (rowsT (rs.map (·.2))) := (Dh.tup h2 (rows_dh h3)).dp (PyData.hasDict_of_canLay _ (SeqAt.canLay_of_shaped (rows_shp ro)))
      have p4 : Dp K H (.ref bw) (rowsT (ss.map (·.2))) := (Dh.tup g2 (rows_dh g3)).dp (PyData.hasDict_of_canLay _ (SeqAt.canLay_of_shaped (rows_shp ro2)))
      unfold eqT at q
      refine ⟨_, rfl, a, C, dx, _, _, rfl, h1, G.cls, G.a1, rfl, _, rfl, b, C, ex, _, _, rfl, g1, G.cls, G.a1, rfl, _, _, p1, p2, shp_ps co, shp_ps co2, _, rfl, ?_⟩
      refine ite2 (fun z2 => ?_) (fun z2 => ?_)
      · rw [z2, Bool.true_and] at q
        exact ⟨_, rfl, a, C, dx, _, _, rfl, h1, G.cls, G.a2, rfl, _, rfl, b, C, ex, _, _, rfl, g1, G.cls, G.a2, rfl, _, _, p3, p4, rows_shp ro, rows_shp ro2, q⟩
      · rw [show PyData.eqv (.tuple (ps.map colP)) (.tuple (qs.map colP)) = false by simpa using z2, Bool.false_and] at q
        exact q
end
abbrev sTl : Stmt := inClass (top 12) 6
abbrev nTl : List Str := ["self"]
abbrev pTl : List Str := ["self"]
theorem scTl : FnScope nTl pTl (defScope sTl) := ⟨rfl, rfl, rfl, by decide +kernel, rfl, by decide +kernel, by decide +kernel⟩
section
theorem ok_Tl (F : Fun K "__len__" "Table.__len__" sTl f fd) (T : Bt mg) {C fI : Addr} (G : TbF K mg C fI) : FnOk P w K mg base CX0 1 f fd pTl (spTl C) := by
  refine F.ok scTl (fun vs H Q E h => ?_) (fun cdv A outer s H vs Q E hr h => ?_)
  · obtain ⟨a, ps, rs, rfl, _⟩ := h
    rfl
  · obtain ⟨a, ps, rs, rfl, hI, q⟩ := h
    refine ⟨_, (pss_one (ps_ret (pe_callB call_len_seq (by rfl) T.len PySem.boot_len (pa_cons (pe_fld (pv 0) (by rfl)) pa_nil)))), ?_⟩
    obtain ⟨⟨cv, ⟨dx, bv, h1, h2, h3⟩, xs, h4, h5⟩, co, ro, ln⟩ := hI
    rw [← List.length_map (as := rs) (·.1)] at q
    exact ⟨_, rfl, a, C, dx, _, _, rfl, h1, G.cls, G.a2, rfl, bv, _, rfl, .inr (SqT.of h2), q⟩
end
abbrev sTp : Stmt := inClass (top 12) 7
abbrev nTp : List Str := ["self"]
abbrev pTp : List Str := ["self"]
theorem scTp : FnScope nTp pTp (defScope sTp) := ⟨rfl, rfl, rfl, by decide +kernel, rfl, by decide +kernel, by decide +kernel⟩
section
theorem ok_Tp (F : Fun K "__repr__" "Table.__repr__" sTp f fd) (T : Bt mg) {C fI : Addr} (G : TbF K mg C fI) : FnOk P w K mg base CX0 1 f fd pTp (spTp C) := by
  refine F.ok scTp (fun vs H Q E h => ?_) (fun cdv A outer s H vs Q E hr h => ?_)
  · obtain ⟨a, ps, rs, rfl, _⟩ := h
    rfl
  · obtain ⟨a, ps, rs, rfl, hI, q⟩ := h
    refine ⟨_, (pss_one (ps_ret (pe_joined (.cons pe_str (.cons (pe_fmt (pe_callB call_len_seq (by rfl) T.len PySem.boot_len (pa_cons (pe_fld (pv 0) (by rfl)) pa_nil))) (.cons pe_str (.cons (pe_fmt (pe_callB call_len_seq (by rfl) T.len PySem.boot_len (pa_cons (pe_fld (pv 0) (by rfl)) pa_nil))) (.cons pe_str .nil)))))))), ?_⟩
    obtain ⟨⟨cv, ⟨dx, bv, h1, h2, h3⟩, xs, h4, h5⟩, co, ro, ln⟩ := hI
    have lx := h5.len
    have l8 := co.l8
    have lr : (rs.map (·.1)).length = rs.length := List.length_map _
    have cat : ∀ (x y : Str), (x ++ y).length = x.length + y.length := fun x y => by rw [lenL, lenL, lenL, appL, List.length_append]
    have z0 : Str.empty ++ ("Table(" : Str) = "Table(" := str_ext (by rw [appL]; rfl)
    have c0 : ("Table(" : Str).length = 6 := by decide +kernel
    have c1 : (" columns, " : Str).length = 10 := by decide +kernel
    have c2 : (" rows)" : Str).length = 6 := by decide +kernel
    have n1 := tx_len (n := ps.length) (by omega)
    have n2 := tx_len (n := rs.length) (by omega)
    have big : ∀ {k : Nat}, k ≤ 100 → k ≤ sizeLine := fun h => Nat.le_trans h (by decide)
    have fit : ∀ {n : Nat}, n ≤ 60 → ((n : Nat) : Int).natAbs.log2 < 1920 := fun {n} h => by
      rw [Int.natAbs_natCast]
      exact Nat.lt_of_le_of_lt (Nat.log2_le_self n) (by omega)
    refine ⟨_, rfl, by rw [z0, c0]; decide, ?_⟩
    refine ⟨_, rfl, a, C, dx, _, _, rfl, h1, G.cls, G.a1, rfl, cv, xs, rfl, .inr (SqT.of h4), .inr ⟨_, rfl, fit (by omega), tx ps.length, by rw [lx]; rfl, by rw [z0, cat, c0]; exact big (by omega), ?_⟩⟩
    refine ⟨_, rfl, by rw [z0, cat, cat, c0, c1]; exact big (by omega), ?_⟩
    refine ⟨_, rfl, a, C, dx, _, _, rfl, h1, G.cls, G.a2, rfl, bv, _, rfl, .inr (SqT.of h2), .inr ⟨_, rfl, fit (by omega), tx rs.length, by rw [lr]; rfl, by rw [z0, cat, cat, cat, c0, c1]; exact big (by omega), ?_⟩⟩
    refine ⟨_, rfl, by rw [z0, cat, cat, cat, cat, c0, c1, c2]; exact big (by omega), ?_⟩
    show Q (.str (((((Str.empty ++ ("Table(" : Str)) ++ tx ps.length) ++ (" columns, " : Str)) ++ tx rs.length) ++ (" rows)" : Str))) H
    rw [z0]
    exact q
end
abbrev sTg : Stmt := inClass (top 12) 4
abbrev nTg : List Str := ["self", "values", "lineage"]
abbrev pTg : List Str := ["self"]
theorem scTg : FnScope nTg pTg (defScope sTg) := ⟨rfl, rfl, rfl, by decide +kernel, rfl, by decide +kernel, by decide +kernel⟩
section
variable {fA_ : Addr} {fdA_ : FuncData}
theorem ok_Tg (F : Fun K "lineage" "Table.lineage" sTg f fd) (T : Bt mg) {C fI : Addr} (G : TbF K mg C fI)
    (GA_ : FnOk P w K mg base CX0 1 fA_ fdA_ ["lineages"] (spUn)) (mA_ : mg "union_of" = some (.ref fA_)) (kA_ : PySem.W.keepIn K (.ref fA_) = true) (bA_ : Binds K fdA_ ["lineages"] []) : FnOk P w K mg base CX0 2 f fd pTg (spTg C) := by
  refine F.ok scTg (fun vs H Q E h => ?_) (fun cdv A outer s H vs Q E hr h => ?_)
  · obtain ⟨a, ps, rs, rfl, _⟩ := h
    rfl
  · obtain ⟨a, ps, rs, rfl, hI, hU, k⟩ := h
    have hrA_ : Room (1) _ := hr.mono (by first | decide | omega)
    refine ⟨_, (pss_one (ps_ret (pe_call GA_ hrA_ (by rfl) mA_ kA_ bA_ .nil pass0 (pa_cons (pe_lc (own := [("values", 1), ("lineage", 2)]) (g := (gTup K 2 (gCons (gName 1) (gCons (gName 2) gNil)))) (tt := tYes) (te := tVar 2) (by rfl) scTg.nd (pi_tup (pe_fld (pv 0) (by rfl))) (blkOk_by (own := [("values", 1), ("lineage", 2)]) (N := nTg) (sc := defScope sTg) (by decide +kernel)) (fun _ _ _ _ _ => (pg_tup rfl (pgs_cons (pg_name (i := 1) scTg.nd rfl (.inl rfl)) (pgs_cons (pg_name (i := 2) scTg.nd rfl (.inl rfl)) pgs_nil)))) (fun _ _ _ _ _ => pts_nil) (fun _ _ _ _ _ => (pv 2))) pa_nil)))), ?_⟩
    obtain ⟨⟨cv, ⟨dx, bv, h1, h2, h3⟩, xs, h4, h5⟩, co, ro, ln⟩ := hI
    obtain ⟨U, lU, hU⟩ := hU
    have okl : ∀ r ∈ rs, LinOk r.2.lin := fun r hr => (ro r.2 (List.mem_map_of_mem hr)).2
    refine ⟨_, rfl, a, C, dx, _, _, rfl, h1, G.cls, G.a2, rfl, bv, rfl, ⟨_, SqT.of h2⟩, fun D hD => lc_tup (K := K) (a := bv) (xs := rs.map (·.1)) (fun i H' => (∃ ys, H' D = some (.lst ys) ∧ LinsAt H' ys ((rs.take i).map fun r => r.2.lin) ∧ ys.length ≤ i) ∧ Same H H') ⟨⟨[], upd_same, .nil, Nat.le_refl _⟩, Same.upd hD⟩ (fun i H' _ pr => SqT.of (pr.2 _ _ h2)) ?_ ?_⟩
    · rintro i x H1 hx ⟨⟨ys, eD, lt, ly⟩, s1⟩
      rw [List.getElem?_map] at hx
      obtain ⟨r, er, rfl⟩ := Option.map_eq_some_iff.mp hx
      have li := (List.getElem?_eq_some_iff.mp er).1
      obtain ⟨rr, va, la, ev, e2, dva, dla⟩ := row_at ((h3 r (List.mem_of_getElem? er)).same s1)
      refine ⟨rr, _, ev, SqT.of e2, rfl, _, _, rfl, _, _, rfl, rfl, rfl, ?_⟩
      dsimp only [tYes]
      refine iteT ⟨_, rfl, ys, eD, Nat.lt_of_le_of_lt (show ys.length ≤ 60 by omega) (by decide), ⟨ys ++ [.ref la], upd_same, ?_, by rw [List.length_append]; show ys.length + 1 ≤ i + 1; omega⟩, fun b o e => by rw [upd_ne (ne_of_none e hD)]; exact s1 b o e⟩
      rw [List.take_add_one, er, Option.toList_some, List.map_append]
      exact (lt.t (SameT.lst eD)).snoc (dla.t (SameT.lst eD) (lin_noL _))
    rintro H1 ⟨⟨ys, eD, lt, ly⟩, s1⟩
    rw [List.length_map, List.take_length] at lt
    refine ⟨D, ys, _, rfl, eD, lt, fun l hl => ?_, ⟨U, lU, fun l hl p hp => ?_⟩, fun v H2 s2 dv => k v H2 (s1.trans s2) dv⟩
    · obtain ⟨r, hr, rfl⟩ := List.mem_map.mp hl
      exact okl r hr
    · obtain ⟨r, hr, rfl⟩ := List.mem_map.mp hl
      exact hU r hr p hp
end
abbrev sTk : Stmt := inClass (top 12) 3
abbrev nTk : List Str := ["self", "name", "names", "at", "values", "lineage"]
abbrev pTk : List Str := ["self", "name"]
theorem scTk : FnScope nTk pTk (defScope sTk) := ⟨rfl, rfl, rfl, by decide +kernel, rfl, by decide +kernel, by decide +kernel⟩
section
variable {fA_ : Addr} {fdA_ : FuncData}
theorem ok_Tk (F : Fun K "column" "Table.column" sTk f fd) (T : Bt mg) {C fI CU fU : Addr} {fdU : FuncData} (G : TbF K mg C fI) (RU : ErK K mg "UnknownName" "key" CU fU) (GU : FnOk P w K mg base CX0 1 fU fdU ["self", "key"] (spIni CU "key")) (bU : Binds K fdU ["self", "key"] [])
    (GA_ : FnOk P w K mg base CX0 1 fA_ fdA_ ["columns"] (spNo)) (mA_ : mg "names_of" = some (.ref fA_)) (kA_ : PySem.W.keepIn K (.ref fA_) = true) (bA_ : Binds K fdA_ ["columns"] []) : FnOk P w K mg base (L2.CX P w) 3 f fd pTk (spTk C CU) := by
  refine F.okX scTk (fun vs H Q E h => ?_) (fun cdv A outer s H vs Q E hr h => ?_)
  · obtain ⟨a, ps, rs, n, d, rfl, _⟩ := h
    rfl
  · obtain ⟨a, ps, rs, n, d, rfl, hI, hn, sd, k1, k2⟩ := h
    have hrA_ : Room (1) _ := hr.mono (by first | decide | omega)
    refine ⟨_, (pss_cons (ps_set (i := 2) scTk.nd rfl (Or.inl rfl) (pe_call GA_ hrA_ (by rfl) mA_ kA_ bA_ .nil pass0 (pa_cons (pe_fld (pv 0) (by rfl)) pa_nil)))
      (pss_cons (ps_if (pt_cmpR (op_notInD (hu65 hr)) (pv 1) (pv 2) (by rfl)) (pss_one (ps_raise (W := fun cls d _ H => E cls d H) rfl (takes_of rfl rfl rfl rfl) (pmk_oexL PySem.F.excBase_LookupError lnK RU.oex RU.iC RU.tI GU hr bU .nil pass0 (by rfl) RU.gC (pa_cons (pv 1) pa_nil)))) pss_nil)
      (pss_cons (ps_set (i := 3) scTk.nd rfl (Or.inr rfl) (pe_bm PySem.F.plainAttrs_list PySem.F.slot_list_index PySem.F.type_list_index mt_index (pv 2) (pa_cons (pv 1) pa_nil)))
      (pss_one (ps_ret (pe_lc (own := [("values", 4), ("lineage", 5)]) (g := (gTup K 2 (gCons (gName 4) (gCons (gName 5) gNil)))) (tt := tYes) (te := (tOp (rIxT K) (tVar 4) (tVar 3))) (by rfl) scTk.nd (pi_tup (pe_fld (pv 0) (by rfl))) (blkOk_by (own := [("values", 4), ("lineage", 5)]) (N := nTk) (sc := defScope sTk) (by decide +kernel)) (fun _ _ _ _ _ => (pg_tup rfl (pgs_cons (pg_name (i := 4) scTk.nd rfl (.inl rfl)) (pgs_cons (pg_name (i := 5) scTk.nd rfl (.inl rfl)) pgs_nil)))) (fun _ _ _ _ _ => pts_nil) (fun _ _ _ _ _ => (pe_ix ix_tup (pv 4) (pv 3) (fun _ _ => rfl))))))))), ?_⟩
    obtain ⟨⟨cv, ⟨dx, bv, h1, h2, h3⟩, xs, h4, h5⟩, co, ro, ln⟩ := hI
    have one : 1 ≤ 1000 := by decide
    refine ⟨_, rfl, a, C, dx, _, _, rfl, h1, G.cls, G.a1, rfl, cv, ps, rfl, ⟨xs, h4, h5⟩, co.l8, fun N H1 s1 hN eN => ?_⟩
    have dN : Dh H1 (.ref N) (.list ((nms ps).map PyData.str)) := .lst eN (vS_dh _)
    have sN : SeqAt.shaped (.list ((nms ps).map PyData.str)) = true := by
      refine Bool.and_eq_true_iff.mpr ⟨cans_all fun e he => ?_, decide_eq_true ?_⟩
      · obtain ⟨x, hx, rfl⟩ := List.mem_map.mp he
        obtain ⟨p, hp, rfl⟩ := List.mem_map.mp hx
        exact can_str (co.each p hp).1
      · have : PyData.depthAll ((nms ps).map PyData.str) ≤ 0 := depthAll_le fun e he => by
          obtain ⟨x, hx, rfl⟩ := List.mem_map.mp he
          exact Nat.le_refl _
        simp only [PyData.depth]
        omega
    have nd1 : d.hasDict = false := PyData.hasDict_of_canLay _ (SeqAt.canLay_of_shaped sd)
    have nd2 : (PyData.list ((nms ps).map PyData.str)).hasDict = false := PyData.hasDict_of_canLay _ (SeqAt.canLay_of_shaped sN)
    refine ⟨_, rfl, _, rfl, d, _, (hn.same s1).dp nd1, dN.dp nd2, sd, sN, _, rfl, ite2 (fun z => ?_) (fun z => ?_)⟩
    · refine ⟨_, rfl, one, tells_ofF (k1 (fun x hx => ?_) H1 s1)⟩
      have z : (((nms ps).map PyData.str).any fun e => PyData.eqv e d) = false := by simpa using z
      rw [List.any_map] at z
      have := List.any_eq_false.mp z x hx
      simpa using this
    · have z : (((nms ps).map PyData.str).any fun e => PyData.eqv e d) = true := by simpa using z
      rw [List.any_map] at z
      obtain ⟨x, hx, ex⟩ := List.any_eq_true.mp z
      obtain ⟨j, ej⟩ := List.mem_iff_getElem?.mp hx
      have hnx : n = .str x := by
        have ex : PyData.eqv (.str x) d = true := ex
        cases hn with
        | str y =>
          simp only [PyData.eqv] at ex
          rw [show x = y by simpa using ex]
        | _ => simp [PyData.eqv] at ex
      subst hnx
      have k2 := k2 j x ej rfl
      have vx : (vS (nms ps))[j]? = some (.str x) := by unfold vS; rw [List.getElem?_map, ej]; rfl
      have fl : (vS (nms ps)).all flatV = true := List.all_eq_true.mpr fun v hv => by
        obtain ⟨y, _, rfl⟩ := List.mem_map.mp hv
        rfl
      refine ⟨_, rfl, .inl ⟨rfl, _, SqL.of eN⟩, _, rfl, N, _, _, j, _, rfl, rfl, SqL.of eN, rfl, fl, vx, by simp [eqV], fun m z' lm ez => ?_, ?_⟩
      · unfold vS at ez
        rw [List.getElem?_map] at ez
        obtain ⟨y, ey, rfl⟩ := Option.map_eq_some_iff.mp ez
        have : y ≠ x := fun e => by
          subst e
          have lj := (List.getElem?_eq_some_iff.mp ej).1
          have e1 := (List.getElem?_eq_some_iff.mp ej).2
          have e2 := (List.getElem?_eq_some_iff.mp ey).2
          have := (List.getElem_inj (h₀ := by omega) (h₁ := lj) co.nd).mp (e2.trans e1.symm)
          omega
        simp [eqV, this]
      have lj : j < ps.length := by
        have := (List.getElem?_eq_some_iff.mp ej).1
        rwa [List.length_map] at this
      have noV : ∀ r ∈ rs, noLs r.2.vals = true := fun r hr => (ro r.2 (List.mem_map_of_mem hr)).1.noL
      have lnV : ∀ r ∈ rs, r.2.vals.length = ps.length := fun r hr => by
        have := (ro r.2 (List.mem_map_of_mem hr)).1.len
        rw [List.length_map] at this
        exact this.symm
      have nc : noLs (colD rs j) = true := noLs_all.mpr fun e he => by
        obtain ⟨r, hr, rfl⟩ := List.mem_map.mp he
        have l1 := lnV r hr
        rw [List.getD_eq_getElem?_getD, List.getElem?_eq_getElem (by omega)]
        exact noLs_all.mp (noV r hr) _ (List.getElem_mem _)
      refine ⟨_, rfl, a, C, dx, _, _, rfl, s1 _ _ h1, G.cls, G.a2, rfl, bv, rfl, ⟨_, SqT.of (s1 _ _ h2)⟩, fun D hD => lc_tup (K := K) (a := bv) (xs := rs.map (·.1)) (fun i H' => (∃ ys, H' D = some (.lst ys) ∧ DhAll H' ys (colD (rs.take i) j) ∧ ys.length ≤ i) ∧ Same H1 H') ⟨⟨[], upd_same, .nil, Nat.le_refl _⟩, Same.upd hD⟩ (fun i H' _ pr => SqT.of (pr.2 _ _ (s1 _ _ h2))) ?_ ?_⟩
      · rintro i x H2 hx ⟨⟨ys, eD, lt, ly⟩, s2⟩
        rw [List.getElem?_map] at hx
        obtain ⟨r, er, rfl⟩ := Option.map_eq_some_iff.mp hx
        have li := (List.getElem?_eq_some_iff.mp er).1
        have rm := List.mem_of_getElem? er
        obtain ⟨rr, va, la, ev, e2, dva, dla⟩ := row_at ((h3 r rm).same (s1.trans s2))
        refine ⟨rr, _, ev, SqT.of e2, rfl, _, _, rfl, _, _, rfl, rfl, rfl, ?_⟩
        dsimp only [tYes]
        have l1 := lnV r rm
        cases dva with
        | @tup _ us _ eu hu =>
        have lu := hu.len
        obtain ⟨u, eu'⟩ : ∃ u, us[j]? = some u := ⟨_, List.getElem?_eq_getElem (by omega)⟩
        obtain ⟨e, ee, de⟩ := hu.get _ _ eu'
        refine iteT ⟨_, rfl, _, rfl, va, us, (j : Int), u, rfl, rfl, SqT.of eu, at_of (j := j) (by omega) eu', ys, eD, Nat.lt_of_le_of_lt (show ys.length ≤ 60 by omega) (by decide), ⟨ys ++ [u], upd_same, ?_, by rw [List.length_append]; show ys.length + 1 ≤ i + 1; omega⟩, fun b o e => by rw [upd_ne (ne_of_none e hD)]; exact s2 b o e⟩
        have nt : noLs (colD (rs.take i) j) = true := noLs_all.mpr fun e he => by
          obtain ⟨q, hq, rfl⟩ := List.mem_map.mp he
          exact noLs_all.mp nc _ (List.mem_map_of_mem (f := fun r : V × RowD => r.2.vals.getD j .none) (List.mem_of_mem_take hq))
        have ne : noL e = true := noLs_all.mp (noV r rm) _ (List.mem_of_getElem? ee)
        have e3 : colD (rs.take (i + 1)) j = colD (rs.take i) j ++ [e] := by
          unfold colD
          rw [List.take_add_one, er, Option.toList_some, List.map_append, List.map_cons, List.map_nil, List.getD_eq_getElem?_getD, ee]
          rfl
        rw [e3]
        exact DhAll.append (DhAll.t (SameT.lst eD) lt nt) (.cons (de.t (SameT.lst eD) ne) .nil)
      rintro H2 ⟨⟨ys, eD, lt, ly⟩, s2⟩
      rw [List.length_map, List.take_length] at lt
      exact k2 D ys H2 (s1.trans s2) (s1.free hD) eD lt
end
end
end K12
set_option Elab.async false
set_option linter.all false
set_option maxRecDepth 100000
set_option maxHeartbeats 4000000
namespace K12
open PySem PySem.Spec PyProof.Rows L2 Lc
/-! ## the table of a register -/
def valsD : PyData → List PyData
  | .tuple ds => ds
  | _ => []
def regR (nm : Str) (st : St2) : List RowD := st.map fun p => ⟨valsD p.2, [(nm, p.1)]⟩
theorem OkEs.row {ks : List Str} {es : List En} (h : OkEs ks es) : ∀ p ∈ stD es, ∃ ds, p.2 = .tuple ds ∧ Vks ks ds := by
  induction h with
  | nil => exact nofun
  | @snoc es e h g ih =>
    intro p hp
    rw [stD_snoc] at hp
    unfold stepS at hp
    rcases g.go with ⟨hw, hn, ds, hv, vk⟩ | ⟨hw, hn, ds, hv, vk⟩ | ⟨hw, _⟩
    · rw [if_pos hw] at hp
      rcases List.mem_append.mp hp with q | q
      · exact ih p q
      · rw [List.mem_singleton.mp q]; exact ⟨ds, hv, vk⟩
    · rw [if_neg (by rw [hw]; exact w_ac), if_pos hw] at hp
      obtain ⟨q, hq, rfl⟩ := List.mem_map.mp hp
      by_cases z : q.1 = e.n
      · rw [if_pos z]; exact ⟨ds, hv, vk⟩
      · rw [if_neg z]; exact ih q hq
    · rw [if_neg (by rw [hw]; exact w_as), if_neg (by rw [hw]; exact w_cs)] at hp
      exact ih p (List.mem_filter.mp hp).1
theorem reg_ok {nm : Str} {ks : List Str} {es : List En} (h : OkEs ks es) (hn : Sh 12 nm) (l : es.length ≤ 100) : RowG ks (regR nm (stD es)) := fun r hr => by
  obtain ⟨p, hp, rfl⟩ := List.mem_map.mp hr
  obtain ⟨ds, e, vk⟩ := h.row p hp
  obtain ⟨_, k2, _⟩ := h.keys
  obtain ⟨n0, n1⟩ := k2 p.1 (List.mem_map_of_mem hp)
  have := h.used_le
  refine ⟨?_, List.nodup_cons.mpr ⟨nofun, List.nodup_nil⟩, fun q hq => ?_⟩
  · show Vks ks (valsD p.2)
    rw [e]
    exact vk
  · rw [List.mem_singleton.mp hq]
    exact ⟨hn, n0, by show p.1 < 400; omega⟩
/-- a made table -/
def spRt (CR C : Addr) : Sp := fun vs H Q _ => ∃ (a lg : Addr) (R : RD) (y : V) (v : Nat), vs = [.ref a, y] ∧ IsRg CR H a lg R ∧ OkR R ∧ R.es.length ≤ 60 ∧ v ≤ R.es.length ∧ (y = .int v ∨ (y = .non ∧ v = R.es.length)) ∧
  ∀ (t : Addr) (rs : RowsL) (H' : Hp), Same H H' → TbAt C H' t R.ps rs → rs.map (·.2) = regR R.nm (stD (R.es.take v)) → Q (.ref t) H'
def spRtX (CR : Addr) (A : EA) : Sp := fun vs H Q E => ∃ (a lg : Addr) (R : RD) (v : V) (d : PyData), vs = [.ref a, v] ∧ IsRg CR H a lg R ∧ OkR R ∧ Dh H v d ∧ v ≠ .non ∧ (∃ c, versU R.es v d = some (c, v)) ∧ ∀ H', Same H H' → TellsF A.v "given" H' v E
section
variable {P : Program} {w : World} {K : PySem.W.Frag} {mg : Str → Option Value} {base : Heap} {f : Addr} {fd : FuncData}
abbrev sRt : Stmt := top 13
abbrev nRt : List Str := ["origin", "version", "called", "rows", "number", "values"]
abbrev pRt : List Str := ["origin", "version"]
theorem scRt : FnScope nRt pRt (defScope sRt) := ⟨rfl, rfl, rfl, by decide +kernel, rfl, by decide +kernel, by decide +kernel⟩
section
theorem ok_Rt {dvs : List V} {kws : List (Str × V)} (F : FunD K "register_table" "register_table" (defArgs sRt) (defBody sRt) (defScope sRt) dvs kws f fd) (T : Bt mg) {CR C fI0 fN0 fC0 fW0 : Addr} {fdN0 fdC0 fdW0 : FuncData} (Rg : RgF K mg CR fI0) (M : TbM P w K mg base C) (hN : Meth K CR "name" fN0) (GN : FnOk P w K mg base CX0 1 fN0 fdN0 ["self"] (spNm CR)) (bN : Binds K fdN0 ["self"] []) (hC : Meth K CR "columns" fC0) (GC : FnOk P w K mg base CX0 1 fC0 fdC0 ["self"] (spCo CR)) (bC : Binds K fdC0 ["self"] []) (hW : Meth K CR "rows" fW0) (bW : Binds K fdW0 ["self", "version"] []) (GW : FnOk P w K mg base CX0 2 fW0 fdW0 ["self", "version"] (spRows CR)) : FnOk P w K mg base CX0 3 f fd pRt (spRt CR C) := by
  refine F.ok scRt (fun vs H Q E h => ?_) (fun cdv A outer s H vs Q E hr h => ?_)
  · obtain ⟨a, lg, R, y, v, rfl, _⟩ := h
    rfl
  · obtain ⟨a, lg, R, y, v, rfl, hI, o, l60, lv, hy, k⟩ := h
    obtain ⟨fI, fdI, GI, FI, bI⟩ := M.i
    have hr1 : Room 1 _ := hr.mono (by decide)
    have hr2 : Room (1 + 1) _ := hr.mono (by decide)
    refine ⟨_, (pss_cons (ps_set (i := 2) scRt.nd rfl (Or.inr rfl) (pe_meth0 (pv 0) Rg.cls hN GN hr1 bN .nil pass0))
      (pss_cons (ps_setLc (i := 3) (own := [("number", 4), ("values", 5)]) (g := (gTup K 2 (gCons (gName 4) (gCons (gName 5) gNil)))) (tt := tYes) (te := (tTup (tCons (tVar 5) (tCons (tTup (tCons (tTup (tCons (tVar 2) (tCons (tVar 4) tNil))) tNil)) tNil)))) (by rfl) scRt.nd rfl rfl (sw_true rfl rfl rfl (by decide +kernel)) (pi_list (pe_meth (pv 0) Rg.cls hW GW hr bW .nil pass0 (pa_cons (pv 1) pa_nil))) (blkOk_by (own := [("number", 4), ("values", 5)]) (N := nRt) (sc := defScope sRt) (by decide +kernel)) (fun _ _ _ _ _ => (pg_tup rfl (pgs_cons (pg_name (i := 4) scRt.nd rfl (.inl rfl)) (pgs_cons (pg_name (i := 5) scRt.nd rfl (.inl rfl)) pgs_nil)))) (fun _ _ _ _ _ => pts_nil) (fun _ _ _ _ _ => (pe_tup (pa_cons (pv 5) (pa_cons (pe_tup (pa_cons (pe_tup (pa_cons (pv 2) (pa_cons (pv 4) pa_nil))) pa_nil)) pa_nil)))))
      (pss_one (ps_ret (pe_make GI.mkC FI hr2 (by rfl) GI.gC bI .nil pass0 (pa_cons (pe_meth0 (pv 0) Rg.cls hC GC hr1 bC .nil pass0) (pa_cons (pv 3) pa_nil))))))), ?_⟩
    obtain ⟨dx, cv, xs, ys, h1, h2, h3, h4, h5⟩ := id hI
    have one : 1 ≤ sizeLine := by decide
    have two : 2 ≤ sizeLine := by decide
    refine ⟨_, rfl, a, dx, _, rfl, h1, rfl, a, lg, R, rfl, hI, ?_⟩
    refine ⟨_, rfl, a, dx, _, rfl, h1, rfl, _, rfl, a, lg, R, y, v, rfl, hI, o, lv, hy, fun L zs H1 s1 hL eL dL => ?_⟩
    have ot : OkEs (R.ps.map (·.2)) (R.es.take v) := OkEs.take v o.es
    have lt : (R.es.take v).length ≤ 60 := by rw [List.length_take]; omega
    have go := reg_ok (nm := R.nm) ot o.nm.1 (by omega)
    have nV : ∀ p ∈ stD (R.es.take v), noL p.2 = true := ot.noLs
    have go' := ot.row
    obtain ⟨_, _, lk⟩ := ot.keys
    have lu := ot.used_le
    generalize stD (R.es.take v) = st at dL go go' nV lk k ⊢
    have lz : zs.length = st.length := by rw [dL.len]; exact List.length_map _
    have regl : ∀ l : St2, (regR R.nm l).length = l.length := fun l => List.length_map _
    refine ⟨L, rfl, ⟨_, SqL.of eL⟩, fun D hD => lc_list (K := K) (a := L) (xs := zs) (fun i H' => (∃ rs : RowsL, H' D = some (.lst (rs.map (·.1))) ∧ RowsAt H' rs ∧ rs.map (·.2) = regR R.nm (st.take i)) ∧ Same H1 H') ⟨⟨[], upd_same, nofun, rfl⟩, Same.upd hD⟩ (fun i H' _ pr => SqL.of (pr.2 _ _ eL)) ?_ ?_⟩
    · rintro i x H2 hx ⟨⟨rs, eD, ra, em⟩, s2⟩
      obtain ⟨p, ep, b, u, rfl, eb, du⟩ := rows_get dL hx
      have du := du.same s2
      have lr : rs.length ≤ i := by
        have := congrArg List.length em
        rw [List.length_map, regl, List.length_take] at this
        omega
      have li : i < st.length := (List.getElem?_eq_some_iff.mp ep).1
      refine ⟨b, _, rfl, SqT.of (s2 _ _ eb), rfl, _, _, rfl, _, _, rfl, rfl, rfl, ?_⟩
      dsimp only [tYes]
      refine iteT ⟨_, rfl, _, rfl, _, rfl, two, fun q1 hq1 => ⟨one, fun q2 hq2 => ⟨two, fun q3 hq3 => ?_⟩⟩⟩
      have z1 := Same.upd (o := .tup [.str R.nm, .int p.1]) hq1
      have z2 := Same.upd (o := .tup [.ref q1]) hq2
      have z3 := Same.upd (o := .tup [u, .ref q2]) hq3
      have zz := z1.trans (z2.trans z3)
      have e1 := (z2.trans z3) _ _ (show L2.upd H2 q1 (.tup [.str R.nm, .int p.1]) q1 = some (.tup [.str R.nm, .int p.1]) from upd_same)
      have e2 := z3 _ _ (show L2.upd (L2.upd H2 q1 (.tup [.str R.nm, .int p.1])) q2 (.tup [.ref q1]) q2 = some (.tup [.ref q1]) from upd_same)
      have e3 : L2.upd (L2.upd (L2.upd H2 q1 (.tup [.str R.nm, .int p.1])) q2 (.tup [.ref q1])) q3 (.tup [u, .ref q2]) q3 = some (.tup [u, .ref q2]) := upd_same
      generalize L2.upd (L2.upd (L2.upd H2 q1 (.tup [.str R.nm, .int p.1])) q2 (.tup [.ref q1])) q3 (.tup [u, .ref q2]) = H3 at zz e1 e2 e3 ⊢
      have pd : ∃ ds, p.2 = .tuple ds := by
        obtain ⟨ds, e, _⟩ := go' p (List.mem_of_getElem? ep)
        exact ⟨ds, e⟩
      obtain ⟨ds, ed⟩ := pd
      have dr : Dh H3 (.ref q3) (RowD.d ⟨valsD p.2, [(R.nm, p.1)]⟩) := by
        have du3 := du.same zz
        rw [ed] at du3 ⊢
        exact .tup e3 (.cons du3 (.cons (.tup e2 (.cons (.tup e1 (.cons (.str _) (.cons (.int _) .nil))) .nil)) .nil))
      have eD3 := zz _ _ eD
      have noR : noL (RowD.d ⟨valsD p.2, [(R.nm, p.1)]⟩) = true := row_noL (by have := nV p (List.mem_of_getElem? ep); rw [ed] at this ⊢; simpa [noL, valsD] using this)
      refine ⟨_, eD3, Nat.lt_of_le_of_lt (show (rs.map (·.1)).length ≤ 60 by rw [List.length_map]; omega) (by decide), ⟨rs ++ [(.ref q3, ⟨valsD p.2, [(R.nm, p.1)]⟩)], by rw [upd_same, List.map_append]; rfl, fun r hr => ?_, ?_⟩, fun b' o' e' => by rw [upd_ne (ne_of_none e' hD)]; exact zz _ _ (s2 b' o' e')⟩
      · rcases List.mem_append.mp hr with hr | hr
        · refine ((ra r hr).same zz).t (SameT.lst eD3) ?_
          have hm : r.2 ∈ regR R.nm (st.take i) := by rw [← em]; exact List.mem_map_of_mem hr
          obtain ⟨p', hp', e'⟩ := List.mem_map.mp hm
          obtain ⟨ds', ed', _⟩ := go' p' (List.mem_of_mem_take hp')
          rw [← e']
          exact row_noL (by have := nV p' (List.mem_of_mem_take hp'); rw [ed'] at this ⊢; simpa [noL, valsD] using this)
        · rw [List.mem_singleton.mp hr]
          exact dr.t (SameT.lst eD3) noR
      · rw [List.map_append, em, List.take_add_one, ep]
        unfold regR
        rw [List.map_append]
        rfl
    rintro H2 ⟨⟨rs, eD, ra, em⟩, s2⟩
    rw [lz, List.take_length] at em
    have s02 := s1.trans s2
    have g2 : RowG (R.ps.map (·.2)) (rs.map (·.2)) := by rw [em]; exact go
    refine ⟨_, rfl, a, dx, _, rfl, s02 _ _ h1, rfl, a, lg, R, rfl, hI.same s02, fun cv2 xs2 ec c2 => ⟨_, rfl, ?_⟩⟩
    have lr : rs.length ≤ 60 := by
      have := congrArg List.length em
      rw [List.length_map, regl] at this
      omega
    refine mk_tb (.inl eD) ra g2.ok fun t H3 s3 _ hT => ?_
    exact k t rs H3 (s02.trans s3) ⟨⟨cv2, hT, xs2, s3 _ _ ec, c2.same s3⟩, o.cols, g2, lr⟩ em
end
abbrev sRx : Stmt := top 13
abbrev nRx : List Str := ["origin", "version", "called", "rows", "number", "values"]
abbrev pRx : List Str := ["origin", "version"]
theorem scRx : FnScope nRx pRx (defScope sRx) := ⟨rfl, rfl, rfl, by decide +kernel, rfl, by decide +kernel, by decide +kernel⟩
section
theorem ok_Rx {dvs : List V} {kws : List (Str × V)} (F : FunD K "register_table" "register_table" (defArgs sRx) (defBody sRx) (defScope sRx) dvs kws f fd) (T : Bt mg) {CR C fI0 fN0 fC0 fW0 : Addr} {fdN0 fdC0 fdW0 : FuncData} (Rg : RgF K mg CR fI0) (M : TbM P w K mg base C) (hN : Meth K CR "name" fN0) (GN : FnOk P w K mg base CX0 1 fN0 fdN0 ["self"] (spNm CR)) (bN : Binds K fdN0 ["self"] []) (hC : Meth K CR "columns" fC0) (GC : FnOk P w K mg base CX0 1 fC0 fdC0 ["self"] (spCo CR)) (bC : Binds K fdC0 ["self"] []) (hW : Meth K CR "rows" fW0) (bW : Binds K fdW0 ["self", "version"] []) {A : EA} (GW : FnOk P w K mg base (L2.CX P w) 3 fW0 fdW0 ["self", "version"] (spRowsX CR A)) : FnOk P w K mg base (L2.CX P w) 4 f fd pRx (spRtX CR A) := by
  refine F.ok scRx (fun vs H Q E h => ?_) (fun cdv A outer s H vs Q E hr h => ?_)
  · obtain ⟨a, lg, R, v, d, rfl, _⟩ := h
    rfl
  · obtain ⟨a, lg, R, v, d, rfl, hI, o, hd, nn, hc, k⟩ := h
    obtain ⟨fI, fdI, GI, FI, bI⟩ := M.i
    have hr1 : Room 1 _ := hr.mono (by decide)
    have hr2 : Room (1 + 1) _ := hr.mono (by decide)
    have hr3 : Room 3 _ := hr.mono (by decide)
    refine ⟨_, (pss_cons (ps_set (i := 2) scRx.nd rfl (Or.inr rfl) (pe_meth0 (pv 0) Rg.cls hN GN hr1 bN .nil pass0))
      (pss_cons (ps_setLc (i := 3) (own := [("number", 4), ("values", 5)]) (g := (gTup K 2 (gCons (gName 4) (gCons (gName 5) gNil)))) (tt := tYes) (te := (tTup (tCons (tVar 5) (tCons (tTup (tCons (tTup (tCons (tVar 2) (tCons (tVar 4) tNil))) tNil)) tNil)))) (by rfl) scRx.nd rfl rfl (sw_true rfl rfl rfl (by decide +kernel)) (pi_list (Lc.pe_methS (pv 0) Rg.cls hW GW hr3 bW (fun σ => passAt (W := fun cls d _ H => E cls d H) (takes_of rfl rfl rfl rfl) σ) (pa_cons (pv 1) pa_nil))) (blkOk_by (own := [("number", 4), ("values", 5)]) (N := nRx) (sc := defScope sRx) (by decide +kernel)) (fun _ _ _ _ _ => (pg_tup rfl (pgs_cons (pg_name (i := 4) scRx.nd rfl (.inl rfl)) (pgs_cons (pg_name (i := 5) scRx.nd rfl (.inl rfl)) pgs_nil)))) (fun _ _ _ _ _ => pts_nil) (fun _ _ _ _ _ => (pe_tup (pa_cons (pv 5) (pa_cons (pe_tup (pa_cons (pe_tup (pa_cons (pv 2) (pa_cons (pv 4) pa_nil))) pa_nil)) pa_nil)))))
      (pss_one (ps_ret (pe_make GI.mkC FI hr2 (by rfl) GI.gC bI .nil pass0 (pa_cons (pe_meth0 (pv 0) Rg.cls hC GC hr1 bC .nil pass0) (pa_cons (pv 3) pa_nil))))))), ?_⟩
    obtain ⟨dx, cv, xs, ys, h1, h2, h3, h4, h5⟩ := id hI
    obtain ⟨c, hc⟩ := hc
    refine ⟨_, rfl, a, dx, _, rfl, h1, rfl, a, lg, R, rfl, hI, ?_⟩
    refine ⟨_, rfl, a, dx, _, rfl, h1, rfl, _, rfl, a, lg, R, v, d, rfl, hI, o, hd, nn, ⟨fun e => ?_, fun c' x e H' s' => ?_⟩⟩
    · rw [hc] at e
      cases e
    · rw [hc] at e
      injection e with e
      injection e with _ e
      rw [← e]
      exact k H' s'
end
end
end K12
set_option Elab.async false
set_option linter.all false
set_option maxRecDepth 100000
set_option maxHeartbeats 4000000
namespace Lc
open PySem PySem.Spec PyProof.Rows L2
/-! ## An error that leaves a list comprehension -/
theorem inv_xe {X : Cx} {pins : List (Addr × Obj)} {σ : L2.St} {H : Hp} {s : Shared} (I : Inv X pins σ H s) (e : Value → Shared → Prop) : Inv { X with xe := e } pins σ H s :=
  ⟨I.ok.toTry X.pn e, I.os, I.bare, I.base, I.loc, I.cell, I.free, I.freeC, I.pin, I.hok, I.len⟩
/-- the block, with what it may let out -/
abbrev blkE (X : Cx) (s : Shared) (H : Hp) (scope : Scope) (ce : Env) (fp : List Addr) (ex : Value → Shared → Prop) : Cx := { X.blk s H scope ce fp with xe := ex }
/-- what a call in the block raised -/
def OutB (X : Cx) (s : Shared) (H : Hp) (scope : Scope) (ce : Env) (fp : List Addr) (F : XK) (u : Value) (s' : Shared) : Prop :=
  ∃ (pb : List (Addr × Obj)) (σb : L2.St) (Hb : Hp) (sb : Shared), Inv (X.blk s H scope ce fp) pb σb Hb sb ∧ L2.CX X.prog X.w X.stack Hb sb F u s'
theorem none_sub {B B' : Heap} (sub : ∀ b o, B'.get? b = some o → B.get? b = some o) {b : Addr} (e : B.get? b = none) : B'.get? b = none := by
  cases q : B'.get? b with
  | none => rfl
  | some o => rw [sub _ _ q] at e; cases e
theorem traced_sub {h B B' : Heap} {a : Addr} {Z : Obj → Prop} {fl : Value} (t : HandSPX.TracedZ h B a Z fl) (sub : ∀ b o, B'.get? b = some o → B.get? b = some o) : HandSPX.TracedZ h B' a Z fl := by
  obtain ⟨oe, vs, T, oT, ts, x1, x2, x3, x4, x5, x6⟩ := t
  exact ⟨oe, vs, T, oT, ts, x1, x2, x3, x4, none_sub sub x5, x6⟩
theorem frames_sub {h B B' : Heap} (sub : ∀ b o, B'.get? b = some o → B.get? b = some o) : ∀ {l : List Env}, h.FunFrames B l → h.FunFrames B' l
  | [], _ => trivial
  | env :: rest, ⟨x1, ⟨L, o, y1, y2, y3⟩, x3⟩ => ⟨x1, ⟨L, o, y1, none_sub sub y2, y3⟩, frames_sub sub x3⟩
section
variable {X : Cx} {W : WX} {pins : List (Addr × Obj)} {σ : L2.St} {Hi : Hp} {si : Shared} {scope : Scope} {ce : Env} {fp : List Addr}
/-- the block is let go, the error goes on in the def's own frame -/
theorem blk_fails (hs : X.stack = X.env :: X.outer) (hf : X.env.frame = some X.env.locals) (tk : Takes X W) (I : Inv X pins σ Hi si) (cf : ce.frame = X.env.frame) (cL : ce.locals = si.heap.objs.size)
    (hfp : ∀ b ∈ fp, FpOk X pins Hi b) {use : Option (Value → Sem Unit)} {Qf : Value → Shared → Prop} {acc : Value} {u : Value} {s' : Shared} (ob : OutB X si Hi scope ce fp (fun cls d H' => W cls d σ H') u s') :
    notedBy (model X.prog X.w) X.A ce (fun e s' => compEnds (model X.prog X.w) X.A X.xe use Qf acc ce (.error e) s') u s' := by
  obtain ⟨pb, σb, Hb, sb, Ib, a, B, H', cls, d, rfl, fl, hok, ub, na, os, ag, hE⟩ := ob
  -- the def's own view of the state at the call
  have IX : Inv X pins σ Hb sb := I.call' (ch := fp) Ib.os Ib.base Ib.hok Ib.bare fun b hb => by
    obtain ⟨_, k2, _, k4, k5, k6⟩ := hfp b hb
    exact ⟨k4, k2, k5, k6⟩
  have nC : Hb ce.locals = none := Ib.free
  have fC : FpOk X pins Hb ce.locals := I.fpOk (by rw [cL]; exact Nat.le_refl _) nC
  obtain ⟨_, c2, c3, c4, c5, c6⟩ := fC
  have nfC : ce.locals ∉ frs X.stack := fun z => (List.mem_cons.mp (I.stkSub _ z)).elim c2 c3
  obtain ⟨m, ⟨oC, es, ep, hoC, rC⟩, _⟩ := Ib.loc
  have hoC : sb.heap.get? ce.locals = some oC := hoC
  have B0 : B.get? ce.locals = some oC := ub.keep _ _ hoC nC nfC
  have H0 : H' ce.locals = none := ub.free _ _ hoC nC
  have ns' : s'.heap.Ns ce.locals m := ⟨oC, es, ep, fl.1 _ _ B0, rC⟩
  -- the ground without the block
  obtain ⟨B', b1, b2⟩ := restrict B fun b => !decide (b = ce.locals)
  have bn : B'.get? ce.locals = none := b2 _ (by simp)
  have bk : ∀ b, b ≠ ce.locals → B'.get? b = B.get? b := fun b n => b1 b (by simp [n])
  have sub : ∀ b o, B'.get? b = some o → B.get? b = some o := fun b o e => by
    by_cases z : b = ce.locals
    · rw [z, bn] at e; cases e
    · rw [← bk b z]; exact e
  have hok' : HOk X.prog X.w H' B' := fun b o q => (hok b o q).stay (fun c v hc r => by
    refine (bk c fun z => ?_).trans r
    rcases hc with hc | hc
    · rw [← hc, z, H0] at q; cases q
    · rw [z, H0] at hc; cases hc) (fun _ r => r) fun _ _ r => r
  obtain ⟨G, g1, g2⟩ := restrict s'.heap fun b => (B'.get? b).isSome || decide (b ∈ frs X.stack)
  have gB : ∀ b o, B'.get? b = some o → G.get? b = some o := fun b o e => by
    rw [g1 b (by rw [e]; rfl)]
    exact fl.1 b o (sub b o e)
  have gF : ∀ b, b ∈ frs X.stack → G.get? b = s'.heap.get? b := fun b hb => g1 b (by rw [decide_eq_true hb, Bool.or_true])
  have gO : ∀ b o, G.get? b = some o → s'.heap.get? b = some o ∧ b ≠ ce.locals ∧ (b ∉ frs X.stack → B'.get? b = some o) := fun b o e => by
    cases q : ((B'.get? b).isSome || decide (b ∈ frs X.stack)) with
    | false => rw [g2 b q] at e; cases e
    | true =>
      rw [g1 b q] at e
      refine ⟨e, fun z => ?_, fun hb => ?_⟩
      · rw [z, bn, decide_eq_false nfC] at q; cases q
      · rw [decide_eq_false hb, Bool.or_false] at q
        obtain ⟨o2, q2⟩ := Option.isSome_iff_exists.mp q
        have w := fl.1 b o2 (sub b o2 q2)
        rw [e] at w
        cases w
        exact q2
  have flB : HandSPX.FlyingZ B' (X.env :: X.outer) a (Zc cls d) s'.heap := by
    have fl := fl
    rw [hs] at fl
    obtain ⟨y1, y2, y3, y4⟩ := fl
    exact ⟨fun b o e => y1 b o (sub b o e), none_sub sub y2, frames_sub sub y3, traced_sub y4 sub⟩
  have IG : Inv X pins σ H' { sb with heap := G, gens := s'.gens, drawn := s'.drawn, toks := s'.toks } := by
    have ne : ∀ {b : Addr}, b ∉ [ce.locals] → b ≠ ce.locals := fun h z => h (by rw [z]; exact List.mem_singleton.mpr rfl)
    refine IX.call (ch := [ce.locals]) ⟨fun b o e n hb hc => gB b o ((bk b (ne hc)).trans (ub.keep b o e n hb)), fun b o e n hb hc => ?_, fun b o e n hc => ub.free b o e n, fun b o e hc => ?_, ub.tups, ub.frzs, ub.tbls⟩ (hok'.kept gB) ag fun b hb => ?_
    · obtain ⟨sl, q⟩ := ub.slot b o e hb
      exact ⟨sl, (gF b hb).trans q⟩
    · by_cases hb : b ∈ frs X.stack
      · obtain ⟨sl, q⟩ := ub.slot b o e hb
        exact ⟨_, (gF b hb).trans q⟩
      · obtain ⟨o', q⟩ := ub.there b o e hb
        exact ⟨o', gB b o' ((bk b (ne hc)).trans q)⟩
    · obtain rfl := List.mem_singleton.mp hb
      exact ⟨c4, c2, c5, c6⟩
  have fr : X.A.frames = some (X.env :: X.outer) := IX.ok.frames.trans (congrArg some hs)
  show wpAny (model X.prog X.w) X.A (noteFrame (.ref a) ce) _ _ s'
  rw [noteFrame_env _ cf]
  refine HandSPX.looks_onZ Zc.steady fr hf flB fun h1 hh up1 => ?_
  obtain ⟨y1, y2, y3, y4⟩ := hh
  show CompFails (model X.prog X.w) X.A X.xe ce (.ref a) { s' with heap := h1 }
  have ns1 : h1.Ns ce.locals m := ns'.upToSlots up1
  refine ⟨m, ns1, fun h2 m2 n2 sb2 => ?_⟩
  have same2 : ∀ b, b ≠ ce.locals → h2.get? b = h1.get? b := sb2.2
  obtain ⟨oe, vs, T, oT, ts, he, hz, hd, hv, hnT, hTe, hT, hdT, h3⟩ := y4
  have notC : ∀ {b : Addr} {o : Obj} {vs : Array Value}, h1.get? b = some o → o.data = .fields vs → b ≠ ce.locals := fun {b o vs} e hd z => by
    obtain ⟨o1, es1, ep1, ho1, hd1, _⟩ := ns1
    rw [z, ho1] at e
    cases e
    rw [hd1] at hd
    cases hd
  have he2 := (same2 a (notC he hd)).trans he
  have tr2 : HandSPX.TracedZ h2 B' a (Zc cls d) (rawInt X.env.locals) := ⟨oe, vs, T, oT, ts, he2, hz, hd, hv, hnT, hTe, (same2 T (notC hT hdT)).trans hT, hdT, h3⟩
  unfold PySem.passOn
  refine wpAny_bind (wpAny_field he2 hd hv ?_)
  rw [if_neg (show ¬ ((Value.ref T == Value.none) = true) from by simp), cf, hf]
  refine wpAny_bind (HandSPX.setFlight_anyZ (l := X.env :: X.outer) (fr := some X.env.locals) (fun b o e => (same2 b fun z => by rw [z, bn] at e; cases e).trans (y1 b o e)) (Heap.FunFrames.sameBut sb2 n2 y3) tr2 fun h3' k1 k2 k3 k4 => wpAny_throw ?_)
  refine tk _ _ ⟨a, B', _, pins, σ, H', cls, d, rfl, IG, fun b o e hb => (gO b o e).2.2 hb, fun b o e hdo => ?_, .inr (.inr ?_), na, os, ag, hE⟩
  · obtain ⟨e1, nb, _⟩ := gO b o e
    obtain ⟨sl, e2⟩ := up1 b o e1 hdo
    obtain ⟨sl2, e3⟩ := k4 b _ ((same2 b nb).trans e2) hdo
    exact ⟨sl2, e3⟩
  · rw [hs]
    exact ⟨k1, y2, k2, k3⟩
end
section
variable {X : Cx}
/-- [elt for tg in iter if ifs], where what is called in elt may raise -/
theorem lc_coreE {elt tg iter : Expr} {ifs : List Expr} {scope : Scope} {own : List (Str × Nat)} {wi : TI} {g : TG} {tt : TT} {te : WX → TE} {W : WX} {pins : List (Addr × Obj)} {s : Shared} {σ : L2.St} {H : Hp} {Q : VK} {pos pos' : Pos} {use : Option (Value → Sem Unit)} {Qf : Value → Shared → Prop} (hs2 : X.stack = X.env :: X.outer) (hf : X.env.frame = some X.env.locals) (tk : Takes X W) (calm : X.calm = true) (nodup : X.N.Nodup) (hi : PI X tg iter wi) (ok : BlkOk X.N X.env.scope scope own)
    (hg : ∀ (s : Shared) (H : Hp) (C : Addr) (cl : List (Str × Addr)) (fp : List Addr) (ex : Value → Shared → Prop), PG (blkE X s H scope (compEnvC scope cl C X.env) fp ex) tg g)
    (ht : ∀ (s : Shared) (H : Hp) (C : Addr) (cl : List (Str × Addr)) (fp : List Addr) (ex : Value → Shared → Prop), PTs (blkE X s H scope (compEnvC scope cl C X.env) fp ex) ifs tt)
    (he : ∀ (s : Shared) (H : Hp) (C : Addr) (cl : List (Str × Addr)) (fp : List Addr) (ex : Value → Shared → Prop) (Wb : WX), (∀ σ, PassesAt (L2.CX X.prog X.w) (blkE X s H scope (compEnvC scope cl C X.env) fp ex) σ (WE Wb σ)) → PE (blkE X s H scope (compEnvC scope cl C X.env) fp ex) elt (te Wb))
    (fold : ∀ x, foldedSetIterable iter X.env x = pure x) (I : Inv X pins σ H s) (want : tLc wi g tt (te fun cls d _ H' => W cls d σ H') (own.map (·.2)) σ H Q)
    (done : ∀ (D : Addr) (ce : Env) (s' : Shared) (m : Str → Option Value) (H' : Hp), Inv X pins σ H' s' → Q (.ref D) H' → s'.heap.Ns ce.locals m → FpOk X pins H' ce.locals → compEnds (model X.prog X.w) X.A X.xe use Qf (.ref D) ce (.ok .next) s') :
    wpAny (model X.prog X.w) X.A (comprehension (.ListComp elt [⟨tg, iter, ifs, 0⟩] scope pos) scope X.env pos' (newList []) false (eval iter X.env) use) Qf X.xe s := by
  have cells : ∀ y ∈ scope.names, y.2 = .free → ∃ c, X.env.cells.lookup y.1 = some c := fun y hy e => I.ok.has _ ((ok.free y hy e).elim .inl .inr)
  refine comprehension_at (use := use) rfl fold (closure_ok cells) ok.kind (fun y hy e => (ok.uniq y hy).trans (by rw [e])) (thn (hi.run pins s σ H _ I want) fun xv s1 hx => thn hx fun itv s2 come => ?_)
  obtain ⟨it, fp, tn, J, H2, rfl, I2, T, st2, f2, turns⟩ := come
  refine wpAny_newObj_type (newEnv_comp ?_) (show 0 ≤ sizeLine from Nat.zero_le _)
  have new2 : H2 s2.heap.objs.size = none := I2.hok.fresh (Nat.le_refl _)
  obtain ⟨Iv, ⟨m0, start⟩, turn⟩ := turns _ new2
  -- the list is laid
  have I3 : Inv X pins σ (upd H2 s2.heap.objs.size (.lst [])) { s2 with heap := s2.heap.push { cls := .type "list", data := .seq ([] : List Value).toArray } } :=
    I2.laid (t' := s2.toks) (fun b o e => Heap.get?_push_of_some _ e) (Nat.le_refl _) ⟨Nat.zero_le _, [], 0, .nil, Heap.get?_push_size _ rfl⟩
  have grow : ∀ b o, s2.heap.get? b = some o → (s2.heap.push { cls := .type "list", data := .seq ([] : List Value).toArray }).get? b = some o := fun b o e => Heap.get?_push_of_some _ e
  have siz : (s2.heap.push { cls := .type "list", data := .seq ([] : List Value).toArray }).objs.size = s2.heap.objs.size + 1 := Heap.size_push _ _
  have low : ∀ b ∈ fp, b < s2.heap.objs.size := fun b hb => (T.obj _ _ st2 b hb).elim fun o e => Heap.lt_size e.1
  have st3 : tn 0 (s2.heap.push { cls := .type "list", data := .seq ([] : List Value).toArray }) := T.keep _ _ _ st2 fun b _ o e => grow b o e
  generalize hD : s2.heap.objs.size = D at *
  generalize hh3 : s2.heap.push { cls := .type "list", data := .seq ([] : List Value).toArray } = h3 at *
  generalize hs3 : ({ s2 with heap := h3 } : Shared) = s3 at I3 ⊢
  have e3 : s3.heap = h3 := by rw [← hs3]
  rw [← e3] at st3 siz grow
  have f3 : ∀ b ∈ fp, FpOk X pins (upd H2 D (.lst [])) b ∧ b < s3.heap.objs.size := fun b hb => by
    have lt := low b hb
    obtain ⟨k1, k2⟩ := f2 b hb
    exact ⟨⟨by rw [upd_ne (Nat.ne_of_lt lt)]; exact k1, k2⟩, by rw [siz]; exact Nat.lt_succ_of_lt lt⟩
  have I4 := block_start I3 ok nodup f3
  have none3 : ∀ b ∈ fp, (upd H2 D (.lst [])) b = none := fun b hb => (f3 b hb).1.1
  generalize upd H2 D (.lst []) = H3 at *
  generalize hcl : cellsFrom (s3.heap.objs.size + 1) scope.names (cloFrom X.env.cells scope.names []) = cl at *
  have fr3 : ∀ b ∈ fp, FpOk X pins H3 b := fun b hb => (f3 b hb).1
  have nC3 : ∀ {H' : Hp}, H' s3.heap.objs.size = none → FpOk X pins H' s3.heap.objs.size := fun h => I3.fpOk (Nat.le_refl _) h
  let ce := compEnvC scope cl s3.heap.objs.size X.env
  let ex : Value → Shared → Prop := OutB X s3 H3 scope ce fp fun cls d H' => W cls d σ H'
  have pg := hg s3 H3 s3.heap.objs.size cl fp ex
  have pt := ht s3 H3 s3.heap.objs.size cl fp ex
  have pe := he s3 H3 s3.heap.objs.size cl fp ex (fun cls d _ H' => W cls d σ H') fun σ' pb H s e s' Ib c => ⟨pb, σ', H, s, inv_xe Ib fun _ _ => False, c⟩
  have out : ∀ {u : Value} {s' : Shared}, ex u s' → notedBy (model X.prog X.w) X.A ce (fun e s' => compEnds (model X.prog X.w) X.A X.xe use Qf (.ref D) ce (.error e) s') u s' := fun {u s'} ob => blk_fails (ce := ce) hs2 hf tk I3 rfl rfl fr3 ob
  have J4 := inv_xe I4 ex
  generalize hh4 : pushCells (s3.heap.push { cls := .type "dict", data := .dict #[] }) scope.names = h4 at *
  have st4 : tn 0 h4 := T.keep _ _ _ st3 fun b _ o e => by rw [← hh4]; exact pushCells_keeps _ _ _ _ (Heap.get?_push_of_some _ e)
  have still : ∀ {σ' : L2.St} {H' : Hp} {s' : Shared}, Inv (blkE X s3 H3 scope ce fp ex) [] σ' H' s' → (∀ b ∈ fp, H' b = none) → ∀ b ∈ fp, FpOk (blkE X s3 H3 scope ce fp ex) [] H' b := fun {σ' H' s'} J n b hb =>
    ⟨n b hb, (J.ok.exf b hb).1, J.ok.exfs b hb, .inl hb, fun x c e => (J.ok.exf b hb).2 x c e, fun p hp => nomatch (show p ∈ ([] : List (Addr × Obj)) from hp)⟩
  let Rn : Nat → Shared → Prop := fun n s' => ∃ i H', Inv (blkE X s3 H3 scope ce fp ex) [] (wipe σ (own.map (·.2))) H' s' ∧ tn i s'.heap ∧ (∀ b ∈ fp, H' b = none) ∧ Iv i n H'
  have loop : codeAny (model X.prog X.w) X.A (.compLoop (.ListComp elt [⟨tg, iter, ifs, 0⟩] scope pos) 0 (.ref it) (.ref D) ce) (compEnds (model X.prog X.w) X.A X.xe use Qf (.ref D) ce) { s3 with heap := h4 } := by
    refine compLoop_any Rn ?_ m0 ⟨0, H3, J4, st4, none3, start⟩
    rintro n s5 ⟨i, H5, J5, st5, n5, w5⟩
    rcases turn i n H5 w5 with ⟨stop, fin⟩ | ⟨go, Nx, next, step⟩
    · -- the end: back in the def
      refine thn (T.done (blkE X s3 H3 scope ce fp ex) rfl rfl rfl calm i [] s5 _ H5 _ J5 (still J5 n5) st5 stop) fun r s6 ⟨er, J6⟩ => ?_
      subst er
      have nC : H5 s3.heap.objs.size = none := J6.free
      obtain ⟨m, ns, _⟩ := J6.loc
      have I7 : Inv X pins σ H5 s6 := I3.call' (ch := fp) J6.os J6.base J6.hok J6.bare fun b hb => by
        obtain ⟨_, k2, _, k4, k5, k6⟩ := fr3 b hb
        exact ⟨k4, k2, k5, k6⟩
      exact done D ce s6 m H5 I7 fin ns (nC3 nC)
    · refine thn (T.item (blkE X s3 H3 scope ce fp ex) rfl rfl rfl calm i [] s5 _ H5 _ J5 (still J5 n5) st5 go) fun r s6 ⟨u, er, h6⟩ => ?_
      subst er
      refine thn h6 fun _ s7 ⟨x, H7, J7, r7, y7, st7, n7⟩ => ?_
      have P7 := J7.pinned (still J7 n7) (T.obj _ _ st7)
      refine wpAny_mono (pg.run _ s7 _ H7 x u _ P7 r7 (step x H7 y7)) (fun _ s8 ⟨σ8, H8, J8, wp8, q8⟩ => ?_) fun _ _ z => out z
      refine wpAny_mono (pt.run _ s8 σ8 H8 _ J8 q8) (fun b s9 ⟨H9, J9, q9⟩ => ?_) fun _ _ z => out z
      have fin : ∀ {s' : Shared} {H' : Hp}, Inv (blkE X s3 H3 scope ce fp ex) ([] ++ pinsAt fp s7.heap) σ8 H' s' → Nx H' → ∃ m, m < n ∧ Rn m s' := fun {s' H'} J nx => by
        obtain ⟨m', lt, w'⟩ := next H' nx
        have held : ∀ b ∈ fp, ∀ o, s7.heap.get? b = some o → s'.heap.get? b = some o ∧ H' b = none := fun b hb o e => by
          obtain ⟨p1, p2, _⟩ := J.pin (b, o) (List.mem_append_right _ (List.mem_append_right _ (mem_pinsAt hb e)))
          exact ⟨p1, p2⟩
        refine ⟨m', lt, i + 1, H', (J.unpinned (pins := [])).weak (by rw [← wp8, wipe_length]) (fun j v e => ?_), T.keep _ _ _ st7 fun b hb o e => (held b hb o e).1, fun b hb => ?_, w'⟩
        · rw [← wp8] at e
          exact (wipe_some e).1
        · obtain ⟨o, e, _⟩ := T.obj _ _ st7 b hb
          exact (held b hb o e).2
      cases b with
      | false => exact fin J9 q9
      | true =>
        refine wpAny_mono (pe.run _ s9 σ8 H9 _ J9 q9) (fun z s10 ⟨yv, H10, J10, r10, acc, hacc, lacc, nx⟩ => ?_) fun _ _ z => out z
        exact app_ok (X := blkE X s3 H3 scope ce fp ex) J10 hacc lacc r10 fun s11 J11 => fin J11 nx
  exact codeAny_compStart_list loop (T.self X.A 0 _ _ _ st4 loop)
theorem pe_lcE {elt tg iter : Expr} {ifs : List Expr} {scope : Scope} {own : List (Str × Nat)} {wi : TI} {g : TG} {tt : TT} {te : WX → TE} {W : WX} {pos : Pos} (hs2 : X.stack = X.env :: X.outer) (hf : X.env.frame = some X.env.locals) (tk : Takes X W) (calm : X.calm = true) (nodup : X.N.Nodup) (hi : PI X tg iter wi) (ok : BlkOk X.N X.env.scope scope own)
    (hg : ∀ (s : Shared) (H : Hp) (C : Addr) (cl : List (Str × Addr)) (fp : List Addr) (ex : Value → Shared → Prop), PG (blkE X s H scope (compEnvC scope cl C X.env) fp ex) tg g)
    (ht : ∀ (s : Shared) (H : Hp) (C : Addr) (cl : List (Str × Addr)) (fp : List Addr) (ex : Value → Shared → Prop), PTs (blkE X s H scope (compEnvC scope cl C X.env) fp ex) ifs tt)
    (he : ∀ (s : Shared) (H : Hp) (C : Addr) (cl : List (Str × Addr)) (fp : List Addr) (ex : Value → Shared → Prop) (Wb : WX), (∀ σ, PassesAt (L2.CX X.prog X.w) (blkE X s H scope (compEnvC scope cl C X.env) fp ex) σ (WE Wb σ)) → PE (blkE X s H scope (compEnvC scope cl C X.env) fp ex) elt (te Wb))
    (fold : ∀ x, foldedSetIterable iter X.env x = pure x := by intro _; rfl) :
    PE X (.ListComp elt [⟨tg, iter, ifs, 0⟩] scope pos) (fun σ H Q => tLc wi g tt (te fun cls d _ H' => W cls d σ H') (own.map (·.2)) σ H Q) := by
  refine ⟨fun pins s σ H Q I want => ?_⟩
  rw [eval_ListComp]
  refine lc_coreE hs2 hf tk calm nodup hi ok hg ht he fold I want fun D ce s' m H' I' q ns fC => ⟨m, ns, fun h'' sb => ⟨.ref D, H', ?_, rfl, q⟩⟩
  obtain ⟨k1, k2, _, k4, k5, k6⟩ := fC
  exact I'.turned (t' := s'.toks) (fun b o hb e => (sb.2 b hb).trans e) k1 k2 k4 k5 k6
/-- y = [..] on one line, y a local -/
theorem ps_setLcE {elt tg iter : Expr} {ifs : List Expr} {scope : Scope} {own : List (Str × Nat)} {wi : TI} {g : TG} {tt : TT} {te : WX → TE} {W : WX} {i : Nat} {y : Str} {py pos spos : Pos} (hs2 : X.stack = X.env :: X.outer) (hf : X.env.frame = some X.env.locals) (tk : Takes X W) (calm : X.calm = true) (nodup : X.N.Nodup) (hi : PI X tg iter wi) (ok : BlkOk X.N X.env.scope scope own)
    (hg : ∀ (s : Shared) (H : Hp) (C : Addr) (cl : List (Str × Addr)) (fp : List Addr) (ex : Value → Shared → Prop), PG (blkE X s H scope (compEnvC scope cl C X.env) fp ex) tg g)
    (ht : ∀ (s : Shared) (H : Hp) (C : Addr) (cl : List (Str × Addr)) (fp : List Addr) (ex : Value → Shared → Prop), PTs (blkE X s H scope (compEnvC scope cl C X.env) fp ex) ifs tt)
    (he : ∀ (s : Shared) (H : Hp) (C : Addr) (cl : List (Str × Addr)) (fp : List Addr) (ex : Value → Shared → Prop) (Wb : WX), (∀ σ, PassesAt (L2.CX X.prog X.w) (blkE X s H scope (compEnvC scope cl C X.env) fp ex) σ (WE Wb σ)) → PE (blkE X s H scope (compEnvC scope cl C X.env) fp ex) elt (te Wb))
    (hy : X.N[i]? = some y) (hyl : X.env.scope.names.lookup y = some .local) (sw : swapsWith (.ListComp elt [⟨tg, iter, ifs, 0⟩] scope pos) (some (.Name y py)) spos.line X.env = pure true)
    (fold : ∀ x, foldedSetIterable iter X.env x = pure x := by intro _; rfl) :
    PS X (.Assign [.Name y py] (.ListComp elt [⟨tg, iter, ifs, 0⟩] scope pos) spos) (tAsg (fun σ H Q => tLc wi g tt (te fun cls d _ H' => W cls d σ H') (own.map (·.2)) σ H Q) (gName i)) := by
  refine ⟨fun pins s σ H D I want => ?_⟩
  rw [exec_Assign_Name_used _ _ _ _ sw]
  refine wpAny_bind (wpAny_standAt (wpAny_bind ?_))
  have want : tLc wi g tt (te fun cls d _ H' => W cls d σ H') (own.map (·.2)) σ H (fun x H1 => gName i x σ H1 D.nx) := want
  refine wpAny_bind (thn (lc_coreE (use := some (assign (.Name y py) X.env)) (Qf := fun _ s' => SP X pins D .next s') hs2 hf tk calm nodup hi ok hg ht he fold I want fun L ce s' m H' I' q ns fC => ?_) fun _ s' hq => wpAny_pure (wpAny_pure hq))
  show wpAny _ _ (assign (.Name y py) X.env (.ref L)) _ _ _
  obtain ⟨k1, k2, _, k4, k5, k6⟩ := fC
  refine wpAny_assign_Name (store_ok2 (v := V.ref L) I' nodup hy (.inl hyl) rfl (fun s2 I2 ⟨a, sb, ha⟩ => ⟨m, ns.sameBut sb fun z => ?_, fun h3 sb3 => ⟨_, H', I2.turned (t' := s2.toks) (fun b o hb e => (sb3.2 b hb).trans e) k1 k2 k4 k5 k6, q⟩⟩) (.inr hyl))
  rcases ha with e | e
  · exact k2 (z.trans e)
  · exact k5 y a e z.symm
end
end Lc
set_option Elab.async false
set_option linter.all false
set_option maxRecDepth 100000
set_option maxHeartbeats 4000000
namespace Lc
open PySem PySem.Spec PyProof.Rows L2
/-! ## An error that is kept behind its clause -/
/-- a field of an error that is pinned -/
theorem pe_xfP {Y : Cx} {a C : Addr} {ob : Obj} {cls : Value} {d : Option Addr} {e : Expr} {te : TE} {pos : Pos} {n : Str} (T : XfC Y.K C) (own : PySem.W.findIn Y.K (.ref C) n = some none) (pinned : (a, ob) ∈ Y.pn) (hz : Zc cls d ob) (rec : ∃ vs, ob.data = .fields vs) (he : PE Y e te)
    (base : attributeBase e n Y.env (eval e Y.env) = eval e Y.env := by rfl) : PE Y (.Attribute e n pos) (tXf a cls d C n te) := by
  refine ⟨fun pins s σ H Q I want => attr_of base (thn (he.run pins s σ H _ I want) fun u s1 hu => ?_)⟩
  obtain ⟨x, H1, J, ru, rfl, rfl, dd, fs, v, rfl, hdd, lk, q⟩ := hu
  obtain rfl : u = Value.ref a := ru
  have there := (J.pin (a, ob) (List.mem_append_left _ pinned)).1
  obtain ⟨vs, hrec⟩ := rec
  obtain ⟨mA, names, rel⟩ := (show ObjOk Y.prog Y.w H1 s1.heap dd (.xd fs) from J.hok dd _ hdd)
  obtain ⟨od, hod, look⟩ := lookIn_ns names
  obtain ⟨w, hw, rw_⟩ := RelO.some_of (v := v) (o := mA n) (lk ▸ rel n)
  have nc : PySem.W.notCls ob = true := by unfold PySem.W.notCls; rw [hrec]
  have at_ : PySem.W.InstAt s1.heap a ob C (some od) := ⟨there, hz.1, nc, by rw [hz.2]; exact hod⟩
  exact HandSPX.exc_get J.kIn at_ T.ga T.gg T.exC (PySem.W.findObj_own T.hdC own rfl (by rw [look, hw])) (handed_of rw_) ⟨v, H1, J.tok _, rw_, q⟩
theorem call_isP {Y : Cx} {a C : Addr} {ob : Obj} {cls : Value} {d : Option Addr} (T : XisC Y.K C) (pinned : (a, ob) ∈ Y.pn) (hz : Zc cls d ob) (rec : ∃ vs, ob.data = .fields vs) : CallR Y (.builtin "isinstance") (rIsX Y.K cls d C a) := by
  intro pins s σ H xs us Q I r h
  obtain ⟨ec, c, cv, b, rfl, hcv, hd, e, q⟩ := h
  obtain ⟨u1, u2, rfl, r1, r2⟩ := vals2 r
  have e2 := hcv.eq r2
  subst e2 ec
  obtain rfl : u1 = Value.ref a := r1
  obtain ⟨vs, hv⟩ := rec
  obtain ⟨hget, _⟩ := I.pin (a, ob) (List.mem_append_left _ pinned)
  have nc : PySem.W.notCls ob = true := by unfold PySem.W.notCls; rw [hv]
  have key : ∃ od, PySem.W.InstAt s.heap a ob C od := by
    cases d with
    | none => exact ⟨none, hget, hz.1, nc, by rw [hz.2]; trivial⟩
    | some dd =>
      obtain ⟨fs, hfs⟩ := hd dd rfl
      obtain ⟨mA, ⟨o, _, _, ho, _⟩, _⟩ := (show ObjOk Y.prog Y.w H s.heap dd (.xd fs) from I.hok dd _ hfs)
      exact ⟨some o, hget, hz.1, nc, by rw [hz.2]; exact ho⟩
  obtain ⟨od, J⟩ := key
  exact PySem.W.kia_one (PySem.W.kitx_exc T.hc T.ga T.gt T.sb T.cl T.sp T.tk T.mo) I.kIn J e (fun z => nomatch z) fun tk => ⟨.bl b, H, I.kept (t' := tk) fun _ _ z => z, rfl, q⟩
/-- the end of a clause, behind which the error stays pinned -/
def endP (i : Nat) (tr : Addr → Value → Option Addr → TS) (a : Addr) (cls : Value) (d : Option Addr) (D : Ends) : Ends := ⟨fun σ H => tr a cls d D (σ.set i none) H, D.rt, fun σ H => D.bk (σ.set i none) H, fun σ H => D.ct (σ.set i none) H⟩
def wKeep (K : PySem.W.Frag) (c : Value) (i : Nat) (ts tr : Addr → Value → Option Addr → L2.TS) (Wout : WX) (D : Ends) : WX := fun cls d σ H => ∃ b, PySem.W.exmOne K cls c = some b ∧ (b = true → ∀ a, H a = none → ts a cls d (endP i tr a cls d D) (σ.set i (some (.ref a))) H) ∧ (b = false → Wout cls d σ H)
section
variable {X : Cx}
theorem pss_keep {body rest sts : List Stmt} {st : Stmt} {x n : Str} {c : Value} {i : Nat} {p1 p2 pos : Pos} {tb : WX → TS} {u : TS} {ts tr : Addr → Value → Option Addr → L2.TS} {Wout : WX} (hs : X.stack = X.env :: X.outer) (hf : X.env.frame = some X.env.locals) (tk : Takes X Wout) (nm : Names X x c) (nodup : X.N.Nodup) (hi : X.N[i]? = some n) (hn : X.env.kindOf n = some .local)
    (hb : ∀ (W : WX) (pn : List (Addr × Obj)) (xe : Value → Shared → Prop), Takes (X.tr pn xe) W → PassesOwn (model X.prog X.w) X.A X.env xe → PSs (X.tr pn xe) body (tb W)) (su : SuiteOk X (st :: sts) ts) (hr : PSs X rest u)
    (hk : ∀ (a : Addr) (ob : Obj) (cls : Value) (d : Option Addr) (pn : List (Addr × Obj)), Zc cls d ob → (∃ vs, ob.data = .fields vs) → PSs (X.tr ((a, ob) :: pn) X.xe) rest (tr a cls d)) :
    PSs X (.Try body [.ExceptHandler (some (.Name x p1)) (some n) (st :: sts) p2] [] [] pos :: rest) (fun D σ H => tb (wKeep X.K c i ts tr Wout D) { D with nx := u D } σ H) := by
  refine ⟨fun pins s σ H D I want => wpAny_execs_cons ?_⟩
  have ok := I.ok
  have fr : X.A.frames = some (X.env :: X.outer) := ok.frames.trans (congrArg some hs)
  let Post : Flow → Shared → Prop := fun f s1 => match f with
    | .next => wpAny (model X.prog X.w) X.A (execs rest X.env) (SP X pins D) X.xe s1
    | f => SP X pins D f s1
  have goal : wpAny (model X.prog X.w) X.A (exec (.Try body [.ExceptHandler (some (.Name x p1)) (some n) (st :: sts) p2] [] [] pos) X.env) Post X.xe s := by
    refine wpAny_Try_except (wpAny_mono ((hb (wKeep X.K c i ts tr Wout D) (X.pn ++ pins) (fun e s₁ => wpAny (model X.prog X.w) X.A (noteFrame e X.env) (fun _ s₂ => wpAny (model X.prog X.w) X.A (setFlight e none)
      (fun _ s₃ => wpAny (model X.prog X.w) X.A (handleBy e X.env [.ExceptHandler (some (.Name x p1)) (some n) (st :: sts) p2]) Post X.xe s₃) X.xe s₂) X.xe s₁) (fun w s' air => ?_) PassesOwn.looking).run [] s σ H _ (I.toTry _) want) (fun f s1 hsp => ?_) (fun _ _ he => he))
    · obtain ⟨a, B, sI, _, σ1, H1, cls, d, rfl, J', nb, up, sky, na, os, ag, wi⟩ := air
      have J := J'.ofTry ok
      rw [hs] at sky
      refine Sky.land Zc.steady fr hf sky fun h3 fl3 up3 => ?_
      -- the state on the ground, with the error pinned
      have land : ∀ {h4 : Heap}, HandSPX.FlyingZ B (X.env :: X.outer) a (Zc cls d) h4 → sI.heap.UpToSlots h4 → Inv X pins σ1 H1 { s' with heap := h4 } ∧ ∃ ob vs, Zc cls d ob ∧ ob.data = .fields vs ∧ h4.get? a = some ob ∧ Inv (X.suite a ((a, ob) :: (X.pn ++ pins))) [] σ1 H1 { s' with heap := h4 } := by
        intro h4 f4 u4
        have J4 : Inv X pins σ1 H1 { s' with heap := h4 } := J.landed nb f4.1 u4 os ag
        obtain ⟨ob, vs, hob, hz, hd⟩ := f4.there
        have out : a ∉ frs (X.env :: X.outer) := fun hm => by
          obtain ⟨_, o2, e2, nf⟩ := f4.2.2.1.mem hm
          rw [hob] at e2
          cases e2
          exact nf _ hd
        have nL : a ≠ X.env.locals := fun z => out (List.mem_filterMap.mpr ⟨X.env, List.mem_cons_self, by rw [hf, z]⟩)
        have nF : a ∉ X.fs := fun hm => by
          obtain ⟨en, hen, qq⟩ := List.mem_filterMap.mp hm
          exact out (List.mem_filterMap.mpr ⟨en, List.mem_cons_of_mem _ hen, qq⟩)
        exact ⟨J4, ob, vs, hz, hd, hob, J4.suite hob hd na nL nF⟩
      obtain ⟨J3, o3, vs3, hz3, hd3, ho3, S3⟩ := land fl3 (up.trans up3)
      have ty : PySem.W.Looks (model X.prog X.w) h3 (typeOf (.ref a)) cls := fun _ _ _ _ kk qq => wpAny_typeOf_ref (kk _ _ ho3) (by rw [hz3.1]; exact qq)
      have tst : ∀ {Q : Value → Shared → Prop} {E : Value → Shared → Prop}, Q c { s' with heap := h3 } → wpAny (model X.prog X.w) (X.A.mark (some (.ref a))) (eval (.Name x p1) X.env) Q E { s' with heap := h3 } := by
        intro Q E hq
        obtain ⟨hg, hdb, hm | ⟨hm, hv, hne⟩⟩ := nm
        · exact ld_glob (X := X.suite a ((a, o3) :: (X.pn ++ pins))) S3 hg hm hq hdb
        · exact ld_blt (X := X.suite a ((a, o3) :: (X.pn ++ pins))) S3 hg hm hv hq hne hdb
      obtain ⟨b, hbm, yes, no⟩ := wi
      refine wpAny_handleBy_cons (codeAny_handlers_test (tst ((PySem.W.exm_one (M := model X.prog X.w) J3.kIn ty hbm).here ?_))) (by intro z; cases z)
      cases b with
      | false =>
        -- not of this clause: it goes on
        refine wpAny_handleBy_nil ?_
        obtain ⟨_, _, _, ox, vx, T, _, _, hox, _, hdx, h1, _⟩ := id fl3
        have away : wpAny (model X.prog X.w) X.A (setFlight (.ref a) X.env.frame) (fun _ s4 => wpAny (model X.prog X.w) X.A (throw (.ref a) : Sem Flow) Post X.xe s4) X.xe { s' with heap := h3 } := by
          rw [hf]
          exact HandSPX.setFlight_upZ fl3 fun h4 f4 u4 => wpAny_throw (tk _ _ ⟨a, B, sI, pins, σ1, H1, cls, d, rfl, J, nb, (up.trans up3).trans u4, .inr (.inr (by rw [hs]; exact f4)), na, os, ag, no rfl⟩)
        unfold PySem.passOn
        refine wpAny_bind (wpAny_field hox hdx h1 ?_)
        rw [if_neg (by simp : ¬ ((Value.ref T == Value.none) = true))]
        first
          | exact wpAny_bind away
          | exact wpAny_bind (wpAny_pure (wpAny_bind away))
      | true =>
        refine codeAny_handlers_suite_as (HandSPX.lands_againZ fl3 fun h4 f4 u4 => ?_)
        obtain ⟨J4, o4, vs4, hz4, hd4, ho4, S4⟩ := land f4 ((up.trans up3).trans u4)
        have yy := yes rfl a na
        refine store_ok (X := X.suite a ((a, o4) :: (X.pn ++ pins))) (v := .ref a) S4 nodup hi (.inl hn) rfl (fun s5 S5 => ?_) (.inr hn)
        refine wpAny_mono ((su a o4 cls d (X.pn ++ pins) hz4 ⟨_, hd4⟩).run [] s5 _ H1 _ S5 yy) (fun f s6 hsp => ?_) (fun _ _ z => z.elim)
        -- the state behind the suite, the error pinned, the clause's name gone
        have keep : ∀ {σ6 : L2.St} {H6 : Hp} {Q : Shared → Prop}, Inv (X.suite a ((a, o4) :: (X.pn ++ pins))) [] σ6 H6 s6 → (∀ s7, Inv (X.tr ((a, o4) :: (X.pn ++ pins)) X.xe) [] (σ6.set i none) H6 s7 → Q s7) →
            wpAny (model X.prog X.w) X.A (do bindName X.env n .none; unbindBehindTheSuite X.env n p2) (fun _ s7 => Q s7) X.xe s6 := fun {σ6 H6 Q} S6 k =>
          gone_ok (X := X.tr ((a, o4) :: (X.pn ++ pins)) X.xe) (pins := []) ⟨ok.toTry _ _, S6.os, S6.bare, S6.base, S6.loc, S6.cell, S6.free, S6.freeC, S6.pin, S6.hok, S6.len⟩ nodup hi hn k
        have drop : ∀ {σ7 : L2.St} {H7 : Hp} {s7 : Shared}, Inv (X.tr ((a, o4) :: (X.pn ++ pins)) X.xe) [] σ7 H7 s7 → Inv X pins σ7 H7 s7 := fun J => ⟨ok, J.os, J.bare, J.base, J.loc, J.cell, J.free, J.freeC, fun p hp => J.pin p (List.mem_append_left _ (List.mem_cons_of_mem _ hp)), J.hok, J.len⟩
        cases f with
        | ret w =>
          obtain ⟨v6, σ6, H6, S6, r6, q6⟩ := hsp
          exact keep S6 fun s7 J7 => ⟨_, _, _, drop J7, r6, q6⟩
        | next =>
          obtain ⟨σ6, H6, S6, q6⟩ := hsp
          refine keep S6 fun s7 J7 => ?_
          refine thn ((hk a o4 cls d (X.pn ++ pins) hz4 ⟨_, hd4⟩).run [] s7 _ H6 D J7 q6) fun f8 s8 q8 => ?_
          cases f8 with
          | ret w =>
            obtain ⟨v8, σ8, H8, J8, r8, q8⟩ := q8
            exact ⟨v8, σ8, H8, drop J8, r8, q8⟩
          | next => obtain ⟨σ8, H8, J8, q8⟩ := q8; exact ⟨σ8, H8, drop J8, q8⟩
          | brk => obtain ⟨σ8, H8, J8, q8⟩ := q8; exact ⟨σ8, H8, drop J8, q8⟩
          | cont => obtain ⟨σ8, H8, J8, q8⟩ := q8; exact ⟨σ8, H8, drop J8, q8⟩
        | brk => obtain ⟨σ6, H6, S6, q6⟩ := hsp; exact keep S6 fun s7 J7 => ⟨_, _, drop J7, q6⟩
        | cont => obtain ⟨σ6, H6, S6, q6⟩ := hsp; exact keep S6 fun s7 J7 => ⟨_, _, drop J7, q6⟩
    · cases f with
      | ret w =>
        obtain ⟨v1, σ1, H1, J1, r1, q1⟩ := hsp
        exact ⟨v1, σ1, H1, J1.ofTry ok, r1, q1⟩
      | next =>
        obtain ⟨σ1, H1, J1, q1⟩ := hsp
        exact wpAny_execs_nil (hr.run pins s1 σ1 H1 D (J1.ofTry ok) q1)
      | brk => obtain ⟨σ1, H1, J1, q1⟩ := hsp; exact ⟨σ1, H1, J1.ofTry ok, q1⟩
      | cont => obtain ⟨σ1, H1, J1, q1⟩ := hsp; exact ⟨σ1, H1, J1.ofTry ok, q1⟩
  refine thn goal fun f s1 q => ?_
  cases f with
  | next => exact q
  | ret w => exact q
  | brk => exact q
  | cont => exact q
end
end Lc
set_option Elab.async false
set_option linter.all false
set_option maxRecDepth 100000
set_option maxHeartbeats 4000000
namespace K12
open PySem PySem.Spec PyProof.Rows L2 Lc
/-! ## tables, as the law asks them -/
structure TbQ (P : Program) (w : World) (K : PySem.W.Frag) (mg : Str → Option Value) (base : Heap) (C CU : Addr) : Prop where
  k : ∃ f fd, Meth K C "column" f ∧ FnOk P w K mg base (L2.CX P w) 3 f fd ["self", "name"] (spTk C CU) ∧ Binds K fd ["self", "name"] []
  g : ∃ f fd, Meth K C "lineage" f ∧ FnOk P w K mg base CX0 2 f fd ["self"] (spTg C) ∧ Binds K fd ["self"] []
  p : ∃ f fd, ReprC K C f ∧ FnOk P w K mg base CX0 1 f fd ["self"] (spTp C) ∧ Binds K fd ["self"] []
  l : ∃ f fd, LenC K C f ∧ FnOk P w K mg base CX0 1 f fd ["self"] (spTl C) ∧ Binds K fd ["self"] []
  e : ∃ f fd, EqC K C f ∧ FnOk P w K mg base CX0 1 f fd ["self", "other"] (spTe C) ∧ Binds K fd ["self", "other"] []
structure ExN (K : PySem.W.Frag) (CT : Addr) (ty : String) : Prop where
  xf : XfC K CT
  xc : XisC K CT
  cc : PySem.W.exmOne K (.ref CT) (.ref CT) = some true
  cv : PySem.W.kitOne K (.ref CT) (.type ty) = some true
def tsN (K : PySem.W.Frag) (CT : Addr) (wd fld ty : Str) (tyn : String) (i : Nat) : Addr → Value → Option Addr → L2.TS := fun a cls d => tRet (tTup (tCons (tC (.str wd)) (tCons (tXf a cls d CT fld (tVar i)) (tCons (tCB (rIsX K cls d CT a) (tCons (tVar i) (tCons (tC (.ty tyn)) tNil))) tNil))))
def spLc (C : Addr) : Sp := fun vs H Q _ => ∃ (a : Addr) (ps : CsL) (rs : RowsL) (n : V) (d : PyData), vs = [.ref a, n] ∧ TbAt C H a ps rs ∧ Dh H n d ∧ SeqAt.shaped d = true ∧
  ((∀ x ∈ nms ps, PyData.eqv (.str x) d = false) → ∀ (r : Addr) (H' : Hp), Same H H' → H' r = some (.tup [.str "unknown", n, .bl true]) → Q (.ref r) H') ∧
  (∀ j x, (nms ps)[j]? = some x → n = .str x → ∀ (r q : Addr) (zs : List V) (H' : Hp), Same H H' → H' r = some (.tup [.str "told", .ref q]) → H' q = some (.lst zs) → DhAll H' zs (colD rs j) → Q (.ref r) H')
def spAv (CR : Addr) (A : EA) : Sp := fun vs H Q _ => ∃ (a lg : Addr) (R : RD) (v : V) (d : PyData), vs = [.ref a, v] ∧ IsRg CR H a lg R ∧ OkR R ∧ Dh H v d ∧ v ≠ .non ∧ (∃ c, versU R.es v d = some (c, v)) ∧ ∀ (r : Addr) (H' : Hp), Same H H' → H' r = some (.tup [.str "version", v, .bl true]) → Q (.ref r) H'
section
variable {P : Program} {w : World} {K : PySem.W.Frag} {mg : Str → Option Value} {base : Heap} {f : Addr} {fd : FuncData}
abbrev sLc : Stmt := top 51
abbrev nLc : List Str := ["_law_table", "_law_name_here", "e"]
abbrev pLc : List Str := ["_law_table", "_law_name_here"]
theorem scLc : FnScope nLc pLc (defScope sLc) := ⟨rfl, rfl, rfl, by decide +kernel, rfl, by decide +kernel, by decide +kernel⟩
theorem ok_Lc (F : Fun K "_law_column" "_law_column" sLc f fd) (T : Bt mg) (mK : mg "KeyError" = none) {C CU fU fI0 : Addr} (G : TbF K mg C fI0) (Y : TbQ P w K mg base C CU) (Z : ErK K mg "UnknownName" "key" CU fU) (X : ExN K CU "KeyError") : FnOk P w K mg base CX0 4 f fd pLc (spLc C) := by
  refine F.ok scLc (fun vs H Q E h => ?_) (fun cdv A outer s H vs Q E hr h => ?_)
  · obtain ⟨a, ps, rs, n, d, rfl, _⟩ := h
    rfl
  · obtain ⟨a, ps, rs, n, d, rfl, hI, hn, sd, k1, k2⟩ := h
    obtain ⟨fk, fdk, mk, Gk, bk⟩ := Y.k
    refine ⟨_, pss_one (ps_tryL (Wout := fun _ _ _ _ => False) (l := [⟨.ref CU, some 2, tsN K CU "unknown" "key" "KeyError" "KeyError" 2⟩]) rfl rfl takes0
        (fun W pn xe tk _ => pss_one (ps_ret (pe_tup (pa_cons pe_str (pa_cons (Lc.pe_methS (pv 0) G.cls mk Gk hr bk (fun σ => passAt tk σ) (pa_cons (pv 1) pa_nil)) pa_nil)))))
        (.named (i := 2) ⟨rfl, by decide, Or.inl Z.gC⟩ rfl scLc.nd rfl rfl (fun a ob cls d pn hz hf => pss_one (ps_ret (pe_tup (pa_cons pe_str (pa_cons (pe_xf X.xf Z.nG hz hf (pv 2)) (pa_cons (pe_callB (call_isX X.xc hz hf) (by rfl) T.isi boot_isinstance (pa_cons (pv 2) (pa_cons (pe_bltn (v := .ty "KeyError") (by rfl) mK PyProof.Rows.Boot.«KeyError» rfl) pa_nil))) pa_nil)))))) .nil)), ?_⟩
    have two : 2 ≤ sizeLine := by decide
    have three : 3 ≤ sizeLine := by decide
    obtain ⟨⟨cv, ⟨dx, bv, h1, h2, h3⟩, h4⟩, co, ro, ln⟩ := id hI
    refine ⟨_, rfl, a, dx, _, rfl, h1, rfl, _, rfl, a, ps, rs, n, d, rfl, hI, hn, sd, fun e H1 s1 => ?_, fun j x ej ex q zs H1 s1 hq eq dq => ⟨two, fun r hr' => ?_⟩⟩
    · intro d' H3 s3 hd2 hx
      refine ⟨true, X.cc, fun _ a ha' => ?_, nofun⟩
      have dd : ∀ dd, some d' = some dd → ∃ fs, H3 dd = some (.xd fs) := fun dd e => by cases e; exact ⟨_, hx⟩
      refine ⟨_, rfl, rfl, rfl, d', _, n, rfl, hx, by simp [List.lookup], ?_⟩
      refine ⟨_, rfl, rfl, _, _, _, rfl, .ty "KeyError", dd, X.cv, three, fun r hr' => ?_⟩
      exact k1 e r _ (s1.trans (s3.trans (Same.upd hr'))) upd_same
    · have zr := Same.upd (o := .tup [.str "told", .ref q]) hr'
      exact k2 j x ej ex r q zs _ (s1.trans zr) upd_same (zr _ _ eq) (DhAll.same zr dq)
abbrev sAv : Stmt := top 54
abbrev nAv : List Str := ["_law_log", "_law_at", "e"]
abbrev pAv : List Str := ["_law_log", "_law_at"]
theorem scAv : FnScope nAv pAv (defScope sAv) := ⟨rfl, rfl, rfl, by decide +kernel, rfl, by decide +kernel, by decide +kernel⟩
section
variable {fT : Addr} {fdT : FuncData}
theorem ok_Av (F : Fun K "_law_at_version" "_law_at_version" sAv f fd) (T : Bt mg) {CR C fV fR0 fI0 : Addr} {A : EA} (Rg : RgF K mg CR fR0) (M : TbM P w K mg base C) (Z : ErI K mg "NoVersion" "given" A.v fV) (X : ExN K A.v "IndexError")
    (GT : FnOk P w K mg base (L2.CX P w) 4 fT fdT ["origin", "version"] (spRtX CR A)) (mT : mg "register_table" = some (.ref fT)) (kT : PySem.W.keepIn K (.ref fT) = true) (bT : Binds K fdT ["origin", "version"] []) : FnOk P w K mg base CX0 5 f fd pAv (spAv CR A) := by
  refine F.ok scAv (fun vs H Q E h => ?_) (fun cdv A' outer s H vs Q E hr h => ?_)
  · obtain ⟨a, lg, R, v, d, rfl, _⟩ := h
    rfl
  · obtain ⟨a, lg, R, v, d, rfl, hI, o, hd, nn, hc, k⟩ := h
    obtain ⟨fR, fdR, hR, FR, bR⟩ := M.r
    obtain ⟨fI, fdI, GI, FI, bI⟩ := M.i
    have hr1 : Room 1 _ := hr.mono (by decide)
    refine ⟨_, pss_one (ps_tryL (Wout := fun _ _ _ _ => False) (l := [⟨.ref A.v, some 2, tsN K A.v "version" "given" "IndexError" "IndexError" 2⟩]) rfl rfl takes0
        (fun W pn xe tk _ => pss_one (ps_ret (pe_tup (pa_cons pe_str (pa_cons (pe_meth0 (pe_callS GT hr (by rfl) mT kT bT (fun σ => passAt tk σ) (pa_cons (pv 0) (pa_cons (pv 1) pa_nil))) GI.cls hR FR hr1 bR .nil pass0) pa_nil)))))
        (.named (i := 2) ⟨rfl, by decide, Or.inl Z.gC⟩ rfl scAv.nd rfl rfl (fun a ob cls d pn hz hf => pss_one (ps_ret (pe_tup (pa_cons pe_str (pa_cons (pe_xf X.xf Z.nG hz hf (pv 2)) (pa_cons (pe_callB (call_isX X.xc hz hf) (by rfl) T.isi boot_isinstance (pa_cons (pv 2) (pa_cons (pe_bltn (v := .ty "IndexError") (by rfl) T.ie PyProof.Rows.Boot.«IndexError» rfl) pa_nil))) pa_nil)))))) .nil)), ?_⟩
    have three : 3 ≤ sizeLine := by decide
    refine ⟨_, rfl, _, rfl, a, lg, R, v, d, rfl, hI, o, hd, nn, hc, fun H1 s1 => ?_⟩
    intro d' H3 s3 hd2 hx
    refine ⟨true, X.cc, fun _ a ha' => ?_, nofun⟩
    have dd : ∀ dd, some d' = some dd → ∃ fs, H3 dd = some (.xd fs) := fun dd e => by cases e; exact ⟨_, hx⟩
    refine ⟨_, rfl, rfl, rfl, d', _, v, rfl, hx, by simp [List.lookup], ?_⟩
    refine ⟨_, rfl, rfl, _, _, _, rfl, .ty "IndexError", dd, X.cv, three, fun r hr' => ?_⟩
    exact k r _ (s1.trans (s3.trans (Same.upd hr'))) upd_same
end
end
end K12
set_option Elab.async false
set_option linter.all false
set_option maxRecDepth 100000
set_option maxHeartbeats 4000000
namespace K12
open PySem PySem.Spec PyProof.Rows L2 Lc
theorem lt_size {n : Nat} (h : n ≤ 1300) : n < sizeLine := Nat.lt_of_le_of_lt h (by decide)
abbrev ttLu (K : PySem.W.Frag) : TT := tTest (tOp (rNotInD K) (tVar 3) (tVar 1))
section
variable {P : Program} {w : World} {K : PySem.W.Frag} {mg : Str → Option Value} {base : Heap} {f : Addr} {fd : FuncData}
abbrev sLu : Stmt := top 50
abbrev nLu : List Str := ["_law_lineages", "_law_found", "_law_lineage_here", "_law_part"]
abbrev pLu : List Str := ["_law_lineages"]
theorem scLu : FnScope nLu pLu (defScope sLu) := ⟨rfl, rfl, rfl, by decide +kernel, rfl, by decide +kernel, by decide +kernel⟩
section
theorem ok_Lu (F : Fun K "_law_union" "_law_union" sLu f fd) (T : Bt mg) (mS : mg "sorted" = none) : FnOk P w K mg base CX0 1 f fd pLu (spUn) := by
  refine F.ok scLu (fun vs H Q E h => ?_) (fun cdv A outer s H vs Q E hr h => ?_)
  · obtain ⟨a, xs, ls, rfl, _⟩ := h
    rfl
  · obtain ⟨a, xs, ls, rfl, ha, hl, ok, ⟨U, lU, hU⟩, k⟩ := h
    refine ⟨_, (pss_cons (ps_set (i := 1) scLu.nd rfl (Or.inr rfl) (pe_lst pa_nil))
      (pss_cons (ps_for PassesOwn.never rfl (pi_list (pv 0)) (pg_name (i := 2) scLu.nd rfl (.inl rfl)) (pss_one (ps_set (i := 1) scLu.nd rfl (Or.inr rfl) (pe_op op_cat (pv 1) (pe_lc (own := [("_law_part", 3)]) (g := (gName 3)) (tt := ttLu K) (te := tVar 3) (by rfl) scLu.nd (pi_tup (pv 2)) (blkOk_by (own := [("_law_part", 3)]) (N := nLu) (sc := defScope sLu) (by decide +kernel)) (fun _ _ _ _ _ => (pg_name (i := 3) scLu.nd rfl (.inl rfl))) (fun _ _ _ _ _ => (pts_one (pt_cmpR (op_notInD (hu65 hr)) (pv 3) (pv 1) (by rfl)))) (fun _ _ _ _ _ => (pv 3)))))))
      (pss_one (ps_ret (pe_callTy call_tuple_of (by rfl) T.tuple boot_tuple (pa_cons (pe_callB (call_sortedDt hr.units) (by rfl) mS (by decide +kernel) (pa_cons (pv 1) pa_nil)) pa_nil)))))), ?_⟩
    refine ⟨Nat.zero_le _, fun L hL => ?_⟩
    have zL := Same.upd (o := .lst []) hL
    have eL : L2.upd H L (.lst []) L = some (.lst []) := upd_same
    generalize L2.upd H L (.lst []) = H1 at zL eL ⊢
    refine ⟨_, rfl, a, rfl, ⟨_, SqL.of (zL _ _ ha)⟩, for_list (K := K) (a := a) (xs := xs) (fun i σ H' => (∃ (F : Addr) (x2 x3 : Option V), σ = [some (.ref a), some (.ref F), x2, x3] ∧ ∃ ys, H' F = some (.lst ys) ∧ DhAll H' ys ((allL (ls.take i)).map partD)) ∧ Same H H') ⟨⟨L, _, _, rfl, [], eL, .nil⟩, zL⟩ (fun i σ H' _ pr => SqL.of (pr.2 _ _ ha)) ?_ ?_⟩
    · rintro i x σ H2 hx ⟨⟨F0, x2, x3, rfl, ys, eF, dys⟩, s2⟩
      obtain ⟨l, el, dl⟩ := hl.get hx
      have lo := ok l (List.mem_of_getElem? el)
      have okA : ∀ p ∈ allL (ls.take i), PartOk p := fun p hp => by
        obtain ⟨m, h1, h2⟩ := allL_mem.mp hp
        exact (ok m (List.mem_of_mem_take h1)).2 p h2
      have ndA : (allL (ls.take i)).Nodup := allL_nd fun m hm => (ok m (List.mem_of_mem_take hm)).1
      have lA : (allL (ls.take i)).length ≤ 48 := by
        refine Nat.le_trans (ndA.length_le_of_subset (l₂ := U) fun p hp => ?_) lU
        obtain ⟨m, h1, h2⟩ := allL_mem.mp hp
        exact hU m (List.mem_of_mem_take h1) p h2
      have ll : l.length ≤ 48 := Nat.le_trans (lo.1.length_le_of_subset (l₂ := U) fun p hp => hU l (List.mem_of_getElem? el) p hp) lU
      have et : allL (ls.take (i + 1)) = allL (ls.take i) ++ l.filter fun p => decide (p ∉ allL (ls.take i)) := by
        rw [List.take_add_one, el]
        exact allL_snoc _ _
      have ly := dys.len
      rw [List.length_map] at ly
      cases dl with
      | @tup b us _ eb hs =>
      have lu := hs.len
      rw [List.length_map] at lu
      have eb2 := s2 _ _ eb
      have hs2 := hs.same s2
      refine ⟨_, rfl, _, rfl, b, rfl, ⟨_, SqT.of eb2⟩, fun D hD => lc_tup (K := K) (a := b) (xs := us) (fun j H' => (∃ zs, H' D = some (.lst zs) ∧ DhAll H' zs (((l.take j).filter fun p => decide (p ∉ allL (ls.take i))).map partD)) ∧ Same H2 H') ⟨⟨[], upd_same, .nil⟩, Same.upd hD⟩ (fun j H' _ pr => SqT.of (pr.2 _ _ eb2)) ?_ ?_⟩
      · rintro j y H3 hy ⟨⟨zs, eD, dzs⟩, s3⟩
        obtain ⟨p, c, ep, rfl, ec⟩ := lin_get hs2 hy
        have hp := lo.2 p (List.mem_of_getElem? ep)
        have dp : Dh H3 (.ref c) (partD p) := .tup (s3 _ _ ec) (.cons (.str _) (.cons (.int _) .nil))
        have nd1 : (partD p).hasDict = false := PyData.hasDict_of_canLay _ (part_lay hp).1
        have nd2 : (PyData.list ((allL (ls.take i)).map partD)).hasDict = false := PyData.hasDict_of_canLay _ (SeqAt.canLay_of_shaped (parts_shp okA))
        have lz := dzs.len
        rw [List.length_map] at lz
        have lz2 : zs.length ≤ 48 := by
          rw [lz]
          exact Nat.le_trans (List.length_filter_le _ _) (by rw [List.length_take]; omega)
        refine ⟨rfl, ?_⟩
        change ttLu K _ _ _
        refine ⟨_, rfl, _, rfl, partD p, (allL (ls.take i)).map partD, dp.dp nd1, (Dh.lst (s3 _ _ eF) (dys.same s3)).dp nd2, part_shp hp, parts_shp okA, _, rfl, ?_⟩
        rw [any_part]
        have nl : ∀ l : Lin, noLs (l.map partD) = true := fun l => noLs_all.mpr fun d hd => by
          obtain ⟨_, _, rfl⟩ := List.mem_map.mp hd
          rfl
        by_cases hin : p ∈ allL (ls.take i)
        · rw [decide_eq_true hin]
          refine iteF ⟨⟨zs, eD, ?_⟩, s3⟩
          rw [List.take_add_one, ep, List.filter_append, Option.toList_some, List.filter_cons, if_neg (by simpa using hin), List.filter_nil, List.append_nil]
          exact dzs
        · rw [decide_eq_false hin]
          refine iteT ⟨_, rfl, zs, eD, lt_size (by omega), ⟨zs ++ [.ref c], upd_same, ?_⟩, fun b' o e => by rw [upd_ne (ne_of_none e hD)]; exact s3 b' o e⟩
          rw [List.take_add_one, ep, List.filter_append, Option.toList_some, List.filter_cons, if_pos (by simpa using hin), List.filter_nil, List.map_append]
          exact DhAll.append (DhAll.t (SameT.lst eD) dzs (nl _)) (.cons (dp.t (SameT.lst eD) rfl) .nil)
      rintro H3 ⟨⟨zs, eD, dzs⟩, s3⟩
      rw [lu, List.take_length] at dzs
      have lz := dzs.len
      rw [List.length_map] at lz
      have lz2 : zs.length ≤ 48 := by
        rw [lz]
        exact Nat.le_trans (List.length_filter_le _ _) ll
      refine ⟨F0, D, _, _, rfl, rfl, s3 _ _ eF, eD, by rw [sizeLine_eq]; omega, fun F1 hF1 => ?_⟩
      have zF := Same.upd (o := .lst (ys ++ zs)) hF1
      refine ⟨⟨F1, _, _, rfl, _, upd_same, ?_⟩, s2.trans (s3.trans zF)⟩
      rw [et, List.map_append]
      exact DhAll.append (dys.same (s3.trans zF)) (dzs.same zF)
    · rintro σ H2 ⟨⟨F0, x2, x3, rfl, ys, eF, dys⟩, s2⟩
      rw [hl.len, List.take_length] at dys
      obtain ⟨al, so, dp⟩ := parts_alike (allL ls)
      refine ⟨_, rfl, F0, ys, (allL ls).map partD, rfl, SqL.of eF, parts_dh dys, dys, al, so, dp, fun ws p pm dy hp => ?_⟩
      have zp := Same.upd (o := .lst ws) hp
      refine ⟨p, ws, rfl, .inl ⟨SqL.of upd_same, fun r hr => ?_⟩⟩
      have zr := Same.upd (o := .tup ws) hr
      refine k _ _ (s2.trans (zp.trans zr)) (.tup upd_same ?_)
      rw [show (allL ls).map partD = (allL ls).map plD from rfl, srtL_map] at dy
      exact DhAll.same (zp.trans zr) dy
end
end
end K12
set_option Elab.async false
set_option linter.all false
set_option maxRecDepth 100000
set_option maxHeartbeats 4000000
namespace K12
open PySem PySem.Spec PyProof.Rows L2 Lc
theorem part_tm2 {p : Str × Int} (h : PartOk p) : Tm 1 4010 (partD p) := by
  have := h.2
  exact (tm_tup (k := 0) (n := 2000) (ds := [.str p.1, .int p.2]) fun d hd => by
    simp only [List.mem_cons, List.not_mem_nil, or_false] at hd
    rcases hd with rfl | rfl
    · exact tm_txt (h.1.mono (by decide))
    · exact tm_int (by omega)).mono (Nat.le_refl _) (by show 2000 * 2 + 2 * 2 + 4 ≤ 4010; decide)
theorem row_tm {ks : List Str} {r : RowD} (h : Vks ks r.vals) (l8 : ks.length ≤ 8) (o : LinOk r.lin) (l4 : r.lin.length ≤ 4) : Tm 3 66010 r.d := by
  have h1 := h.tm l8
  have h2 : Tm 2 33000 (linD r.lin) := by
    have := tm_tup (k := 1) (n := 4010) (ds := r.lin.map partD) fun d hd => by
      obtain ⟨p, hp, rfl⟩ := List.mem_map.mp hd
      exact part_tm2 (o.2 p hp)
    rw [List.length_map] at this
    exact this.mono (Nat.le_refl _) (by omega)
  exact (tm_tup (k := 2) (n := 33000) (ds := [.tuple r.vals, linD r.lin]) fun d hd => by
    simp only [List.mem_cons, List.not_mem_nil, or_false] at hd
    rcases hd with rfl | rfl
    · exact h1
    · exact h2).mono (Nat.le_refl _) (by show 33000 * 2 + 2 * 2 + 4 ≤ 66010; decide)
def rowsLD (rs : List RowD) : PyData := .list (rs.map RowD.d)
theorem rowsL_tm {ks : List Str} {rs : List RowD} (h : RowG ks rs) (l4 : ∀ r ∈ rs, r.lin.length ≤ 4) (l8 : ks.length ≤ 8) (l : rs.length ≤ 60) : Tm 4 3970000 (rowsLD rs) := by
  have := tm_lst (k := 3) (n := 66010) (ds := rs.map RowD.d) fun d hd => by
    obtain ⟨r, hr, rfl⟩ := List.mem_map.mp hd
    exact row_tm (h r hr).1 l8 (h r hr).2 (l4 r hr)
  rw [List.length_map] at this
  exact this.mono (Nat.le_refl _) (by omega)
def colsDL (ps : List (Str × Str)) : PyData := .tuple (ps.map colP)
theorem cols_tmL {ps : List (Str × Str)} (h : ColsOk ps) : Tm 2 33000 (colsDL ps) := by
  have := tm_tup (k := 1) (n := 4010) (ds := ps.map colP) fun d hd => by
    obtain ⟨p, hp, rfl⟩ := List.mem_map.mp hd
    have q := h.each p hp
    exact (tm_tup (k := 0) (n := 2000) (ds := [.str p.1, .str p.2]) fun d hd => by
      simp only [List.mem_cons, List.not_mem_nil, or_false] at hd
      rcases hd with rfl | rfl
      · exact tm_txt (q.1.mono (by decide))
      · exact tm_txt q.2.2.sh).mono (Nat.le_refl _) (by show 2000 * 2 + 2 * 2 + 4 ≤ 4010; decide)
  rw [List.length_map] at this
  have := h.l8
  exact ‹Tm _ _ _›.mono (Nat.le_refl _) (by omega)
/-- what a table is, shown -/
def isD (ps : CsL) (rs : List RowD) : PyData := .list [colsDL ps, rowsLD rs, .int (rs.length : Nat)]
theorem is_tm {ps : CsL} {rs : List RowD} (c : ColsOk ps) (h : RowG (ps.map (·.2)) rs) (l4 : ∀ r ∈ rs, r.lin.length ≤ 4) (l : rs.length ≤ 60) : Tm 5 11920000 (isD ps rs) :=
  (tm_lst (k := 4) (n := 3970000) (ds := [colsDL ps, rowsLD rs, .int (rs.length : Nat)]) fun d hd => by
    simp only [List.mem_cons, List.not_mem_nil, or_false] at hd
    rcases hd with rfl | rfl | rfl
    · exact (cols_tmL c).mono (by decide) (by decide)
    · exact rowsL_tm h l4 (by rw [List.length_map]; exact c.l8) l
    · exact (tm_int (by rw [Int.natAbs_natCast]; omega)).mono (by decide) (by decide)).mono (Nat.le_refl _) (by show 3970000 * 3 + 2 * 3 + 4 ≤ 11920000; decide)
theorem is_shw {K : PySem.W.Frag} {H : Hp} {M L R : Addr} {ps : CsL} {rs : RowsL} (c : ColsOk ps) (hL : CA H L ps) (e : H R = some (.lst (rs.map (·.1)))) (ra : RowsAt H rs) (h : RowG (ps.map (·.2)) (rs.map (·.2))) (l4 : ∀ r ∈ rs, r.2.lin.length ≤ 4) (l : rs.length ≤ 60) (er : H M = some (.lst [.ref L, .ref R, .int (rs.length : Nat)])) : Shw K H (.ref M) (isD ps (rs.map (·.2))).shown := by
  obtain ⟨xs, eL, cc⟩ := hL
  have l4' : ∀ r ∈ rs.map (·.2), r.lin.length ≤ 4 := fun r hr => by
    obtain ⟨q, hq, rfl⟩ := List.mem_map.mp hr
    exact l4 q hq
  have t := is_tm c h l4' (by rw [List.length_map]; exact l)
  rw [isD, List.length_map] at t
  rw [isD, List.length_map]
  exact (Dh.lst er (.cons (.tup eL cc.dh) (.cons (.lst e (rows_dh ra)) (.cons (.int _) .nil)))).shw t.sh t.nd (Nat.le_trans t.dz (by decide)) (Nat.le_trans t.ln (by decide))
theorem val_tm {ks : List Str} {ds : List PyData} (h : Vks ks ds) {j : Nat} (hj : j < ds.length) : Tm 1 4100 (ds.getD j .none) := by
  induction h generalizing j with
  | nil => exact absurd hj (Nat.not_lt_zero _)
  | cons h r ih =>
    cases j with
    | zero => exact h.tm
    | succ j => exact ih (by simpa using hj)
def toldC (rs : RowsL) (j : Nat) : PyData := .tuple [.str "told", .list (colD rs j)]
theorem toldC_tm {ks : List Str} {rs : RowsL} (h : RowG ks (rs.map (·.2))) (l : rs.length ≤ 60) {j : Nat} (hj : j < ks.length) : Tm 3 500100 (toldC rs j) := by
  have t1 : Tm 2 250000 (.list (colD rs j)) := by
    have := tm_lst (k := 1) (n := 4100) (ds := colD rs j) fun d hd => by
      obtain ⟨r, hr, rfl⟩ := List.mem_map.mp hd
      have q := (h r.2 (List.mem_map_of_mem hr)).1
      exact val_tm q (by have := q.len; omega)
    have e : (colD rs j).length = rs.length := List.length_map _
    rw [e] at this
    exact this.mono (Nat.le_refl _) (by omega)
  exact (tm_tup (k := 2) (n := 250000) (ds := [.str "told", .list (colD rs j)]) fun d hd => by
    simp only [List.mem_cons, List.not_mem_nil, or_false] at hd
    rcases hd with rfl | rfl
    · exact (tm_txt ⟨by decide +kernel, by decide +kernel⟩).mono (by decide) (by decide)
    · exact t1).mono (Nat.le_refl _) (by show 250000 * 2 + 2 * 2 + 4 ≤ 500100; decide)
theorem lin_tm {l : Lin} (o : LinOk l) (h : l.length ≤ 48) : Tm 2 193000 (linD l) := by
  have := tm_tup (k := 1) (n := 4010) (ds := l.map partD) fun d hd => by
    obtain ⟨p, hp, rfl⟩ := List.mem_map.mp hd
    exact part_tm2 (o.2 p hp)
  rw [List.length_map] at this
  exact this.mono (Nat.le_refl _) (by omega)
end K12
set_option Elab.async false
set_option linter.all false
set_option maxRecDepth 100000
set_option maxHeartbeats 4000000
namespace K12
open PySem PySem.Spec PyProof.Rows L2 Lc
inductive EqTw (C : Addr) (H : Hp) (ps : CsL) (rs : List RowD) : V → Bool → Prop
  | tb {b : Addr} {qs : CsL} {ss : RowsL} {k : Bool} (h : TbAt C H b qs ss) (e1 : eqT ps rs qs (ss.map (·.2)) = k) (e2 : eqT qs (ss.map (·.2)) ps rs = k) : EqTw C H ps rs (.ref b) k
  | non : EqTw C H ps rs .non false
  | tup {b : Addr} {xs : List V} (e : H b = some (.tup xs)) : EqTw C H ps rs (.ref b) false
structure NfT (K : PySem.W.Frag) (C : Addr) : Prop where
  own : PySem.W.notFirst K C (.ref C) = true
  non : PySem.W.notFirst K C (.type "NoneType") = true
  tup : PySem.W.notFirst K C (.type "tuple") = true
def spLe (C : Addr) : Sp := fun vs H Q _ => ∃ (a : Addr) (ps : CsL) (rs : RowsL) (y : V) (k : Bool), vs = [.ref a, y, .bl k] ∧ TbAt C H a ps rs ∧ EqTw C H ps (rs.map (·.2)) y k ∧ ∀ H', Same H H' → Q (.bl true) H'
def spLi (C : Addr) : Sp := fun vs H Q _ => ∃ (a L r : Addr) (ps : CsL) (rs ss : RowsL), vs = [.ref a, .ref L, .ref r] ∧ TbAt C H a ps rs ∧ CA H L ps ∧ H r = some (.tup (ss.map (·.1))) ∧ RowsAt H ss ∧ ss.map (·.2) = rs.map (·.2) ∧ (∀ q ∈ rs, q.2.lin.length ≤ 4) ∧ (∃ U : Lin, U.length ≤ 48 ∧ ∀ q ∈ rs, ∀ p ∈ q.2.lin, p ∈ U) ∧ ∀ H', Same H H' → Q (.bl true) H'
section
variable {P : Program} {w : World} {K : PySem.W.Frag} {mg : Str → Option Value} {base : Heap} {f : Addr} {fd : FuncData}
abbrev sLe : Stmt := top 53
abbrev nLe : List Str := ["_law_one", "_law_other", "_law_due"]
abbrev pLe : List Str := ["_law_one", "_law_other", "_law_due"]
theorem scLe : FnScope nLe pLe (defScope sLe) := ⟨rfl, rfl, rfl, by decide +kernel, rfl, by decide +kernel, by decide +kernel⟩
section
theorem ok_Le (F : Fun K "_law_equals" "_law_equals" sLe f fd) (T : Bt mg) {C fE : Addr} {fdE : FuncData} (N : NfT K C) (rf : RfC K C) (c : EqC K C fE) (GE : FnOk P w K mg base CX0 1 fE fdE ["self", "other"] (spTe C)) (bE : Binds K fdE ["self", "other"] []) : FnG P w K mg base 3 f fd pLe (spLe C) := by
  refine Lc.Fun.okG F scLe (fun vs H Q E h => ?_) (fun cdv A outer s H vs Q E hg hr h => ?_)
  · obtain ⟨a, ps, rs, y, kk, rfl, _⟩ := h
    rfl
  · obtain ⟨a, ps, rs, y, kk, rfl, hI, hy, k⟩ := h
    refine ⟨_, (pss_one (ps_ret (pe_cmpR op_eq (pe_callB (call_reprV hg hr.units) (by rfl) T.repr boot_repr (pa_cons (pe_lst (pa_cons (pe_cmpR (op_eqB c rf GE bE hr) (pv 0) (pv 1) (nomark _)) (pa_cons (pe_cmpR (op_eqB c rf GE bE hr) (pv 1) (pv 0) (nomark _)) (pa_cons (pe_cmpR (op_neL c GE bE hr) (pv 0) (pv 1) (nomark _)) pa_nil)))) pa_nil)) (pe_callB (call_reprV hg hr.units) (by rfl) T.repr boot_repr (pa_cons (pe_lst (pa_cons (pv 2) (pa_cons (pv 2) (pa_cons (pe_not (pv 2)) pa_nil)))) pa_nil)) (nomark _)))), ?_⟩
    have three : 3 ≤ sizeLine := by decide
    obtain ⟨cv, ⟨dx, bv, h1, h2, h3⟩, h4⟩ := hI.at_
    have t3 : Tm 1 6100 (.list [.bool kk, .bool kk, .bool !kk]) := by
      have ta := tm_nonB.2 kk
      have tb := tm_nonB.2 (!kk)
      exact (tm_lst (k := 0) (n := 2000) (ds := [.bool kk, .bool kk, .bool !kk]) (fun d hd => by simp only [List.mem_cons, List.not_mem_nil, or_false] at hd; rcases hd with rfl | rfl | rfl <;> assumption)).mono (by decide) (by show 2000 * 3 + 2 * 3 + 4 ≤ _; decide)
    have sh : ∀ {H' : Hp} {q : Addr}, H' q = some (.lst [.bl kk, .bl kk, .bl !kk]) → Shw K H' (.ref q) (PyData.list [.bool kk, .bool kk, .bool !kk]).shown := fun e => shwB (d := .list [.bool kk, .bool kk, .bool !kk]) (.lst e (.cons (.bl _) (.cons (.bl _) (.cons (.bl _) .nil)))) t3 (by decide) (by decide)
    have eq1 : EqTb C H ps (rs.map (·.2)) y kk := by
      cases hy with
      | tb h e1 e2 => rw [← e1]; exact .tb h
      | non => exact .non
      | tup e => exact .tup e
    have rt : ∃ tb, Rt4 H y tb ∧ PySem.W.notFirst K C tb = true := by
      cases hy with
      | tb h e1 e2 =>
        obtain ⟨cw, ⟨ex, bw, g1, _⟩, _⟩ := h.at_
        exact ⟨_, .ins g1, N.own⟩
      | non => exact ⟨_, .non, N.non⟩
      | tup e => exact ⟨_, .tup e, N.tup⟩
    obtain ⟨tb, rt, nf⟩ := rt
    have e1 : EqTb C H ps (rs.map (·.2)) y kk := eq1
    have sw : ∀ Q' : VK, Q' (.bl kk) H → rEqB K C (spTe C) y (.ref a) H Q' := fun Q' q => by
      cases hy with
      | @tb b qs ss k h e1 e2 =>
        obtain ⟨cw, ⟨ex, bw, g1, _⟩, _⟩ := id h.at_
        exact .inl ⟨b, ex, _, .ref C, rfl, g1, .ins h1, N.own, b, qs, ss, .ref a, kk, rfl, h, (by rw [← e2]; exact .tb hI), kk, rfl, q⟩
      | non => exact .inr ⟨a, dx, _, rfl, h1, .inl rfl, a, ps, rs, .non, false, rfl, hI, .non, false, rfl, q⟩
      | tup e => exact .inr ⟨a, dx, _, rfl, h1, .inr ⟨_, _, rfl, e⟩, a, ps, rs, _, false, rfl, hI, .tup e, false, rfl, q⟩
    refine ⟨_, rfl, _, rfl, .inl ⟨a, dx, _, tb, rfl, h1, rt, nf, a, ps, rs, y, kk, rfl, hI, eq1, kk, rfl, ?_⟩⟩
    refine ⟨_, rfl, _, rfl, sw _ ?_⟩
    refine ⟨_, rfl, _, rfl, a, dx, _, tb, rfl, h1, rt, nf, a, ps, rs, y, kk, rfl, hI, eq1, kk, rfl, three, fun q hq => ?_⟩
    have zq := Same.upd (o := .lst [.bl kk, .bl kk, .bl !kk]) hq
    refine ⟨_, _, rfl, sh upd_same, _, rfl, _, rfl, _, rfl, ?_⟩
    refine ⟨_, rfl, three, fun q2 hq2 => ?_⟩
    have z2 := Same.upd (o := .lst [.bl kk, .bl kk, .bl !kk]) hq2
    refine ⟨_, _, rfl, sh upd_same, rfl, ?_⟩
    show Q (.bl (decide _)) _
    rw [decide_eq_true rfl]
    exact k _ (zq.trans z2)
end
abbrev sLi : Stmt := top 52
abbrev nLi : List Str := ["_law_table", "_law_columns_here", "_law_rows", "_law_place", "_law_due", "_law_row"]
abbrev pLi : List Str := ["_law_table", "_law_columns_here", "_law_rows"]
theorem scLi : FnScope nLi pLi (defScope sLi) := ⟨rfl, rfl, rfl, by decide +kernel, rfl, by decide +kernel, by decide +kernel⟩
section
variable {fA_ fB_ : Addr} {fdA_ fdB_ : FuncData}
theorem ok_Li (F : Fun K "_law_is" "_law_is" sLi f fd) (T : Bt mg) {C CU : Addr} (M : TbM P w K mg base C) (Y : TbQ P w K mg base C CU)
    (GA_ : FnOk P w K mg base CX0 4 fA_ fdA_ ["_law_table", "_law_name_here"] ((spLc C))) (mA_ : mg "_law_column" = some (.ref fA_)) (kA_ : PySem.W.keepIn K (.ref fA_) = true) (bA_ : Binds K fdA_ ["_law_table", "_law_name_here"] [])
    (GB_ : FnOk P w K mg base CX0 1 fB_ fdB_ ["_law_lineages"] (spUn)) (mB_ : mg "_law_union" = some (.ref fB_)) (kB_ : PySem.W.keepIn K (.ref fB_) = true) (bB_ : Binds K fdB_ ["_law_lineages"] []) : FnG P w K mg base 5 f fd pLi (spLi C) := by
  refine Lc.Fun.okG F scLi (fun vs H Q E h => ?_) (fun cdv A outer s H vs Q E hg hr h => ?_)
  · obtain ⟨a, Lc_, r, ps, rs, ss, rfl, _⟩ := h
    rfl
  · obtain ⟨a, Lc_, r, ps, rs, ss, rfl, hI, cL, er, ra, em, l4, hU, k⟩ := h
    have hrA_ : Room (4) _ := hr.mono (by first | decide | omega)
    have hrB_ : Room (1) _ := hr.mono (by first | decide | omega)
    obtain ⟨fI, fdI, GI, FI, bI⟩ := M.i
    obtain ⟨fC, fdC, hC, FC, bC⟩ := M.c
    obtain ⟨fR, fdR, hR, FR, bR⟩ := M.r
    obtain ⟨fg, fdg, mg_, Gg, bg⟩ := Y.g
    obtain ⟨fp, fdp, Cp, Gp, bp⟩ := Y.p
    obtain ⟨fl, fdl, Cl, Gl, bl⟩ := Y.l
    have hr1 : Room 1 _ := hr.mono (by decide)
    have hr2 : Room (1 + 1) _ := hr.mono (by decide)
    refine ⟨_, (pss_cons (ps_if (pt_cmpR op_ne (pe_callB (call_reprV hg hr.units) (by rfl) T.repr boot_repr (pa_cons (pe_lst (pa_cons (pe_meth0 (pv 0) GI.cls hC FC hr1 bC .nil pass0) (pa_cons (pe_meth0 (pv 0) GI.cls hR FR hr1 bR .nil pass0) (pa_cons (pe_callB (call_lenI Cl Gl hr2 bl) (by rfl) T.len PySem.boot_len (pa_cons (pv 0) pa_nil)) pa_nil)))) pa_nil)) (pe_callB (call_reprV hg hr.units) (by rfl) T.repr boot_repr (pa_cons (pe_lst (pa_cons (pv 1) (pa_cons (pe_callTy call_list_of (by rfl) T.list boot_list (pa_cons (pv 2) pa_nil)) (pa_cons (pe_callB call_len_seq (by rfl) T.len PySem.boot_len (pa_cons (pv 2) pa_nil)) pa_nil)))) pa_nil)) (nomark _)) (pss_one (ps_ret pe_bl)) pss_nil)
      (Evl.pss_cut (ps_if (pt_cmpR op_ne (pe_callB (call_reprI Cp Gp hr2 bp) (by rfl) T.repr boot_repr (pa_cons (pv 0) pa_nil)) (pe_op op_add_str (pe_op op_add_str (pe_op op_add_str (pe_op op_add_str pe_str (pe_callTy call_strE (by rfl) T.str boot_str (pa_cons (pe_callB call_len_seq (by rfl) T.len PySem.boot_len (pa_cons (pv 1) pa_nil)) pa_nil))) pe_str) (pe_callTy call_strE (by rfl) T.str boot_str (pa_cons (pe_callB call_len_seq (by rfl) T.len PySem.boot_len (pa_cons (pv 2) pa_nil)) pa_nil))) pe_str) (nomark _)) (pss_one (ps_ret pe_bl)) pss_nil)
      (Evl.pss_cut (ps_for PassesOwn.never rfl (pi_range1 (by rfl) T.range (pa_cons (pe_callB call_len_seq (by rfl) T.len PySem.boot_len (pa_cons (pv 1) pa_nil)) pa_nil)) (pg_name (i := 3) scLi.nd rfl (.inr rfl)) (pss_cons (ps_set (i := 4) scLi.nd rfl (Or.inl rfl) (pe_tup (pa_cons pe_str (pa_cons (pe_lc (own := [("_law_row", 5)]) (g := (gName 5)) (tt := tYes) (te := (tOp (rIxT K) (tOp (rIxT K) (tVar 5) (tC (.int 0))) (tVar 3))) (by rfl) scLi.nd (pi_tup (pv 2)) (blkOk_by (own := [("_law_row", 5)]) (N := nLi) (sc := defScope sLi) (by decide +kernel)) (fun _ _ _ _ _ => (pg_name (i := 5) scLi.nd rfl (.inl rfl))) (fun _ _ _ _ _ => pts_nil) (fun _ _ _ _ _ => (pe_ix ix_tup (pe_ix ix_tup (pv 5) pe_int (fun _ _ => rfl)) (pv 3) (fun _ _ => rfl)))) pa_nil))))
      (pss_one (ps_if (pt_cmpR op_ne (pe_callB (call_reprV hg hr.units) (by rfl) T.repr boot_repr (pa_cons (pe_call GA_ hrA_ (by rfl) mA_ kA_ bA_ .nil pass0 (pa_cons (pv 0) (pa_cons (pe_ix ix_tup (pe_ix ix_tup (pv 1) (pv 3) (fun _ _ => rfl)) pe_int (fun _ _ => rfl)) pa_nil))) pa_nil)) (pe_callB (call_reprV hg hr.units) (by rfl) T.repr boot_repr (pa_cons (pv 4) pa_nil)) (nomark _)) (pss_one (ps_ret pe_bl)) pss_nil))))
      (pss_one (ps_ret (pe_cmpR op_eq (pe_callB (call_reprV hg hr.units) (by rfl) T.repr boot_repr (pa_cons (pe_meth0 (pv 0) GI.cls mg_ Gg hr2 bg .nil pass0) pa_nil)) (pe_callB (call_reprV hg hr.units) (by rfl) T.repr boot_repr (pa_cons (pe_call GB_ hrB_ (by rfl) mB_ kB_ bB_ .nil pass0 (pa_cons (pe_lc (own := [("_law_row", 5)]) (g := (gName 5)) (tt := tYes) (te := (tOp (rIxT K) (tVar 5) (tC (.int 1)))) (by rfl) scLi.nd (pi_tup (pv 2)) (blkOk_by (own := [("_law_row", 5)]) (N := nLi) (sc := defScope sLi) (by decide +kernel)) (fun _ _ _ _ _ => (pg_name (i := 5) scLi.nd rfl (.inl rfl))) (fun _ _ _ _ _ => pts_nil) (fun _ _ _ _ _ => (pe_ix ix_tup (pv 5) pe_int (fun _ _ => rfl)))) pa_nil)) pa_nil)) (nomark _))))))), ?_⟩
    have three : 3 ≤ sizeLine := by decide
    obtain ⟨⟨cv, hT, cA⟩, co, ro, ln⟩ := id hI
    obtain ⟨dx, bv, h1, h2, h3⟩ := id hT
    obtain ⟨xs, eL, cc⟩ := id cL
    have lx := cc.len
    have l8 := co.l8
    have lss : ss.length = rs.length := by rw [← List.length_map (as := ss) (·.2), em, List.length_map]
    have roS : RowG (ps.map (·.2)) (ss.map (·.2)) := by rw [em]; exact ro
    have inl : ∀ q ∈ ss, ∃ q' ∈ rs, q'.2 = q.2 := fun q hq => by
      have : q.2 ∈ rs.map (·.2) := by rw [← em]; exact List.mem_map_of_mem hq
      obtain ⟨q', h, e⟩ := List.mem_map.mp this
      exact ⟨q', h, e⟩
    have l4S : ∀ q ∈ ss, q.2.lin.length ≤ 4 := fun q hq => by
      obtain ⟨q', h, e⟩ := inl q hq
      rw [← e]
      exact l4 q' h
    refine ⟨_, rfl, a, dx, _, rfl, h1, rfl, a, cv, rs, rfl, hT, _, rfl, a, dx, _, rfl, h1, rfl, a, cv, rs, rfl, hT, fun l1 hl1 => ?_⟩
    have z1 := Same.upd (o := .lst (rs.map (·.1))) hl1
    have e1 : L2.upd H l1 (.lst (rs.map (·.1))) l1 = some (.lst (rs.map (·.1))) := upd_same
    generalize L2.upd H l1 (.lst (rs.map (·.1))) = H1 at z1 e1 ⊢
    refine ⟨_, rfl, a, dx, _, rfl, z1 _ _ h1, a, ps, rs, rfl, hI.same z1, (rs.length : Nat), rfl, by omega, by omega, three, fun M hM => ?_⟩
    have z2 := Same.upd (o := .lst [.ref cv, .ref l1, .int (rs.length : Nat)]) hM
    refine ⟨.ref M, _, rfl, is_shw co (cA.same (z1.trans z2)) (z2 _ _ e1) (RowsAt.same h3 (z1.trans z2)) ro l4 ln upd_same, ?_⟩
    have z12 := z1.trans z2
    generalize L2.upd H1 M (.lst [.ref cv, .ref l1, .int (rs.length : Nat)]) = H2 at z12 ⊢
    clear z1 z2 e1 hM hl1
    refine ⟨_, rfl, _, rfl, r, _, rfl, .inr (SqT.of (z12 _ _ er)), fun l2 hl2 => ?_⟩
    have z3 := Same.upd (o := .lst (ss.map (·.1))) hl2
    have e3 : L2.upd H2 l2 (.lst (ss.map (·.1))) l2 = some (.lst (ss.map (·.1))) := upd_same
    generalize L2.upd H2 l2 (.lst (ss.map (·.1))) = H3 at z3 e3 ⊢
    have z13 := z12.trans z3
    refine ⟨_, rfl, r, _, rfl, .inr (SqT.of (z13 _ _ er)), three, fun M2 hM2 => ?_⟩
    rw [List.length_map]
    have z4 := Same.upd (o := .lst [.ref Lc_, .ref l2, .int (ss.length : Nat)]) hM2
    have z14 := z13.trans z4
    refine ⟨.ref M2, _, rfl, is_shw co (cL.same z14) (z4 _ _ e3) (RowsAt.same ra z14) roS l4S (by omega) upd_same, rfl, _, rfl, ?_⟩
    rw [em, decide_eq_true rfl]
    refine iteF ?_
    generalize L2.upd H3 M2 (.lst [.ref Lc_, .ref l2, .int (ss.length : Nat)]) = H4 at z14 ⊢
    clear z12 z3 e3 z13 z4 hM2 hl2
    -- how it is shown
    refine ⟨fun σ H' => σ = [some (.ref a), some (.ref Lc_), some (.ref r), none, none, none] ∧ Same H H', ?_, ?_⟩
    · refine ⟨_, rfl, a, dx, _, rfl, z14 _ _ h1, a, ps, rs, rfl, hI.same z14, _, rfl, ?_⟩
      have cat : ∀ (x y : Str), (x ++ y).length = x.length + y.length := fun x y => by rw [lenL, lenL, lenL, appL, List.length_append]
      have c0 : ("Table(" : Str).length = 6 := by decide +kernel
      have c1 : (" columns, " : Str).length = 10 := by decide +kernel
      have c2 : (" rows)" : Str).length = 6 := by decide +kernel
      have n1 := tx_len (n := ps.length) (by omega)
      have n2 := tx_len (n := rs.length) (by omega)
      have big : ∀ {k : Nat}, k ≤ 100 → k ≤ sizeLine := fun h => Nat.le_trans h (by decide)
      have fit : ∀ {n : Nat}, n ≤ 60 → ((n : Nat) : Int).natAbs.log2 < 1920 := fun {n} h => by
        rw [Int.natAbs_natCast]
        exact Nat.lt_of_le_of_lt (Nat.log2_le_self n) (by omega)
      have tA : Str.ofString (toString ((xs.length : Nat) : Int)) = tx ps.length := by rw [lx]; rfl
      have lm : (ss.map (·.1)).length = rs.length := by rw [List.length_map, lss]
      have tB : Str.ofString (toString (((ss.map (·.1)).length : Nat) : Int)) = tx rs.length := by rw [lm]; rfl
      refine ⟨_, rfl, Lc_, xs, rfl, .inr (SqT.of (z14 _ _ eL)), .inr ⟨_, rfl, fit (by omega), _, _, rfl, rfl, by rw [tA, c0]; exact big (by omega), _, _, rfl, rfl, by rw [tA, cat, c0, c1]; exact big (by omega), ?_⟩⟩
      refine ⟨_, rfl, r, _, rfl, .inr (SqT.of (z14 _ _ er)), .inr ⟨_, rfl, fit (by omega), _, _, rfl, rfl, by rw [tA, tB, cat, cat, c0, c1]; exact big (by omega), _, _, rfl, rfl, by rw [tA, tB, cat, cat, cat, c0, c1, c2]; exact big (by omega), ?_⟩⟩
      refine ⟨rfl, _, rfl, ?_⟩
      rw [tA, tB, decide_eq_true (show V.str (repT ps.length rs.length) = V.str (((((("Table(" : Str) ++ tx ps.length) ++ (" columns, " : Str)) ++ tx rs.length) ++ (" rows)" : Str))) from rfl)]
      exact iteF ⟨rfl, z14⟩
    rintro σ H5 ⟨rfl, s5⟩
    clear z14
    refine ⟨fun σ H' => (∃ x3 x4 : Option V, σ = [some (.ref a), some (.ref Lc_), some (.ref r), x3, x4, none]) ∧ Same H H', ?_, ?_⟩
    · refine ⟨_, rfl, Lc_, xs, rfl, .inr (SqT.of (s5 _ _ eL)), _, rfl, by omega, by omega, for_range (fun i σ H' => (∃ x3 x4 : Option V, σ = [some (.ref a), some (.ref Lc_), some (.ref r), x3, x4, none]) ∧ Same H H') ⟨⟨_, _, rfl⟩, s5⟩ ?_ ?_⟩
      · rintro j σ H6 hj ⟨⟨x3, x4, rfl⟩, s6⟩
        have hj : j < ps.length := by
          have : j < ((xs.length : Nat) : Int).toNat := hj
          rw [Int.toNat_natCast] at this
          omega
        refine ⟨_, rfl, r, rfl, ⟨_, SqT.of (s6 _ _ er)⟩, fun D hD => lc_tup (K := K) (a := r) (xs := ss.map (·.1)) (fun i H' => (∃ ys, H' D = some (.lst ys) ∧ DhAll H' ys (colD (ss.take i) j) ∧ ys.length ≤ i) ∧ Same H6 H') ⟨⟨[], upd_same, .nil, Nat.le_refl _⟩, Same.upd hD⟩ (fun i H' _ pr => SqT.of (pr.2 _ _ (s6 _ _ er))) ?_ ?_⟩
        · rintro i x H7 hx ⟨⟨ys, eD, lt, ly⟩, s7⟩
          rw [List.getElem?_map] at hx
          obtain ⟨q, eq_, rfl⟩ := Option.map_eq_some_iff.mp hx
          have li := (List.getElem?_eq_some_iff.mp eq_).1
          have qm := List.mem_of_getElem? eq_
          obtain ⟨rr, va, la, ev, e2, dva, dla⟩ := row_at ((ra q qm).same (s6.trans s7))
          refine ⟨rfl, ?_⟩
          dsimp only [tYes]
          have vk := (roS q.2 (List.mem_map_of_mem qm)).1
          have l1 := vk.len
          rw [List.length_map] at l1
          cases dva with
          | @tup _ us _ eu hu =>
          have lu := hu.len
          obtain ⟨u, eu'⟩ : ∃ u, us[j]? = some u := ⟨_, List.getElem?_eq_getElem (by omega)⟩
          obtain ⟨e, ee, de⟩ := hu.get _ _ eu'
          refine iteT ⟨_, rfl, rr, _, _, .ref va, ev, rfl, SqT.of e2, at_of (j := 0) rfl rfl, _, rfl, va, us, (0 + (j : Int)), u, rfl, rfl, SqT.of eu, at_of (j := j) (by omega) eu', ys, eD, Nat.lt_of_le_of_lt (show ys.length ≤ 60 by omega) (by decide), ⟨ys ++ [u], upd_same, ?_, by rw [List.length_append]; show ys.length + 1 ≤ i + 1; omega⟩, fun b o e => by rw [upd_ne (ne_of_none e hD)]; exact s7 b o e⟩
          have ne : noL e = true := noLs_all.mp vk.noL _ (List.mem_of_getElem? ee)
          have nt : noLs (colD (ss.take i) j) = true := noLs_all.mpr fun e he => by
            obtain ⟨q', hq, rfl⟩ := List.mem_map.mp he
            have vk' := (roS q'.2 (List.mem_map_of_mem (List.mem_of_mem_take hq))).1
            have l1' := vk'.len
            rw [List.length_map] at l1'
            rw [List.getD_eq_getElem?_getD, List.getElem?_eq_getElem (by omega)]
            exact noLs_all.mp vk'.noL _ (List.getElem_mem _)
          have e3 : colD (ss.take (i + 1)) j = colD (ss.take i) j ++ [e] := by
            unfold colD
            rw [List.take_add_one, eq_, Option.toList_some, List.map_append, List.map_cons, List.map_nil, List.getD_eq_getElem?_getD, ee]
            rfl
          rw [e3]
          exact DhAll.append (DhAll.t (SameT.lst eD) lt nt) (.cons (de.t (SameT.lst eD) ne) .nil)
        rintro H7 ⟨⟨ys, eD, lt, ly⟩, s7⟩
        rw [List.length_map, List.take_length] at lt
        refine ⟨by show 2 ≤ sizeLine; decide, fun du hdu => ?_⟩
        have zu := Same.upd (o := .tup [.str "told", .ref D]) hdu
        have eu : L2.upd H7 du (.tup [.str "told", .ref D]) du = some (.tup [.str "told", .ref D]) := upd_same
        generalize L2.upd H7 du (.tup [.str "told", .ref D]) = H8 at zu eu ⊢
        have s68 := s7.trans zu
        have s08 := s6.trans s68
        obtain ⟨x, hx⟩ : ∃ x, xs[j]? = some x := ⟨_, List.getElem?_eq_getElem (by omega)⟩
        obtain ⟨ca, z, kd, rfl, ea, ep⟩ := cc.get _ _ hx
        have en : (nms ps)[j]? = some z := by rw [List.getElem?_map, ep]; rfl
        have zm : z ∈ nms ps := List.mem_of_getElem? en
        have shz : SeqAt.shaped (PyData.str z) = true := by
          refine Bool.and_eq_true_iff.mpr ⟨can_str (co.each _ (List.mem_of_getElem? ep)).1, decide_eq_true (by simp [PyData.depth])⟩
        have eC : colD ss j = colD rs j := by
          have h : ∀ l : RowsL, colD l j = (l.map (·.2)).map fun r => r.vals.getD j .none := fun l => by unfold colD; rw [List.map_map]; rfl
          rw [h, h, em]
        rw [eC] at lt
        refine ⟨_, rfl, _, rfl, _, rfl, Lc_, xs, (0 + (j : Int)), .ref ca, rfl, rfl, SqT.of (s08 _ _ eL), at_of (j := j) (by omega) hx, ca, _, 0, .str z, rfl, rfl, SqT.of (s08 _ _ ea), at_of (j := 0) rfl rfl, a, ps, rs, .str z, .str z, rfl, hI.same s08, .str z, shz, fun un => ?_, fun j' x ej ex r9 q9 zs H9 s9 e9 eq9 dq9 => ?_⟩
        · have := un z zm
          simp [PyData.eqv] at this
        · injection ex with ex
          subst ex
          obtain rfl : j' = j := by
            have l1 := (List.getElem?_eq_some_iff.mp ej).1
            have l2 := (List.getElem?_eq_some_iff.mp en).1
            have g1 := (List.getElem?_eq_some_iff.mp ej).2
            have g2 := (List.getElem?_eq_some_iff.mp en).2
            exact (List.getElem_inj (h₀ := l1) (h₁ := l2) co.nd).mp (g1.trans g2.symm)
          have tt := toldC_tm (rs := rs) (ks := ps.map (·.2)) ro ln (j := j') (by rw [List.length_map]; exact hj)
          have d1 : Dh H9 (.ref r9) (toldC rs j') := .tup e9 (.cons (.str _) (.cons (.lst eq9 dq9) .nil))
          have d2 : Dh H9 (.ref du) (toldC rs j') := .tup (s9 _ _ eu) (.cons (.str _) (.cons (.lst (s9 _ _ (zu _ _ eD)) ((DhAll.same zu lt).same s9)) .nil))
          refine ⟨.ref r9, _, rfl, d1.shw tt.sh tt.nd (Nat.le_trans tt.dz (by decide)) (Nat.le_trans tt.ln (by decide)), _, rfl, .ref du, _, rfl, d2.shw tt.sh tt.nd (Nat.le_trans tt.dz (by decide)) (Nat.le_trans tt.ln (by decide)), rfl, _, rfl, ?_⟩
          rw [decide_eq_true rfl]
          exact iteF ⟨⟨_, _, rfl⟩, s08.trans s9⟩
      · rintro σ H6 ⟨⟨x3, x4, rfl⟩, s6⟩
        exact ⟨⟨_, _, rfl⟩, s6⟩
    rintro σ H6 ⟨⟨x3, x4, rfl⟩, s6⟩
    obtain ⟨U, lU, hU⟩ := hU
    have eL2 : (ss.map fun q => q.2.lin) = rs.map fun q => q.2.lin := by
      have h : ∀ l : RowsL, (l.map fun q => q.2.lin) = (l.map (·.2)).map RowD.lin := fun l => by rw [List.map_map]; rfl
      rw [h, h, em]
    have okl : ∀ l ∈ rs.map fun q => q.2.lin, LinOk l := fun l hl => by
      obtain ⟨q, hq, rfl⟩ := List.mem_map.mp hl
      exact (ro q.2 (List.mem_map_of_mem hq)).2
    have hU2 : ∀ l ∈ rs.map fun q => q.2.lin, ∀ p ∈ l, p ∈ U := fun l hl p hp => by
      obtain ⟨q, hq, rfl⟩ := List.mem_map.mp hl
      exact hU q hq p hp
    have oU := unL_ok okl
    have lU2 : (unL (rs.map fun q => q.2.lin)).length ≤ 48 := Nat.le_trans (oU.1.length_le_of_subset (l₂ := U) fun p hp => by
      obtain ⟨l, hl, h1⟩ := unL_mem.mp hp
      exact hU2 l hl p h1) lU
    have tu := lin_tm oU lU2
    have shu : ∀ {H' : Hp} {v : V}, Dh H' v (linD (unL (rs.map fun q => q.2.lin))) → Shw K H' v (linD (unL (rs.map fun q => q.2.lin))).shown := fun d => d.shw tu.sh tu.nd (Nat.le_trans tu.dz (by decide)) (Nat.le_trans tu.ln (by decide))
    refine ⟨_, rfl, a, dx, _, rfl, s6 _ _ h1, rfl, a, ps, rs, rfl, hI.same s6, ⟨U, lU, hU⟩, fun v H7 s7 dv => ⟨v, _, rfl, shu dv, ?_⟩⟩
    have s07 := s6.trans s7
    refine ⟨_, rfl, r, rfl, ⟨_, SqT.of (s07 _ _ er)⟩, fun D hD => lc_tup (K := K) (a := r) (xs := ss.map (·.1)) (fun i H' => (∃ ys, H' D = some (.lst ys) ∧ LinsAt H' ys ((ss.take i).map fun r => r.2.lin) ∧ ys.length ≤ i) ∧ Same H7 H') ⟨⟨[], upd_same, .nil, Nat.le_refl _⟩, Same.upd hD⟩ (fun i H' _ pr => SqT.of (pr.2 _ _ (s07 _ _ er))) ?_ ?_⟩
    · rintro i x H8 hx ⟨⟨ys, eD, lt, ly⟩, s8⟩
      rw [List.getElem?_map] at hx
      obtain ⟨q, eq_, rfl⟩ := Option.map_eq_some_iff.mp hx
      have li := (List.getElem?_eq_some_iff.mp eq_).1
      obtain ⟨rr, va, la, ev, e2, dva, dla⟩ := row_at ((ra q (List.mem_of_getElem? eq_)).same (s07.trans s8))
      refine ⟨rfl, ?_⟩
      dsimp only [tYes]
      refine iteT ⟨_, rfl, rr, _, _, .ref la, ev, rfl, SqT.of e2, at_of (j := 1) rfl rfl, ys, eD, Nat.lt_of_le_of_lt (show ys.length ≤ 60 by omega) (by decide), ⟨ys ++ [.ref la], upd_same, ?_, by rw [List.length_append]; show ys.length + 1 ≤ i + 1; omega⟩, fun b o e => by rw [upd_ne (ne_of_none e hD)]; exact s8 b o e⟩
      rw [List.take_add_one, eq_, Option.toList_some, List.map_append]
      exact (lt.t (SameT.lst eD)).snoc (dla.t (SameT.lst eD) (lin_noL _))
    rintro H8 ⟨⟨ys, eD, lt, ly⟩, s8⟩
    rw [List.length_map, List.take_length, eL2] at lt
    refine ⟨D, ys, _, rfl, eD, lt, okl, ⟨U, lU, hU2⟩, fun v2 H9 s9 dv2 => ⟨v2, _, rfl, shu dv2, rfl, ?_⟩⟩
    show Q (.bl (decide _)) _
    rw [decide_eq_true rfl]
    exact k _ (s07.trans (s8.trans s9))
end
end
end K12
set_option Elab.async false
set_option linter.all false
set_option maxRecDepth 100000
set_option maxHeartbeats 4000000
namespace K12
open PySem PySem.Spec PyProof.Rows L2 Lc
def cutD (ds : List PyData) (lo hi : Option Int) : List PyData := (ds.drop (HT.sIx ds.length 0 lo)).take (HT.sIx ds.length ds.length hi - HT.sIx ds.length 0 lo)
theorem dh_drop {H : Hp} : ∀ {xs : List V} {ds : List PyData} (i : Nat), DhAll H xs ds → DhAll H (xs.drop i) (ds.drop i)
  | _, _, 0, h => h
  | _, _, i + 1, .nil => .nil
  | _, _, i + 1, .cons _ r => dh_drop i r
theorem dh_take {H : Hp} : ∀ {xs : List V} {ds : List PyData} (i : Nat), DhAll H xs ds → DhAll H (xs.take i) (ds.take i)
  | _, _, 0, _ => .nil
  | _, _, i + 1, .nil => .nil
  | _, _, i + 1, .cons h r => .cons h (dh_take i r)
theorem dh_cut {H : Hp} {xs : List V} {ds : List PyData} {lo hi : Option Int} (h : DhAll H xs ds) : DhAll H (cutV xs lo hi) (cutD ds lo hi) := by
  unfold cutV cutD
  rw [h.len]
  exact dh_take _ (dh_drop _ h)
theorem cutD_to {ds : List PyData} {v : Nat} (h : v ≤ ds.length) : cutD ds none (some (v : Int)) = ds.take v := by
  have e1 : HT.sIx ds.length 0 none = 0 := rfl
  have e2 : HT.sIx ds.length ds.length (some (v : Int)) = v := by
    rw [HT.sIx_nat]
    omega
  unfold cutD
  rw [e1, e2]
  simp
theorem cutD_from (ds : List PyData) (v : Nat) : cutD ds (some (v : Int)) none = ds.drop v := by
  have e1 : HT.sIx ds.length ds.length none = ds.length := rfl
  have e2 : HT.sIx ds.length 0 (some (v : Int)) = min v ds.length := HT.sIx_nat _ _ _
  unfold cutD
  rw [e1, e2]
  rcases Nat.le_total v ds.length with q | q
  · rw [Nat.min_eq_left q]
    exact List.take_of_length_le (by rw [List.length_drop]; omega)
  · rw [Nat.min_eq_right q, List.drop_length, List.drop_eq_nil_of_le q]
    simp
theorem slH {K : PySem.W.Frag} {H : Hp} {Q : VK} {v : V} {ds : List PyData} {lo hi : Option Int} (h : Dh H v (.tuple ds)) (k : ∀ r H', Dh H' r (.tuple (cutD ds lo hi)) → Same H H' → Q r H') : rSlA K v lo hi H Q := by
  cases h with
  | @tup a xs _ e hs =>
  refine ⟨a, xs, rfl, SqT.of e, fun z => ?_, fun _ p hp => ?_⟩
  · refine k _ _ ?_ (Same.refl H)
    have : cutD ds lo hi = ds := by
      rw [hs.len] at z
      unfold cutD
      rw [z.1, z.2]
      simp
    rw [this]
    exact .tup e hs
  · have zp := Same.upd (o := .tup (cutV xs lo hi)) hp
    exact k _ _ (.tup upd_same ((dh_cut hs).same zp)) zp
theorem catH {K : PySem.W.Frag} {H : Hp} {Q : VK} {v u : V} {ds es : List PyData} (h : Dh H v (.tuple ds)) (g : Dh H u (.tuple es)) (l : ds.length + es.length ≤ 1000) (k : ∀ r H', Dh H' r (.tuple (ds ++ es)) → Same H H' → Q r H') : rCatA K v u H Q := by
  have h0 := h
  have g0 := g
  cases h with
  | @tup a xs _ e hs =>
  cases g with
  | @tup b ys _ e' gs =>
  refine ⟨a, b, xs, ys, rfl, rfl, SqT.of e, SqT.of e', by rw [hs.len, gs.len]; exact Nat.le_trans l (by decide), fun z => ?_, fun _ z => ?_, fun _ _ p hp => ?_⟩
  · subst z
    cases hs
    exact k _ _ g0 (Same.refl H)
  · subst z
    cases gs
    rw [List.append_nil] at k
    exact k _ _ h0 (Same.refl H)
  · have zp := Same.upd (o := .tup (xs ++ ys)) hp
    exact k _ _ (.tup upd_same ((hs.append gs).same zp)) zp
theorem eqvAll_at : ∀ {xs ys : List PyData} {i : Nat} {x y : PyData}, PyData.eqvAll xs ys = true → xs[i]? = some x → ys[i]? = some y → PyData.eqv x y = true
  | [], _, i, x, y, _, h, _ => by simp at h
  | _ :: _, [], i, x, y, _, _, h => by simp at h
  | a :: xs, b :: ys, i, x, y, e, h1, h2 => by
    rw [PyData.eqvAll, Bool.and_eq_true_iff] at e
    cases i with
    | zero => cases h1; cases h2; exact e.1
    | succ i => exact eqvAll_at (i := i) e.2 (by simpa using h1) (by simpa using h2)
theorem rows_of {H : Hp} : ∀ {xs : List V} {ds : List RowD}, DhAll H xs (ds.map RowD.d) → ∃ rs : RowsL, rs.map (·.1) = xs ∧ rs.map (·.2) = ds ∧ RowsAt H rs
  | [], [], _ => ⟨[], rfl, rfl, nofun⟩
  | x :: xs, d :: ds, h => by
    cases h with
    | cons h r =>
      obtain ⟨rs, e1, e2, ra⟩ := rows_of (xs := xs) (ds := ds) r
      refine ⟨(x, d) :: rs, by rw [List.map_cons, e1], by rw [List.map_cons, e2], fun q hq => ?_⟩
      rcases List.mem_cons.mp hq with rfl | hq
      · exact h
      · exact ra q hq
  | [], _ :: _, h => by cases h
  | _ :: _, [], h => by cases h
theorem cols_of {H : Hp} : ∀ {xs : List V} {ps : CsL}, DhAll H xs (ps.map colP) → Cols H xs ps
  | [], [], _ => .nil
  | x :: xs, (z, k) :: ps, h => by
    cases h with
    | cons h r =>
      cases h with
      | tup e hs =>
        cases hs with
        | cons h1 hs =>
          cases h1 with
          | str =>
            cases hs with
            | cons h2 hs =>
              cases h2 with
              | str =>
                cases hs with
                | nil => exact .cons e (cols_of r)
  | [], _ :: _, h => by cases h
  | _ :: _, [], h => by cases h
/-- a table made of data -/
theorem mk_dt {C : Addr} {E : XK} {H : Hp} {L R : V} {ps : CsL} {ds : List RowD} {Q : Addr → Hp → Prop} (hL : Dh H L (.tuple (ps.map colP))) (hR : Dh H R (.tuple (ds.map RowD.d))) (c : ColsOk ps) (g : RowG (ps.map (·.2)) ds) (ln : ds.length ≤ 60)
    (k : ∀ (t : Addr) (rs : RowsL) (H' : Hp), Same H H' → TbAt C H' t ps rs → rs.map (·.2) = ds → Q t H') :
    ∀ x dx, H x = none → H dx = none → dx ≠ x → spTI C [.ref x, L, R] (L2.upd (L2.upd H dx (.own x)) x (.ins C dx [])) (fun v H2 => v = .non ∧ Q x H2) E := by
  cases hL with
  | @tup cv xs _ eL hL =>
  cases hR with
  | @tup bv ys _ eR hR =>
  obtain ⟨rs, e1, e2, ra⟩ := rows_of hR
  subst e1
  have g' : RowG (ps.map (·.2)) (rs.map (·.2)) := by rw [e2]; exact g
  refine mk_tb (.inr eR) ra g'.ok fun a H' s' _ hT => ?_
  exact k a rs H' s' ⟨⟨cv, hT, xs, s' _ _ eL, (cols_of hL).same s'⟩, c, g', by rw [← List.length_map (as := rs) (·.2), e2]; exact ln⟩ e2
/-! ## when tables are not the same -/
theorem eqv_cols {ps qs : CsL} {z x : Str} {k l : Str} (h1 : ps[0]? = some (z, k)) (h2 : qs[0]? = some (x, l)) (n : z ≠ x) (rs ss : List RowD) : eqT ps rs qs ss = false := by
  unfold eqT
  have : PyData.eqv (.tuple (ps.map colP)) (.tuple (qs.map colP)) = false := by
    rw [PyData.eqv]
    cases q : PyData.eqvAll (ps.map colP) (qs.map colP) with
    | false => rfl
    | true =>
      have e := eqvAll_at q (i := 0) (x := colP (z, k)) (y := colP (x, l)) (by rw [List.getElem?_map, h1]; rfl) (by rw [List.getElem?_map, h2]; rfl)
      unfold colP at e
      rw [PyData.eqv] at e
      have e2 := eqvAll_at e (i := 0) rfl rfl
      rw [PyData.eqv] at e2
      exact absurd (by simpa using e2) n
  rw [this, Bool.false_and]
theorem eqv_rowsN {rs ss : List RowD} (h : rs.length ≠ ss.length) (ps qs : CsL) : eqT ps rs qs ss = false := by
  unfold eqT
  have : PyData.eqv (rowsT rs) (rowsT ss) = false := by
    unfold rowsT
    rw [PyData.eqv]
    exact eqvAll_len (by rw [List.length_map, List.length_map]; exact h)
  rw [this, Bool.and_false]
theorem eqv_rowsA {rs ss : List RowD} {i : Nat} {r s : RowD} (h1 : rs[i]? = some r) (h2 : ss[i]? = some s) (n : PyData.eqv r.d s.d = false) (ps qs : CsL) : eqT ps rs qs ss = false := by
  unfold eqT
  have : PyData.eqv (rowsT rs) (rowsT ss) = false := by
    unfold rowsT
    rw [PyData.eqv]
    cases q : PyData.eqvAll (rs.map RowD.d) (ss.map RowD.d) with
    | false => rfl
    | true =>
      have e := eqvAll_at q (i := i) (x := r.d) (y := s.d) (by rw [List.getElem?_map, h1]; rfl) (by rw [List.getElem?_map, h2]; rfl)
      rw [n] at e
      cases e
  rw [this, Bool.and_false]
theorem eqv_lin {v w : List PyData} {l m : Lin} (h : l.length ≠ m.length) : PyData.eqv (RowD.d ⟨v, l⟩) (RowD.d ⟨w, m⟩) = false := by
  show PyData.eqv (.tuple [.tuple v, linD l]) (.tuple [.tuple w, linD m]) = false
  rw [PyData.eqv]
  cases q : PyData.eqvAll [.tuple v, linD l] [.tuple w, linD m] with
  | false => rfl
  | true =>
    have e := eqvAll_at q (i := 1) rfl rfl
    unfold linD at e
    rw [PyData.eqv, eqvAll_len (by rw [List.length_map, List.length_map]; exact h)] at e
    cases e
theorem eqv_val {v w : List PyData} {x y : PyData} {l m : Lin} (h1 : v[0]? = some x) (h2 : w[0]? = some y) (n : PyData.eqv x y = false) : PyData.eqv (RowD.d ⟨v, l⟩) (RowD.d ⟨w, m⟩) = false := by
  show PyData.eqv (.tuple [.tuple v, linD l]) (.tuple [.tuple w, linD m]) = false
  rw [PyData.eqv]
  cases q : PyData.eqvAll [.tuple v, linD l] [.tuple w, linD m] with
  | false => rfl
  | true =>
    have e := eqvAll_at q (i := 0) rfl rfl
    rw [PyData.eqv] at e
    have e2 := eqvAll_at e (i := 0) h1 h2
    rw [n] at e2
    cases e2
theorem eqT_refl {ps : CsL} {rs : List RowD} (c : ColsOk ps) (g : RowG (ps.map (·.2)) rs) : eqT ps rs ps rs = true := by
  have h1 : PyData.eqv (.tuple (ps.map colP)) (.tuple (ps.map colP)) = true := SeqAt.eqv_refl_plain _ (PyData.plain_of_canLay0 _ (by simpa [PyData.canLay0] using c.can))
  have h2 : PyData.eqv (rowsT rs) (rowsT rs) = true := SeqAt.eqv_refl_plain _ (PyData.plain_of_canLay0 _ (by
    have := rows_shp g
    exact (Bool.and_eq_true_iff.mp this).1))
  unfold eqT
  rw [h1, h2]
  rfl
/-- a number is not both 0 and 1 -/
def oneD : PyData := .tuple [.int 1, .int 1]
def zeroD : PyData := .tuple [.int 0, .int 1]
def bentD (d : PyData) : PyData := if PyData.eqv d zeroD = true then oneD else zeroD
theorem bent_ne {d : PyData} (h : Vk "number" d) : PyData.eqv d (bentD d) = false ∧ PyData.eqv (bentD d) d = false ∧ Vk "number" (bentD d) := by
  have e11 : PyData.eqv oneD zeroD = false := by simp [oneD, zeroD, PyData.eqv, PyData.eqvAll]
  have v0 : Vk "number" zeroD := .num (rt_one 0) (by decide) (by decide)
  have v1 : Vk "number" oneD := .num (rt_one 1) (by decide) (by decide)
  generalize hk : ("number" : Str) = kd at h
  unfold bentD
  cases h with
  | non =>
    rw [if_neg (by simp [zeroD, PyData.eqv])]
    exact ⟨by simp [zeroD, PyData.eqv], by simp [zeroD, PyData.eqv], by rw [hk] at v0; exact v0⟩
  | @num n d rt h1 h2 =>
    by_cases q : PyData.eqv (.tuple [.int n, .int d]) zeroD = true
    · rw [if_pos q]
      have q1 : n = 0 ∧ d = 1 := by simpa [zeroD, PyData.eqv, PyData.eqvAll] using q
      refine ⟨by simp [oneD, PyData.eqv, PyData.eqvAll, q1.1], by simp [oneD, PyData.eqv, PyData.eqvAll, q1.1], v1⟩
    · rw [if_neg q]
      have q1 : n = 0 → ¬ d = 1 := by simpa [zeroD, PyData.eqv, PyData.eqvAll] using q
      refine ⟨by simpa using q, ?_, v0⟩
      simp only [zeroD, PyData.eqv, PyData.eqvAll]
      by_cases n0 : n = 0
      · have := q1 n0
        simp [n0, Ne.symm this]
      · simp [Ne.symm n0]
  | flag b => exact absurd hk (by decide +kernel)
  | word _ _ => exact absurd hk (by decide +kernel)
def spLo (C : Addr) : Sp := fun vs H Q _ => ∃ (a L r : Addr) (nm z : Str) (ps : CsL) (rs ss : RowsL), vs = [.ref a, .ref L, .ref r, .str nm] ∧ TbAt C H a ps rs ∧ CA H L ps ∧ H r = some (.tup (ss.map (·.1))) ∧ RowsAt H ss ∧ ss.map (·.2) = rs.map (·.2) ∧ nm ∉ nms ps ∧ Sh 12 nm ∧ nmS nm ∧ ps.head? = some (z, ("number" : Str)) ∧ rs.length ≤ 58 ∧ (∀ q ∈ rs, ∀ p ∈ q.2.lin, p ∈ linU) ∧ ∀ H', Same H H' → Q (.bl true) H'
section
variable {P : Program} {w : World} {K : PySem.W.Frag} {mg : Str → Option Value} {base : Heap} {f : Addr} {fd : FuncData}
abbrev sLo : Stmt := top 55
abbrev nLo : List Str := ["_law_table", "_law_columns_here", "_law_rows", "_law_name_here", "_law_named", "_law_more", "_law_part", "_law_place", "_law_lineage_here", "_law_bent", "_law_values_here"]
abbrev pLo : List Str := ["_law_table", "_law_columns_here", "_law_rows", "_law_name_here"]
theorem scLo : FnScope nLo pLo (defScope sLo) := ⟨rfl, rfl, rfl, by decide +kernel, rfl, by decide +kernel, by decide +kernel⟩
section
variable {fA_ : Addr} {fdA_ : FuncData}
theorem ok_Lo (F : Fun K "_law_others" "_law_others" sLo f fd) (T : Bt mg) {C : Addr} (M : TbM P w K mg base C)
    (GA_ : FnG P w K mg base 3 fA_ fdA_ ["_law_one", "_law_other", "_law_due"] ((spLe C))) (mA_ : mg "_law_equals" = some (.ref fA_)) (kA_ : PySem.W.keepIn K (.ref fA_) = true) (bA_ : Binds K fdA_ ["_law_one", "_law_other", "_law_due"] []) : FnG P w K mg base 4 f fd pLo (spLo C) := by
  refine Lc.Fun.okG F scLo (fun vs H Q E h => ?_) (fun cdv A outer s H vs Q E hg hr h => ?_)
  · obtain ⟨a, L, r, nm, z, ps, rs, ss, rfl, _⟩ := h
    rfl
  · obtain ⟨a, L, r, nm, z, ps, rs, ss, rfl, hI, cL, er, ra, em, nn, sn, nb, e0, ln, mU, k⟩ := h
    have hrA_ : Room (3) _ := hr.mono (by first | decide | omega)
    obtain ⟨fI, fdI, GI, FI, bI⟩ := M.i
    have hr2 : Room (1 + 1) _ := hr.mono (by decide)
    refine ⟨_, (Evl.pss_cut (ps_set (i := 4) scLo.nd rfl (Or.inl rfl) (pe_op op_catA (pe_tup (pa_cons (pe_tup (pa_cons (pv 3) (pa_cons (pe_ix ix_tup (pe_ix ix_tup (pv 1) pe_int (fun _ _ => rfl)) pe_int (fun _ _ => rfl)) pa_nil))) pa_nil)) (pe_slice sl_tupA (pv 1) (po_some pe_int) po_none)))
      (Evl.pss_cut (ps_if (PW.pt (pw_or (pt_not (pt_val (pe_callG GA_ hg hrA_ (by rfl) mA_ kA_ bA_ (pa_cons (pv 0) (pa_cons (pe_make GI.mkC FI hr2 (by rfl) GI.gC bI .nil pass0 (pa_cons (pv 4) (pa_cons (pv 2) pa_nil))) (pa_cons pe_bl pa_nil)))))) (pw_or1 (pt_not (pt_val (pe_callG GA_ hg hrA_ (by rfl) mA_ kA_ bA_ (pa_cons (pv 0) (pa_cons (pe_make GI.mkC FI hr2 (by rfl) GI.gC bI .nil pass0 (pa_cons (pv 1) (pa_cons (pv 2) pa_nil))) (pa_cons pe_bl pa_nil))))))))) (pss_one (ps_ret pe_bl)) pss_nil)
      (Evl.pss_cut (ps_set (i := 5) scLo.nd rfl (Or.inl rfl) (pe_op op_catA (pv 2) (pe_tup (pa_cons (pe_tup (pa_cons (pe_callTy call_tuple_of (by rfl) T.tuple boot_tuple (pa_cons (pe_lc (own := [("_law_part", 6)]) (g := (gName 6)) (tt := tYes) (te := (tC .non)) (by rfl) scLo.nd (pi_tup (pv 1)) (blkOk_by (own := [("_law_part", 6)]) (N := nLo) (sc := defScope sLo) (by decide +kernel)) (fun _ _ _ _ _ => (pg_name (i := 6) scLo.nd rfl (.inl rfl))) (fun _ _ _ _ _ => pts_nil) (fun _ _ _ _ _ => pe_non)) pa_nil)) (pa_cons (pe_tup pa_nil) pa_nil))) pa_nil))))
      (Evl.pss_cut (ps_if (pt_not (pt_val (pe_callG GA_ hg hrA_ (by rfl) mA_ kA_ bA_ (pa_cons (pv 0) (pa_cons (pe_make GI.mkC FI hr2 (by rfl) GI.gC bI .nil pass0 (pa_cons (pv 1) (pa_cons (pv 5) pa_nil))) (pa_cons pe_bl pa_nil)))))) (pss_one (ps_ret pe_bl)) pss_nil)
      (Evl.pss_cut (ps_if (PW.pt (pw_or (pt_not (pt_val (pe_callG GA_ hg hrA_ (by rfl) mA_ kA_ bA_ (pa_cons (pv 0) (pa_cons (pv 2) (pa_cons pe_bl pa_nil)))))) (pw_or1 (pt_not (pt_val (pe_callG GA_ hg hrA_ (by rfl) mA_ kA_ bA_ (pa_cons (pv 0) (pa_cons pe_non (pa_cons pe_bl pa_nil))))))))) (pss_one (ps_ret pe_bl)) pss_nil)
      (pss_cons (ps_for PassesOwn.never rfl (pi_range1 (by rfl) T.range (pa_cons (pe_callB call_len_seq (by rfl) T.len PySem.boot_len (pa_cons (pv 2) pa_nil)) pa_nil)) (pg_name (i := 7) scLo.nd rfl (.inl rfl)) (Evl.pss_cut (ps_set (i := 8) scLo.nd rfl (Or.inl rfl) (pe_op op_catA (pe_ix ix_tup (pe_ix ix_tup (pv 2) (pv 7) (fun _ _ => rfl)) pe_int (fun _ _ => rfl)) (pe_tup (pa_cons (pe_tup (pa_cons pe_str (pa_cons pe_int pa_nil))) pa_nil))))
      (Evl.pss_cut (ps_set (i := 9) scLo.nd rfl (Or.inl rfl) (pe_op op_catA (pe_op op_catA (pe_slice sl_tupA (pv 2) po_none (po_some (pv 7))) (pe_tup (pa_cons (pe_tup (pa_cons (pe_ix ix_tup (pe_ix ix_tup (pv 2) (pv 7) (fun _ _ => rfl)) pe_int (fun _ _ => rfl)) (pa_cons (pv 8) pa_nil))) pa_nil))) (pe_slice sl_tupA (pv 2) (po_some (pe_op op_add (pv 7) pe_int)) po_none)))
      (Evl.pss_cut (ps_if (pt_not (pt_val (pe_callG GA_ hg hrA_ (by rfl) mA_ kA_ bA_ (pa_cons (pv 0) (pa_cons (pe_make GI.mkC FI hr2 (by rfl) GI.gC bI .nil pass0 (pa_cons (pv 1) (pa_cons (pv 9) pa_nil))) (pa_cons pe_bl pa_nil)))))) (pss_one (ps_ret pe_bl)) pss_nil)
      (Evl.pss_cut (ps_set (i := 10) scLo.nd rfl (Or.inl rfl) (pe_op op_catA (pe_tup (pa_cons (pe_ix ix_list (pe_lst (pa_cons (pe_tup (pa_cons pe_int (pa_cons pe_int pa_nil))) (pa_cons (pe_tup (pa_cons pe_int (pa_cons pe_int pa_nil))) pa_nil))) (pe_callTy call_int1 (by rfl) T.int boot_int (pa_cons (pe_cmpR (op_eqD hr.units) (pe_ix ix_tup (pe_ix ix_tup (pe_ix ix_tup (pv 2) (pv 7) (fun _ _ => rfl)) pe_int (fun _ _ => rfl)) pe_int (fun _ _ => rfl)) (pe_tup (pa_cons pe_int (pa_cons pe_int pa_nil))) (nomark _)) pa_nil)) (fun _ _ => rfl)) pa_nil)) (pe_slice sl_tupA (pe_ix ix_tup (pe_ix ix_tup (pv 2) (pv 7) (fun _ _ => rfl)) pe_int (fun _ _ => rfl)) (po_some pe_int) po_none)))
      (Evl.pss_cut (ps_set (i := 9) scLo.nd rfl (Or.inl rfl) (pe_op op_catA (pe_op op_catA (pe_slice sl_tupA (pv 2) po_none (po_some (pv 7))) (pe_tup (pa_cons (pe_tup (pa_cons (pv 10) (pa_cons (pe_ix ix_tup (pe_ix ix_tup (pv 2) (pv 7) (fun _ _ => rfl)) pe_int (fun _ _ => rfl)) pa_nil))) pa_nil))) (pe_slice sl_tupA (pv 2) (po_some (pe_op op_add (pv 7) pe_int)) po_none)))
      (pss_one (ps_if (pt_not (pt_val (pe_callG GA_ hg hrA_ (by rfl) mA_ kA_ bA_ (pa_cons (pv 0) (pa_cons (pe_make GI.mkC FI hr2 (by rfl) GI.gC bI .nil pass0 (pa_cons (pv 1) (pa_cons (pv 9) pa_nil))) (pa_cons pe_bl pa_nil)))))) (pss_one (ps_ret pe_bl)) pss_nil))))))))
      (pss_one (ps_ret pe_bl)))))))), ?_⟩
    have one : 1 ≤ sizeLine := by decide
    have two : 2 ≤ sizeLine := by decide
    obtain ⟨tl, rfl⟩ : ∃ tl, ps = (z, ("number" : Str)) :: tl := by
      cases ps with
      | nil => cases e0
      | cons p tl =>
        injection e0 with e0
        rw [e0]
        exact ⟨tl, rfl⟩
    have co := hI.cols
    have ro := hI.rows
    obtain ⟨xs, eL, cc⟩ := id cL
    have dL : Dh H (.ref L) (.tuple (((z, ("number" : Str)) :: tl).map colP)) := .tup eL cc.dh
    have dR : Dh H (.ref r) (.tuple ((rs.map (·.2)).map RowD.d)) := .tup er (by rw [← em]; exact rows_dh ra)
    have ld : (rs.map (·.2)).length = rs.length := List.length_map _
    have z1 : z ≠ nm := fun e => nn (by rw [← e]; exact List.mem_cons_self)
    have cq : ColsOk ((nm, ("number" : Str)) :: tl) := by
      refine ⟨fun p hp => ?_, ?_, ?_, ?_⟩
      · rcases List.mem_cons.mp hp with rfl | hp
        · exact ⟨sn, nb, .inl rfl⟩
        · exact co.each p (List.mem_cons_of_mem _ hp)
      · have := co.nd
        rw [List.map_cons, List.nodup_cons] at this ⊢
        exact ⟨fun h => nn (List.mem_cons_of_mem _ h), this.2⟩
      · exact Nat.succ_le_succ (Nat.zero_le _)
      · have := co.l8
        exact this
    -- another name
    refine ⟨fun σ H' => ∃ v4 : V, σ = [some (.ref a), some (.ref L), some (.ref r), some (.str nm), some v4, none, none, none, none, none, none] ∧ Dh H' v4 (.tuple (((nm, ("number" : Str)) :: tl).map colP)) ∧ Same H H', ?_, ?_⟩
    · obtain ⟨x, hx⟩ : ∃ x, xs[0]? = some x := by
        have := cc.len
        exact ⟨_, List.getElem?_eq_getElem (by rw [List.length_cons] at this; omega)⟩
      obtain ⟨ca, z', kd, rfl, ea, ep⟩ := cc.get _ _ hx
      injection ep with ep
      injection ep with ep1 ep2
      subst ep1
      subst ep2
      refine ⟨_, rfl, _, rfl, L, xs, 0, .ref ca, rfl, rfl, SqT.of eL, at_of (j := 0) rfl hx, ca, _, 1, .str "number", rfl, rfl, SqT.of ea, at_of (j := 1) rfl rfl, two, fun p hp => ⟨one, fun p2 hp2 => ?_⟩⟩
      have y1 := Same.upd (o := .tup [.str nm, .str "number"]) hp
      have y2 := Same.upd (o := .tup [.ref p]) hp2
      have d2 : Dh (L2.upd (L2.upd H p (.tup [.str nm, .str "number"])) p2 (.tup [.ref p])) (.ref p2) (.tuple [colP (nm, ("number" : Str))]) := .tup upd_same (.cons (.tup (y2 _ _ upd_same) (.cons (.str _) (.cons (.str _) .nil))) .nil)
      have yy := y1.trans y2
      generalize L2.upd (L2.upd H p (.tup [.str nm, .str "number"])) p2 (.tup [.ref p]) = H1 at d2 yy ⊢
      refine ⟨_, rfl, 1, rfl, ?_⟩
      dsimp only [tNoPart]
      refine slH (lo := some 1) (hi := none) (dL.same yy) fun v H2 dv s2 => ?_
      have e : cutD (((z, ("number" : Str)) :: tl).map colP) (some 1) none = tl.map colP := (cutD_from _ 1).trans rfl
      rw [e] at dv
      refine catH (d2.same s2) dv (by have := co.l8; rw [List.length_cons] at this; rw [List.length_map]; show 1 + tl.length ≤ 1000; omega) fun v3 H3 d3 s3 => ?_
      exact ⟨v3, rfl, d3, yy.trans (s2.trans s3)⟩
    rintro σ H1 ⟨v4, rfl, d4, s1⟩
    have eqR : eqT ((z, ("number" : Str)) :: tl) (rs.map (·.2)) ((z, ("number" : Str)) :: tl) (rs.map (·.2)) = true := eqT_refl co ro
    refine ⟨fun σ H' => σ = [some (.ref a), some (.ref L), some (.ref r), some (.str nm), some v4, none, none, none, none, none, none] ∧ Same H H', ?_, ?_⟩
    · refine ⟨_, rfl, _, rfl, _, rfl, mk_dt d4 (dR.same s1) cq ro (by omega) fun t ts H2 s2 hT et => ?_⟩
      refine ⟨a, _, rs, .ref t, false, rfl, hI.same (s1.trans s2), .tb hT (eqv_cols rfl rfl z1 _ _) (eqv_cols rfl rfl (Ne.symm z1) _ _), fun H3 s3 => ⟨_, rfl, iteF ?_⟩⟩
      have s13 := s1.trans (s2.trans s3)
      refine ⟨_, rfl, _, rfl, _, rfl, mk_dt (dL.same s13) (dR.same s13) co ro (by omega) fun t ts H4 s4 hT et => ?_⟩
      refine ⟨a, _, rs, .ref t, true, rfl, hI.same (s13.trans s4), .tb hT (by rw [et]; exact eqR) (by rw [et]; exact eqR), fun H5 s5 => ⟨_, rfl, iteF ⟨rfl, s13.trans (s4.trans s5)⟩⟩⟩
    rintro σ H2 ⟨rfl, s2⟩
    clear d4 s1
    -- one row more
    have lt8 : tl.length + 1 ≤ 8 := co.l8
    have lxs : xs.length = tl.length + 1 := cc.len
    let more : List RowD := rs.map (·.2) ++ [⟨List.replicate (tl.length + 1) .none, []⟩]
    have vkn : ∀ ks : List Str, Vks ks (List.replicate ks.length .none) := fun ks => by
      induction ks with
      | nil => exact .nil
      | cons k ks ih => exact .cons (.non k) ih
    have gm : RowG (List.map (fun p : Str × Str => p.2) ((z, ("number" : Str)) :: tl)) more := fun q hq => by
      rcases List.mem_append.mp hq with hq | hq
      · exact ro q hq
      · rw [List.mem_singleton.mp hq]
        refine ⟨?_, List.nodup_nil, nofun⟩
        have := vkn (List.map (fun p : Str × Str => p.2) ((z, ("number" : Str)) :: tl))
        rw [List.length_map] at this
        exact this
    have lm : more.length = rs.length + 1 := by
      show (rs.map (fun x : V × RowD => x.2) ++ [_]).length = _
      rw [List.length_append, List.length_map]
      rfl
    refine ⟨fun σ H' => ∃ v5 : V, σ = [some (.ref a), some (.ref L), some (.ref r), some (.str nm), some v4, some v5, none, none, none, none, none] ∧ Dh H' v5 (.tuple (more.map RowD.d)) ∧ Same H H', ?_, ?_⟩
    · refine ⟨_, rfl, _, rfl, L, rfl, ⟨_, SqT.of (s2 _ _ eL)⟩, fun D hD => lc_tup (K := K) (a := L) (xs := xs) (fun i H' => H' D = some (.lst (List.replicate i .non)) ∧ Same H2 H') ⟨upd_same, Same.upd hD⟩ (fun i H' _ pr => SqT.of (pr.2 _ _ (s2 _ _ eL))) ?_ ?_⟩
      · rintro i x H3 hx ⟨eD, s3⟩
        have li := (List.getElem?_eq_some_iff.mp hx).1
        refine ⟨rfl, ?_⟩
        dsimp only [tYes]
        refine iteT ⟨_, eD, Nat.lt_of_le_of_lt (show (List.replicate i V.non).length ≤ 8 by rw [List.length_replicate]; omega) (by decide), by rw [upd_same, ← List.replicate_succ'], fun b o e => by rw [upd_ne (ne_of_none e hD)]; exact s3 b o e⟩
      rintro H3 ⟨eD, s3⟩
      rw [lxs] at eD
      refine ⟨D, _, rfl, .inl ⟨SqL.of eD, fun p1 hp1 => ?_⟩⟩
      have y1 := Same.upd (o := .tup (List.replicate (tl.length + 1) V.non)) hp1
      have f1 : L2.upd H3 p1 (.tup (List.replicate (tl.length + 1) V.non)) p1 = some (.tup (List.replicate (tl.length + 1) V.non)) := upd_same
      generalize L2.upd H3 p1 (.tup (List.replicate (tl.length + 1) V.non)) = J1 at y1 f1 ⊢
      refine ⟨Nat.zero_le _, fun p2 hp2 => ⟨two, fun p3 hp3 => ⟨one, fun p4 hp4 => ?_⟩⟩⟩
      have y2 := Same.upd (o := .tup []) hp2
      have f2 : L2.upd J1 p2 (.tup []) p2 = some (.tup []) := upd_same
      generalize L2.upd J1 p2 (.tup []) = J2 at y2 f2 hp3 hp4 ⊢
      have y3 := Same.upd (o := .tup [.ref p1, .ref p2]) hp3
      have f3 : L2.upd J2 p3 (.tup [.ref p1, .ref p2]) p3 = some (.tup [.ref p1, .ref p2]) := upd_same
      generalize L2.upd J2 p3 (.tup [.ref p1, .ref p2]) = J3 at y3 f3 hp4 ⊢
      have y4 := Same.upd (o := .tup [.ref p3]) hp4
      have dn : ∀ (n : Nat) (H' : Hp), DhAll H' (List.replicate n V.non) (List.replicate n PyData.none) := fun n H' => by
        induction n with
        | zero => exact .nil
        | succ n ih => exact .cons .non ih
      have yy := y1.trans (y2.trans (y3.trans y4))
      have d4 : Dh (L2.upd J3 p4 (.tup [.ref p3])) (.ref p4) (.tuple ([(⟨List.replicate (tl.length + 1) .none, []⟩ : RowD)].map RowD.d)) := .tup upd_same (.cons (.tup (y4 _ _ f3) (.cons (.tup ((y2.trans (y3.trans y4)) _ _ f1) (dn _ _)) (.cons (.tup ((y3.trans y4) _ _ f2) .nil) .nil))) .nil)
      generalize L2.upd J3 p4 (.tup [.ref p3]) = J4 at yy d4 ⊢
      have s4 := s2.trans (s3.trans yy)
      refine catH (dR.same s4) d4 (by rw [List.length_map, List.length_map]; show rs.length + 1 ≤ 1000; omega) fun v H5 d5 s5 => ?_
      refine ⟨v, rfl, ?_, s4.trans s5⟩
      rw [← List.map_append] at d5
      exact d5
    rintro σ H3 ⟨v5, rfl, d5, s3⟩
    refine ⟨fun σ H' => σ = [some (.ref a), some (.ref L), some (.ref r), some (.str nm), some v4, some v5, none, none, none, none, none] ∧ Same H H', ?_, ?_⟩
    · refine ⟨_, rfl, _, rfl, _, rfl, mk_dt (dL.same s3) d5 co gm (by omega) fun t ts H4 s4 hT et => ?_⟩
      have nl : (rs.map (·.2)).length ≠ (ts.map (·.2)).length := by rw [et, lm, List.length_map]; omega
      exact ⟨a, _, rs, .ref t, false, rfl, hI.same (s3.trans s4), .tb hT (eqv_rowsN nl _ _) (eqv_rowsN (Ne.symm nl) _ _), fun H5 s5 => ⟨_, rfl, iteF ⟨rfl, s3.trans (s4.trans s5)⟩⟩⟩
    rintro σ H4 ⟨rfl, s4⟩
    clear d5 s3
    refine ⟨fun σ H' => σ = [some (.ref a), some (.ref L), some (.ref r), some (.str nm), some v4, some v5, none, none, none, none, none] ∧ Same H H', ?_, ?_⟩
    · refine ⟨_, rfl, _, rfl, a, _, rs, .ref r, false, rfl, hI.same s4, .tup (s4 _ _ er), fun H5 s5 => ⟨_, rfl, iteF ?_⟩⟩
      exact ⟨_, rfl, a, _, rs, .non, false, rfl, hI.same (s4.trans s5), .non, fun H6 s6 => ⟨_, rfl, iteF ⟨rfl, s4.trans (s5.trans s6)⟩⟩⟩
    rintro σ H5 ⟨rfl, s5⟩
    clear s4
    have lss : ss.length = rs.length := by rw [← List.length_map (as := ss) (·.2), em, List.length_map]
    -- each row bent
    refine ⟨_, rfl, r, _, rfl, .inr (SqT.of (s5 _ _ er)), _, rfl, by omega, by rw [List.length_map]; omega, for_range (fun i σ H' => (∃ x7 x8 x9 x10 : Option V, σ = [some (.ref a), some (.ref L), some (.ref r), some (.str nm), some v4, some v5, none, x7, x8, x9, x10]) ∧ Same H H') ⟨⟨_, _, _, _, rfl⟩, s5⟩ ?_ ?_⟩
    · rintro i σ H6 hi ⟨⟨x7, x8, x9, x10, rfl⟩, s6⟩
      have hi : i < rs.length := by
        have : i < (((ss.map (·.1)).length : Nat) : Int).toNat := hi
        rw [Int.toNat_natCast, List.length_map] at this
        omega
      obtain ⟨q, eq_⟩ : ∃ q, ss[i]? = some q := ⟨_, List.getElem?_eq_getElem (by omega)⟩
      have qm := List.mem_of_getElem? eq_
      have eD : (rs.map (·.2))[i]? = some q.2 := by rw [← em, List.getElem?_map, eq_]; rfl
      have gq := ro q.2 (List.mem_of_getElem? eD)
      have mq : ∀ p ∈ q.2.lin, p ∈ linU := by
        obtain ⟨q', hq', e'⟩ := List.mem_map.mp (List.mem_of_getElem? eD)
        rw [← e']
        exact mU q' hq'
      obtain ⟨rr, va, la, ev, e2, dva, dla⟩ := row_at (ra q qm)
      have ex : (ss.map (·.1))[i]? = some (.ref rr) := by rw [List.getElem?_map, eq_, ← ev]; rfl
      have zz : (("zz" : Str), (0 : Int)) ∉ linU := by decide +kernel
      have oz : LinOk (q.2.lin ++ [(("zz" : Str), (0 : Int))]) := ⟨List.nodup_append.mpr ⟨gq.2.1, List.nodup_cons.mpr ⟨nofun, List.nodup_nil⟩, fun x hx y hy e => zz (by rw [← List.mem_singleton.mp hy, ← e]; exact mq x hx)⟩, fun p hp => by
        rcases List.mem_append.mp hp with hp | hp
        · exact gq.2.2 p hp
        · rw [List.mem_singleton.mp hp]
          exact ⟨⟨by decide +kernel, by decide +kernel⟩, by decide, by decide⟩⟩
      have lq : q.2.lin.length ≤ 48 := by rw [← linU_len]; exact gq.2.1.length_le_of_subset mq
      refine ⟨fun σ H' => ∃ v8 : V, σ = [some (.ref a), some (.ref L), some (.ref r), some (.str nm), some v4, some v5, none, some (.int (0 + (i : Int))), some v8, x9, x10] ∧ Dh H' v8 (linD (q.2.lin ++ [(("zz" : Str), (0 : Int))])) ∧ Same H H', ?_, ?_⟩
      · refine ⟨_, rfl, _, rfl, r, _, 0 + (i : Int), .ref rr, rfl, rfl, SqT.of (s6 _ _ er), at_of (j := i) (by omega) ex, rr, _, 1, .ref la, rfl, rfl, SqT.of (s6 _ _ e2), at_of (j := 1) rfl rfl, two, fun p hp => ⟨one, fun p2 hp2 => ?_⟩⟩
        have y1 := Same.upd (o := .tup [.str "zz", .int 0]) hp
        have y2 := Same.upd (o := .tup [.ref p]) hp2
        have d2 : Dh (L2.upd (L2.upd H6 p (.tup [.str "zz", .int 0])) p2 (.tup [.ref p])) (.ref p2) (.tuple [partD (("zz" : Str), (0 : Int))]) := .tup upd_same (.cons (.tup (y2 _ _ upd_same) (.cons (.str _) (.cons (.int _) .nil))) .nil)
        have yy := y1.trans y2
        generalize L2.upd (L2.upd H6 p (.tup [.str "zz", .int 0])) p2 (.tup [.ref p]) = H7 at d2 yy ⊢
        refine catH (dla.same (s6.trans yy)) d2 (by rw [List.length_map]; show q.2.lin.length + 1 ≤ 1000; omega) fun v H8 d8 s8 => ?_
        refine ⟨v, rfl, ?_, s6.trans (yy.trans s8)⟩
        show Dh H8 v (.tuple ((q.2.lin ++ [(("zz" : Str), (0 : Int))]).map partD))
        rw [List.map_append]
        exact d8
      rintro σ H7 ⟨v8, rfl, d8, s7⟩
      have dR2 : Dh H (.ref r) (.tuple ((rs.map (·.2)).map RowD.d)) := dR
      let D : List RowD := rs.map (·.2)
      have lD : D.length = rs.length := List.length_map _
      have c1 : cutD (D.map RowD.d) none (some (0 + (i : Int))) = (D.take i).map RowD.d := by
        rw [Int.zero_add, cutD_to (by rw [List.length_map]; omega), List.map_take]
      have c2 : cutD (D.map RowD.d) (some (0 + (i : Int) + 1)) none = (D.drop (i + 1)).map RowD.d := by
        rw [show (0 + (i : Int) + 1) = ((i + 1 : Nat) : Int) by omega, cutD_from, List.map_drop]
      let bent : RowD → List RowD := fun x => D.take i ++ [x] ++ D.drop (i + 1)
      have lT : (D.take i).length = i := by rw [List.length_take]; omega
      have bl : ∀ x, (bent x).length = D.length := fun x => by
        show (D.take i ++ [x] ++ D.drop (i + 1)).length = _
        rw [List.length_append, List.length_append, lT, List.length_drop]
        show i + 1 + (D.length - (i + 1)) = _
        omega
      have bi : ∀ x, (bent x)[i]? = some x := fun x => by
        show (D.take i ++ [x] ++ D.drop (i + 1))[i]? = _
        rw [List.getElem?_append_left (by rw [List.length_append, lT]; show i < i + 1; omega), List.getElem?_append_right (by omega), lT, Nat.sub_self]
        rfl
      have bg : ∀ x, Vks (List.map (fun p : Str × Str => p.2) ((z, ("number" : Str)) :: tl)) x.vals → LinOk x.lin → RowG (List.map (fun p : Str × Str => p.2) ((z, ("number" : Str)) :: tl)) (bent x) := fun x h1 h2 y hy => by
        rcases List.mem_append.mp hy with hy | hy
        · rcases List.mem_append.mp hy with hy | hy
          · exact ro y (List.mem_of_mem_take hy)
          · rw [List.mem_singleton.mp hy]
            exact ⟨h1, h2⟩
        · exact ro y (List.mem_of_mem_drop hy)
      have bd : ∀ {x : RowD} {H' : Hp} {v : V}, Dh H' v (.tuple (((D.take i).map RowD.d ++ [x.d]) ++ (D.drop (i + 1)).map RowD.d)) → Dh H' v (.tuple ((bent x).map RowD.d)) := fun {x H' v} h => by
        show Dh H' v (.tuple ((D.take i ++ [x] ++ D.drop (i + 1)).map RowD.d))
        rw [List.map_append, List.map_append]
        exact h
      have len1 : ((D.take i).map RowD.d).length + 1 ≤ 1000 := by rw [List.length_map, lT]; omega
      have len2 : ∀ x : RowD, ((D.take i).map RowD.d ++ [x.d]).length + ((D.drop (i + 1)).map RowD.d).length ≤ 1000 := fun x => by
        rw [List.length_append, List.length_map, List.length_map, lT, List.length_drop]
        show i + 1 + _ ≤ 1000
        omega
      have at7 : atI (ss.map (·.1)) (0 + (i : Int)) = some (.ref rr) := at_of (j := i) (by omega) ex
      -- the lineage bent
      refine ⟨fun σ H' => ∃ v9 : V, σ = [some (.ref a), some (.ref L), some (.ref r), some (.str nm), some v4, some v5, none, some (.int (0 + (i : Int))), some v8, some v9, x10] ∧ Dh H' v9 (.tuple ((bent ⟨q.2.vals, q.2.lin ++ [(("zz" : Str), (0 : Int))]⟩).map RowD.d)) ∧ Same H H', ?_, ?_⟩
      · refine ⟨_, rfl, _, rfl, 0 + (i : Int), rfl, slH (lo := none) (hi := some (0 + (i : Int))) (dR.same s7) fun w1 J1 e1 t1 => ?_⟩
        rw [c1] at e1
        refine ⟨_, rfl, _, rfl, r, _, 0 + (i : Int), .ref rr, rfl, rfl, SqT.of ((s7.trans t1) _ _ er), at7, rr, _, 0, .ref va, rfl, rfl, SqT.of ((s7.trans t1) _ _ e2), at_of (j := 0) rfl rfl, _, rfl, two, fun p hp => ⟨one, fun p2 hp2 => ?_⟩⟩
        have y1 := Same.upd (o := .tup [.ref va, v8]) hp
        have y2 := Same.upd (o := .tup [.ref p]) hp2
        have d2 : Dh (L2.upd (L2.upd J1 p (.tup [.ref va, v8])) p2 (.tup [.ref p])) (.ref p2) (.tuple [RowD.d ⟨q.2.vals, q.2.lin ++ [(("zz" : Str), (0 : Int))]⟩]) := .tup upd_same (.cons (.tup (y2 _ _ upd_same) (.cons (dva.same (s7.trans (t1.trans (y1.trans y2)))) (.cons (d8.same (t1.trans (y1.trans y2))) .nil))) .nil)
        have yy := y1.trans y2
        generalize L2.upd (L2.upd J1 p (.tup [.ref va, v8])) p2 (.tup [.ref p]) = J2 at d2 yy ⊢
        refine catH (e1.same yy) d2 len1 fun w2 J3 e3 t3 => ?_
        refine ⟨_, rfl, _, rfl, _, _, rfl, rfl, _, rfl, ?_⟩
        dsimp only [tNoPart]
        refine slH (lo := some (0 + (i : Int) + 1)) (hi := none) (dR.same (s7.trans (t1.trans (yy.trans t3)))) fun w3 J4 e4 t4 => ?_
        rw [c2] at e4
        refine catH (e3.same t4) e4 (len2 _) fun w5 J5 e5 t5 => ?_
        exact ⟨w5, rfl, bd e5, s7.trans (t1.trans (yy.trans (t3.trans (t4.trans t5))))⟩
      rintro σ H8 ⟨v9, rfl, d9, s8⟩
      clear d8 s7
      refine ⟨fun σ H' => σ = [some (.ref a), some (.ref L), some (.ref r), some (.str nm), some v4, some v5, none, some (.int (0 + (i : Int))), some v8, some v9, x10] ∧ Same H H', ?_, ?_⟩
      · refine ⟨_, rfl, _, rfl, _, rfl, mk_dt (dL.same s8) d9 co (bg _ gq.1 oz) (by rw [bl]; omega) fun t ts J1 t1 hT et => ?_⟩
        have nl : q.2.lin.length ≠ (q.2.lin ++ [(("zz" : Str), (0 : Int))]).length := by rw [List.length_append]; show _ ≠ _ + 1; omega
        have bi' := bi ⟨q.2.vals, q.2.lin ++ [(("zz" : Str), (0 : Int))]⟩
        rw [← et] at bi'
        exact ⟨a, _, rs, .ref t, false, rfl, hI.same (s8.trans t1), .tb hT (eqv_rowsA eD bi' (eqv_lin nl) _ _) (eqv_rowsA bi' eD (eqv_lin (Ne.symm nl)) _ _), fun J2 t2 => ⟨_, rfl, iteF ⟨rfl, s8.trans (t1.trans t2)⟩⟩⟩
      rintro σ H9 ⟨rfl, s9⟩
      clear d9 s8
      -- the first value bent
      obtain ⟨d0, dr, ed, vk0, vkr⟩ : ∃ d0 dr, q.2.vals = d0 :: dr ∧ Vk "number" d0 ∧ Vks (tl.map (·.2)) dr := by
        have := gq.1
        generalize q.2.vals = vs at this
        cases this with
        | cons h r => exact ⟨_, _, rfl, h, r⟩
      obtain ⟨bn1, bn2, vkb⟩ := bent_ne vk0
      rw [ed] at dva
      cases dva with
      | @tup _ us _ eu hu =>
      cases hu with
      | @cons u us' _ _ hu0 hur =>
      refine ⟨fun σ H' => ∃ v10 : V, σ = [some (.ref a), some (.ref L), some (.ref r), some (.str nm), some v4, some v5, none, some (.int (0 + (i : Int))), some v8, some v9, some v10] ∧ Dh H' v10 (.tuple (bentD d0 :: dr)) ∧ Same H H', ?_, ?_⟩
      · refine ⟨two, fun p1 hp1 => ⟨two, fun p2 hp2 => ⟨two, fun p3 hp3 => ?_⟩⟩⟩
        have y1 := Same.upd (o := .tup [.int 0, .int 1]) hp1
        have y2 := Same.upd (o := .tup [.int 1, .int 1]) hp2
        have y3 := Same.upd (o := .lst [.ref p1, .ref p2]) hp3
        have f1 := (y2.trans y3) _ _ (show L2.upd H9 p1 (.tup [.int 0, .int 1]) p1 = some (.tup [.int 0, .int 1]) from upd_same)
        have f2 := y3 _ _ (show L2.upd (L2.upd H9 p1 (.tup [.int 0, .int 1])) p2 (.tup [.int 1, .int 1]) p2 = some (.tup [.int 1, .int 1]) from upd_same)
        have f3 : L2.upd (L2.upd (L2.upd H9 p1 (.tup [.int 0, .int 1])) p2 (.tup [.int 1, .int 1])) p3 (.lst [.ref p1, .ref p2]) p3 = some (.lst [.ref p1, .ref p2]) := upd_same
        have yy := y1.trans (y2.trans y3)
        generalize L2.upd (L2.upd (L2.upd H9 p1 (.tup [.int 0, .int 1])) p2 (.tup [.int 1, .int 1])) p3 (.lst [.ref p1, .ref p2]) = J1 at f1 f2 f3 yy ⊢
        have s1 := s9.trans yy
        refine ⟨_, rfl, _, rfl, r, _, 0 + (i : Int), .ref rr, rfl, rfl, SqT.of (s1 _ _ er), at7, rr, _, 0, .ref va, rfl, rfl, SqT.of (s1 _ _ e2), at_of (j := 0) rfl rfl, va, _, 0, u, rfl, rfl, SqT.of (s1 _ _ eu), at_of (j := 0) rfl rfl, two, fun p4 hp4 => ?_⟩
        have y4 := Same.upd (o := .tup [.int 0, .int 1]) hp4
        have f4 : L2.upd J1 p4 (.tup [.int 0, .int 1]) p4 = some (.tup [.int 0, .int 1]) := upd_same
        generalize L2.upd J1 p4 (.tup [.int 0, .int 1]) = J2 at y4 f4 ⊢
        have s2 := s1.trans y4
        have sh0 : SeqAt.shaped d0 = true := Bool.and_eq_true_iff.mpr ⟨vk0.can, decide_eq_true (by have := vk0.depth; omega)⟩
        have shz : SeqAt.shaped zeroD = true := by decide +kernel
        have dz : Dh J2 (.ref p4) zeroD := .tup f4 (.cons (.int _) (.cons (.int _) .nil))
        refine ⟨d0, zeroD, (hu0.same s2).dp (PyData.hasDict_of_canLay _ (SeqAt.canLay_of_shaped sh0)), dz.dp (PyData.hasDict_of_canLay _ (SeqAt.canLay_of_shaped shz)), sh0, shz, .inr ⟨_, rfl, ?_⟩⟩
        have pick : ∃ pb : Addr, atI ([V.ref p1, V.ref p2] : List V) (if PyData.eqv d0 zeroD = true then 1 else 0) = some (V.ref pb) ∧ Dh J2 (.ref pb) (bentD d0) := by
          unfold bentD
          by_cases qz : PyData.eqv d0 zeroD = true
          · rw [if_pos qz, if_pos qz]
            exact ⟨p2, rfl, .tup (y4 _ _ f2) (.cons (.int _) (.cons (.int _) .nil))⟩
          · rw [if_neg qz, if_neg qz]
            exact ⟨p1, rfl, .tup (y4 _ _ f1) (.cons (.int _) (.cons (.int _) .nil))⟩
        obtain ⟨pb, apb, dpb⟩ := pick
        refine ⟨p3, _, _, .ref pb, rfl, rfl, SqL.of (y4 _ _ f3), apb, one, fun p5 hp5 => ?_⟩
        have y5 := Same.upd (o := .tup [.ref pb]) hp5
        have d5 : Dh (L2.upd J2 p5 (.tup [.ref pb])) (.ref p5) (.tuple [bentD d0]) := .tup upd_same (.cons (dpb.same y5) .nil)
        generalize L2.upd J2 p5 (.tup [.ref pb]) = J3 at y5 d5 ⊢
        have s3 := s2.trans y5
        refine ⟨_, rfl, _, rfl, r, _, 0 + (i : Int), .ref rr, rfl, rfl, SqT.of (s3 _ _ er), at7, rr, _, 0, .ref va, rfl, rfl, SqT.of (s3 _ _ e2), at_of (j := 0) rfl rfl, 1, rfl, ?_⟩
        dsimp only [tNoPart]
        have dv : Dh H (.ref va) (.tuple (d0 :: dr)) := .tup eu (.cons hu0 hur)
        refine slH (lo := some 1) (hi := none) (dv.same s3) fun w1 J4 e4 t4 => ?_
        have c3 : cutD (d0 :: dr) (some 1) none = dr := (cutD_from _ 1).trans rfl
        rw [c3] at e4
        have ldr := vkr.len
        rw [List.length_map] at ldr
        refine catH (d5.same t4) e4 (by show 1 + dr.length ≤ 1000; omega) fun w5 J5 e5 t5 => ?_
        exact ⟨w5, rfl, e5, s3.trans (t4.trans t5)⟩
      rintro σ H10 ⟨v10, rfl, d10, s10⟩
      clear s9
      refine ⟨fun σ H' => ∃ v9 : V, σ = [some (.ref a), some (.ref L), some (.ref r), some (.str nm), some v4, some v5, none, some (.int (0 + (i : Int))), some v8, some v9, some v10] ∧ Dh H' v9 (.tuple ((bent ⟨bentD d0 :: dr, q.2.lin⟩).map RowD.d)) ∧ Same H H', ?_, ?_⟩
      · refine ⟨_, rfl, _, rfl, 0 + (i : Int), rfl, slH (lo := none) (hi := some (0 + (i : Int))) (dR.same s10) fun w1 J1 e1 t1 => ?_⟩
        rw [c1] at e1
        refine ⟨_, rfl, _, rfl, _, rfl, r, _, 0 + (i : Int), .ref rr, rfl, rfl, SqT.of ((s10.trans t1) _ _ er), at7, rr, _, 1, .ref la, rfl, rfl, SqT.of ((s10.trans t1) _ _ e2), at_of (j := 1) rfl rfl, two, fun p hp => ⟨one, fun p2 hp2 => ?_⟩⟩
        have y1 := Same.upd (o := .tup [v10, .ref la]) hp
        have y2 := Same.upd (o := .tup [.ref p]) hp2
        have d2 : Dh (L2.upd (L2.upd J1 p (.tup [v10, .ref la])) p2 (.tup [.ref p])) (.ref p2) (.tuple [RowD.d ⟨bentD d0 :: dr, q.2.lin⟩]) := .tup upd_same (.cons (.tup (y2 _ _ upd_same) (.cons (d10.same (t1.trans (y1.trans y2))) (.cons (dla.same (s10.trans (t1.trans (y1.trans y2)))) .nil))) .nil)
        have yy := y1.trans y2
        generalize L2.upd (L2.upd J1 p (.tup [v10, .ref la])) p2 (.tup [.ref p]) = J2 at d2 yy ⊢
        refine catH (e1.same yy) d2 len1 fun w2 J3 e3 t3 => ?_
        refine ⟨_, rfl, _, rfl, _, _, rfl, rfl, _, rfl, ?_⟩
        dsimp only [tNoPart]
        refine slH (lo := some (0 + (i : Int) + 1)) (hi := none) (dR.same (s10.trans (t1.trans (yy.trans t3)))) fun w3 J4 e4 t4 => ?_
        rw [c2] at e4
        refine catH (e3.same t4) e4 (len2 _) fun w5 J5 e5 t5 => ?_
        exact ⟨w5, rfl, bd e5, s10.trans (t1.trans (yy.trans (t3.trans (t4.trans t5))))⟩
      rintro σ H11 ⟨v9', rfl, d11, s11⟩
      refine ⟨_, rfl, _, rfl, _, rfl, mk_dt (dL.same s11) d11 co (bg _ (.cons vkb vkr) gq.2) (by rw [bl]; omega) fun t ts J1 t1 hT et => ?_⟩
      have bi' := bi ⟨bentD d0 :: dr, q.2.lin⟩
      rw [← et] at bi'
      have n1 : PyData.eqv q.2.d (RowD.d ⟨bentD d0 :: dr, q.2.lin⟩) = false := eqv_val (v := q.2.vals) (w := bentD d0 :: dr) (by rw [ed]; rfl) rfl bn1
      have n2 : PyData.eqv (RowD.d ⟨bentD d0 :: dr, q.2.lin⟩) q.2.d = false := eqv_val (v := bentD d0 :: dr) (w := q.2.vals) rfl (by rw [ed]; rfl) bn2
      exact ⟨a, _, rs, .ref t, false, rfl, hI.same (s11.trans t1), .tb hT (eqv_rowsA eD bi' n1 _ _) (eqv_rowsA bi' eD n2 _ _), fun J2 t2 => ⟨_, rfl, iteF ⟨⟨_, _, _, _, rfl⟩, s11.trans (t1.trans t2)⟩⟩⟩
    · rintro σ H6 ⟨⟨x7, x8, x9, x10, rfl⟩, s6⟩
      exact k _ s6
end
end
end K12
set_option Elab.async false
set_option linter.all false
set_option maxRecDepth 100000
set_option maxHeartbeats 4000000
namespace Lc
open PySem PySem.Spec PyProof.Rows L2
/-! ## a comprehension within a comprehension -/
theorem lookup_relabel_up {env : Env} : ∀ {names : List (Str × NameKind)} {x : Str}, (names.lookup x = some .cell ∨ names.lookup x = some .free) →
    ((names.map fun (n, k) => if (k == NameKind.free && env.scope.kind == .function && env.kindOf n == some .cell) then (n, NameKind.cell) else (n, k)).lookup x = some .cell ∨
     (names.map fun (n, k) => if (k == NameKind.free && env.scope.kind == .function && env.kindOf n == some .cell) then (n, NameKind.cell) else (n, k)).lookup x = some .free)
  | [], x, h => by simp at h
  | (n, k) :: r, x, h => by
    have ih := @lookup_relabel_up env r x
    rw [List.map_cons]
    by_cases e : (x == n) = true
    · rw [List.lookup_cons, e] at h
      dsimp only
      split
      · rw [List.lookup_cons, e]; exact .inl rfl
      · rw [List.lookup_cons, e]; exact h
    · rw [List.lookup_cons, show (x == n) = false by simpa using e] at h
      dsimp only
      split
      · rw [List.lookup_cons, show (x == n) = false by simpa using e]; exact ih h
      · rw [List.lookup_cons, show (x == n) = false by simpa using e]; exact ih h
theorem blkOk_rel {N : List Str} {sc scope : Scope} {own : List (Str × Nat)} {env : Env} (h : BlkOk N sc scope own) : BlkOk N (relabel sc env) scope own :=
  ⟨h.kind, h.uniq, h.ix, fun y hy e => lookup_relabel_up (h.free y hy e), h.own⟩
/-- the statements of a def -/
def bodyOf : Stmt → List Stmt
  | .FunctionDef _ _ body _ _ _ _ _ _ _ => body
  | _ => []
/-- the scope of a comprehension -/
def lcScope : Expr → Scope → Scope
  | .ListComp _ _ sc _, _ => sc
  | _, d => d
end Lc
set_option Elab.async false
set_option linter.all false
set_option maxRecDepth 100000
set_option maxHeartbeats 4000000
namespace K12
open PySem PySem.Spec PyProof.Rows L2 Lc
abbrev rTupS (K : PySem.W.Frag) : List V → Hp → VK → Prop := fun xs H Q => ∃ p ys, xs = [.ref p] ∧ ((SqL K H p ys ∧ ∀ l, H l = none → Q (.ref l) (L2.upd H l (.tup ys))) ∨ (SqT K H p ys ∧ Q (.ref p) H))
abbrev teDueI : TE := tTup (tCons (tVar 18) (tCons (tTup (tCons (tTup (tCons (tVar 4) (tCons (tVar 17) tNil))) tNil)) tNil))
abbrev teDue (K : PySem.W.Frag) : TE := tCB (rTupS K) (tCons (tLc (iList K (tVar 16)) (gTup K 2 (gCons (gName 17) (gCons (gName 18) gNil))) tYes teDueI [17, 18]) tNil)
theorem at_last {xs : List V} {n : Nat} {v : V} (l : xs.length = n + 1) (h : xs[n]? = some v) : atI xs (-1) = some v := by
  unfold atI
  rw [show ixN xs.length (-1) = some n from ?_]
  · exact h
  · unfold ixN
    rw [l, if_neg (by decide), if_pos (by omega)]
    exact congrArg some (by omega)
/-- a promise that tells errors, where none is told -/
theorem fn_quiet {P : Program} {w : World} {K : PySem.W.Frag} {mg : Str → Option Value} {base : Heap} {k : Nat} {f : Addr} {fd : FuncData} {ps : List Str} {sp sp' : Sp} (F : FnOk P w K mg base (L2.CX P w) k f fd ps sp) (h : ∀ vs H Q E, sp' vs H Q E → sp vs H Q (fun _ _ _ => False)) : FnOk P w K mg base CX0 k f fd ps sp' := by
  refine ⟨fun vs H Q E z => F.len _ _ _ _ (h vs H Q E z), fun A outer s H args us vs Q E a b c d z => ?_⟩
  refine codeAny_mono (F.run A outer s H args us vs Q (fun _ _ _ => False) a b c d (h vs H Q E z)) fun r s' hq => ?_
  match r, hq with
  | .error e, hq =>
    obtain ⟨_, _, _, _, _, _, _, _, _, _, _, _, hE⟩ := hq
    exact hE.elim
  | .ok (.ret u), hq => exact hq
  | .ok .next, hq => exact False.elim hq
  | .ok .brk, hq => exact False.elim hq
  | .ok .cont, hq => exact False.elim hq
/-- a column that is there -/
def spTkV (C : Addr) : Sp := fun vs H Q _ => ∃ (a : Addr) (ps : CsL) (rs : RowsL) (x : Str) (j : Nat), vs = [.ref a, .str x] ∧ TbAt C H a ps rs ∧ (nms ps)[j]? = some x ∧ ∀ (r : Addr) (zs : List V) (H' : Hp), Same H H' → H r = none → H' r = some (.lst zs) → zs.length ≤ 60 → Q (.ref r) H'
theorem col_quiet {C CU : Addr} : ∀ vs H Q E, spTkV C vs H Q E → spTk C CU vs H Q (fun _ _ _ => False) := by
  rintro vs H Q E ⟨a, ps, rs, x, j, rfl, hI, ej, k⟩
  have zm : x ∈ nms ps := List.mem_of_getElem? ej
  obtain ⟨p, hp, hpx⟩ := List.mem_map.mp zm
  have sx := (hI.cols.each p hp).1
  rw [hpx] at sx
  refine ⟨a, ps, rs, .str x, .str x, rfl, hI, .str x, Bool.and_eq_true_iff.mpr ⟨can_str sx, decide_eq_true (by simp [PyData.depth])⟩, fun un => ?_, fun j' y ej' ey r zs H' s' hr' er' dz => k r zs H' s' hr' er' ?_⟩
  · have := un x zm
    simp [PyData.eqv] at this
  · have := dz.len
    rw [this]
    show (rs.map _).length ≤ 60
    rw [List.length_map]
    exact hI.ln
def spLaw (K : PySem.W.Frag) : Sp := fun vs H Q _ => ∃ (a : Addr) (ns : List Int), vs = [.ref a] ∧ SqL K H a (ns.map V.int) ∧ ∀ H', Q (.bl true) H'
theorem TbAt.upd {C b : Addr} {H : Hp} {a : Addr} {ps : CsL} {rs : RowsL} {xs ys : List V} (h : TbAt C H a ps rs) (hb : H b = some (.lst xs)) : TbAt C (L2.upd H b (.lst ys)) a ps rs := by
  obtain ⟨⟨cv, h1, h2⟩, h3, h4, h5⟩ := h
  exact ⟨⟨cv, h1.upd hb ⟨nofun, nofun⟩ h4.ok, h2.t (SameT.lst hb)⟩, h3, h4, h5⟩
section
variable {P : Program} {w : World} {K : PySem.W.Frag} {mg : Str → Option Value} {base : Heap} {f : Addr} {fd : FuncData}
abbrev sLaw : Stmt := top 56
abbrev nLaw : List Str := ["_law_script", "_law_tape_here", "_law_columns_here", "_law_names", "_law_name_here", "_law_kind", "_law_rows", "_law_k", "_law_table", "_law_told", "_law_part", "_law_odd", "_law_deeds_here", "_law_log", "_law_states_here", "_law_due", "_law_state", "_law_number", "_law_values_here", "_law_at", "_law_now"]
abbrev pLaw : List Str := ["_law_script"]
theorem scLaw : FnScope nLaw pLaw (defScope sLaw) := ⟨rfl, rfl, rfl, by decide +kernel, rfl, by decide +kernel, by decide +kernel⟩
def scLwI : Scope := match (bodyOf sLaw).drop 16 with
  | .Assign _ (.ListComp _ _ sc _) _ :: _ => sc
  | _ => defScope sLaw
section
variable {fA_ fB_ fC_ fD_ fE_ fF_ fG_ fH_ fI_ fJ_ fL_ fM_ fN_ fO_ fP_ fR_ : Addr} {fdA_ fdB_ fdC_ fdD_ fdE_ fdF_ fdG_ fdH_ fdI_ fdJ_ fdL_ fdM_ fdN_ fdO_ fdP_ fdR_ : FuncData}
theorem ok_Law (F : Fun K "law" "law" sLaw f fd) (T : Bt mg) {C CU CR fR0 fRI : Addr} {fdRI : FuncData} {A : EA} {dsV : List Value} (M : TbM P w K mg base C) (Y : TbQ P w K mg base C CU) (Rg : RgF K mg CR fRI) (GRI : FnOk P w K mg base CX0 4 fRI fdRI ["self", "name", "columns"] (spRI CR)) (bRI : Binds K fdRI ["self", "name", "columns"] [])
    (GA_ : FnOk P w K mg base CX0 1 fA_ fdA_ ["_law_script"] (spTape K)) (mA_ : mg "_law_tape" = some (.ref fA_)) (kA_ : PySem.W.keepIn K (.ref fA_) = true) (bA_ : Binds K fdA_ ["_law_script"] [])
    (GB_ : FnOk P w K mg base CX0 4 fB_ fdB_ ["_law_tape_here", "_law_lead", "_law_many", "_law_taken"] (spCls)) (mB_ : mg "_law_columns" = some (.ref fB_)) (kB_ : PySem.W.keepIn K (.ref fB_) = true) (bB_ : Binds K fdB_ ["_law_tape_here", "_law_lead", "_law_many", "_law_taken"] [])
    (GC_ : FnOk P w K mg base CX0 1 fC_ fdC_ ["_law_tape_here", "_law_many"] (spDrawL)) (mC_ : mg "_law_draw" = some (.ref fC_)) (kC_ : PySem.W.keepIn K (.ref fC_) = true) (bC_ : Binds K fdC_ ["_law_tape_here", "_law_many"] [])
    (GD_ : FnOk P w K mg base CX0 4 fD_ fdD_ ["_law_tape_here", "_law_columns_here", "_law_wide"] (spVals)) (mD_ : mg "_law_values" = some (.ref fD_)) (kD_ : PySem.W.keepIn K (.ref fD_) = true) (bD_ : Binds K fdD_ ["_law_tape_here", "_law_columns_here", "_law_wide"] [])
    (GE_ : FnOk P w K mg base CX0 2 fE_ fdE_ ["_law_tape_here"] (spFar)) (mE_ : mg "_law_lineage" = some (.ref fE_)) (kE_ : PySem.W.keepIn K (.ref fE_) = true) (bE_ : Binds K fdE_ ["_law_tape_here"] [])
    (GF_ : FnG P w K mg base 5 fF_ fdF_ ["_law_table", "_law_columns_here", "_law_rows"] ((spLi C))) (mF_ : mg "_law_is" = some (.ref fF_)) (kF_ : PySem.W.keepIn K (.ref fF_) = true) (bF_ : Binds K fdF_ ["_law_table", "_law_columns_here", "_law_rows"] [])
    (GG_ : FnG P w K mg base 4 fG_ fdG_ ["_law_table", "_law_columns_here", "_law_rows", "_law_name_here"] ((spLo C))) (mG_ : mg "_law_others" = some (.ref fG_)) (kG_ : PySem.W.keepIn K (.ref fG_) = true) (bG_ : Binds K fdG_ ["_law_table", "_law_columns_here", "_law_rows", "_law_name_here"] [])
    (GH_ : FnOk P w K mg base CX0 3 fH_ fdH_ ["_law_tape_here", "_law_taken"] (spFr)) (mH_ : mg "_law_fresh" = some (.ref fH_)) (kH_ : PySem.W.keepIn K (.ref fH_) = true) (bH_ : Binds K fdH_ ["_law_tape_here", "_law_taken"] [])
    (GI_ : FnOk P w K mg base CX0 4 fI_ fdI_ ["_law_table", "_law_name_here"] ((spLc C))) (mI_ : mg "_law_column" = some (.ref fI_)) (kI_ : PySem.W.keepIn K (.ref fI_) = true) (bI_ : Binds K fdI_ ["_law_table", "_law_name_here"] [])
    (GJ_ : FnOk P w K mg base CX0 2 fJ_ fdJ_ ["_law_tape_here"] (spLNm)) (mJ_ : mg "_law_name" = some (.ref fJ_)) (kJ_ : PySem.W.keepIn K (.ref fJ_) = true) (bJ_ : Binds K fdJ_ ["_law_tape_here"] [])
    (GL_ : FnOk P w K mg base CX0 5 fL_ fdL_ ["_law_tape_here", "_law_columns_here", "_law_many", "_law_wide"] (spDe)) (mL_ : mg "_law_deeds" = some (.ref fL_)) (kL_ : PySem.W.keepIn K (.ref fL_) = true) (bL_ : Binds K fdL_ ["_law_tape_here", "_law_columns_here", "_law_many", "_law_wide"] [])
    (GM_ : FnOk P w K mg base CX0 6 fM_ fdM_ ["_law_log", "_law_deeds_here"] ((spDo CR))) (mM_ : mg "_law_do" = some (.ref fM_)) (kM_ : PySem.W.keepIn K (.ref fM_) = true) (bM_ : Binds K fdM_ ["_law_log", "_law_deeds_here"] [])
    (GN_ : FnOk P w K mg base CX0 1 fN_ fdN_ ["_law_deeds_here"] (spSt)) (mN_ : mg "_law_states" = some (.ref fN_)) (kN_ : PySem.W.keepIn K (.ref fN_) = true) (bN_ : Binds K fdN_ ["_law_deeds_here"] [])
    (GO_ : FnOk P w K mg base CX0 3 fO_ fdO_ ["origin", "version"] ((spRt CR C))) (mO_ : mg "register_table" = some (.ref fO_)) (kO_ : PySem.W.keepIn K (.ref fO_) = true) (bO_ : Binds K fdO_ ["origin", "version"] [])
    (GP_ : FnOk P w K mg base CX0 5 fP_ fdP_ ["_law_log", "_law_at"] ((spAv CR A))) (mP_ : mg "_law_at_version" = some (.ref fP_)) (kP_ : PySem.W.keepIn K (.ref fP_) = true) (bP_ : Binds K fdP_ ["_law_log", "_law_at"] [])
    (GR_ : FnG P w K mg base 3 fR_ fdR_ ["_law_one", "_law_other", "_law_due"] ((spLe C))) (mR_ : mg "_law_equals" = some (.ref fR_)) (kR_ : PySem.W.keepIn K (.ref fR_) = true) (bR_ : Binds K fdR_ ["_law_one", "_law_other", "_law_due"] []) (kbV : KBinds K fdO_ ["origin", "version"] ["version"] (gAt 1 1) (gAt 1 1)) (bdV : Binds K fdO_ ["origin", "version"] dsV) (vV : Vals [V.non] dsV) : FnG P w K mg base 7 f fd pLaw (spLaw K) := by
  refine Lc.Fun.okG F scLaw (fun vs H Q E h => ?_) (fun cdv A outer s H vs Q E hg hr h => ?_)
  · obtain ⟨a0, ns, rfl, _⟩ := h
    rfl
  · obtain ⟨a0, ns, rfl, hS, k⟩ := h
    have hrA_ : Room (1) _ := hr.mono (by first | decide | omega)
    have hrB_ : Room (4) _ := hr.mono (by first | decide | omega)
    have hrC_ : Room (1) _ := hr.mono (by first | decide | omega)
    have hrD_ : Room (4) _ := hr.mono (by first | decide | omega)
    have hrE_ : Room (2) _ := hr.mono (by first | decide | omega)
    have hrF_ : Room (5) _ := hr.mono (by first | decide | omega)
    have hrG_ : Room (4) _ := hr.mono (by first | decide | omega)
    have hrH_ : Room (3) _ := hr.mono (by first | decide | omega)
    have hrI_ : Room (4) _ := hr.mono (by first | decide | omega)
    have hrJ_ : Room (2) _ := hr.mono (by first | decide | omega)
    have hrL_ : Room (5) _ := hr.mono (by first | decide | omega)
    have hrM_ : Room (6) _ := hr.mono (by first | decide | omega)
    have hrN_ : Room (1) _ := hr.mono (by first | decide | omega)
    have hrO_ : Room (3) _ := hr.mono (by first | decide | omega)
    have hrP_ : Room (5) _ := hr.mono (by first | decide | omega)
    have hrR_ : Room (3) _ := hr.mono (by first | decide | omega)
    obtain ⟨fI, fdI, GI, FI, bI⟩ := M.i
    obtain ⟨fR, fdR, hR, FR, bR⟩ := M.r
    obtain ⟨fk, fdk, mk, Gk, bk⟩ := Y.k
    have Gq := fn_quiet Gk (col_quiet (C := C) (CU := CU))
    have hr1 : Room 1 _ := hr.mono (by decide)
    have hr2 : Room (1 + 1) _ := hr.mono (by decide)
    have hr3 : Room 3 _ := hr.mono (by decide)
    have hr5 : Room (4 + 1) _ := hr.mono (by decide)
    refine ⟨_, (pss_cons (ps_set (i := 1) scLaw.nd rfl (Or.inl rfl) (pe_call GA_ hrA_ (by rfl) mA_ kA_ bA_ .nil pass0 (pa_cons (pv 0) pa_nil)))
      (pss_cons (ps_set (i := 2) scLaw.nd rfl (Or.inl rfl) (pe_call GB_ hrB_ (by rfl) mB_ kB_ bB_ .nil pass0 (pa_cons (pv 1) (pa_cons (pe_lst (pa_cons pe_str pa_nil)) (pa_cons pe_int (pa_cons (pe_lst pa_nil) pa_nil))))))
      (pss_cons (ps_setLc (i := 3) (own := [("_law_name_here", 4), ("_law_kind", 5)]) (g := (gTup K 2 (gCons (gName 4) (gCons (gName 5) gNil)))) (tt := tYes) (te := (tVar 4)) (by rfl) scLaw.nd rfl rfl (sw_true rfl rfl rfl (by decide +kernel)) (pi_tup (pv 2)) (blkOk_by (own := [("_law_name_here", 4), ("_law_kind", 5)]) (N := nLaw) (sc := defScope sLaw) (by decide +kernel)) (fun _ _ _ _ _ => (pg_tup rfl (pgs_cons (pg_name (i := 4) scLaw.nd rfl (.inl rfl)) (pgs_cons (pg_name (i := 5) scLaw.nd rfl (.inl rfl)) pgs_nil)))) (fun _ _ _ _ _ => pts_nil) (fun _ _ _ _ _ => (pv 4)))
      (Evl.pss_cut (ps_set (i := 6) scLaw.nd rfl (Or.inl rfl) (pe_tup pa_nil))
      (Evl.pss_cut (ps_for PassesOwn.never rfl (pi_range1 (by rfl) T.range (pa_cons (pe_call GC_ hrC_ (by rfl) mC_ kC_ bC_ .nil pass0 (pa_cons (pv 1) (pa_cons (pe_op op_add pe_int (pe_op op_mul pe_int (pe_callTy call_int1 (by rfl) T.int boot_int (pa_cons (pe_cmpR op_eq (pe_call GC_ hrC_ (by rfl) mC_ kC_ bC_ .nil pass0 (pa_cons (pv 1) (pa_cons pe_int pa_nil))) pe_int (nomark _)) pa_nil)))) pa_nil))) pa_nil)) (pg_name (i := 7) scLaw.nd rfl (.inl rfl)) (pss_one (ps_set (i := 6) scLaw.nd rfl (Or.inl rfl) (pe_op op_catA (pv 6) (pe_tup (pa_cons (pe_tup (pa_cons (pe_call GD_ hrD_ (by rfl) mD_ kD_ bD_ .nil pass0 (pa_cons (pv 1) (pa_cons (pv 2) (pa_cons pe_bl pa_nil)))) (pa_cons (pe_call GE_ hrE_ (by rfl) mE_ kE_ bE_ .nil pass0 (pa_cons (pv 1) pa_nil)) pa_nil))) pa_nil))))))
      (Evl.pss_cut (ps_set (i := 8) scLaw.nd rfl (Or.inl rfl) (pe_make GI.mkC FI hr2 (by rfl) GI.gC bI .nil pass0 (pa_cons (pv 2) (pa_cons (pv 6) pa_nil))))
      (Evl.pss_cut (ps_if (pt_not (pt_val (pe_callG GF_ hg hrF_ (by rfl) mF_ kF_ bF_ (pa_cons (pv 8) (pa_cons (pv 2) (pa_cons (pv 6) pa_nil)))))) (pss_one (ps_ret pe_bl)) pss_nil)
      (Evl.pss_cut (ps_set (i := 9) scLaw.nd rfl (Or.inl rfl) (pe_lst (pa_cons (pe_meth0 (pv 8) GI.cls hR FR hr1 bR .nil pass0) (pa_cons (pe_meth (pv 8) GI.cls mk Gq hr3 bk .nil pass0 (pa_cons (pe_ix ix_list (pv 3) (pe_un un_neg pe_int) (fun _ _ => rfl)) pa_nil)) pa_nil))))
      (Evl.pss_cut (ps_for PassesOwn.never rfl (pi_list (pv 9)) (pg_name (i := 10) scLaw.nd rfl (.inl rfl)) (pss_cons (ps_expr (pe_bm PySem.F.plainAttrs_list PySem.F.slot_list_append PySem.F.type_list_append mt_append (pv 10) (pa_cons pe_non pa_nil)))
      (pss_one (ps_expr (pe_bm0 PySem.F.plainAttrs_list PySem.F.slot_list_reverse PySem.F.type_list_reverse mt_reverse (pv 10))))))
      (Evl.pss_cut (ps_if (PW.pt (pw_or (pt_not (pt_val (pe_callG GF_ hg hrF_ (by rfl) mF_ kF_ bF_ (pa_cons (pv 8) (pa_cons (pv 2) (pa_cons (pv 6) pa_nil)))))) (pw_or1 (pt_not (pt_val (pe_callG GG_ hg hrG_ (by rfl) mG_ kG_ bG_ (pa_cons (pv 8) (pa_cons (pv 2) (pa_cons (pv 6) (pa_cons (pe_call GH_ hrH_ (by rfl) mH_ kH_ bH_ .nil pass0 (pa_cons (pv 1) (pa_cons (pv 3) pa_nil))) pa_nil)))))))))) (pss_one (ps_ret pe_bl)) pss_nil)
      (Evl.pss_cut (ps_for PassesOwn.never rfl (pi_list (pe_lst (pa_cons (pe_call GH_ hrH_ (by rfl) mH_ kH_ bH_ .nil pass0 (pa_cons (pv 1) (pa_cons (pv 3) pa_nil))) (pa_cons pe_non (pa_cons pe_int (pa_cons (pe_lst (pa_cons (pe_ix ix_list (pv 3) pe_int (fun _ _ => rfl)) pa_nil)) (pa_cons (pe_tup (pa_cons (pe_ix ix_list (pv 3) pe_int (fun _ _ => rfl)) pa_nil)) (pa_cons pe_str (pa_cons pe_str (pa_cons pe_bl pa_nil)))))))))) (pg_name (i := 11) scLaw.nd rfl (.inl rfl)) (pss_one (ps_if (pt_cmpR op_ne (pe_callB (call_reprV hg hr.units) (by rfl) T.repr boot_repr (pa_cons (pe_call GI_ hrI_ (by rfl) mI_ kI_ bI_ .nil pass0 (pa_cons (pv 8) (pa_cons (pv 11) pa_nil))) pa_nil)) (pe_callB (call_reprV hg hr.units) (by rfl) T.repr boot_repr (pa_cons (pe_tup (pa_cons pe_str (pa_cons (pv 11) (pa_cons pe_bl pa_nil)))) pa_nil)) (nomark _)) (pss_one (ps_ret pe_bl)) pss_nil)))
      (pss_cons (ps_set (i := 4) scLaw.nd rfl (Or.inr rfl) (pe_call GJ_ hrJ_ (by rfl) mJ_ kJ_ bJ_ .nil pass0 (pa_cons (pv 1) pa_nil)))
      (pss_cons (ps_set (i := 12) scLaw.nd rfl (Or.inl rfl) (pe_call GL_ hrL_ (by rfl) mL_ kL_ bL_ .nil pass0 (pa_cons (pv 1) (pa_cons (pv 2) (pa_cons pe_int (pa_cons pe_bl pa_nil))))))
      (pss_cons (ps_set (i := 13) scLaw.nd rfl (Or.inl rfl) (pe_make Rg.mkC GRI hr5 (by rfl) Rg.gC bRI .nil pass0 (pa_cons (pv 4) (pa_cons (pv 2) pa_nil))))
      (pss_cons (ps_expr (pe_call GM_ hrM_ (by rfl) mM_ kM_ bM_ .nil pass0 (pa_cons (pv 13) (pa_cons (pv 12) pa_nil))))
      (pss_cons (ps_set (i := 14) scLaw.nd rfl (Or.inl rfl) (pe_call GN_ hrN_ (by rfl) mN_ kN_ bN_ .nil pass0 (pa_cons (pv 12) pa_nil)))
      (Evl.pss_cut (ps_setLc (i := 15) (own := [("_law_state", 16)]) (g := (gName 16)) (tt := tYes) (te := teDue K) (by rfl) scLaw.nd rfl rfl (sw_true rfl rfl rfl (by decide +kernel)) (pi_list (pv 14)) (blkOk_by (own := [("_law_state", 16)]) (N := nLaw) (sc := defScope sLaw) (by decide +kernel)) (fun _ _ _ _ _ => (pg_name (i := 16) scLaw.nd rfl (.inl rfl))) (fun _ _ _ _ _ => pts_nil) (fun _ _ _ _ _ => (pe_callTy call_tuple_of (by rfl) T.tuple boot_tuple (pa_cons (pe_lc (own := [("_law_number", 17), ("_law_values_here", 18)]) (g := (gTup K 2 (gCons (gName 17) (gCons (gName 18) gNil)))) (tt := tYes) (te := teDueI) (by rfl) scLaw.nd (pi_list (pv 16)) (blkOk_rel (blkOk_by (own := [("_law_number", 17), ("_law_values_here", 18)]) (N := nLaw) (sc := scLwI) (by decide +kernel))) (fun _ _ _ _ _ => (pg_tup rfl (pgs_cons (pg_name (i := 17) scLaw.nd rfl (.inl rfl)) (pgs_cons (pg_name (i := 18) scLaw.nd rfl (.inl rfl)) pgs_nil)))) (fun _ _ _ _ _ => pts_nil) (fun _ _ _ _ _ => (pe_tup (pa_cons (pv 18) (pa_cons (pe_tup (pa_cons (pe_tup (pa_cons (pv 4) (pa_cons (pv 17) pa_nil))) pa_nil)) pa_nil))))) pa_nil))))
      (Evl.pss_cut (ps_for PassesOwn.never rfl (pi_range1 (by rfl) T.range (pa_cons (pe_callB call_len_seq (by rfl) T.len PySem.boot_len (pa_cons (pv 14) pa_nil)) pa_nil)) (pg_name (i := 19) scLaw.nd rfl (.inl rfl)) (pss_one (ps_if (pt_not (pt_val (pe_callG GF_ hg hrF_ (by rfl) mF_ kF_ bF_ (pa_cons (pe_call GO_ hrO_ (by rfl) mO_ kO_ bO_ .nil pass0 (pa_cons (pv 13) (pa_cons (pv 19) pa_nil))) (pa_cons (pv 2) (pa_cons (pe_ix ix_list (pv 15) (pv 19) (fun _ _ => rfl)) pa_nil)))))) (pss_one (ps_ret pe_bl)) pss_nil)))
      (Evl.pss_cut (ps_for PassesOwn.never rfl (pi_list (pe_lst (pa_cons (pe_un un_neg pe_int) (pa_cons (pe_callB call_len_seq (by rfl) T.len PySem.boot_len (pa_cons (pv 14) pa_nil)) (pa_cons (pe_op op_add (pe_callB call_len_seq (by rfl) T.len PySem.boot_len (pa_cons (pv 14) pa_nil)) (pe_op op_pow pe_int pe_int)) (pa_cons pe_bl (pa_cons pe_str (pa_cons (pe_tup (pa_cons pe_int pa_nil)) pa_nil)))))))) (pg_name (i := 11) scLaw.nd rfl (.inl rfl)) (pss_one (ps_if (pt_cmpR op_ne (pe_callB (call_reprV hg hr.units) (by rfl) T.repr boot_repr (pa_cons (pe_call GP_ hrP_ (by rfl) mP_ kP_ bP_ .nil pass0 (pa_cons (pv 13) (pa_cons (pv 11) pa_nil))) pa_nil)) (pe_callB (call_reprV hg hr.units) (by rfl) T.repr boot_repr (pa_cons (pe_tup (pa_cons pe_str (pa_cons (pv 11) (pa_cons pe_bl pa_nil)))) pa_nil)) (nomark _)) (pss_one (ps_ret pe_bl)) pss_nil)))
      (Evl.pss_cut (ps_set (i := 20) scLaw.nd rfl (Or.inl rfl) (pe_callK GO_ hr3 (by rfl) mO_ kO_ kbV pass0 (pa_cons (pv 13) pa_nil) (pk_cons pe_non pk_nil)))
      (pss_one (ps_ret (pe_and (pe_callG GF_ hg hrF_ (by rfl) mF_ kF_ bF_ (pa_cons (pe_call GO_ hr3 (by rfl) mO_ kO_ bdV vV pass0 (pa_cons (pv 13) pa_nil)) (pa_cons (pv 2) (pa_cons (pe_ix ix_list (pv 15) (pe_un un_neg pe_int) (fun _ _ => rfl)) pa_nil)))) (pe_one (pe_callG GR_ hg hrR_ (by rfl) mR_ kR_ bR_ (pa_cons (pv 20) (pa_cons (pe_call GO_ hr3 (by rfl) mO_ kO_ bdV vV pass0 (pa_cons (pv 13) pa_nil)) (pa_cons pe_bl pa_nil)))))))))))))))))))))))))))), ?_⟩
    have one : 1 ≤ sizeLine := by decide
    have two : 2 ≤ sizeLine := by decide
    have three : 3 ≤ sizeLine := by decide
    refine ⟨_, rfl, a0, ns, rfl, hS, fun t H0 s0 ht hT1 => ?_⟩
    obtain ⟨c, hT1⟩ := hT1
    have hT1 : TapeL c H0 t := hT1
    -- columns
    refine ⟨_, rfl, one, fun p1 hp1 => ⟨Nat.zero_le _, fun p2 hp2 => ?_⟩⟩
    have z1 := Same.upd (o := .lst [.str "number"]) hp1
    have z2 := Same.upd (o := .lst []) hp2
    refine ⟨t, c, p1, p2, 5, ["number"], rfl, hT1.same (z1.trans z2), z2 _ _ upd_same, upd_same, by decide, by decide, by decide, by decide, fun k hk => by rw [List.mem_singleton.mp hk]; exact .inl rfl, fun L xs ps H2 hL hc ho nd l1' hkd l6' T2 _ => ?_⟩
    have l6' : ps.length ≤ 6 := l6'
    have l1' : 1 ≤ ps.length := l1'
    have co : ColsOk ps := ⟨ho, nd, l1', by omega⟩
    have cL : CA H2 L ps := ⟨xs, hL, hc⟩
    obtain ⟨z, hz⟩ : ∃ z : Str, ps.head? = some (z, ("number" : Str)) := by
      cases ps with
      | nil => exact absurd l1' (by decide)
      | cons p tl =>
        have e : [p.2] = [("number" : Str)] := hkd
        injection e with e
        exact ⟨p.1, by rw [← e]; rfl⟩
    have zm0 : (nms ps)[0]? = some z := by
      cases ps with
      | nil => cases hz
      | cons p tl => injection hz with hz; rw [hz]; rfl
    clear z1 z2 hp1 hp2 hT1 s0 hkd
    -- names
    refine ⟨_, rfl, L, rfl, ⟨_, SqT.of hL⟩, fun N hN => lc_tup (K := K) (a := L) (xs := xs) (fun i H' => H' N = some (.lst (vS ((nms ps).take i))) ∧ Same H2 H') ⟨upd_same, Same.upd hN⟩ (fun i H' _ pr => SqT.of (pr.2 _ _ hL)) ?_ ?_⟩
    · rintro i x H1 hx ⟨hW1, s1⟩
      obtain ⟨a, z', kk, rfl, ea, ep⟩ := hc.get _ _ hx
      refine ⟨a, _, rfl, SqT.of (s1 _ _ ea), rfl, _, _, rfl, _, _, rfl, rfl, rfl, ?_⟩
      dsimp only [tYes]
      exact iteT ⟨_, rfl, nm_turn hN hW1 ep co.l8 s1⟩
    rintro H3 ⟨eN, s3⟩
    rw [show xs.length = (nms ps).length by rw [hc.len, List.length_map], List.take_length] at eN
    have nNt := T2.tape.ne hN
    have nNc : N ≠ c := by
      obtain ⟨zs, e⟩ := T2.list
      exact (ne_of_none e hN).symm
    have T3 := T2.same s3
    have cL3 := cL.same s3
    clear T2 cL hL hc s3 hN
    -- no rows
    refine ⟨fun σ H' => ∃ v6 : V, σ = [some (.ref a0), some (.ref t), some (.ref L), some (.ref N), none, none, some v6, none, none, none, none, none, none, none, none, none, none, none, none, none, none] ∧ Dh H' v6 (.tuple []) ∧ Same H3 H', ?_, ?_⟩
    · exact ⟨Nat.zero_le _, fun p hp => ⟨_, rfl, .tup upd_same .nil, Same.upd hp⟩⟩
    rintro σ H4 ⟨v6, rfl, d6, s4⟩
    replace T3 := T3.same s4
    replace cL3 := cL3.same s4
    replace eN := s4 _ _ eN
    clear s4
    have nolR : ∀ {ds : List RowD}, RowG (ps.map (·.2)) ds → noL (.tuple (ds.map RowD.d)) = true := fun {ds} g => by
      rw [noL]
      refine noLs_all.mpr fun d hd => ?_
      obtain ⟨r, hr, rfl⟩ := List.mem_map.mp hd
      exact row_noL (g r hr).1.noL
    -- rows
    refine ⟨fun σ H' => ∃ (v6 : V) (x7 : Option V) (ds : List RowD), σ = [some (.ref a0), some (.ref t), some (.ref L), some (.ref N), none, none, some v6, x7, none, none, none, none, none, none, none, none, none, none, none, none, none] ∧ Dh H' v6 (.tuple (ds.map RowD.d)) ∧ RowG (ps.map (·.2)) ds ∧ (∀ q ∈ ds, q.lin.length ≤ 4 ∧ ∀ p ∈ q.lin, p ∈ linU) ∧ ds.length ≤ 41 ∧ TapeL c H' t ∧ SameB t H4 H', ?_, ?_⟩
    · refine ⟨_, rfl, _, rfl, t, c, _, rfl, T3, by decide, big1000 (by decide) (by decide), fun j H5 j0 j1 T5 S5 => ⟨rfl, ?_⟩⟩
      generalize decide (V.int j = V.int 4) = b
      refine .inr ⟨b, rfl, _, _, rfl, rfl, (by cases b <;> exact .inl ⟨by decide, by decide⟩), _, _, rfl, rfl, ?_⟩
      obtain ⟨m, hm, m1, m41⟩ : ∃ m : Int, (9 + 32 * (if b = true then 1 else 0) : Int) = m ∧ 1 ≤ m ∧ m ≤ 41 := ⟨_, rfl, by cases b <;> decide, by cases b <;> decide⟩
      rw [show ((fun i j => V.int (i + j)) (9 : Int) (32 * (if b = true then 1 else 0))) = V.int m from congrArg V.int hm]
      refine ⟨t, c, m, rfl, T5, m1, big1000 (by omega) (by omega), fun n H6 n0 n1 T6 S6 => ⟨n, rfl, by omega, by omega, for_range (n := n.toNat) (fun i σ H' => ∃ (v6 : V) (x7 : Option V) (ds : List RowD), σ = [some (.ref a0), some (.ref t), some (.ref L), some (.ref N), none, none, some v6, x7, none, none, none, none, none, none, none, none, none, none, none, none, none] ∧ Dh H' v6 (.tuple (ds.map RowD.d)) ∧ RowG (ps.map (·.2)) ds ∧ (∀ q ∈ ds, q.lin.length ≤ 4 ∧ ∀ p ∈ q.lin, p ∈ linU) ∧ ds.length ≤ i ∧ TapeL c H' t ∧ SameB t H4 H')
        ⟨v6, none, [], rfl, d6.t (SameT.b T3.tape (S5.trans S6)) rfl, nofun, nofun, Nat.le_refl _, T6, S5.trans S6⟩ ?_ ?_⟩⟩
      · rintro i σ H7 hi ⟨v6, x7, ds, rfl, d7, g7, u7, l7, T7, S7⟩
        obtain ⟨xs7, eL7, c7⟩ := cL3.b T3.tape S7
        have li : i < 41 := by omega
        refine ⟨_, rfl, _, rfl, _, rfl, t, c, L, true, xs7, ps, rfl, T7, eL7, c7, fun p hp => (co.each p hp).2.2, co.l8, fun r vs H8 df vk T8 S8 => ?_⟩
        refine ⟨_, rfl, t, c, rfl, T8, fun vl l H9 dl lo l4 mu T9 S9 => ⟨two, fun q1 hq1 => ⟨one, fun q2 hq2 => ?_⟩⟩⟩
        have dv : Dh H8 (.ref r) (.tuple vs) := df H8 fun _ _ _ e => e
        have dv9 := dv.t (SameT.b T8.tape S9) (by rw [noL]; exact vk.noL)
        have y1 := Same.upd (o := .tup [.ref r, vl]) hq1
        have y2 := Same.upd (o := .tup [.ref q1]) hq2
        have d2 : Dh (L2.upd (L2.upd H9 q1 (.tup [.ref r, vl])) q2 (.tup [.ref q1])) (.ref q2) (.tuple [RowD.d ⟨vs, l⟩]) := .tup upd_same (.cons (.tup (y2 _ _ upd_same) (.cons (dv9.same (y1.trans y2)) (.cons (dl.same (y1.trans y2)) .nil))) .nil)
        have yy := y1.trans y2
        generalize L2.upd (L2.upd H9 q1 (.tup [.ref r, vl])) q2 (.tup [.ref q1]) = J2 at d2 yy ⊢
        have d9 := (d7.t (SameT.b T7.tape (S8.trans S9)) (nolR g7)).same yy
        refine catH d9 d2 (by rw [List.length_map]; show ds.length + 1 ≤ 1000; omega) fun w J3 e3 t3 => ?_
        refine ⟨w, _, ds ++ [⟨vs, l⟩], rfl, by rw [List.map_append]; exact e3, fun q hq => ?_, fun q hq => ?_, by rw [List.length_append]; show ds.length + 1 ≤ i + 1; omega, T9.same (yy.trans t3), S7.trans (S8.trans (S9.trans (Same.b t (yy.trans t3))))⟩
        · rcases List.mem_append.mp hq with hq | hq
          · exact g7 q hq
          · rw [List.mem_singleton.mp hq]
            exact ⟨vk, lo⟩
        · rcases List.mem_append.mp hq with hq | hq
          · exact u7 q hq
          · rw [List.mem_singleton.mp hq]
            exact ⟨l4, mu⟩
      · rintro σ H7 ⟨v6, x7, ds, rfl, d7, g7, u7, l7, T7, S7⟩
        exact ⟨v6, x7, ds, rfl, d7, g7, u7, by omega, T7, S7⟩
    rintro σ H5 ⟨v6, x7, ds, rfl, d6', g, ug, lds, T5, S5⟩
    have cL5 := cL3.b T3.tape S5
    have eN5 := S5 _ _ nNt eN
    clear T3 cL3 eN S5 d6
    obtain ⟨r6, xs6, rfl, e6, hs6⟩ : ∃ r6 xs6, v6 = .ref r6 ∧ H5 r6 = some (.tup xs6) ∧ DhAll H5 xs6 (ds.map RowD.d) := by
      cases d6' with
      | tup e h => exact ⟨_, _, rfl, e, h⟩
    obtain ⟨ss, e61, em6, ra6⟩ := rows_of hs6
    subst e61
    have roS : RowsOk ss := RowG.ok (ks := ps.map (·.2)) (by rw [em6]; exact g)
    clear hs6 d6'
    -- the table
    refine ⟨fun σ H' => ∃ (tb : Addr) (rs : RowsL), σ = [some (.ref a0), some (.ref t), some (.ref L), some (.ref N), none, none, some (.ref r6), x7, some (.ref tb), none, none, none, none, none, none, none, none, none, none, none, none] ∧ TbAt C H' tb ps rs ∧ rs.map (·.2) = ds ∧ Same H5 H', ?_, ?_⟩
    · obtain ⟨xs5, eL5, c5⟩ := id cL5
      refine ⟨_, rfl, _, rfl, mk_dt (ps := ps) (ds := ds) (.tup eL5 c5.dh) (.tup e6 (by rw [← em6]; exact rows_dh ra6)) co g (by omega) fun tb rs H' s' hT em => ?_⟩
      exact ⟨tb, rs, rfl, hT, em, s'⟩
    rintro σ H6 ⟨tb, rs, rfl, hT, em, s6⟩
    replace T5 := T5.same s6
    replace cL5 := cL5.same s6
    replace eN5 := s6 _ _ eN5
    replace e6 := s6 _ _ e6
    replace ra6 := RowsAt.same ra6 s6
    clear s6
    have emS : ss.map (·.2) = rs.map (·.2) := em6.trans em.symm
    have lrs : rs.length ≤ 41 := by
      have := congrArg List.length em
      rw [List.length_map] at this
      omega
    have ur : ∀ q ∈ rs, q.2.lin.length ≤ 4 ∧ ∀ p ∈ q.2.lin, p ∈ linU := fun q hq => ug q.2 (by rw [← em]; exact List.mem_map_of_mem hq)
    have hU : ∃ U : Lin, U.length ≤ 48 ∧ ∀ q ∈ rs, ∀ p ∈ q.2.lin, p ∈ U := ⟨linU, Nat.le_of_eq linU_len, fun q hq => (ur q hq).2⟩
    -- it is what it is made of
    refine ⟨fun σ H' => σ = [some (.ref a0), some (.ref t), some (.ref L), some (.ref N), none, none, some (.ref r6), x7, some (.ref tb), none, none, none, none, none, none, none, none, none, none, none, none] ∧ Same H6 H', ?_, ?_⟩
    · refine ⟨_, rfl, _, rfl, _, rfl, tb, L, r6, ps, rs, ss, rfl, hT, cL5, e6, ra6, emS, fun q hq => (ur q hq).1, hU, fun H' s' => ⟨_, rfl, iteF ⟨rfl, s'⟩⟩⟩
    rintro σ H7 ⟨rfl, s7⟩
    replace T5 := T5.same s7
    replace cL5 := cL5.same s7
    replace eN5 := s7 _ _ eN5
    replace e6 := s7 _ _ e6
    replace ra6 := RowsAt.same ra6 s7
    replace hT := hT.same s7
    clear s7
    -- lists that it gives
    have lnm : (nms ps).length = ps.length := List.length_map _
    obtain ⟨xl, exl⟩ : ∃ x, (nms ps)[ps.length - 1]? = some x := ⟨_, List.getElem?_eq_getElem (by omega)⟩
    refine ⟨fun σ H' => ∃ (q l1 l2 : Addr) (us vs : List V), σ = [some (.ref a0), some (.ref t), some (.ref L), some (.ref N), none, none, some (.ref r6), x7, some (.ref tb), some (.ref q), none, none, none, none, none, none, none, none, none, none, none] ∧ H' q = some (.lst [.ref l1, .ref l2]) ∧ H' l1 = some (.lst us) ∧ H' l2 = some (.lst vs) ∧ us.length ≤ 60 ∧ vs.length ≤ 60 ∧ H7 l1 = none ∧ H7 l2 = none ∧ l1 ≠ l2 ∧ q ≠ l1 ∧ q ≠ l2 ∧ Same H7 H', ?_, ?_⟩
    · obtain ⟨⟨cv, ⟨dx, bv, h1, h2, h3⟩, h4⟩, _⟩ := id hT
      refine ⟨_, rfl, tb, dx, _, rfl, h1, rfl, tb, cv, rs, rfl, ⟨dx, bv, h1, h2, h3⟩, fun l1 hl1 => ?_⟩
      have z1 := Same.upd (o := .lst (rs.map (·.1))) hl1
      have f1 : L2.upd H7 l1 (.lst (rs.map (·.1))) l1 = some (.lst (rs.map (·.1))) := upd_same
      generalize L2.upd H7 l1 (.lst (rs.map (·.1))) = J1 at z1 f1 ⊢
      have lv : (vS (nms ps)).length = (ps.length - 1) + 1 := by
        show ((nms ps).map V.str).length = _
        rw [List.length_map, lnm]
        omega
      refine ⟨_, rfl, tb, dx, _, rfl, z1 _ _ h1, rfl, _, rfl, 1, rfl, N, _, -1, .str xl, rfl, rfl, SqL.of (z1 _ _ eN5), at_last lv (by show ((nms ps).map V.str)[ps.length - 1]? = _; rw [List.getElem?_map, exl]; rfl), tb, ps, rs, xl, ps.length - 1, rfl, hT.same z1, exl, fun l2 vs J2 s2 hl2 el2 lv2 => ⟨two, fun q hq => ?_⟩⟩
      have zq := Same.upd (o := .lst [.ref l1, .ref l2]) hq
      have n12 : l1 ≠ l2 := fun e => by rw [← e, f1] at hl2; cases hl2
      have f2 := s2 _ _ f1
      have h7l2 : H7 l2 = none := by
        cases hh : H7 l2 with
        | none => rfl
        | some o => rw [z1 _ _ hh] at hl2; cases hl2
      exact ⟨q, l1, l2, _, vs, rfl, upd_same, zq _ _ f2, zq _ _ el2, by rw [List.length_map]; omega, lv2, hl1, h7l2, n12, (ne_of_none f2 hq).symm, (ne_of_none el2 hq).symm, z1.trans (s2.trans zq)⟩
    rintro σ H8 ⟨q, l1, l2, us, vs, rfl, eq_, el1, el2, lu, lv, n1, n2, n12, q1, q2, s8⟩
    have hN7 : H7 N = some (.lst (vS (nms ps))) := eN5
    have nl : ∀ l, H7 l = none → l ≠ N ∧ l ≠ t ∧ l ≠ c := fun l h => by
      refine ⟨fun e => (by rw [e, hN7] at h; cases h), fun e => ?_, fun e => ?_⟩
      · obtain ⟨_, _, _, _, tq, _⟩ := id T5
        rw [e, tq] at h
        cases h
      · obtain ⟨zs, e'⟩ := T5.list
        rw [e, e'] at h
        cases h
    replace T5 := T5.same s8
    replace cL5 := cL5.same s8
    replace eN5 := s8 _ _ eN5
    replace e6 := s8 _ _ e6
    replace ra6 := RowsAt.same ra6 s8
    replace hT := hT.same s8
    clear s8 hN7
    -- they are spoilt
    refine ⟨fun σ H' => ∃ x10 : Option V, σ = [some (.ref a0), some (.ref t), some (.ref L), some (.ref N), none, none, some (.ref r6), x7, some (.ref tb), some (.ref q), x10, none, none, none, none, none, none, none, none, none, none] ∧ TapeL c H' t ∧ CA H' L ps ∧ H' N = some (.lst (vS (nms ps))) ∧ H' r6 = some (.tup (ss.map (·.1))) ∧ RowsAt H' ss ∧ TbAt C H' tb ps rs, ?_, ?_⟩
    · refine ⟨_, rfl, q, rfl, ⟨_, SqL.of eq_⟩, for_list (K := K) (a := q) (xs := [.ref l1, .ref l2]) (fun i σ H' => (∃ x10 : Option V, σ = [some (.ref a0), some (.ref t), some (.ref L), some (.ref N), none, none, some (.ref r6), x7, some (.ref tb), some (.ref q), x10, none, none, none, none, none, none, none, none, none, none]) ∧ (TapeL c H' t ∧ CA H' L ps ∧ H' N = some (.lst (vS (nms ps))) ∧ H' r6 = some (.tup (ss.map (·.1))) ∧ RowsAt H' ss ∧ TbAt C H' tb ps rs) ∧ H' q = some (.lst [.ref l1, .ref l2]) ∧ ∃ us vs : List V, H' l1 = some (.lst us) ∧ H' l2 = some (.lst vs) ∧ us.length ≤ 60 + i ∧ vs.length ≤ 60 + i) ⟨⟨_, rfl⟩, ⟨T5, cL5, eN5, e6, ra6, hT⟩, eq_, us, vs, el1, el2, lu, lv⟩ (fun i σ H' _ pr => SqL.of pr.2.2.1) ?_ ?_⟩
      · rintro i y σ J hy ⟨⟨x10, rfl⟩, ⟨T', cL', eN', e6', ra', hT'⟩, eq', us', vs', f1, f2, lu', lv'⟩
        -- one list is written
        have go : ∀ (l : Addr) (ws : List V), H7 l = none → J l = some (.lst ws) → ∀ zs : List V, TapeL c (L2.upd J l (.lst zs)) t ∧ CA (L2.upd J l (.lst zs)) L ps ∧ L2.upd J l (.lst zs) N = some (.lst (vS (nms ps))) ∧ L2.upd J l (.lst zs) r6 = some (.tup (ss.map (·.1))) ∧ RowsAt (L2.upd J l (.lst zs)) ss ∧ TbAt C (L2.upd J l (.lst zs)) tb ps rs := fun l ws hl e zs => by
          obtain ⟨m1, m2, m3⟩ := nl l hl
          exact ⟨T'.upd m2 m3, cL'.t (SameT.lst e), by rw [upd_ne (Ne.symm m1)]; exact eN', SameT.lst e _ _ e6', ra'.t (SameT.lst e) roS, hT'.upd e⟩
        have upd2 : ∀ (l : Addr) (o1 o2 : HO), L2.upd (L2.upd J l o1) l o2 = L2.upd J l o2 := fun l o1 o2 => by
          funext b
          by_cases hb : b = l
          · subst hb
            rw [upd_same, upd_same]
          · rw [upd_ne hb, upd_ne hb, upd_ne hb]
        have cs : i = 0 ∧ y = .ref l1 ∨ i = 1 ∧ y = .ref l2 := by
          match i, hy with
          | 0, e => injection e with e; exact .inl ⟨rfl, e.symm⟩
          | 1, e => injection e with e; exact .inr ⟨rfl, e.symm⟩
          | i + 2, e => cases e
        rcases cs with ⟨rfl, rfl⟩ | ⟨rfl, rfl⟩
        · refine ⟨_, rfl, .inl ⟨rfl, _, SqL.of f1⟩, l1, us', .non, rfl, rfl, f1, Nat.lt_of_le_of_lt (show us'.length ≤ 60 by omega) (by decide), _, rfl, .inl ⟨rfl, _, SqL.of upd_same⟩, l1, _, rfl, rfl, upd_same, ?_⟩
          rw [upd2]
          exact ⟨⟨_, rfl⟩, go l1 us' n1 f1 _, by rw [upd_ne q1]; exact eq', _, vs', upd_same, by rw [upd_ne (Ne.symm n12)]; exact f2, by rw [List.length_reverse, List.length_append]; show us'.length + 1 ≤ 60 + 1; omega, by omega⟩
        · refine ⟨_, rfl, .inl ⟨rfl, _, SqL.of f2⟩, l2, vs', .non, rfl, rfl, f2, Nat.lt_of_le_of_lt (show vs'.length ≤ 61 by omega) (by decide), _, rfl, .inl ⟨rfl, _, SqL.of upd_same⟩, l2, _, rfl, rfl, upd_same, ?_⟩
          rw [upd2]
          exact ⟨⟨_, rfl⟩, go l2 vs' n2 f2 _, by rw [upd_ne q2]; exact eq', us', _, by rw [upd_ne n12]; exact f1, upd_same, by omega, by rw [List.length_reverse, List.length_append]; show vs'.length + 1 ≤ 60 + (1 + 1); omega⟩
      · rintro σ J ⟨⟨x10, rfl⟩, ⟨T', cL', eN', e6', ra', hT'⟩, _⟩
        exact ⟨_, rfl, T', cL', eN', e6', ra', hT'⟩
    rintro σ H9 ⟨x10, rfl, T9, cL9, eN9, e69, ra9, hT9⟩
    clear nl n1 n2 n12 q1 q2 lu lv el1 el2 eq_ T5 cL5 eN5 e6 ra6 hT
    -- it is as it was; other tables are not it
    refine ⟨fun σ H' => σ = [some (.ref a0), some (.ref t), some (.ref L), some (.ref N), none, none, some (.ref r6), x7, some (.ref tb), some (.ref q), x10, none, none, none, none, none, none, none, none, none, none] ∧ TapeL c H' t ∧ SameB t H9 H', ?_, ?_⟩
    · refine ⟨_, rfl, _, rfl, _, rfl, tb, L, r6, ps, rs, ss, rfl, hT9, cL9, e69, ra9, emS, fun q hq => (ur q hq).1, hU, fun H' s' => ⟨_, rfl, iteF ?_⟩⟩
      have T' := T9.same s'
      refine ⟨_, rfl, _, rfl, _, rfl, _, rfl, _, rfl, t, c, N, nms ps, rfl, T', s' _ _ eN9, by rw [lnm]; omega, fun x H1 sx nx hx T1 S1 => ?_⟩
      have S91 := (Same.b t s').trans S1
      have roS' : RowG (ps.map (·.2)) (ss.map (·.2)) := by rw [em6]; exact g
      refine ⟨tb, L, r6, x, z, ps, rs, ss, rfl, hT9.b T9.tape S91, cL9.b T9.tape S91, SameT.b T9.tape S91 _ _ e69, RowsAt.t ra9 (SameT.b T9.tape S91) roS, emS, hx, sx, nx, hz, by omega, fun q hq => (ur q hq).2, fun H2 s2 => ⟨_, rfl, iteF ⟨rfl, T1.same s2, S91.trans (Same.b t s2)⟩⟩⟩
    rintro σ H10 ⟨rfl, T10, S10⟩
    have cL10 := cL9.b T9.tape S10
    have hT10 := hT9.b T9.tape S10
    have eN10 := S10 _ _ nNt eN9
    clear T9 cL9 eN9 e69 ra9 hT9 S10 hU ur emS
    -- unknown names
    refine ⟨fun σ H' => ∃ x11 : Option V, σ = [some (.ref a0), some (.ref t), some (.ref L), some (.ref N), none, none, some (.ref r6), x7, some (.ref tb), some (.ref q), x10, x11, none, none, none, none, none, none, none, none, none] ∧ TapeL c H' t ∧ SameB t H10 H', ?_, ?_⟩
    · refine ⟨_, rfl, _, rfl, t, c, N, nms ps, rfl, T10, eN10, by rw [lnm]; omega, fun x H1 sx nx hx T1 S1 => ?_⟩
      have eN1 := S1 _ _ nNt eN10
      have cz : (vS (nms ps))[0]? = some (.str z) := by show ((nms ps).map V.str)[0]? = _; rw [List.getElem?_map, zm0]; rfl
      refine ⟨_, rfl, N, _, 0, .str z, rfl, rfl, SqL.of eN1, at_of (j := 0) rfl cz, one, fun q1 hq1 => ?_⟩
      have y1 := Same.upd (o := .lst [.str z]) hq1
      have f1 : L2.upd H1 q1 (.lst [.str z]) q1 = some (.lst [.str z]) := upd_same
      generalize L2.upd H1 q1 (.lst [.str z]) = J1 at y1 f1 ⊢
      refine ⟨_, rfl, N, _, 0, .str z, rfl, rfl, SqL.of (y1 _ _ eN1), at_of (j := 0) rfl cz, one, fun q2 hq2 => ?_⟩
      have y2 := Same.upd (o := .tup [.str z]) hq2
      have f2 : L2.upd J1 q2 (.tup [.str z]) q2 = some (.tup [.str z]) := upd_same
      generalize L2.upd J1 q2 (.tup [.str z]) = J2 at y2 f2 ⊢
      refine ⟨by show 8 ≤ sizeLine; decide, fun D hD => ?_⟩
      have y3 := Same.upd (o := .lst [.str x, .non, .int 0, .ref q1, .ref q2, .str "", .str "A", .bl true]) hD
      have f3 : L2.upd J2 D (.lst [.str x, .non, .int 0, .ref q1, .ref q2, .str "", .str "A", .bl true]) D = some (.lst [.str x, .non, .int 0, .ref q1, .ref q2, .str "", .str "A", .bl true]) := upd_same
      have g1 := (y2.trans y3) _ _ f1
      have g2 := y3 _ _ f2
      have S13 := (S1.trans (Same.b t (y1.trans (y2.trans y3))))
      have T3 := T1.same (y1.trans (y2.trans y3))
      generalize L2.upd J2 D (.lst [.str x, .non, .int 0, .ref q1, .ref q2, .str "", .str "A", .bl true]) = J3 at f3 g1 g2 S13 T3 ⊢
      obtain ⟨pz, hpz, epz⟩ := List.mem_map.mp (List.mem_of_getElem? zm0)
      have sz : Sh 12 z := by rw [← epz]; exact (co.each pz hpz).1
      have hT3 := hT10.b T10.tape S13
      have tS : ∀ {y : Str}, Sh 12 y → Tm 1 4100 (.str y) := fun h => (tm_txt (h.mono (by decide))).mono (by decide) (by decide)
      have shS : ∀ {y : Str}, Sh 12 y → SeqAt.shaped (.str y) = true := fun h => Bool.and_eq_true_iff.mpr ⟨can_str h, decide_eq_true (by simp [PyData.depth])⟩
      have sE : Sh 12 ("" : Str) := ⟨by decide +kernel, by decide +kernel⟩
      have sA : Sh 12 ("A" : Str) := ⟨by decide +kernel, by decide +kernel⟩
      have neq : ∀ {y : Str}, y ∉ nms ps → ∀ w ∈ nms ps, PyData.eqv (.str w) (.str y) = false := fun {y} h w hw => by
        simp only [PyData.eqv]
        exact beq_eq_false_iff_ne.mpr fun e => h (by rw [← e]; exact hw)
      have nmx : ∀ {y : Str}, nameB (.str y) = false → y ∉ nms ps := fun {y} h hy => by
        obtain ⟨p, hp, e⟩ := List.mem_map.mp hy
        have := (co.each p hp).2.1
        rw [e, h] at this
        cases this
      have all : ∀ (i : Nat) (y : V), ([.str x, .non, .int 0, .ref q1, .ref q2, .str "", .str "A", .bl true] : List V)[i]? = some y → ∃ d, Dh J3 y d ∧ SeqAt.shaped d = true ∧ Tm 1 4100 d ∧ ∀ w ∈ nms ps, PyData.eqv (.str w) d = false := by
        intro i y e
        have lz : SeqAt.shaped (.list [.str z]) = true := Bool.and_eq_true_iff.mpr ⟨cans_all fun d hd => by rw [List.mem_singleton.mp hd]; exact can_str sz, decide_eq_true (by simp [PyData.depth, PyData.depthAll])⟩
        have tz : SeqAt.shaped (.tuple [.str z]) = true := Bool.and_eq_true_iff.mpr ⟨cans_all fun d hd => by rw [List.mem_singleton.mp hd]; exact can_str sz, decide_eq_true (by simp [PyData.depth, PyData.depthAll])⟩
        have nz : ∀ d ∈ [PyData.str z], Tm 0 2000 d := fun d hd => by rw [List.mem_singleton.mp hd]; exact tm_txt (sz.mono (by decide))
        match i, e with
        | 0, e => injection e with e; subst e; exact ⟨.str x, .str x, shS sx, tS sx, neq hx⟩
        | 1, e => injection e with e; subst e; exact ⟨.none, .non, by decide +kernel, tm_nonB.1.mono (by decide) (by decide), fun _ _ => by simp [PyData.eqv]⟩
        | 2, e => injection e with e; subst e; exact ⟨.int 0, .int 0, by decide +kernel, (tm_int (by decide)).mono (by decide) (by decide), fun _ _ => by simp [PyData.eqv]⟩
        | 3, e => injection e with e; subst e; exact ⟨.list [.str z], .lst g1 (.cons (.str _) .nil), lz, (tm_lst nz).mono (by decide) (by show 2000 * 1 + 2 * 1 + 4 ≤ 4100; decide), fun _ _ => by simp [PyData.eqv]⟩
        | 4, e => injection e with e; subst e; exact ⟨.tuple [.str z], .tup g2 (.cons (.str _) .nil), tz, (tm_tup nz).mono (by decide) (by show 2000 * 1 + 2 * 1 + 4 ≤ 4100; decide), fun _ _ => by simp [PyData.eqv]⟩
        | 5, e => injection e with e; subst e; exact ⟨.str "", .str _, shS sE, tS sE, neq (nmx (by decide +kernel))⟩
        | 6, e => injection e with e; subst e; exact ⟨.str "A", .str _, shS sA, tS sA, neq (nmx (by decide +kernel))⟩
        | 7, e => injection e with e; subst e; exact ⟨.bool true, .bl true, by decide +kernel, (tm_nonB.2 true).mono (by decide) (by decide), fun _ _ => by simp [PyData.eqv]⟩
        | i + 8, e => cases e
      refine ⟨D, rfl, ⟨_, SqL.of f3⟩, for_list (K := K) (a := D) (xs := [.str x, .non, .int 0, .ref q1, .ref q2, .str "", .str "A", .bl true]) (fun i σ H' => (∃ x11 : Option V, σ = [some (.ref a0), some (.ref t), some (.ref L), some (.ref N), none, none, some (.ref r6), x7, some (.ref tb), some (.ref q), x10, x11, none, none, none, none, none, none, none, none, none]) ∧ Same J3 H') ⟨⟨_, rfl⟩, Same.refl _⟩ (fun i σ H' _ pr => SqL.of (pr.2 _ _ f3)) ?_ ?_⟩
      · rintro i y σ J4 hy ⟨⟨x11, rfl⟩, s4⟩
        obtain ⟨d, hd, sd, td, un⟩ := all i y hy
        have hd4 := hd.same s4
        refine ⟨_, rfl, _, rfl, tb, ps, rs, y, d, rfl, hT3.same s4, hd4, sd, fun _ r J5 s5 er => ?_, fun j w ej ew => ?_⟩
        · have t3 : Tm 2 12400 (.tuple [.str "unknown", d, .bool true]) := (tm_tup (k := 1) (n := 4100) (ds := [.str "unknown", d, .bool true]) fun e he => by
            simp only [List.mem_cons, List.not_mem_nil, or_false] at he
            rcases he with rfl | rfl | rfl
            · exact tS ⟨by decide +kernel, by decide +kernel⟩
            · exact td
            · exact (tm_nonB.2 true).mono (by decide) (by decide)).mono (Nat.le_refl _) (by show 4100 * 3 + 2 * 3 + 4 ≤ 12400; decide)
          have sh : ∀ {H' : Hp} {p : Addr}, Same J4 H' → H' p = some (.tup [.str "unknown", y, .bl true]) → Shw K H' (.ref p) (PyData.tuple [.str "unknown", d, .bool true]).shown := fun s e => (Dh.tup e (.cons (.str _) (.cons (hd4.same s) (.cons (.bl _) .nil))) : Dh _ _ (.tuple [.str "unknown", d, .bool true])).shw t3.sh t3.nd (Nat.le_trans t3.dz (by decide)) (Nat.le_trans t3.ln (by decide))
          refine ⟨.ref r, _, rfl, sh s5 er, _, rfl, three, fun p hp => ?_⟩
          have zp := Same.upd (o := .tup [.str "unknown", y, .bl true]) hp
          refine ⟨.ref p, _, rfl, sh (s5.trans zp) upd_same, rfl, _, rfl, ?_⟩
          rw [decide_eq_true rfl]
          exact iteF ⟨⟨_, rfl⟩, s4.trans (s5.trans zp)⟩
        · subst ew
          cases hd with
          | str =>
            have := un w (List.mem_of_getElem? ej)
            simp [PyData.eqv] at this
      · rintro σ J4 ⟨⟨x11, rfl⟩, s4⟩
        exact ⟨_, rfl, T3.same s4, S13.trans (Same.b t s4)⟩
    rintro σ H11 ⟨x11, rfl, T11, S11⟩
    have cL11 := cL10.b T10.tape S11
    clear T10 cL10 hT10 eN10 S11
    -- a register
    refine ⟨_, rfl, t, c, rfl, T11, fun nm H12 sn nb T12 S12 => ?_⟩
    obtain ⟨xs12, eL12, c12⟩ := cL11.b T11.tape S12
    refine ⟨_, rfl, _, rfl, t, c, L, 14, true, xs12, ps, rfl, T12, eL12, c12, fun p hp => (co.each p hp).2.2, co.l8, by decide, by decide, fun Ld zd es H13 eLd _ dd oes l14 _ T13 S13 => ?_⟩
    have l14 : es.length ≤ 14 := l14
    obtain ⟨xs13, eL13, c13⟩ := (CA.b (ps := ps) ⟨xs12, eL12, c12⟩ T12.tape S13)
    refine ⟨_, rfl, _, rfl, fun x dx hx hdx hne => ?_⟩
    have sG : Same H13 (L2.upd (L2.upd H13 dx (.own x)) x (.ins CR dx [])) := fun b o e => by
      rw [upd_ne (ne_of_none e hx), upd_ne (ne_of_none e hdx)]
      exact e
    refine ⟨x, dx, nm, L, xs13, ps, rfl, upd_same, sn, nb, sG _ _ eL13, c13.same sG, co, fun lg H14 sb hlg hR => ⟨rfl, ?_⟩⟩
    have s14 : Same H13 H14 := fun b o e => sb b o (ne_of_none e hx) (sG b o e)
    have nLd : Ld ≠ lg := fun e => by
      have := sG _ _ eLd
      rw [e, hlg] at this
      cases this
    have eLd14 := s14 _ _ eLd
    have dd14 := DhAll.same s14 dd
    have cL14 : CA H14 L ps := CA.same ⟨xs13, eL13, c13⟩ s14
    clear sb hlg sG s14 eLd dd eL13 c13 eL12 c12 T11 S12 T12 S13 T13 hx hdx hne cL11
    obtain ⟨ys14, elg⟩ := hR.list
    refine ⟨_, rfl, _, rfl, x, lg, Ld, ⟨nm, ps, []⟩, zd, es, rfl, hR, ⟨⟨sn, nb⟩, co, .nil, Nat.zero_le _⟩, eLd14, nLd, dd14, by rw [List.nil_append]; exact oes, by show 0 + es.length ≤ 100; omega, fun H15 sb15 hR15 => ?_⟩
    have hR15 : IsRg CR H15 x lg ⟨nm, ps, es⟩ := hR15
    have sT15 : SameT H14 H15 := SameT.at elg (fun _ => nofun) sb15
    have okR : OkR ⟨nm, ps, es⟩ := ⟨⟨sn, nb⟩, co, oes, by show es.length ≤ 100; omega⟩
    have eLd15 := sb15 _ _ nLd eLd14
    have dd15 := DhAll.t sT15 dd14 oes.noLd
    have cL15 := cL14.t sT15
    clear hR sb15 sT15 elg eLd14 dd14 cL14
    refine ⟨_, rfl, Ld, zd, ps.map (·.2), es, rfl, eLd15, dd15, oes, by omega, fun St zz H16 s16 eSt lz hz => ?_⟩
    have hR16 := hR15.same s16
    have cL16 := cL15.same s16
    clear hR15 cL15 s16 eLd15 dd15
    -- what is due
    have rwk : ∀ i, ∀ p ∈ stD (es.take i), ∃ ds, p.2 = .tuple ds ∧ noLs ds = true := fun i p hp => by
      obtain ⟨ds, e, vk⟩ := (OkEs.take i oes).row p hp
      exact ⟨ds, e, vk.noL⟩
    have lst : ∀ i, (stD (es.take i)).length ≤ 14 := fun i => by
      obtain ⟨_, _, k3⟩ := (OkEs.take i oes).keys
      have h1 := (OkEs.take i oes).used_le
      have h2 : (es.take i).length ≤ es.length := by rw [List.length_take]; omega
      omega
    have rok : ∀ i (rs2 : RowsL), rs2.map (·.2) = regR nm (stD (es.take i)) → RowsOk rs2 := fun i rs2 e => RowG.ok (ks := ps.map (·.2)) (by rw [e]; exact reg_ok (OkEs.take i oes) sn (by rw [List.length_take]; omega))
    refine ⟨fun σ H' => ∃ (Du : Addr) (dus : List V), σ = [some (.ref a0), some (.ref t), some (.ref L), some (.ref N), some (.str nm), none, some (.ref r6), x7, some (.ref tb), some (.ref q), x10, x11, some (.ref Ld), some (.ref x), some (.ref St), some (.ref Du), none, none, none, none, none] ∧ H' Du = some (.lst dus) ∧ dus.length = es.length + 1 ∧ (∀ i, i ≤ es.length → ∃ (p : Addr) (ss2 : RowsL), dus[i]? = some (.ref p) ∧ H' p = some (.tup (ss2.map (·.1))) ∧ RowsAt H' ss2 ∧ ss2.map (·.2) = regR nm (stD (es.take i))) ∧ Same H16 H', ?_, ?_⟩
    · refine ⟨_, rfl, St, rfl, ⟨_, SqL.of eSt⟩, fun Du hDu => lc_list (K := K) (a := St) (xs := zz) (fun i H' => (∃ dus : List V, H' Du = some (.lst dus) ∧ dus.length = i ∧ (∀ j, j < i → ∃ (p : Addr) (ss2 : RowsL), dus[j]? = some (.ref p) ∧ H' p = some (.tup (ss2.map (·.1))) ∧ RowsAt H' ss2 ∧ ss2.map (·.2) = regR nm (stD (es.take j)))) ∧ Same H16 H') ⟨⟨[], upd_same, rfl, fun j h => absurd h (Nat.not_lt_zero _)⟩, Same.upd hDu⟩ (fun i H' _ pr => SqL.of (pr.2 _ _ eSt)) ?_ ?_⟩
      · rintro i y J0 hy ⟨⟨dus, eDu, ldu, hdu⟩, s0⟩
        have li := (List.getElem?_eq_some_iff.mp hy).1
        obtain ⟨qi, ys, ez, eqi, dqi⟩ := hz i (by omega)
        obtain rfl : y = .ref qi := Option.some.inj (hy.symm.trans ez)
        have eqi := s0 _ _ eqi
        have dqi := DhAll.same s0 dqi
        have rk := rwk i
        have ro2 := rok i
        have ls := lst i
        generalize hst : stD (es.take i) = st at dqi rk ro2 ls
        have lys : ys.length = st.length := by rw [dqi.len]; exact List.length_map _
        refine ⟨rfl, ?_⟩
        dsimp only [tYes]
        refine iteT ?_
        change teDue K _ _ _
        refine ⟨_, rfl, qi, rfl, ⟨_, SqL.of eqi⟩, fun D2 hD2 => lc_list (K := K) (a := qi) (xs := ys) (fun j H' => (∃ rs2 : RowsL, H' D2 = some (.lst (rs2.map (·.1))) ∧ RowsAt H' rs2 ∧ rs2.map (·.2) = regR nm (st.take j)) ∧ Same J0 H') ⟨⟨[], upd_same, nofun, rfl⟩, Same.upd hD2⟩ (fun j H' _ pr => SqL.of (pr.2 _ _ eqi)) ?_ ?_⟩
        · rintro j y J1 hy2 ⟨⟨rs2, eD, ra, em2⟩, s1⟩
          obtain ⟨p, ep, b, u, rfl, eb, du⟩ := rows_get dqi hy2
          have du := du.same s1
          have lr : rs2.length ≤ j := by
            have := congrArg List.length em2
            rw [List.length_map, show (regR nm (st.take j)).length = (st.take j).length from List.length_map _, List.length_take] at this
            omega
          have lj : j < st.length := (List.getElem?_eq_some_iff.mp ep).1
          refine ⟨b, _, rfl, SqT.of (s1 _ _ eb), rfl, _, _, rfl, _, _, rfl, rfl, rfl, ?_⟩
          dsimp only [tYes]
          refine iteT ⟨_, rfl, _, rfl, _, rfl, two, fun q1 hq1 => ⟨one, fun q2 hq2 => ⟨two, fun q3 hq3 => ?_⟩⟩⟩
          have z1 := Same.upd (o := .tup [.str nm, .int p.1]) hq1
          have z2 := Same.upd (o := .tup [.ref q1]) hq2
          have z3 := Same.upd (o := .tup [u, .ref q2]) hq3
          have zz' := z1.trans (z2.trans z3)
          have e1 := (z2.trans z3) _ _ (show L2.upd J1 q1 (.tup [.str nm, .int p.1]) q1 = some (.tup [.str nm, .int p.1]) from upd_same)
          have e2 := z3 _ _ (show L2.upd (L2.upd J1 q1 (.tup [.str nm, .int p.1])) q2 (.tup [.ref q1]) q2 = some (.tup [.ref q1]) from upd_same)
          have e3 : L2.upd (L2.upd (L2.upd J1 q1 (.tup [.str nm, .int p.1])) q2 (.tup [.ref q1])) q3 (.tup [u, .ref q2]) q3 = some (.tup [u, .ref q2]) := upd_same
          generalize L2.upd (L2.upd (L2.upd J1 q1 (.tup [.str nm, .int p.1])) q2 (.tup [.ref q1])) q3 (.tup [u, .ref q2]) = J2 at zz' e1 e2 e3 ⊢
          obtain ⟨ds', ed, nd'⟩ := rk p (List.mem_of_getElem? ep)
          have dr : Dh J2 (.ref q3) (RowD.d ⟨valsD p.2, [(nm, p.1)]⟩) := by
            have du3 := du.same zz'
            rw [ed] at du3 ⊢
            exact .tup e3 (.cons du3 (.cons (.tup e2 (.cons (.tup e1 (.cons (.str _) (.cons (.int _) .nil))) .nil)) .nil))
          have eD3 := zz' _ _ eD
          have noR : ∀ p' ∈ st, noL (RowD.d ⟨valsD p'.2, [(nm, p'.1)]⟩) = true := fun p' hp' => row_noL (by
            obtain ⟨ds2, e2', n2'⟩ := rk p' hp'
            rw [e2']
            exact n2')
          refine ⟨_, eD3, Nat.lt_of_le_of_lt (show (rs2.map (·.1)).length ≤ 60 by rw [List.length_map]; omega) (by decide), ⟨rs2 ++ [(.ref q3, ⟨valsD p.2, [(nm, p.1)]⟩)], by rw [upd_same, List.map_append]; rfl, fun r hr => ?_, ?_⟩, fun b' o' e' => by rw [upd_ne (ne_of_none e' hD2)]; exact zz' _ _ (s1 b' o' e')⟩
          · rcases List.mem_append.mp hr with hr | hr
            · refine ((ra r hr).same zz').t (SameT.lst eD3) ?_
              have hm : r.2 ∈ regR nm (st.take j) := by rw [← em2]; exact List.mem_map_of_mem hr
              obtain ⟨p', hp', e'⟩ := List.mem_map.mp hm
              rw [← e']
              exact noR p' (List.mem_of_mem_take hp')
            · rw [List.mem_singleton.mp hr]
              exact dr.t (SameT.lst eD3) (noR p (List.mem_of_getElem? ep))
          · rw [List.map_append, em2, List.take_add_one, ep]
            unfold regR
            rw [List.map_append]
            rfl
        rintro J1 ⟨⟨rs2, eD, ra, em2⟩, s1⟩
        rw [lys, List.take_length] at em2
        refine ⟨D2, _, rfl, .inl ⟨SqL.of eD, fun p hp => ?_⟩⟩
        have zp := Same.upd (o := .tup (rs2.map (·.1))) hp
        have fp : L2.upd J1 p (.tup (rs2.map (·.1))) p = some (.tup (rs2.map (·.1))) := upd_same
        generalize L2.upd J1 p (.tup (rs2.map (·.1))) = J2 at zp fp ⊢
        have s2 := s1.trans zp
        have eDu2 := s2 _ _ eDu
        refine ⟨_, eDu2, Nat.lt_of_le_of_lt (show dus.length ≤ 60 by omega) (by decide), ⟨dus ++ [.ref p], upd_same, by rw [List.length_append]; show dus.length + 1 = i + 1; omega, fun j hj => ?_⟩, fun b o e => by rw [upd_ne (ne_of_none e hDu)]; exact s2 _ _ (s0 b o e)⟩
        by_cases hji : j < i
        · obtain ⟨p', ss2, ej, eq', ra', em'⟩ := hdu j hji
          refine ⟨p', ss2, by rw [List.getElem?_append_left (by omega)]; exact ej, SameT.lst eDu2 _ _ (s2 _ _ eq'), RowsAt.t (RowsAt.same ra' s2) (SameT.lst eDu2) (rok j ss2 em'), em'⟩
        · obtain rfl : j = i := by omega
          exact ⟨p, rs2, by rw [List.getElem?_append_right (by omega), ldu, Nat.sub_self]; rfl, SameT.lst eDu2 _ _ fp, RowsAt.t (RowsAt.same ra zp) (SameT.lst eDu2) (ro2 rs2 em2), by rw [hst]; exact em2⟩
      rintro J0 ⟨⟨dus, eDu, ldu, hdu⟩, s0⟩
      exact ⟨Du, dus, rfl, eDu, by omega, fun i hi => hdu i (by omega), s0⟩
    rintro σ H17 ⟨Du, dus, rfl, eDu, ldu, hdu, s17⟩
    have l60 : (⟨nm, ps, es⟩ : RD).es.length ≤ 60 := by show es.length ≤ 60; omega
    have regU : ∀ i (rs2 : RowsL), rs2.map (·.2) = regR nm (stD (es.take i)) → (∀ q ∈ rs2, q.2.lin.length ≤ 4) ∧ ∃ U : Lin, U.length ≤ 48 ∧ ∀ q ∈ rs2, ∀ p ∈ q.2.lin, p ∈ U := fun i rs2 e => by
      have h : ∀ q ∈ rs2, ∃ p ∈ stD (es.take i), q.2.lin = [(nm, p.1)] := fun q hq => by
        have hm : q.2 ∈ regR nm (stD (es.take i)) := by rw [← e]; exact List.mem_map_of_mem hq
        obtain ⟨p, hp, e'⟩ := List.mem_map.mp hm
        exact ⟨p, hp, by rw [← e']⟩
      refine ⟨fun q hq => ?_, (stD (es.take i)).map fun p => (nm, p.1), by rw [List.length_map]; have := lst i; omega, fun q hq p hp => ?_⟩
      · obtain ⟨p, _, e'⟩ := h q hq
        rw [e']
        show 1 ≤ 4
        decide
      · obtain ⟨p', hp', e'⟩ := h q hq
        rw [e', List.mem_singleton] at hp
        rw [hp]
        exact List.mem_map_of_mem (f := fun p : Int × PyData => (nm, p.1)) hp'
    -- each version
    refine ⟨fun σ H' => (∃ x19 : Option V, σ = [some (.ref a0), some (.ref t), some (.ref L), some (.ref N), some (.str nm), none, some (.ref r6), x7, some (.ref tb), some (.ref q), x10, x11, some (.ref Ld), some (.ref x), some (.ref St), some (.ref Du), none, none, none, x19, none]) ∧ Same H17 H', ?_, ?_⟩
    · refine ⟨_, rfl, St, zz, rfl, .inl (SqL.of (s17 _ _ eSt)), _, rfl, by omega, by omega, for_range (fun i σ H' => (∃ x19 : Option V, σ = [some (.ref a0), some (.ref t), some (.ref L), some (.ref N), some (.str nm), none, some (.ref r6), x7, some (.ref tb), some (.ref q), x10, x11, some (.ref Ld), some (.ref x), some (.ref St), some (.ref Du), none, none, none, x19, none]) ∧ Same H17 H') ⟨⟨_, rfl⟩, Same.refl _⟩ ?_ ?_⟩
      · rintro i σ J0 hi ⟨⟨x19, rfl⟩, s0⟩
        have hi : i ≤ es.length := by
          have : i < ((zz.length : Nat) : Int).toNat := hi
          rw [Int.toNat_natCast] at this
          omega
        have s1 := s17.trans s0
        obtain ⟨p, ss2, ep, eq', ra', em'⟩ := hdu i hi
        refine ⟨_, rfl, _, rfl, x, lg, ⟨nm, ps, es⟩, .int (0 + (i : Int)), i, rfl, hR16.same s1, okR, l60, hi, .inl (by rw [Int.zero_add]), fun tb2 rs2 H' s' hT2 em2 => ?_⟩
        have s2 := s0.trans s'
        have em3 : rs2.map (·.2) = regR nm (stD (es.take i)) := em2
        obtain ⟨u1, u2⟩ := regU i rs2 em3
        exact ⟨_, rfl, _, rfl, _, rfl, Du, dus, 0 + (i : Int), .ref p, rfl, rfl, SqL.of (s2 _ _ eDu), at_of (j := i) (by omega) ep, tb2, L, p, ps, rs2, ss2, rfl, hT2, cL16.same (s17.trans s2), s2 _ _ eq', RowsAt.same ra' s2, by rw [em', em3], u1, u2, fun H'' s'' => ⟨_, rfl, iteF ⟨⟨_, rfl⟩, s2.trans s''⟩⟩⟩
      · rintro σ J0 ⟨⟨x19, rfl⟩, s0⟩
        exact ⟨⟨_, rfl⟩, s0⟩
    rintro σ H18 ⟨⟨x19, rfl⟩, s18⟩
    -- odd versions
    refine ⟨fun σ H' => (∃ x11 : Option V, σ = [some (.ref a0), some (.ref t), some (.ref L), some (.ref N), some (.str nm), none, some (.ref r6), x7, some (.ref tb), some (.ref q), x10, x11, some (.ref Ld), some (.ref x), some (.ref St), some (.ref Du), none, none, none, x19, none]) ∧ Same H18 H', ?_, ?_⟩
    · have e18 := (s17.trans s18) _ _ eSt
      refine ⟨1, rfl, _, rfl, St, zz, rfl, .inl (SqL.of e18), _, rfl, St, zz, rfl, .inl (SqL.of e18), ?_⟩
      refine ⟨_, _, rfl, rfl, ⟨by decide, by decide, by decide⟩, _, _, rfl, rfl, one, fun p hp => ⟨by show 6 ≤ sizeLine; decide, fun D hD => ?_⟩⟩
      have y1 := Same.upd (o := .tup [.int 0]) hp
      have y2 := Same.upd (o := .lst [.int (-1), .int ((zz.length : Nat) : Int), .int (((zz.length : Nat) : Int) + 10 ^ (21 : Int).toNat), .bl true, .str "0", .ref p]) hD
      have g1 := y2 _ _ (show L2.upd H18 p (.tup [.int 0]) p = some (.tup [.int 0]) from upd_same)
      have f3 : L2.upd (L2.upd H18 p (.tup [.int 0])) D (.lst [.int (-1), .int ((zz.length : Nat) : Int), .int (((zz.length : Nat) : Int) + 10 ^ (21 : Int).toNat), .bl true, .str "0", .ref p]) D = some (.lst [.int (-1), .int ((zz.length : Nat) : Int), .int (((zz.length : Nat) : Int) + 10 ^ (21 : Int).toNat), .bl true, .str "0", .ref p]) := upd_same
      have yy := y1.trans y2
      generalize L2.upd (L2.upd H18 p (.tup [.int 0])) D (.lst [.int (-1), .int ((zz.length : Nat) : Int), .int (((zz.length : Nat) : Int) + 10 ^ (21 : Int).toNat), .bl true, .str "0", .ref p]) = J3 at g1 f3 yy ⊢
      have pw : (10 : Int) ^ (21 : Int).toNat = 1000000000000000000000 := by decide
      obtain ⟨big, hbig, big1, big2⟩ : ∃ b : Int, ((zz.length : Nat) : Int) + 10 ^ (21 : Int).toNat = b ∧ 1000 < b ∧ b ≤ 10000000000000000000000000000000000000000 := ⟨_, rfl, by rw [lz, pw]; omega, by rw [lz, pw]; omega⟩
      rw [hbig] at f3
      have vI : ∀ n : Int, ¬ (0 ≤ n ∧ n ≤ (es.length : Int)) → versU es (.int n) (.int n) = some (3, .int n) := fun n h => if_neg h
      have ti : ∀ {n : Int}, n.natAbs ≤ 10000000000000000000000000000000000000000 → Tm 1 4100 (.int n) := fun h => (tm_int h).mono (by decide) (by decide)
      have all : ∀ (i : Nat) (y : V), ([.int (-1), .int ((zz.length : Nat) : Int), .int big, .bl true, .str "0", .ref p] : List V)[i]? = some y → ∃ d, Dh J3 y d ∧ y ≠ .non ∧ Tm 1 4100 d ∧ ∃ c, versU es y d = some (c, y) := by
        intro i y e
        match i, e with
        | 0, e => injection e with e; subst e; exact ⟨.int (-1), .int _, nofun, ti (by decide), 3, vI _ (by omega)⟩
        | 1, e => injection e with e; subst e; exact ⟨.int _, .int _, nofun, ti (by rw [Int.natAbs_natCast]; omega), 3, vI _ (by omega)⟩
        | 2, e => injection e with e; subst e; exact ⟨.int big, .int _, nofun, ti (by omega), 3, vI _ (by omega)⟩
        | 3, e => injection e with e; subst e; exact ⟨.bool true, .bl true, nofun, (tm_nonB.2 true).mono (by decide) (by decide), 3, rfl⟩
        | 4, e => injection e with e; subst e; exact ⟨.str "0", .str _, nofun, (tm_txt ⟨by decide +kernel, by decide +kernel⟩).mono (by decide) (by decide), 3, rfl⟩
        | 5, e => injection e with e; subst e; exact ⟨.tuple [.int 0], .tup g1 (.cons (.int _) .nil), nofun, (tm_tup (k := 0) (n := 2000) fun d hd => by rw [List.mem_singleton.mp hd]; exact tm_int (by decide)).mono (by decide) (by show 2000 * 1 + 2 * 1 + 4 ≤ 4100; decide), 3, rfl⟩
        | i + 6, e => cases e
      have s13 := (s17.trans s18).trans yy
      refine ⟨D, rfl, ⟨_, SqL.of f3⟩, for_list (K := K) (a := D) (xs := [.int (-1), .int ((zz.length : Nat) : Int), .int big, .bl true, .str "0", .ref p]) (fun i σ H' => (∃ x11 : Option V, σ = [some (.ref a0), some (.ref t), some (.ref L), some (.ref N), some (.str nm), none, some (.ref r6), x7, some (.ref tb), some (.ref q), x10, x11, some (.ref Ld), some (.ref x), some (.ref St), some (.ref Du), none, none, none, x19, none]) ∧ Same J3 H') ⟨⟨_, rfl⟩, Same.refl _⟩ (fun i σ H' _ pr => SqL.of (pr.2 _ _ f3)) ?_ ?_⟩
      · rintro i y σ J4 hy ⟨⟨x11, rfl⟩, s4⟩
        obtain ⟨d, hd, nn, td, hc⟩ := all i y hy
        have hd4 := hd.same s4
        refine ⟨_, rfl, _, rfl, x, lg, ⟨nm, ps, es⟩, y, d, rfl, hR16.same (s13.trans s4), okR, hd4, nn, hc, fun r J5 s5 er => ?_⟩
        have t3 : Tm 2 12400 (.tuple [.str "version", d, .bool true]) := (tm_tup (k := 1) (n := 4100) (ds := [.str "version", d, .bool true]) fun e he => by
          simp only [List.mem_cons, List.not_mem_nil, or_false] at he
          rcases he with rfl | rfl | rfl
          · exact (tm_txt ⟨by decide +kernel, by decide +kernel⟩).mono (by decide) (by decide)
          · exact td
          · exact (tm_nonB.2 true).mono (by decide) (by decide)).mono (Nat.le_refl _) (by show 4100 * 3 + 2 * 3 + 4 ≤ 12400; decide)
        have sh : ∀ {H' : Hp} {p : Addr}, Same J4 H' → H' p = some (.tup [.str "version", y, .bl true]) → Shw K H' (.ref p) (PyData.tuple [.str "version", d, .bool true]).shown := fun s e => (Dh.tup e (.cons (.str _) (.cons (hd4.same s) (.cons (.bl _) .nil))) : Dh _ _ (.tuple [.str "version", d, .bool true])).shw t3.sh t3.nd (Nat.le_trans t3.dz (by decide)) (Nat.le_trans t3.ln (by decide))
        refine ⟨.ref r, _, rfl, sh s5 er, _, rfl, three, fun p hp => ?_⟩
        have zp := Same.upd (o := .tup [.str "version", y, .bl true]) hp
        refine ⟨.ref p, _, rfl, sh (s5.trans zp) upd_same, rfl, _, rfl, ?_⟩
        rw [decide_eq_true rfl]
        exact iteF ⟨⟨_, rfl⟩, s4.trans (s5.trans zp)⟩
      · rintro σ J4 ⟨⟨x11, rfl⟩, s4⟩
        exact ⟨⟨_, rfl⟩, yy.trans s4⟩
    rintro σ H19 ⟨⟨x11, rfl⟩, s19⟩
    have s1719 := s18.trans s19
    have sR := s17.trans s1719
    -- now
    refine ⟨fun σ H' => ∃ (tn : Addr) (rsn : RowsL), σ = [some (.ref a0), some (.ref t), some (.ref L), some (.ref N), some (.str nm), none, some (.ref r6), x7, some (.ref tb), some (.ref q), x10, x11, some (.ref Ld), some (.ref x), some (.ref St), some (.ref Du), none, none, none, x19, some (.ref tn)] ∧ TbAt C H' tn ps rsn ∧ rsn.map (·.2) = regR nm (stD (es.take es.length)) ∧ Same H19 H', ?_, ?_⟩
    · refine ⟨_, rfl, x, lg, ⟨nm, ps, es⟩, .non, es.length, rfl, hR16.same sR, okR, l60, Nat.le_refl _, .inr ⟨rfl, rfl⟩, fun tn rsn H' s' hT em => ?_⟩
      exact ⟨tn, rsn, rfl, hT, em, s'⟩
    rintro σ H20 ⟨tn, rsn, rfl, hTn, emn, s20⟩
    have sR2 := sR.trans s20
    obtain ⟨p, ss2, ep, eq', ra', em'⟩ := hdu es.length (Nat.le_refl _)
    refine ⟨_, rfl, x, lg, ⟨nm, ps, es⟩, .non, es.length, rfl, hR16.same sR2, okR, l60, Nat.le_refl _, .inr ⟨rfl, rfl⟩, fun t2 rs2 H' s' hT2 em2 => ?_⟩
    have em3 : rs2.map (·.2) = regR nm (stD (es.take es.length)) := em2
    obtain ⟨u1, u2⟩ := regU _ rs2 em3
    have s1 := (s1719.trans s20).trans s'
    refine ⟨_, rfl, _, rfl, 1, rfl, Du, dus, -1, .ref p, rfl, rfl, SqL.of (s1 _ _ eDu), at_last ldu ep, t2, L, p, ps, rs2, ss2, rfl, hT2, cL16.same (s17.trans s1), s1 _ _ eq', RowsAt.same ra' s1, by rw [em', em3], u1, u2, fun H'' s'' => ?_⟩
    refine ⟨true, rfl, ?_⟩
    rw [if_pos rfl]
    refine ⟨_, rfl, _, rfl, x, lg, ⟨nm, ps, es⟩, .non, es.length, rfl, hR16.same (s17.trans (s1.trans s'')), okR, l60, Nat.le_refl _, .inr ⟨rfl, rfl⟩, fun t3 rs3 H3 s3 hT3 em4 => ?_⟩
    have em5 : rs3.map (·.2) = regR nm (stD (es.take es.length)) := em4
    have er : eqT ps (regR nm (stD (es.take es.length))) ps (regR nm (stD (es.take es.length))) = true := eqT_refl co (reg_ok (OkEs.take es.length oes) sn (by rw [List.length_take]; omega))
    exact ⟨tn, ps, rsn, .ref t3, true, rfl, hTn.same (s'.trans (s''.trans s3)), .tb hT3 (by rw [emn, em5]; exact er) (by rw [emn, em5]; exact er), fun H4 s4 => k _⟩
end
end
end K12
set_option Elab.async false
set_option linter.all false
set_option maxRecDepth 100000
set_option maxHeartbeats 8000000
namespace K12
open PySem PySem.Spec PyProof.Rows L2 Lc He
theorem facts {P : Program} {w : World} {K : PySem.W.Frag} {h : Heap} {mg : Str → Option Value} {f : Addr} (X : K.In h) (G : h.Ns mainGlobals mg) (hfa : mg ("law" : Str) = some (.ref f)) (c : SaysD fa fn K) (e : ex K = true) (tb : TabsOk ts w K) :
    ∃ fd : FuncData, (∀ (s : Shared) (v : Value), BindsTo s fd ⟨[v], []⟩ [("_law_script", v)]) ∧ ∀ base : Heap, K.In base → base.Ns mainGlobals mg → FnG P w K mg base 7 f fd ["_law_script"] (spLaw K) := by
  obtain ⟨fd0, D0⟩ := c.def_ 0 (d := dMt "UnknownName" "__init__" "UnknownName.__init__" sIniU) rfl
  obtain ⟨fd1, D1⟩ := c.def_ 1 (d := dMt "NoVersion" "__init__" "NoVersion.__init__" sIniV) rfl
  obtain ⟨fd2, D2⟩ := c.def_ 2 (d := dOf "union_of" sUn) rfl
  obtain ⟨fd3, D3⟩ := c.def_ 3 (d := dOf "names_of" sNo) rfl
  obtain ⟨fd4, D4⟩ := c.def_ 4 (d := dMt "Table" "__init__" "Table.__init__" sTI) rfl
  obtain ⟨fd5, D5⟩ := c.def_ 5 (d := dMt "Table" "columns" "Table.columns" sTC) rfl
  obtain ⟨fd6, D6⟩ := c.def_ 6 (d := dMt "Table" "rows" "Table.rows" sTR) rfl
  obtain ⟨fd7, D7⟩ := c.def_ 7 (d := dMt "Table" "column" "Table.column" sTk) rfl
  obtain ⟨fd8, D8⟩ := c.def_ 8 (d := dMt "Table" "lineage" "Table.lineage" sTg) rfl
  obtain ⟨fd9, D9⟩ := c.def_ 9 (d := dMt "Table" "__eq__" "Table.__eq__" sTe) rfl
  obtain ⟨fd10, D10⟩ := c.def_ 10 (d := dMt "Table" "__len__" "Table.__len__" sTl) rfl
  obtain ⟨fd11, D11⟩ := c.def_ 11 (d := dMt "Table" "__repr__" "Table.__repr__" sTp) rfl
  obtain ⟨fd12, D12⟩ := c.def_ 12 (d := dDf "register_table" sRt [.non]) rfl
  obtain ⟨fd13, D13⟩ := c.def_ 13 (d := dOf "is_whole" sWhole) rfl
  obtain ⟨fd14, D14⟩ := c.def_ 14 (d := dOf "common_divisor" sCd) rfl
  obtain ⟨fd15, D15⟩ := c.def_ 15 (d := dOf "is_rational" sIsR) rfl
  obtain ⟨fd16, D16⟩ := c.def_ 16 (d := dOf "is_name" sName) rfl
  obtain ⟨fd17, D17⟩ := c.def_ 17 (d := dOf "within_limit" sWithin) rfl
  obtain ⟨fd18, D18⟩ := c.def_ 18 (d := dOf "is_value" sValue) rfl
  obtain ⟨fd19, D19⟩ := c.def_ 19 (d := dOf "is_column" sCol) rfl
  obtain ⟨fd20, D20⟩ := c.def_ 20 (d := dOf "check_columns" sCc) rfl
  obtain ⟨fd21, D21⟩ := c.def_ 21 (d := dOf "check_name" sCn) rfl
  obtain ⟨fd22, D22⟩ := c.def_ 22 (d := dOf "check_row" sCr) rfl
  obtain ⟨fd23, D23⟩ := c.def_ 23 (d := dOf "rows_after" sRa) rfl
  obtain ⟨fd24, D24⟩ := c.def_ 24 (d := dOf "numbers_used" sNu) rfl
  obtain ⟨fd25, D25⟩ := c.def_ 25 (d := dMt "Register" "__init__" "Register.__init__" sRI) rfl
  obtain ⟨fd26, D26⟩ := c.def_ 26 (d := dMt "Register" "check_standing" "Register.check_standing" sCs) rfl
  obtain ⟨fd27, D27⟩ := c.def_ 27 (d := dMt "Register" "check_entry" "Register.check_entry" sCe) rfl
  obtain ⟨fd28, D28⟩ := c.def_ 28 (d := dMt "Register" "add" "Register.add" sAdd) rfl
  obtain ⟨fd29, D29⟩ := c.def_ 29 (d := dMt "Register" "correct" "Register.correct" sCor) rfl
  obtain ⟨fd30, D30⟩ := c.def_ 30 (d := dMt "Register" "strike" "Register.strike" sStr) rfl
  obtain ⟨fd31, D31⟩ := c.def_ 31 (d := dMt "Register" "name" "Register.name" sRN) rfl
  obtain ⟨fd32, D32⟩ := c.def_ 32 (d := dMt "Register" "columns" "Register.columns" sRC) rfl
  obtain ⟨fd33, D33⟩ := c.def_ 33 (d := dMd "Register" "rows" "Register.rows" sRR [.non]) rfl
  obtain ⟨fd34, D34⟩ := c.def_ 34 (d := dOf "_law_tape" sTape) rfl
  obtain ⟨fd35, D35⟩ := c.def_ 35 (d := dOf "_law_draw" sDraw) rfl
  obtain ⟨fd36, D36⟩ := c.def_ 36 (d := dOf "_law_lowest" sLst) rfl
  obtain ⟨fd37, D37⟩ := c.def_ 37 (d := dOf "_law_rational" sRat) rfl
  obtain ⟨fd38, D38⟩ := c.def_ 38 (d := dOf "_law_name" sLnm) rfl
  obtain ⟨fd39, D39⟩ := c.def_ 39 (d := dOf "_law_fresh" sFr) rfl
  obtain ⟨fd40, D40⟩ := c.def_ 40 (d := dOf "_law_columns" sCls) rfl
  obtain ⟨fd41, D41⟩ := c.def_ 41 (d := dOf "_law_value" sLv) rfl
  obtain ⟨fd42, D42⟩ := c.def_ 42 (d := dOf "_law_values" sLvs) rfl
  obtain ⟨fd43, D43⟩ := c.def_ 43 (d := dOf "_law_deeds" sDe) rfl
  obtain ⟨fd44, D44⟩ := c.def_ 44 (d := dOf "_law_do" sDo) rfl
  obtain ⟨fd45, D45⟩ := c.def_ 45 (d := dOf "_law_states" sSt) rfl
  obtain ⟨fd46, D46⟩ := c.def_ 46 (d := dOf "_law_lineage" sFar) rfl
  obtain ⟨fd47, D47⟩ := c.def_ 47 (d := dOf "_law_union" sLu) rfl
  obtain ⟨fd48, D48⟩ := c.def_ 48 (d := dOf "_law_column" sLc) rfl
  obtain ⟨fd49, D49⟩ := c.def_ 49 (d := dOf "_law_is" sLi) rfl
  obtain ⟨fd50, D50⟩ := c.def_ 50 (d := dOf "_law_equals" sLe) rfl
  obtain ⟨fd51, D51⟩ := c.def_ 51 (d := dOf "_law_at_version" sAv) rfl
  obtain ⟨fd52, D52⟩ := c.def_ 52 (d := dOf "_law_others" sLo) rfl
  obtain ⟨fd53, D53⟩ := c.def_ 53 (d := dOf "law" sLaw) rfl
  have ef := hfa.symm.trans (glo_ok X G (c.fact 0 (f := .glo "law") rfl))
  cases ef
  have g : ∀ (i : Nat) (x : Str), fa[i]? = some (.glo x) → mg x = some (.ref (ga K x)) := fun i x z => glo_ok X G (c.fact i (f := .glo x) z)
  have z : ∀ (i : Nat) (x : Str), fa[i]? = some (.free x) → mg x = none := fun i x z => free_ok X G (c.fact i (f := .free x) z)
  have T : Bt mg := ⟨z 40 _ rfl, z 41 _ rfl, z 42 _ rfl, z 43 _ rfl, z 44 _ rfl, z 45 _ rfl, z 46 _ rfl, z 47 _ rfl, z 48 _ rfl, z 49 _ rfl, z 50 _ rfl, z 51 _ rfl, z 52 _ rfl, z 53 _ rfl, z 54 _ rfl, z 55 _ rfl, z 56 _ rfl, z 57 _ rfl⟩
  obtain ⟨uc0, mc0⟩ := str_ok X G (c.fact 60 (f := .str "LETTERS" letters) rfl)
  obtain ⟨uc1, mc1⟩ := str_ok X G (c.fact 61 (f := .str "NAME_SIGNS" signs) rfl)
  obtain ⟨uc2, mc2⟩ := int_ok X G (c.fact 62 (f := .int "LONGEST_NAME" 12) rfl)
  obtain ⟨uc3, mc3⟩ := int_ok X G (c.fact 63 (f := .int "LIMIT" lim) rfl)
  obtain ⟨uc4, mc4⟩ := int_ok X G (c.fact 64 (f := .int "MOST_COLUMNS" 8) rfl)
  obtain ⟨uc5, mc5⟩ := int_ok X G (c.fact 65 (f := .int "MOST_ENTRIES" 400) rfl)
  have a : ∀ (i : Nat) {b : Bool}, (exL K)[i]? = some b → b = true := fun i _ z => all_at e i z
  have b0 : Binds K fd0 ["self", "key"] [] := D0.bindsN fun _ _ _ _ _ _ us hl => match us, hl with | [_, _], _ => rfl
  have b1 : Binds K fd1 ["self", "given"] [] := D1.bindsN fun _ _ _ _ _ _ us hl => match us, hl with | [_, _], _ => rfl
  have b2 : Binds K fd2 ["lineages"] [] := D2.bindsN fun _ _ _ _ _ _ us hl => match us, hl with | [_], _ => rfl
  have b3 : Binds K fd3 ["columns"] [] := D3.bindsN fun _ _ _ _ _ _ us hl => match us, hl with | [_], _ => rfl
  have b4 : Binds K fd4 ["self", "columns", "rows"] [] := D4.bindsN fun _ _ _ _ _ _ us hl => match us, hl with | [_, _, _], _ => rfl
  have b5 : Binds K fd5 ["self"] [] := D5.bindsN fun _ _ _ _ _ _ us hl => match us, hl with | [_], _ => rfl
  have b6 : Binds K fd6 ["self"] [] := D6.bindsN fun _ _ _ _ _ _ us hl => match us, hl with | [_], _ => rfl
  have b7 : Binds K fd7 ["self", "name"] [] := D7.bindsN fun _ _ _ _ _ _ us hl => match us, hl with | [_, _], _ => rfl
  have b8 : Binds K fd8 ["self"] [] := D8.bindsN fun _ _ _ _ _ _ us hl => match us, hl with | [_], _ => rfl
  have b9 : Binds K fd9 ["self", "other"] [] := D9.bindsN fun _ _ _ _ _ _ us hl => match us, hl with | [_, _], _ => rfl
  have b10 : Binds K fd10 ["self"] [] := D10.bindsN fun _ _ _ _ _ _ us hl => match us, hl with | [_], _ => rfl
  have b11 : Binds K fd11 ["self"] [] := D11.bindsN fun _ _ _ _ _ _ us hl => match us, hl with | [_], _ => rfl
  obtain ⟨da12, va12, b12⟩ := FunD.binds1 (ps := ["origin", "version"]) D12 2 1 (List.cons_ne_nil _ _) rfl (fun T kV doc pm an cdv ct us its hu hi => match us, its, hu, hi with | [_, _], [_], _, _ => ⟨_, rfl, rfl⟩)
  obtain rfl : da12 = [] := by cases va12; rfl
  obtain ⟨ds12, v12, bd12⟩ := FunD.binds1 (ps := ["origin", "version"]) D12 1 0 (List.cons_ne_nil _ _) rfl (fun T kV doc pm an cdv ct us its hu hi => match us, its, hu, hi with | [_], [_], _, _ => ⟨_, rfl, rfl⟩)
  have b13 : Binds K fd13 ["value"] [] := D13.bindsN fun _ _ _ _ _ _ us hl => match us, hl with | [_], _ => rfl
  have b14 : Binds K fd14 ["a", "b"] [] := D14.bindsN fun _ _ _ _ _ _ us hl => match us, hl with | [_, _], _ => rfl
  have b15 : Binds K fd15 ["value"] [] := D15.bindsN fun _ _ _ _ _ _ us hl => match us, hl with | [_], _ => rfl
  have b16 : Binds K fd16 ["value"] [] := D16.bindsN fun _ _ _ _ _ _ us hl => match us, hl with | [_], _ => rfl
  have b17 : Binds K fd17 ["number"] [] := D17.bindsN fun _ _ _ _ _ _ us hl => match us, hl with | [_], _ => rfl
  have b18 : Binds K fd18 ["value", "kind"] [] := D18.bindsN fun _ _ _ _ _ _ us hl => match us, hl with | [_, _], _ => rfl
  have b19 : Binds K fd19 ["value"] [] := D19.bindsN fun _ _ _ _ _ _ us hl => match us, hl with | [_], _ => rfl
  have b20 : Binds K fd20 ["columns"] [] := D20.bindsN fun _ _ _ _ _ _ us hl => match us, hl with | [_], _ => rfl
  have b21 : Binds K fd21 ["value"] [] := D21.bindsN fun _ _ _ _ _ _ us hl => match us, hl with | [_], _ => rfl
  have b22 : Binds K fd22 ["columns", "values"] [] := D22.bindsN fun _ _ _ _ _ _ us hl => match us, hl with | [_, _], _ => rfl
  have b23 : Binds K fd23 ["entries"] [] := D23.bindsN fun _ _ _ _ _ _ us hl => match us, hl with | [_], _ => rfl
  have b24 : Binds K fd24 ["entries"] [] := D24.bindsN fun _ _ _ _ _ _ us hl => match us, hl with | [_], _ => rfl
  have b25 : Binds K fd25 ["self", "name", "columns"] [] := D25.bindsN fun _ _ _ _ _ _ us hl => match us, hl with | [_, _, _], _ => rfl
  have b26 : Binds K fd26 ["self", "number"] [] := D26.bindsN fun _ _ _ _ _ _ us hl => match us, hl with | [_, _], _ => rfl
  have b27 : Binds K fd27 ["self", "author"] [] := D27.bindsN fun _ _ _ _ _ _ us hl => match us, hl with | [_, _], _ => rfl
  have kb28 : KBn K fd28 ["self", "values", "author"] 2 ["author"] (fun us ws => us ++ ws) (fun vs zs => vs ++ zs) := kbN D28 (fun _ _ _ _ _ _ us ws h1 h2 => match us, ws, h1, h2 with | [_, _], [_], _, _ => rfl)
  have kb29 : KBn K fd29 ["self", "number", "values", "author"] 3 ["author"] (fun us ws => us ++ ws) (fun vs zs => vs ++ zs) := kbN D29 (fun _ _ _ _ _ _ us ws h1 h2 => match us, ws, h1, h2 with | [_, _, _], [_], _, _ => rfl)
  have kb30 : KBn K fd30 ["self", "number", "author"] 2 ["author"] (fun us ws => us ++ ws) (fun vs zs => vs ++ zs) := kbN D30 (fun _ _ _ _ _ _ us ws h1 h2 => match us, ws, h1, h2 with | [_, _], [_], _, _ => rfl)
  have b31 : Binds K fd31 ["self"] [] := D31.bindsN fun _ _ _ _ _ _ us hl => match us, hl with | [_], _ => rfl
  have b32 : Binds K fd32 ["self"] [] := D32.bindsN fun _ _ _ _ _ _ us hl => match us, hl with | [_], _ => rfl
  obtain ⟨da33, va33, b33⟩ := FunD.binds1 (ps := ["self", "version"]) D33 2 1 (List.cons_ne_nil _ _) rfl (fun T kV doc pm an cdv ct us its hu hi => match us, its, hu, hi with | [_, _], [_], _, _ => ⟨_, rfl, rfl⟩)
  obtain rfl : da33 = [] := by cases va33; rfl
  obtain ⟨ds33, v33, bd33⟩ := FunD.binds1 (ps := ["self", "version"]) D33 1 0 (List.cons_ne_nil _ _) rfl (fun T kV doc pm an cdv ct us its hu hi => match us, its, hu, hi with | [_], [_], _, _ => ⟨_, rfl, rfl⟩)
  have b34 : Binds K fd34 ["_law_script"] [] := D34.bindsN fun _ _ _ _ _ _ us hl => match us, hl with | [_], _ => rfl
  have b35 : Binds K fd35 ["_law_tape_here", "_law_many"] [] := D35.bindsN fun _ _ _ _ _ _ us hl => match us, hl with | [_, _], _ => rfl
  have b36 : Binds K fd36 ["_law_n", "_law_d"] [] := D36.bindsN fun _ _ _ _ _ _ us hl => match us, hl with | [_, _], _ => rfl
  have b37 : Binds K fd37 ["_law_tape_here", "_law_wide"] [] := D37.bindsN fun _ _ _ _ _ _ us hl => match us, hl with | [_, _], _ => rfl
  have b38 : Binds K fd38 ["_law_tape_here"] [] := D38.bindsN fun _ _ _ _ _ _ us hl => match us, hl with | [_], _ => rfl
  have b39 : Binds K fd39 ["_law_tape_here", "_law_taken"] [] := D39.bindsN fun _ _ _ _ _ _ us hl => match us, hl with | [_, _], _ => rfl
  have b40 : Binds K fd40 ["_law_tape_here", "_law_lead", "_law_many", "_law_taken"] [] := D40.bindsN fun _ _ _ _ _ _ us hl => match us, hl with | [_, _, _, _], _ => rfl
  have b41 : Binds K fd41 ["_law_tape_here", "_law_kind", "_law_wide"] [] := D41.bindsN fun _ _ _ _ _ _ us hl => match us, hl with | [_, _, _], _ => rfl
  have b42 : Binds K fd42 ["_law_tape_here", "_law_columns_here", "_law_wide"] [] := D42.bindsN fun _ _ _ _ _ _ us hl => match us, hl with | [_, _, _], _ => rfl
  have b43 : Binds K fd43 ["_law_tape_here", "_law_columns_here", "_law_many", "_law_wide"] [] := D43.bindsN fun _ _ _ _ _ _ us hl => match us, hl with | [_, _, _, _], _ => rfl
  have b44 : Binds K fd44 ["_law_log", "_law_deeds_here"] [] := D44.bindsN fun _ _ _ _ _ _ us hl => match us, hl with | [_, _], _ => rfl
  have b45 : Binds K fd45 ["_law_deeds_here"] [] := D45.bindsN fun _ _ _ _ _ _ us hl => match us, hl with | [_], _ => rfl
  have b46 : Binds K fd46 ["_law_tape_here"] [] := D46.bindsN fun _ _ _ _ _ _ us hl => match us, hl with | [_], _ => rfl
  have b47 : Binds K fd47 ["_law_lineages"] [] := D47.bindsN fun _ _ _ _ _ _ us hl => match us, hl with | [_], _ => rfl
  have b48 : Binds K fd48 ["_law_table", "_law_name_here"] [] := D48.bindsN fun _ _ _ _ _ _ us hl => match us, hl with | [_, _], _ => rfl
  have b49 : Binds K fd49 ["_law_table", "_law_columns_here", "_law_rows"] [] := D49.bindsN fun _ _ _ _ _ _ us hl => match us, hl with | [_, _, _], _ => rfl
  have b50 : Binds K fd50 ["_law_one", "_law_other", "_law_due"] [] := D50.bindsN fun _ _ _ _ _ _ us hl => match us, hl with | [_, _, _], _ => rfl
  have b51 : Binds K fd51 ["_law_log", "_law_at"] [] := D51.bindsN fun _ _ _ _ _ _ us hl => match us, hl with | [_, _], _ => rfl
  have b52 : Binds K fd52 ["_law_table", "_law_columns_here", "_law_rows", "_law_name_here"] [] := D52.bindsN fun _ _ _ _ _ _ us hl => match us, hl with | [_, _, _, _], _ => rfl
  have bl := FunD.bindsA (ps := ["_law_script"]) D53 fun _ _ _ _ _ _ us hl => match us, hl with | [_], _ => rfl
  refine ⟨fd53, fun s v => bl s [v] rfl, fun base _ _ => ?_⟩
  have m_UnknownName : mg "UnknownName" = some (.ref (ga K "UnknownName")) := g 1 _ rfl
  have m_NoVersion : mg "NoVersion" = some (.ref (ga K "NoVersion")) := g 2 _ rfl
  have m_Table : mg "Table" = some (.ref (ga K "Table")) := g 3 _ rfl
  have m_Register : mg "Register" = some (.ref (ga K "Register")) := g 4 _ rfl
  have m_KINDS : mg "KINDS" = some (.ref (ga K "KINDS")) := g 5 _ rfl
  have m_union_of : mg "union_of" = some (.ref (ga K "union_of")) := g 6 _ rfl
  have m_names_of : mg "names_of" = some (.ref (ga K "names_of")) := g 7 _ rfl
  have m_register_table : mg "register_table" = some (.ref (ga K "register_table")) := g 8 _ rfl
  have m_is_whole : mg "is_whole" = some (.ref (ga K "is_whole")) := g 9 _ rfl
  have m_common_divisor : mg "common_divisor" = some (.ref (ga K "common_divisor")) := g 10 _ rfl
  have m_is_rational : mg "is_rational" = some (.ref (ga K "is_rational")) := g 11 _ rfl
  have m_is_name : mg "is_name" = some (.ref (ga K "is_name")) := g 12 _ rfl
  have m_within_limit : mg "within_limit" = some (.ref (ga K "within_limit")) := g 13 _ rfl
  have m_is_value : mg "is_value" = some (.ref (ga K "is_value")) := g 14 _ rfl
  have m_is_column : mg "is_column" = some (.ref (ga K "is_column")) := g 15 _ rfl
  have m_check_columns : mg "check_columns" = some (.ref (ga K "check_columns")) := g 16 _ rfl
  have m_check_name : mg "check_name" = some (.ref (ga K "check_name")) := g 17 _ rfl
  have m_check_row : mg "check_row" = some (.ref (ga K "check_row")) := g 18 _ rfl
  have m_rows_after : mg "rows_after" = some (.ref (ga K "rows_after")) := g 19 _ rfl
  have m_numbers_used : mg "numbers_used" = some (.ref (ga K "numbers_used")) := g 20 _ rfl
  have m__law_tape : mg "_law_tape" = some (.ref (ga K "_law_tape")) := g 21 _ rfl
  have m__law_draw : mg "_law_draw" = some (.ref (ga K "_law_draw")) := g 22 _ rfl
  have m__law_lowest : mg "_law_lowest" = some (.ref (ga K "_law_lowest")) := g 23 _ rfl
  have m__law_rational : mg "_law_rational" = some (.ref (ga K "_law_rational")) := g 24 _ rfl
  have m__law_name : mg "_law_name" = some (.ref (ga K "_law_name")) := g 25 _ rfl
  have m__law_fresh : mg "_law_fresh" = some (.ref (ga K "_law_fresh")) := g 26 _ rfl
  have m__law_columns : mg "_law_columns" = some (.ref (ga K "_law_columns")) := g 27 _ rfl
  have m__law_value : mg "_law_value" = some (.ref (ga K "_law_value")) := g 28 _ rfl
  have m__law_values : mg "_law_values" = some (.ref (ga K "_law_values")) := g 29 _ rfl
  have m__law_deeds : mg "_law_deeds" = some (.ref (ga K "_law_deeds")) := g 30 _ rfl
  have m__law_do : mg "_law_do" = some (.ref (ga K "_law_do")) := g 31 _ rfl
  have m__law_states : mg "_law_states" = some (.ref (ga K "_law_states")) := g 32 _ rfl
  have m__law_lineage : mg "_law_lineage" = some (.ref (ga K "_law_lineage")) := g 33 _ rfl
  have m__law_union : mg "_law_union" = some (.ref (ga K "_law_union")) := g 34 _ rfl
  have m__law_column : mg "_law_column" = some (.ref (ga K "_law_column")) := g 35 _ rfl
  have m__law_is : mg "_law_is" = some (.ref (ga K "_law_is")) := g 36 _ rfl
  have m__law_equals : mg "_law_equals" = some (.ref (ga K "_law_equals")) := g 37 _ rfl
  have m__law_at_version : mg "_law_at_version" = some (.ref (ga K "_law_at_version")) := g 38 _ rfl
  have m__law_others : mg "_law_others" = some (.ref (ga K "_law_others")) := g 39 _ rfl
  have mf_sorted : mg "sorted" = none := z 58 _ rfl
  have mf_KeyError : mg "KeyError" = none := z 59 _ rfl
  have ZU : ErK K mg "UnknownName" "key" (ga K "UnknownName") _ := ⟨oexGB_ok (a 1 rfl), eqO_ok (a 2 rfl), of_decide_eq_true (a 3 rfl), eqO_ok (a 4 rfl), m_UnknownName⟩
  have XZU : ExN K (ga K "UnknownName") "KeyError" := ⟨xfB_ok (a 5 rfl), xisB_ok (a 6 rfl), of_decide_eq_true (a 7 rfl), of_decide_eq_true (a 8 rfl)⟩
  have ZV : ErI K mg "NoVersion" "given" (ga K "NoVersion") _ := ⟨oexGB_ok (a 9 rfl), eqO_ok (a 10 rfl), of_decide_eq_true (a 11 rfl), eqO_ok (a 12 rfl), m_NoVersion⟩
  have XZV : ExN K (ga K "NoVersion") "IndexError" := ⟨xfB_ok (a 13 rfl), xisB_ok (a 14 rfl), of_decide_eq_true (a 15 rfl), of_decide_eq_true (a 16 rfl)⟩
  let A : EA := ⟨(ga K "NoVersion")⟩
  have G0 : FnOk P w K mg base CX0 (1) _ fd0 ["self", "key"] (spIni (ga K "UnknownName") "key") := ok_iniU (fun_of D0) ZU
  have G1 : FnOk P w K mg base CX0 (1) _ fd1 ["self", "given"] (spIni (ga K "NoVersion") "given") := ok_iniV (fun_of D1) ZV
  have Tb : TbF K mg (ga K "Table") _ := ⟨mkr_ok (a 17 rfl), cls_ok (a 18 rfl), noat_ok (a 19 rfl), noat_ok (a 20 rfl), m_Table⟩
  have Le : LenC K (ga K "Table") _ := ⟨eqO_ok (a 25 rfl), (a 26 rfl)⟩
  have Rp : ReprC K (ga K "Table") _ := ⟨eqO_ok (a 27 rfl), (a 28 rfl)⟩
  have Ec : EqC K (ga K "Table") _ := ⟨eqO_ok (a 31 rfl), (a 32 rfl), eqO_ok (a 29 rfl), of_decide_eq_true (a 30 rfl)⟩
  have Ic : IsiT K (ga K "Table") := ⟨eqO_ok (a 33 rfl), eqO_ok (a 34 rfl), of_decide_eq_true (a 35 rfl), of_decide_eq_true (a 36 rfl), of_decide_eq_true (a 37 rfl), of_decide_eq_true (a 38 rfl), of_decide_eq_true (a 39 rfl)⟩
  have Nt : NfT K (ga K "Table") := ⟨(a 40 rfl), (a 41 rfl), (a 42 rfl)⟩
  have Rf : RfC K (ga K "Table") := ⟨of_decide_eq_true (a 43 rfl), of_decide_eq_true (a 44 rfl)⟩
  have Rg : RgF K mg (ga K "Register") _ := ⟨mkr_ok (a 45 rfl), cls_ok (a 46 rfl), noat_ok (a 47 rfl), noat_ok (a 48 rfl), noat_ok (a 49 rfl), m_Register⟩
  have G13 : FnOk P w K mg base CX0 (1) _ fd13 ["value"] (spWhole) := ok_whole (fun_of D13) T
  have G14 : FnOk P w K mg base CX0 (1) _ fd14 ["a", "b"] (spCd) := ok_cd (fun_of D14)
  have G15 : FnOk P w K mg base CX0 (2) _ fd15 ["value"] (spIsR) := ok_isr (fun_of D15) T G13 m_is_whole D13.kp b13 G14 m_common_divisor D14.kp b14
  have G16 : FnOk P w K mg base CX0 (1) _ fd16 ["value"] (spName) := ok_name (fun_of D16) T mc0 mc1 mc2
  have G17 : FnOk P w K mg base CX0 (1) _ fd17 ["number"] (spWithin) := ok_within (fun_of D17) T mc3
  have G18 : FnOk P w K mg base CX0 (3) _ fd18 ["value", "kind"] (spValue) := ok_value (fun_of D18) G15 m_is_rational D15.kp b15 G17 m_within_limit D17.kp b17 G16 m_is_name D16.kp b16
  have G19 : FnOk P w K mg base CX0 (2) _ fd19 ["value"] (spCol) := ok_col (fun_of D19) T G16 m_is_name D16.kp b16 m_KINDS (fun H => tupB_ok (a 0 rfl) H)
  have G20 : FnOk P w K mg base CX0 (3) _ fd20 ["columns"] (spCcV) := ok_ccV (fun_of D20) T mc4 G19 m_is_column D19.kp b19
  have G21 : FnOk P w K mg base CX0 (2) _ fd21 ["value"] (spCnV) := ok_cnV (fun_of D21) G16 m_is_name D16.kp b16
  have G22 : FnOk P w K mg base CX0 (4) _ fd22 ["columns", "values"] (spCrV) := ok_crV (fun_of D22) T G18 m_is_value D18.kp b18
  have G23 : FnOk P w K mg base CX0 (1) _ fd23 ["entries"] (spRa) := ok_ra (fun_of D23)
  have G24 : FnOk P w K mg base CX0 (1) _ fd24 ["entries"] (spNu) := ok_nu (fun_of D24) T
  have G2 : FnOk P w K mg base CX0 (1) _ fd2 ["lineages"] (spUn) := ok_Un (fun_of D2) T mf_sorted
  have G3 : FnOk P w K mg base CX0 (1) _ fd3 ["columns"] (spNo) := ok_No (fun_of D3) T
  have G4 : FnOk P w K mg base CX0 (1) _ fd4 ["self", "columns", "rows"] (spTI (ga K "Table")) := ok_ti (fun_of D4) T Tb
  have G5 : FnOk P w K mg base CX0 (1) _ fd5 ["self"] (spTC (ga K "Table")) := ok_tc (fun_of D5) Tb
  have G6 : FnOk P w K mg base CX0 (1) _ fd6 ["self"] (spTR (ga K "Table")) := ok_tr (fun_of D6) T Tb
  have M : TbM P w K mg base (ga K "Table") := ⟨⟨_, _, Tb, G4, b4⟩, ⟨_, _, (meth_ok (a 21 rfl)), G5, b5⟩, ⟨_, _, (meth_ok (a 22 rfl)), G6, b6⟩⟩
  have G7 : FnOk P w K mg base (L2.CX P w) (3) _ fd7 ["self", "name"] (spTk (ga K "Table") (ga K "UnknownName")) := ok_Tk (fun_of D7) T Tb ZU G0 b0 G3 m_names_of D3.kp b3
  have G8 : FnOk P w K mg base CX0 (2) _ fd8 ["self"] (spTg (ga K "Table")) := ok_Tg (fun_of D8) T Tb G2 m_union_of D2.kp b2
  have G9 : FnOk P w K mg base CX0 (1) _ fd9 ["self", "other"] (spTe (ga K "Table")) := ok_Te (fun_of D9) T Tb Ic
  have G10 : FnOk P w K mg base CX0 (1) _ fd10 ["self"] (spTl (ga K "Table")) := ok_Tl (fun_of D10) T Tb
  have G11 : FnOk P w K mg base CX0 (1) _ fd11 ["self"] (spTp (ga K "Table")) := ok_Tp (fun_of D11) T Tb
  have Y : TbQ P w K mg base (ga K "Table") (ga K "UnknownName") := ⟨⟨_, _, (meth_ok (a 23 rfl)), G7, b7⟩, ⟨_, _, (meth_ok (a 24 rfl)), G8, b8⟩, ⟨_, _, Rp, G11, b11⟩, ⟨_, _, Le, G10, b10⟩, ⟨_, _, Ec, G9, b9⟩⟩
  have G25 : FnOk P w K mg base CX0 (4) _ fd25 ["self", "name", "columns"] (spRI (ga K "Register")) := ok_ri (fun_of D25) Rg G21 m_check_name D21.kp b21 G20 m_check_columns D20.kp b20
  have G26 : FnOk P w K mg base CX0 (2) _ fd26 ["self", "number"] (spCs (ga K "Register")) := ok_cs (fun_of D26) Rg G13 m_is_whole D13.kp b13 G23 m_rows_after D23.kp b23
  have G27 : FnOk P w K mg base CX0 (3) _ fd27 ["self", "author"] (spCe (ga K "Register")) := ok_ce (fun_of D27) T Rg mc5 G21 m_check_name D21.kp b21
  have G28 : FnOk P w K mg base CX0 (5) _ fd28 ["self", "values", "author"] (spAdd (ga K "Register")) := ok_add (fun_of D28) Rg G22 m_check_row D22.kp b22 (meth_ok (a 51 rfl)) G27 b27 G24 m_numbers_used D24.kp b24
  have G29 : FnOk P w K mg base CX0 (5) _ fd29 ["self", "number", "values", "author"] (spCor (ga K "Register")) := ok_cor (fun_of D29) Rg (meth_ok (a 50 rfl)) G26 b26 G22 m_check_row D22.kp b22 (meth_ok (a 51 rfl)) G27 b27
  have G30 : FnOk P w K mg base CX0 (5) _ fd30 ["self", "number", "author"] (spStr (ga K "Register")) := ok_str (fun_of D30) Rg (meth_ok (a 50 rfl)) G26 b26 (meth_ok (a 51 rfl)) G27 b27
  have G31 : FnOk P w K mg base CX0 (1) _ fd31 ["self"] (spNm (ga K "Register")) := ok_rn (fun_of D31) Rg
  have G32 : FnOk P w K mg base CX0 (1) _ fd32 ["self"] (spCo (ga K "Register")) := ok_rc (fun_of D32) Rg
  have G33 : FnOk P w K mg base CX0 (2) _ fd33 ["self", "version"] (spRows (ga K "Register")) := ok_rr D33 T Rg G13 m_is_whole D13.kp b13 G23 m_rows_after D23.kp b23
  have G33x : FnOk P w K mg base (L2.CX P w) (3) _ fd33 ["self", "version"] (spRowsX (ga K "Register") A) := ok_rrX D33 T Rg ZV G1 b1 G13 m_is_whole D13.kp b13 G23 m_rows_after D23.kp b23
  have G12 : FnOk P w K mg base CX0 (3) _ fd12 ["origin", "version"] (spRt (ga K "Register") (ga K "Table")) := ok_Rt D12 T Rg M (meth_ok (a 55 rfl)) G31 b31 (meth_ok (a 56 rfl)) G32 b32 (meth_ok (a 57 rfl)) b33 G33
  have G12x : FnOk P w K mg base (L2.CX P w) (4) _ fd12 ["origin", "version"] (spRtX (ga K "Register") A) := ok_Rx D12 T Rg M (meth_ok (a 55 rfl)) G31 b31 (meth_ok (a 56 rfl)) G32 b32 (meth_ok (a 57 rfl)) b33 G33x
  obtain ⟨_, kn⟩ := FunD.kbindsD (ps := ["origin", "version"]) D12 1 ["version"] (fun us _ ws => us ++ ws) (List.cons_ne_nil _ _) (fun r1 _ r3 => Vals.append r1 r3) (fun T kV doc pm an cdv ct us its ws h1 h2 h3 => match us, its, ws, h1, h2, h3 with | [_], [_], [_], _, _, _ => ⟨_, rfl, rfl⟩)
  have kbV : KBinds K fd12 ["origin", "version"] ["version"] (gAt 1 1) (gAt 1 1) := kb_at kn (by decide)
  have G28v : FnOk P w K mg base CX0 5 _ fd28 ["self", "values", "author"] (spAddV (ga K "Register")) := G28.imp fun vs H Q E h => by
    obtain ⟨a, lg, b, R, au, ds, e, hI, o, _, r⟩ := h
    exact ⟨a, lg, b, R, au, ds, e, hI, o, r⟩
  have G29v : FnOk P w K mg base CX0 5 _ fd29 ["self", "number", "values", "author"] (spCorV (ga K "Register")) := G29.imp fun vs H Q E h => by
    obtain ⟨a, lg, b, R, n, au, ds, e, hI, o, _, r⟩ := h
    exact ⟨a, lg, b, R, n, au, ds, e, hI, o, r⟩
  have G30v : FnOk P w K mg base CX0 5 _ fd30 ["self", "number", "author"] (spStrV (ga K "Register")) := G30.imp fun vs H Q E h => by
    obtain ⟨a, lg, R, n, au, e, hI, o, _, r⟩ := h
    exact ⟨a, lg, R, n, au, e, hI, o, r⟩
  have G34 : FnOk P w K mg base CX0 (1) _ fd34 ["_law_script"] (spTape K) := ok_tape (fun_of D34) T
  have G35 : FnOk P w K mg base CX0 (1) _ fd35 ["_law_tape_here", "_law_many"] (spDrawL) := ok_draw (fun_of D35) T
  have G36 : FnOk P w K mg base CX0 (1) _ fd36 ["_law_n", "_law_d"] (spLowest) := ok_lst (fun_of D36) T
  have G37 : FnOk P w K mg base CX0 (2) _ fd37 ["_law_tape_here", "_law_wide"] (spRatL) := ok_rat (fun_of D37) T G35 m__law_draw D35.kp b35 G36 m__law_lowest D36.kp b36
  have G38 : FnOk P w K mg base CX0 (2) _ fd38 ["_law_tape_here"] (spLNm) := ok_lnm (fun_of D38) T G35 m__law_draw D35.kp b35
  have G39 : FnOk P w K mg base CX0 (3) _ fd39 ["_law_tape_here", "_law_taken"] (spFr) := ok_fr (fun_of D39) G38 m__law_name D38.kp b38
  have G40 : FnOk P w K mg base CX0 (4) _ fd40 ["_law_tape_here", "_law_lead", "_law_many", "_law_taken"] (spCls) := ok_cls (fun_of D40) T G35 m__law_draw D35.kp b35 G39 m__law_fresh D39.kp b39
  have G41 : FnOk P w K mg base CX0 (3) _ fd41 ["_law_tape_here", "_law_kind", "_law_wide"] (spVal) := ok_lv (fun_of D41) G35 m__law_draw D35.kp b35 G37 m__law_rational D37.kp b37 G38 m__law_name D38.kp b38
  have G42 : FnOk P w K mg base CX0 (4) _ fd42 ["_law_tape_here", "_law_columns_here", "_law_wide"] (spVals) := ok_lvs (fun_of D42) T G41 m__law_value D41.kp b41
  have G43 : FnOk P w K mg base CX0 (5) _ fd43 ["_law_tape_here", "_law_columns_here", "_law_many", "_law_wide"] (spDe) := ok_de (fun_of D43) T G35 m__law_draw D35.kp b35 G42 m__law_values D42.kp b42
  have G44 : FnOk P w K mg base CX0 (6) _ fd44 ["_law_log", "_law_deeds_here"] (spDo (ga K "Register")) := ok_do (fun_of D44) Rg (meth_ok (a 52 rfl)) G28v kb28 (meth_ok (a 53 rfl)) G29v kb29 (meth_ok (a 54 rfl)) G30v kb30
  have G45 : FnOk P w K mg base CX0 (1) _ fd45 ["_law_deeds_here"] (spSt) := ok_st (fun_of D45) T
  have G46 : FnOk P w K mg base CX0 (2) _ fd46 ["_law_tape_here"] (spFar) := ok_Far (fun_of D46) T mf_sorted G35 m__law_draw D35.kp b35
  have G47 : FnOk P w K mg base CX0 (1) _ fd47 ["_law_lineages"] (spUn) := ok_Lu (fun_of D47) T mf_sorted
  have G48 : FnOk P w K mg base CX0 (4) _ fd48 ["_law_table", "_law_name_here"] (spLc (ga K "Table")) := ok_Lc (fun_of D48) T mf_KeyError Tb Y ZU XZU
  have G49 : FnG P w K mg base (5) _ fd49 ["_law_table", "_law_columns_here", "_law_rows"] (spLi (ga K "Table")) := ok_Li (fun_of D49) T M Y G48 m__law_column D48.kp b48 G47 m__law_union D47.kp b47
  have G50 : FnG P w K mg base (3) _ fd50 ["_law_one", "_law_other", "_law_due"] (spLe (ga K "Table")) := ok_Le (fun_of D50) T Nt Rf Ec G9 b9
  have G51 : FnOk P w K mg base CX0 (5) _ fd51 ["_law_log", "_law_at"] (spAv (ga K "Register") A) := ok_Av (fI0 := (0 : Nat)) (fun_of D51) T Rg M ZV XZV G12x m_register_table D12.kp b12
  have G52 : FnG P w K mg base (4) _ fd52 ["_law_table", "_law_columns_here", "_law_rows", "_law_name_here"] (spLo (ga K "Table")) := ok_Lo (fun_of D52) T M G50 m__law_equals D50.kp b50
  exact ok_Law (fR0 := (0 : Nat)) (fun_of D53) T M Y Rg G25 b25 G34 m__law_tape D34.kp b34 G40 m__law_columns D40.kp b40 G35 m__law_draw D35.kp b35 G42 m__law_values D42.kp b42 G46 m__law_lineage D46.kp b46 G49 m__law_is D49.kp b49 G52 m__law_others D52.kp b52 G39 m__law_fresh D39.kp b39 G48 m__law_column D48.kp b48 G38 m__law_name D38.kp b38 G43 m__law_deeds D43.kp b43 G44 m__law_do D44.kp b44 G45 m__law_states D45.kp b45 G12 m_register_table D12.kp b12 G51 m__law_at_version D51.kp b51 G50 m__law_equals D50.kp b50 kbV bd12 v12
end K12
open PySem PySem.W PySem.Calls PyProof.Rows
theorem PySem.Challenge.cw_liveclaims_k12_tables_and_their_lineage_holds : PySem.Challenge.rw_liveclaims_k12_tables_and_their_lineage.Holds := by
  w_on; o_law
  refine HandSHeadRun.head_any (r := OpenLaw.row PySem.Challenge.rw_liveclaims_k12_tables_and_their_lineage) (q := view (OpenLaw.row PySem.Challenge.rw_liveclaims_k12_tables_and_their_lineage).prog [56]) (H := K12.hk) (ob := K12.ob) (M := 20000) (loose := K12.loose) (d := HandSHeadRun.topDef (OpenLaw.row PySem.Challenge.rw_liveclaims_k12_tables_and_their_lineage).prog 56) (kwd := []) K12.ob_eq
    (by kernel_rfl) (fun s => by kernel_rfl) K12.run (by kernel_rfl) (by kernel_rfl) (by kernel_rfl) (by rfl) (by first | assumption | decide +kernel) (by decide +kernel) ⟨rfl, rfl, rfl, rfl, rfl, by decide +kernel⟩ ?hw ?hc
  case hw => w_witness2
  case hc =>
    refine Lc.walk_GE (l := PySem.Challenge.rw_liveclaims_k12_tables_and_their_lineage) (n := 63) (k := 7) (x := "_law_script") rfl (by decide) (by kernel_rfl) ⟨rfl, by decide, by decide⟩ ?F
    intro w mg fa h Y G hmg0
    obtain ⟨K, KX, c, e, tb⟩ := Y
    have hmg : mg ("law" : PySem.Str) = some (.ref fa) := by
      have e : (HandSHeadRun.topDef (OpenLaw.row PySem.Challenge.rw_liveclaims_k12_tables_and_their_lineage).prog 56).name = ("law" : PySem.Str) := by kernel_rfl
      rw [← e]
      exact hmg0
    obtain ⟨fd, hb, hF⟩ := K12.facts (P := (PySem.Challenge.rw_liveclaims_k12_tables_and_their_lineage).prog) (w := w) KX G hmg c e tb
    exact ⟨K, fd, K12.spLaw K, KX, hb, fun H a ns hl hS => ⟨a, ns, rfl, hS, fun _ => rfl⟩, hF⟩
